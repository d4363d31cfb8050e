/-
  Cubes sorted: slices.SortFunc by compare.
-/
import Derived.Test.YthamjboppnlpdaaDm
import Derived.Test.YthamjboppnlpdaaSortC
import Derived.Lib.RowBridge
namespace Go.Proofs.Ythamjboppnlpdaa.Cu
open Go.RowKit Go.Shelf Go.Lib Go.Sort Go.Proofs.Ythamjboppnlpdaa.Sb
set_option linter.unusedVariables false
set_option maxRecDepth 100000
theorem cmpI_cases (m n : Int) : (m < n ∧ cmpI m n = -1) ∨ (m = n ∧ cmpI m n = 0) ∨ (n < m ∧ cmpI m n = 1) := by
  unfold cmpI
  by_cases h1 : m < n
  · rw [if_pos h1]; exact .inl ⟨h1, rfl⟩
  · rw [if_neg h1]
    by_cases h2 : n < m
    · rw [if_pos h2]; exact .inr (.inr ⟨h2, rfl⟩)
    · rw [if_neg h2]; exact .inr (.inl ⟨by omega, rfl⟩)
theorem or3_lt (p1 p2 a1 a2 b1 b2 : Nat) : or3 (cmpI p1 p2) (cmpI a1 a2) (cmpI b1 b2) < 0 ↔ p1 < p2 ∨ (p1 = p2 ∧ (a1 < a2 ∨ (a1 = a2 ∧ b1 < b2))) := by
  unfold or3
  rcases cmpI_cases p1 p2 with ⟨h1, e1⟩ | ⟨h1, e1⟩ | ⟨h1, e1⟩ <;> rcases cmpI_cases a1 a2 with ⟨h2, e2⟩ | ⟨h2, e2⟩ | ⟨h2, e2⟩ <;> rcases cmpI_cases b1 b2 with ⟨h3, e3⟩ | ⟨h3, e3⟩ | ⟨h3, e3⟩ <;>
    rw [e1, e2, e3] <;> simp <;> omega
theorem cmpC_lt (a b : Cb) : cmpC a b < 0 ↔ pc (evs a) < pc (evs b) ∨ (pc (evs a) = pc (evs b) ∧ (a.1 < b.1 ∨ (a.1 = b.1 ∧ a.2 < b.2))) := by
  unfold cmpC
  exact or3_lt _ _ _ _ _ _
abbrev SC := { c : Cb // OkC c }
instance : Inhabited SC := ⟨⟨(0, 0), okC_00⟩⟩
def encC (x : SC) : List Value := [.int .i64 (x.1.1 : Int), .int .i64 (x.1.2 : Int)]
def cfC (x y : SC) : Int := cmpC x.1 y.1
theorem swoC : SWO (ltOf cfC) where
  irrefl x := by
    unfold ltOf cfC
    rw [decide_eq_false_iff_not, cmpC_lt]
    omega
  trans x y z h1 h2 := by
    unfold ltOf cfC at *
    rw [decide_eq_true_iff, cmpC_lt] at *
    omega
  ntrans x y z h1 h2 := by
    unfold ltOf cfC at *
    rw [decide_eq_false_iff_not, cmpC_lt] at *
    omega
theorem totC : ∀ x y : SC, (ltOf cfC) x y = false → (ltOf cfC) y x = false → x = y := by
  rintro ⟨⟨x1, x2⟩, hx⟩ ⟨⟨y1, y2⟩, hy⟩ h1 h2
  unfold ltOf cfC at *
  rw [decide_eq_false_iff_not, cmpC_lt] at h1 h2
  simp only at h1 h2
  have e1 : x1 = y1 := by omega
  have e2 : x2 = y2 := by omega
  subst e1; subst e2
  rfl
theorem compare_enters : ∀ args w, (callFunc 56 args).run Try.prog w = .ok (.enter 56 args) w := enters_of Try.func56 (by kernel_rfl) rfl
theorem gw_grow {w w' : World} (h : Gw w w') : ∃ q os', w' = grow (w.drewN q) os' := by
  obtain ⟨⟨ho, ht, hu, hs, hb⟩, hd⟩ := h
  refine ⟨w'.drawn - w.drawn, w'.heap.extract w.heap.size w'.heap.size, ?_⟩
  obtain ⟨h', t', d', o', u'⟩ := w'
  obtain ⟨hh, t, d, o, u⟩ := w
  simp only at ho ht hu hs hb hd
  subst ho; subst ht; subst hu
  unfold grow World.drewN
  simp only [World.mk.injEq, true_and, and_true]
  refine ⟨?_, by omega⟩
  apply Array.ext
  · simp; omega
  · intro i h1 h2
    by_cases hlt : i < hh.size
    · have := hb i hlt
      rw [Array.getElem?_eq_getElem h1, Array.getElem?_eq_getElem hlt] at this
      rw [Array.getElem_append_left hlt]
      exact Option.some.inj this
    · rw [Array.getElem_append_right (by omega), Array.getElem_extract]
      congr 1
      omega
theorem cmpLaysC (blk off size : Nat) (w : World) : CmpLays Try.prog 56 #[] encC 2 cfC blk off size w := by
  intro m os dk _ x y
  refine Calls.mono (compare_g (sortWorldK encC 2 w blk off m dk os) x.1 y.1 x.2 y.2) ?_
  rintro e w' ⟨he, hw⟩
  exact ⟨he, gw_grow hw⟩
/-- the cubes of l, sorted -/
def sortL (l : List Cb) : List Cb := l.mergeSort fun x y => !decide (cmpC y x < 0)
def toC (l : List Cb) (h : ∀ x ∈ l, OkC x) : List SC := l.pmap Subtype.mk h
theorem toC_v (l : List Cb) (h : ∀ x ∈ l, OkC x) : (toC l h).map (·.1) = l := by unfold toC; rw [List.map_pmap]; simp
theorem toC_len (l : List Cb) (h : ∀ x ∈ l, OkC x) : (toC l h).length = l.length := by unfold toC; simp
def sortS (l : List Cb) (h : ∀ x ∈ l, OkC x) : List SC := (toC l h).mergeSort fun x y => !(ltOf cfC) y x
theorem sortS_v (l : List Cb) (h : ∀ x ∈ l, OkC x) : (sortS l h).map (·.1) = sortL l := by
  unfold sortS sortL
  have e := List.map_mergeSort (r := fun x y : SC => !(ltOf cfC) y x) (s := fun x y : Cb => !decide (cmpC y x < 0)) (f := fun x : SC => x.1) (l := toC l h) (fun a _ b _ => rfl)
  rw [e, toC_v]
theorem sortL_perm (l : List Cb) : (sortL l).Perm l := List.mergeSort_perm _ _
theorem sortL_len (l : List Cb) : (sortL l).length = l.length := (sortL_perm l).length_eq
theorem sortL_sorted (l : List Cb) : (sortL l).Pairwise fun x y => ¬ cmpC y x < 0 := by
  unfold sortL
  have := List.pairwise_mergeSort (le := fun x y : Cb => !decide (cmpC y x < 0)) ?_ ?_ l
  · exact this.imp fun h => by simpa using h
  · intro a b c h1 h2
    simp only [Bool.not_eq_true', decide_eq_false_iff_not] at *
    rw [cmpC_lt] at *
    omega
  · intro a b
    simp only [Bool.or_eq_true, Bool.not_eq_true', decide_eq_false_iff_not]
    rw [cmpC_lt, cmpC_lt]
    omega
theorem cv_enc (l : List SC) : CV (zl (l.map (·.1))) = l.flatMap encC := by
  unfold CV zl encC zc
  rw [List.map_map, List.flatMap_map]
  rfl
theorem cv_at (l : List SC) (j : Nat) (hj : j < l.length * 2) : (CV (zl (l.map (·.1))))[j]? = some ((encC l.toArray[j / 2]!)[j % 2]!) := by
  have hj2 : j / 2 < l.length := by omega
  have e : l.toArray[j / 2]! = l[j / 2] := by rw [getElem!_pos _ _ (by simpa using hj2)]; simp
  have hz : (zl (l.map (·.1))).getD (j / 2) (0, 0) = zc (l[j / 2]).1 := by
    unfold zl
    rw [List.getD_eq_getElem?_getD, List.getElem?_map, List.getElem?_map, List.getElem?_eq_getElem hj2]
    rfl
  obtain ⟨h1, h2⟩ := CV_get (zl (l.map (·.1))) (j / 2) (by unfold zl; simpa using hj2)
  rw [hz] at h1 h2
  rw [e]
  obtain ⟨x, hx⟩ : ∃ x, l[j / 2] = x := ⟨_, rfl⟩
  rw [hx] at h1 h2 ⊢
  rcases Nat.mod_two_eq_zero_or_one j with hm | hm
  · rw [hm]
    have ej : j / 2 * 2 = j := by omega
    rw [ej] at h1
    exact h1
  · rw [hm]
    have ej : j / 2 * 2 + 1 = j := by omega
    rw [ej] at h2
    exact h2
set_option maxHeartbeats 2000000 in
/-- what slices.SortFunc makes of a row of cubes -/
theorem sortc_ok (w : World) (base : Nat) (A : Option Addr) (n c : Nat) (l : List Cb) (hl : ∀ x ∈ l, OkC x) (hn : l.length = n) (hn2 : n ≤ 1024) (h : w.ownsRow base 23 2 (.slice A n c) n (CV (zl l))) :
    Calls Try.prog 67 #[.slice A n c, .func (.func 56) #[] #[]] w fun e w' => e = .returned (.tuple #[]) ∧ RdC w' A n c (zl (sortL l)) ∧ ∀ w0, On w0 w → w0.heap.size ≤ base → On w0 w' := by
  by_cases h0 : n = 0
  · subst h0
    obtain rfl := List.eq_nil_of_length_eq_zero hn
    have hS := AnyF.slices_SortFunc_none Try.sortCube A c (.func (.func 56) #[] #[]) w
    change Calls Try.prog 67 _ _ _ at hS
    refine Calls.mono hS ?_
    rintro e w' ⟨rfl, rfl⟩
    have e0 : sortL [] = [] := by unfold sortL; simp
    rw [e0]
    exact ⟨rfl, rdc_of_row h rfl, fun w0 ho _ => ho⟩
  have hl2 : (toC l hl).length = n := by rw [toC_len, hn]
  rcases h.2 with ⟨hv, h0'⟩ | ⟨g, cap, cur, hv, hb, hh, hcap, hmax, hsz, htake⟩
  · omega
  injection hv with h1 h2 h3
  subst h1; subst h3
  have hown : Own w g 23 cur := hh
  have hblk : g < w.heap.size := hown.lt
  have hH : HoldsK encC 2 w g 0 (toC l hl).toArray := by
    intro j hj
    rw [size_flatK, List.size_toArray] at hj
    refine ⟨?_, hown.frozen _⟩
    rw [hown.cell, Nat.zero_add]
    have e1 := cv_at (toC l hl) j hj
    rw [toC_v, ← htake, List.getElem?_take] at e1
    split at e1
    · rw [Array.getElem?_toList] at e1
      rw [e1, get_flatK _ _ _ _ (by rw [List.size_toArray]; exact hj)]
      rfl
    · cases e1
  have hsize : (toC l hl).toArray.size = n := by rw [List.size_toArray, hl2]
  have hS := AnyQ.slices_SortFunc_total Try.sortCube 2 Try.isAgg23 Try.sizeOf23 encC (fun _ => rfl) (fun x v hv => by simp [encC] at hv; rcases hv with rfl | rfl <;> rfl) cfC swoC 56 #[] g 0 c (toC l hl).toArray w compare_enters (cmpLaysC _ _ _ _) hH hblk (by rw [hsize]; omega) totC
  rw [hsize] at hS
  change Calls Try.prog 67 _ _ _ at hS
  refine Calls.mono hS ?_
  rintro e w' ⟨rfl, m, os, rfl⟩
  have hsl : (sortS l hl).length = n := by unfold sortS; rw [List.length_mergeSort, hl2]
  have esort : ((toC l hl).toArray.toList.mergeSort fun x y => !(ltOf cfC) y x).toArray = (sortS l hl).toArray := rfl
  rw [esort]
  have hsz2 : (sortS l hl).toArray.size = (toC l hl).toArray.size := by rw [List.size_toArray, List.size_toArray, hsl, hl2]
  have hsame : ∀ k, k < w.heap.size → k ≠ g → (sortWorldK encC 2 w g 0 m (sortS l hl).toArray os).heap[k]? = w.heap[k]? := by
    intro k hk hne
    unfold sortWorldK
    rw [heap_grow_old]
    · show ((Sort.ahead w m).heap.modify g _)[k]? = _
      rw [Array.getElem?_modify, if_neg (fun e => hne e.symm)]; rfl
    · show k < ((Sort.ahead w m).heap.modify g _).size
      rw [Array.size_modify]; exact hk
  have hgb : g < (putRowK encC 2 (Sort.ahead w m) g 0 (sortS l hl).toArray).heap.size := by
    show g < ((Sort.ahead w m).heap.modify g _).size
    rw [Array.size_modify]; exact hblk
  have hsize2 : w.heap.size ≤ (sortWorldK encC 2 w g 0 m (sortS l hl).toArray os).heap.size := by
    unfold sortWorldK Sort.grow
    simp only [Array.size_append]
    show w.heap.size ≤ ((Sort.ahead w m).heap.modify g _).size + _
    rw [Array.size_modify]; exact Nat.le_add_right _ _
  have hon : Only g w (sortWorldK encC 2 w g 0 m (sortS l hl).toArray os) := ⟨rfl, rfl, rfl, hsize2, fun k hk hne => hsame k hk (fun e => hne (by rw [e]))⟩
  have hH2 : HoldsK encC 2 (sortWorldK encC 2 w g 0 m (sortS l hl).toArray os) g 0 (sortS l hl).toArray := by
    unfold sortWorldK
    exact holdsK_grow _ _ _ _ _ _ _ hgb (holdsK_putRowK _ _ _ _ _ _ _ (holdsK_ahead _ _ _ m _ _ _ hH) hsz2)
  have hfin : ∀ j u, (CV (zl (sortL l)))[j]? = some u → (sortWorldK encC 2 w g 0 m (sortS l hl).toArray os).cell? ⟨g, 0 + j, none⟩ = some u := by
    intro j u hu
    have hj : j < (sortS l hl).length * 2 := by
      have := (List.getElem?_eq_some_iff.1 hu).1
      rw [CV_len, zl_len, sortL_len, hn] at this
      rw [hsl]; exact this
    have e1 := cv_at (sortS l hl) j hj
    rw [sortS_v, hu] at e1
    have e2 := (hH2 j (by rw [size_flatK, List.size_toArray]; exact hj)).1
    rw [get_flatK _ _ _ _ (by rw [List.size_toArray]; exact hj)] at e2
    rw [e2, e1]
    rfl
  refine ⟨rfl, ⟨by rw [zl_len, sortL_len, hn], hcap, by unfold maxLen at hmax; exact hmax, fun e => (by cases e), fun _ => ⟨_, rfl, Nat.lt_of_lt_of_le hblk hsize2, ?_⟩⟩, fun w0 ho hb0 => ho.only hon (Nat.le_trans hb0 hb)⟩
  intro j u hu
  rw [add_plain]
  exact hfin j u hu
end Go.Proofs.Ythamjboppnlpdaa.Cu
