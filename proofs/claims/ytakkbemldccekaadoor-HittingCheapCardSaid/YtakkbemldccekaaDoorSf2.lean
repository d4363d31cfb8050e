/-
  Package family: sorted: a copy, sorted, each set once, in new memory.
-/
import Derived.Test.YtakkbemldccekaaDoorSm1
import Derived.Test.YtakkbemldccekaaDoorSf1
namespace Go.Proofs.YtakkbemldccekaaDoor.Sb
open Go.RowKit Go.Shelf Go.Lib Go.Sort
set_option linter.unusedVariables false
set_option maxRecDepth 100000
instance : DecidableEq S24 := fun x y => if h : x.v = y.v then isTrue (by cases x; cases y; cases h; rfl) else isFalse (fun e => h (by rw [e]))
theorem s24_eq (x y : S24) (h : x.v = y.v) : x = y := by cases x; cases y; cases h; rfl
theorem toS_mem {k : List Nat} (hk : Ok k) (x : S24) : x ∈ toS k hk ↔ x.v ∈ k := by
  have e := toS_v k hk
  constructor
  · intro h
    have : x.v ∈ (toS k hk).map (·.v) := List.mem_map.2 ⟨x, h, rfl⟩
    rwa [e] at this
  · intro h
    rw [← e, List.mem_map] at h
    obtain ⟨y, hy, hv⟩ := h
    rwa [← s24_eq y x hv]
/-- the sets, sorted -/
def mS (k : List Nat) (hk : Ok k) : List S24 := (toS k hk).mergeSort fun x y => !(ltOf cfS) y x
theorem mS_perm (k : List Nat) (hk : Ok k) : (mS k hk).Perm (toS k hk) := List.mergeSort_perm _ _
theorem mS_len (k : List Nat) (hk : Ok k) : (mS k hk).length = k.length := by unfold mS; rw [List.length_mergeSort, toS_len]
theorem mS_sorted (k : List Nat) (hk : Ok k) : (mS k hk).Pairwise (fun x y => ¬ cmpS y.v x.v < 0) := by
  have hle : (mS k hk).Pairwise (fun x y => (!(ltOf cfS) y x) = true) := by
    refine List.pairwise_mergeSort ?_ ?_ _
    · intro a b c h1 h2
      rw [ltS] at *
      simp at *
      rw [cmpS_neg] at *
      have h1' : ¬ cmpS b.v a.v < 0 := by rw [cmpS_neg]; omega
      have h2' : ¬ cmpS c.v b.v < 0 := by rw [cmpS_neg]; omega
      have : ¬ cmpS c.v a.v < 0 := by rw [cmpS_lt] at *; omega
      rw [cmpS_neg] at this; omega
    · intro a b
      rw [ltS, ltS, cmpS_neg b.v a.v]
      by_cases h : cmpS a.v b.v < 0
      · simp; omega
      · simp [h]
  refine hle.imp ?_
  intro a b h
  rw [ltS] at h
  simpa using h
theorem compact_upto (d : Array S24) (hs : ∀ i j, i < j → j < d.size → ¬ cmpS d[j]!.v d[i]!.v < 0) : ∀ m, m ≤ d.size →
    (compactUpTo d m).Pairwise (fun x y => cmpS x.v y.v < 0) ∧ (∀ x, x ∈ compactUpTo d m ↔ ∃ i, i < m ∧ d[i]! = x) := by
  intro m
  induction m with
  | zero =>
    intro _
    refine ⟨by simp [compactUpTo], fun x => ?_⟩
    constructor
    · intro h; simp [compactUpTo] at h
    · rintro ⟨i, hi, _⟩; omega
  | succ m ih =>
    intro hm
    obtain ⟨h1, h2⟩ := ih (by omega)
    rw [compactUpTo_succ]
    by_cases hkp : keeps d m = true
    · rw [if_pos hkp]
      refine ⟨?_, fun x => ?_⟩
      · rw [List.pairwise_append]
        refine ⟨h1, List.pairwise_singleton _ _, fun x hx y hy => ?_⟩
        obtain ⟨i, hi, rfl⟩ := (h2 x).1 hx
        obtain rfl : y = d[m]! := by simpa using hy
        have a1 := hs i m hi (by omega)
        refine Classical.byContradiction fun hn => ?_
        have e0 : cmpS d[i]!.v d[m]!.v = 0 := by rw [cmpS_neg] at a1; omega
        have e1 := s24_eq _ _ ((cmpS_eq _ _).1 e0)
        have hk2 := of_decide_eq_true hkp
        rcases hk2 with hk2 | hk2
        · omega
        · refine hk2 ?_
          by_cases hi2 : i = m - 1
          · rw [← hi2, e1]
          · have b1 := hs i (m - 1) (by omega) (by omega)
            have b2 := hs (m - 1) m (by omega) (by omega)
            rw [← e1] at b2 ⊢
            have : cmpS d[i]!.v d[m - 1]!.v = 0 := by rw [cmpS_neg] at b1; omega
            exact s24_eq _ _ ((cmpS_eq _ _).1 this)
      · rw [List.mem_append, h2]
        constructor
        · rintro (⟨i, hi, e⟩ | h)
          · exact ⟨i, by omega, e⟩
          · exact ⟨m, by omega, (by simpa using h : x = d[m]!).symm⟩
        · rintro ⟨i, hi, e⟩
          rcases Nat.lt_or_ge i m with h | h
          · exact .inl ⟨i, h, e⟩
          · obtain rfl : i = m := by omega
            exact .inr (by simp [e])
    · rw [if_neg hkp, List.append_nil]
      refine ⟨h1, fun x => ?_⟩
      rw [h2]
      have hk2 : ¬ (m = 0 ∨ d[m]! ≠ d[m - 1]!) := fun h => hkp (decide_eq_true h)
      have hm0 : m ≠ 0 := fun h => hk2 (.inl h)
      have he : d[m]! = d[m - 1]! := Classical.byContradiction fun h => hk2 (.inr h)
      constructor
      · rintro ⟨i, hi, e⟩; exact ⟨i, by omega, e⟩
      · rintro ⟨i, hi, e⟩
        rcases Nat.lt_or_ge i m with h | h
        · exact ⟨i, h, e⟩
        · obtain rfl : i = m := by omega
          exact ⟨i - 1, by omega, by rw [← he]; exact e⟩
/-- sorted, each once -/
def cS (k : List Nat) (hk : Ok k) : List S24 := compactUpTo (mS k hk).toArray (mS k hk).toArray.size
theorem arr_get (l : List S24) (i : Nat) (h : i < l.length) : l.toArray[i]! = l[i] := by rw [getElem!_pos _ i (by simpa using h)]; simp
theorem cS_v (k : List Nat) (hk : Ok k) : (cS k hk).map (·.v) = sortU k := by
  have hs : ∀ i j, i < j → j < (mS k hk).toArray.size → ¬ cmpS (mS k hk).toArray[j]!.v (mS k hk).toArray[i]!.v < 0 := by
    intro i j hij hj
    rw [List.size_toArray] at hj
    rw [arr_get _ i (by omega), arr_get _ j hj]
    exact List.pairwise_iff_getElem.1 (mS_sorted k hk) i j (by omega) hj hij
  obtain ⟨h1, h2⟩ := compact_upto _ hs _ (Nat.le_refl _)
  refine sortU_uniq ?_ fun x => ?_
  · unfold Asc cS
    rw [List.pairwise_map]
    exact h1
  · have hm : ∀ y : S24, y ∈ mS k hk ↔ y.v ∈ k := fun y => by rw [(mS_perm k hk).mem_iff, toS_mem hk]
    unfold cS
    rw [List.mem_map]
    constructor
    · rintro ⟨y, hy, rfl⟩
      obtain ⟨i, hi, rfl⟩ := (h2 y).1 hy
      rw [List.size_toArray] at hi
      rw [arr_get _ i hi]
      exact (hm _).1 (List.getElem_mem hi)
    · intro hx
      refine ⟨⟨x, hk x hx⟩, (h2 _).2 ?_, rfl⟩
      obtain ⟨i, hi, e⟩ := List.getElem_of_mem ((hm ⟨x, hk x hx⟩).2 hx)
      exact ⟨i, by simpa using hi, by rw [arr_get _ i hi]; exact e⟩
theorem cS_len (k : List Nat) (hk : Ok k) : (cS k hk).length = (sortU k).length := by rw [← cS_v k hk, List.length_map]
theorem cS_get (k : List Nat) (hk : Ok k) (i : Nat) (h : i < (cS k hk).length) : (cS k hk)[i].v = (sortU k).getD i 0 := by
  have h2 : i < (sortU k).length := by rw [← cS_len k hk]; exact h
  have : (sortU k).getD i 0 = ((cS k hk).map (·.v)).getD i 0 := by rw [cS_v]
  rw [this]; simp [h]
/-- the memory of a row that a call has made -/
structure NewRow (w w' : World) (A : Option Addr) (n c : Nat) (k : List Nat) : Prop where
  rd : Rd w' A n c (VI (ints k))
  on : On w w'
  own : A = none ∨ ∃ g cur, A = some ⟨g, 0, none⟩ ∧ w.heap.size ≤ g ∧ Own w' g 3 cur ∧ cur.size = c
theorem only_grow (w : World) (os : Array Obj) : On w (Sort.grow w os) := ⟨rfl, rfl, rfl, by show w.heap.size ≤ (w.heap ++ os).size; simp, fun k hk => Sort.heap_grow_old w os hk⟩
section
variable {α : Type} [Inhabited α]
theorem own_putRow {W : World} {g : Nat} {t : TypeId} {cur : Array Value} (enc : α → Value) (off n : Nat) (d : Array α) (h : Own W g t cur) : Own (putRow enc (Sort.ahead W n) g off d) g t (putCells enc off d cur) := by
  unfold Own at h ⊢
  show ((Sort.ahead W n).heap.modify g _)[g]? = _
  rw [Array.getElem?_modify, if_pos rfl]
  show Option.map _ W.heap[g]? = _
  rw [h]; rfl
theorem only_putRow (W : World) (g off n : Nat) (enc : α → Value) (d : Array α) : Only g W (putRow enc (Sort.ahead W n) g off d) := by
  refine ⟨rfl, rfl, rfl, ?_, fun k hk hne => ?_⟩
  · show W.heap.size ≤ ((Sort.ahead W n).heap.modify g _).size
    rw [Array.size_modify]; exact Nat.le_refl _
  · show ((Sort.ahead W n).heap.modify g _)[k]? = _
    rw [Array.getElem?_modify, if_neg (fun e => hne (by rw [e]))]; rfl
end
theorem eqlS : EqlAt Tryd.prog 3 encS (fun x y => decide (x = y)) := by
  refine ⟨fun x y w => ?_, fun op a b x y w => (EqlAt.intD Tryd.prog 3 .i64).2 op a b (x.v : Int) (y.v : Int) w⟩
  have h := (EqlAt.intD Tryd.prog 3 .i64).1 (x.v : Int) (y.v : Int) w
  have e : decide (x = y) = decide ((x.v : Int) = (y.v : Int)) := by
    by_cases hx : x = y
    · subst hx; simp
    · have h1 : ¬ x.v = y.v := fun e => hx (s24_eq x y e)
      rw [decide_eq_false hx, decide_eq_false (by omega)]
  show _ = Result.ok (Value.bool (decide (x = y))) w
  rw [e]; exact h
theorem neqS : NeqAt Tryd.prog 3 encS (fun x y => decide (x = y)) := by
  refine ⟨fun x y w => ?_, fun op a b x y w => (NeqAt.intD Tryd.prog 3 .i64).2 op a b (x.v : Int) (y.v : Int) w⟩
  have h := (NeqAt.intD Tryd.prog 3 .i64).1 (x.v : Int) (y.v : Int) w
  have e : decide (x = y) = decide ((x.v : Int) = (y.v : Int)) := by
    by_cases hx : x = y
    · subst hx; simp
    · have h1 : ¬ x.v = y.v := fun e => hx (s24_eq x y e)
      rw [decide_eq_false hx, decide_eq_false (by omega)]
  show _ = Result.ok (Value.bool (!decide (x = y))) w
  rw [e]; exact h
set_option maxHeartbeats 1000000 in
theorem clone_any (w : World) (A : Option Addr) (n c : Nat) (vs : List Value) (h : Rd w A n c vs) (h1 : ∀ u ∈ vs, u.oneCell' = true) (hsm : n ≤ 1000000000) :
    Calls Tryd.prog 89 #[.slice A n c] w fun e w' => ∃ v, e = .returned v ∧ w'.ownsRow w.heap.size 3 1 v n vs ∧ On w w' := by
  rcases A with _ | ad
  · have hc0 := h.none_ rfl
    have hn0 : n = 0 := by have := h.cap; omega
    subst hn0
    subst hc0
    obtain rfl := List.eq_nil_of_length_eq_zero h.len
    have q22 : ∀ (w : World) (a : Option Addr) (n c n' c' : Nat), (binOp .eql 22 (.slice a n c) (.slice none n' c')).run Tryd.prog w = .ok (.bool a.isNone) w := fun w a n c n' c' => Lib.run_eql_slice_nil w _ _ a n c n' c' Tryd.underlying22
    go_enter Tryd.func89, Tryd.ntmps89
    go_wp2
    go_ret
    exact ⟨_, rfl, row_nil w _ _, On.refl w⟩
  · have q22 : ∀ (w : World) (a : Option Addr) (n c n' c' : Nat), (binOp .eql 22 (.slice a n c) (.slice none n' c')).run Tryd.prog w = .ok (.bool a.isNone) w := fun w a n c n' c' => Lib.run_eql_slice_nil w _ _ a n c n' c' Tryd.underlying22
    have H := Lib.hid h
    clear h
    go_enter Tryd.func89, Tryd.ntmps89
    go_wp2_with (at_builtin; refine wpList_app rfl (.tmp 5) (.tmp 6) 22 rfl w.heap.size 3 (.int .i64 0) 8 Tryd.underlying22 infoi rfl (by decide) (.slice (some ⟨w.heap.size, 0, none⟩) 0 0) 0 [] rfl (row_made w 3 #[] 0 rfl (by omega)) (some ad) n c vs rfl (H.out.alloc _) h1 (by omega) (by simp) ?_; intro v' w5 hown5 hgrow5 _)
    go_ret
    rw [Nat.zero_add, List.nil_append] at hown5
    exact ⟨_, rfl, hown5, on_row ((On.refl w).alloc _) (row_made w 3 #[] 0 rfl (by omega)) (Nat.le_refl _) hgrow5⟩
set_option maxHeartbeats 1000000 in
theorem compact_nil (w : World) (A : Option Addr) (c : Nat) :
    Calls Tryd.prog 91 #[.slice A 0 c] w fun e w' => e = .returned (.slice A 0 c) ∧ w = w' := by
  go_enter Tryd.func91, Tryd.ntmps91
  go_wp2
  go_ret
  exact ⟨rfl, rfl⟩
theorem holds_toS {w : World} {g : Nat} {cur : Array Value} {k : List Nat} (hk : Ok k) (hown : Own w g 3 cur) (ht : cur.toList.take k.length = VI (ints k)) : Holds encS w g 0 (toS k hk).toArray := by
  intro j hj
  rw [List.size_toArray, toS_len] at hj
  refine ⟨?_, hown.frozen _⟩
  rw [hown.cell, Nat.zero_add]
  have e1 : (VI (ints k))[j]? = some (.int .i64 (k[j] : Int)) := by simp [VI, ints, hj]
  rw [← ht, List.getElem?_take, if_pos hj, Array.getElem?_toList] at e1
  rw [e1]
  have e2 : (toS k hk).toArray[j]! = ⟨k[j], hk _ (List.getElem_mem hj)⟩ := by
    rw [arr_get _ j (by rw [toS_len]; exact hj)]
    simp [toS]
  rw [e2]; rfl
set_option maxHeartbeats 2000000 in
theorem sorted_any (w : World) (A : Option Addr) (n c : Nat) (k : List Nat) (h : Rd w A n c (VI (ints k))) (hk : Ok k) (hsm : n ≤ 1000000000) :
    Calls Tryd.prog 75 #[.slice A n c] w fun e w' => ∃ A' n' c', e = .returned (.slice A' n' c') ∧ NewRow w w' A' n' c' (sortU k) := by
  have hn : k.length = n := by have := h.len; rw [ints_len] at this; exact this
  have hC := clone_any w A n c _ h (VI_one _) hsm
  go_enter Tryd.func75, Tryd.ntmps75
  go_wp2_with fail
  refine hC.mono ?_
  rintro e w1 ⟨v, rfl, hrow, hon⟩
  rcases hrow.2 with ⟨hv, h0⟩ | ⟨g, cap, cur, hv, hb, hh, hcap, hmax, hsz, htake⟩
  · subst hv
    subst h0
    obtain rfl := List.eq_nil_of_length_eq_zero hn
    have hS := Tryd.slices_SortFunc_none (α := S24) none 0 (.func (.func 56) #[] #[]) w1
    clear hrow hC
    go_wp2_with fail
    refine hS.mono ?_
    rintro e w2 ⟨rfl, rfl⟩
    go_wp2_with fail
    refine (compact_nil _ _ _).mono ?_
    rintro e w3 ⟨rfl, rfl⟩
    go_wp2
    go_ret
    exact ⟨_, _, _, rfl, Rd.nil_ _, hon, .inl rfl⟩
  · subst hv
    have hown : Own w1 g 3 cur := hh
    rw [← hn] at htake
    have hH := holds_toS hk hown (by first | exact htake | (rw [Nat.mul_one] at htake; exact htake) | (rw [← htake]; congr 1; omega))
    have hsize : (toS k hk).toArray.size = n := by rw [List.size_toArray, toS_len, hn]
    have hS := Tryd.slices_SortFunc_total encS (fun _ => rfl) cfS swoS 56 #[] g 0 cap (toS k hk).toArray w1 compare_enters (cmpLays _ _ _ _) hH hown.lt (by rw [hsize]; omega) totS
    rw [hsize] at hS
    have HH := Lib.hid hH
    have HO := Lib.hid hown
    clear hrow hC hh htake hH hown
    go_wp2_with fail
    refine hS.mono ?_
    rintro e w2 ⟨rfl, nd, os, hw2⟩
    have hsz2 : (mS k hk).toArray.size = (toS k hk).toArray.size := by rw [List.size_toArray, List.size_toArray, mS_len, toS_len]
    have hmn : (mS k hk).toArray.size = n := by rw [List.size_toArray, mS_len, hn]
    have hgb : g < (putRow encS (Sort.ahead w1 nd) g 0 (mS k hk).toArray).heap.size := by
      show g < ((Sort.ahead w1 nd).heap.modify g _).size
      rw [Array.size_modify]; exact HO.out.lt
    have hO2 : Own w2 g 3 (putCells encS 0 (mS k hk).toArray cur) := by
      rw [hw2]
      exact (own_putRow encS 0 nd _ HO.out).on (only_grow _ os)
    have hP2 : Only g w1 w2 := by
      rw [hw2]
      exact (only_putRow w1 g 0 nd encS _).then (only_grow _ os)
    have hH2 : Holds encS w2 g 0 (mS k hk).toArray := by
      rw [hw2]
      exact holds_grow _ _ _ _ _ _ hgb (holds_putRow _ _ _ _ _ _ (holds_ahead _ _ nd _ _ _ HH.out) hsz2)
    have hK := Tryd.slices_Compact encS (fun _ => rfl) eqlS neqS ⟨0, by decide⟩ (fun w => Tryd.zeroValue3 w) g 0 cap (mS k hk).toArray w2 hH2 (by rw [hmn]; omega) (by rw [hmn]; exact hcap)
    rw [hmn] at hK
    have hcs : compactUpTo (mS k hk).toArray n = cS k hk := by unfold cS; rw [hmn]
    rw [hcs] at hK
    have H2 := Lib.hid hH2
    have O2 := Lib.hid hO2
    clear hw2 hH2 hO2 hS hcs
    go_wp2_with fail
    refine hK.mono ?_
    rintro e w3 ⟨rfl, q, hw3⟩
    have hlen := cS_len k hk
    have hle := sortU_len k
    have hsz3 : (cS k hk ++ List.replicate (n - (cS k hk).length) (⟨0, by decide⟩ : S24)).toArray.size = (mS k hk).toArray.size := by
      rw [List.size_toArray, List.length_append, List.length_replicate, hmn]; omega
    have hO3 : Own w3 g 3 (putCells encS 0 (cS k hk ++ List.replicate (n - (cS k hk).length) (⟨0, by decide⟩ : S24)).toArray (putCells encS 0 (mS k hk).toArray cur)) := by
      rw [hw3]
      exact own_putRow encS 0 q _ O2.out
    have hP3 : Only g w2 w3 := by
      rw [hw3]
      exact only_putRow w2 g 0 q encS _
    have hH3 : Holds encS w3 g 0 (cS k hk ++ List.replicate (n - (cS k hk).length) (⟨0, by decide⟩ : S24)).toArray := by
      rw [hw3]
      exact holds_putRow _ _ _ _ _ _ (holds_ahead _ _ q _ _ _ H2.out) hsz3
    clear hw3 hK
    go_wp2
    go_ret
    refine ⟨_, _, _, rfl, ⟨⟨?_, ?_, ?_, fun e => (by cases e), fun _ => ⟨_, rfl, hO3.lt, ?_⟩⟩, ?_, .inr ⟨g, _, rfl, hb, hO3, ?_⟩⟩⟩
    · first | (rw [ints_len, hlen]; done) | (rw [ints_len])
    · omega
    · unfold maxLen at hmax; exact hmax
    · intro j u hu
      have hj : j < (sortU k).length := by
        have := (List.getElem?_eq_some_iff.1 hu).1
        rwa [ints_len] at this
      rw [add_plain]
      have hjc : j < (cS k hk).length := by omega
      have e3 := (hH3 j (by rw [hsz3, hmn]; omega)).1
      rw [e3]
      have e4 : (cS k hk ++ List.replicate (n - (cS k hk).length) (⟨0, by decide⟩ : S24)).toArray[j]! = (cS k hk)[j] := by
        rw [arr_get _ j (by rw [List.length_append]; omega)]
        rw [List.getElem_append_left hjc]
      rw [e4]
      rw [ints_get hj] at hu
      rw [← hu, ← cS_get k hk j hjc]; rfl
    · exact (hon.only hP2 hb).only hP3 hb
    · simp [putCells]; omega
end Go.Proofs.YtakkbemldccekaaDoor.Sb
