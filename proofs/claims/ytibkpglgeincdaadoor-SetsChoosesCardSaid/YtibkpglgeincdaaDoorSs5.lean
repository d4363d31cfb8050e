/-
  Package sets: Parts.
-/
import Derived.Test.YtibkpglgeincdaaDoorSs4
import Derived.Test.YtibkpglgeincdaaDoorSb3
import Derived.Test.YtibkpglgeincdaaDoorSm1
import Derived.Shelf.SlSortCmp.NoneTotal
import Derived.Lib.RowBridge
namespace Go.Proofs.YtibkpglgeincdaaDoor.Sb
open Go.RowKit Go.Shelf Go.Lib Go.Sort
set_option linter.unusedVariables false
/-- what Parts lists -/
def PartsL (l : List Nat) (s : Nat) : Prop := Asc l ∧ (∀ x, x ∈ l ↔ x < 2 ^ 24 ∧ x &&& s = x) ∧ l.length = cnt s
theorem dl_lt (s : Nat) (hs : s < 16777216) : ∀ x ∈ dl s (cnt s), x < 16777216 := fun x hx => ((dl_mem s hs x).1 hx).1
def sortS (s : Nat) (hs : s < 16777216) : List S24 := (toS (dl s (cnt s)) (dl_lt s hs)).mergeSort fun x y => !(ltOf cfS) y x
theorem sortS_parts (s : Nat) (hs : s < 16777216) : PartsL ((sortS s hs).map (·.v)) s := by
  have hperm : (sortS s hs).Perm (toS (dl s (cnt s)) (dl_lt s hs)) := List.mergeSort_perm _ _
  have hperm2 : ((sortS s hs).map (·.v)).Perm (dl s (cnt s)) := by have := hperm.map (·.v); rwa [toS_v] at this
  refine ⟨?_, fun x => by rw [hperm2.mem_iff]; exact dl_mem s hs x, by rw [hperm2.length_eq, dl_len]⟩
  have hnd : ((sortS s hs).map (·.v)).Nodup := hperm2.nodup_iff.2 (dl_nodup s)
  have hle : (sortS s hs).Pairwise (fun x y => (!(ltOf cfS) y x) = true) := by
    refine List.pairwise_mergeSort ?_ ?_ _
    · intro a b c h1 h2
      rw [ltS] at *
      simp at *
      rw [cmpS_neg] at *
      have h1' : ¬ cmpS b.v a.v < 0 := by rw [cmpS_neg]; omega
      have h2' : ¬ cmpS c.v b.v < 0 := by rw [cmpS_neg]; omega
      have : ¬ cmpS c.v a.v < 0 := by rw [cmpS_lt] at *; omega
      rw [cmpS_neg] at this; omega
    · intro a b
      rw [ltS, ltS, cmpS_neg b.v a.v]
      by_cases h : cmpS a.v b.v < 0
      · simp; omega
      · simp [h]
  unfold Asc
  rw [List.pairwise_map]
  unfold List.Nodup at hnd
  rw [List.pairwise_map] at hnd
  refine (hle.and hnd).imp ?_
  rintro a b ⟨h1, h2⟩
  rw [ltS] at h1
  simp at h1
  rw [cmpS_neg] at h1
  have : cmpS a.v b.v ≠ 0 := fun e => h2 ((cmpS_eq _ _).1 e)
  omega
theorem cnt_le (s : Nat) (h : pc s ≤ 10) : cnt s ≤ 1024 := by unfold cnt; exact Nat.pow_le_pow_right (n := 2) (by decide) h
set_option maxHeartbeats 1000000 in
/-- what slices.SortFunc makes of the subsets -/
theorem sort_any (w : World) (base : Nat) (A : Option Addr) (c s : Nat) (hs : s < 16777216) (h : w.ownsRow base 3 1 (.slice A (cnt s) c) (cnt s) (VI (ints (dl s (cnt s))))) :
    Calls Tryd.prog 25 #[.slice A (cnt s) c, .func (.func 21) #[] #[]] w fun e w' => e = .returned (.tuple #[]) ∧ Rd w' A (cnt s) c (VI (ints ((sortS s hs).map (·.v)))) ∧ ∀ w0, On w0 w → w0.heap.size ≤ base → On w0 w' := by
  have hpos := cnt_pos s
  have hl : (toS (dl s (cnt s)) (dl_lt s hs)).length = cnt s := by rw [toS_len, dl_len]
  rcases h.2 with ⟨hv, h0⟩ | ⟨g, cap, cur, hv, hb, hh, hcap, hmax, hsz, htake⟩
  · omega
  injection hv with h1 h2 h3
  subst h1; subst h3
  have hown : Own w g 3 cur := hh
  have hblk : g < w.heap.size := hown.lt
  have hH : Holds encS w g 0 (toS (dl s (cnt s)) (dl_lt s hs)).toArray := by
    intro j hj
    rw [List.size_toArray] at hj
    refine ⟨?_, hown.frozen _⟩
    rw [hown.cell, Nat.zero_add]
    have hj2 : j < (dl s (cnt s)).length := by rw [dl_len, ← hl]; exact hj
    have e1 : (VI (ints (dl s (cnt s))))[j]? = some (.int .i64 ((dl s (cnt s))[j] : Int)) := by simp [VI, ints, hj2]
    rw [← htake, List.getElem?_take] at e1
    split at e1
    · rw [Array.getElem?_toList] at e1
      rw [e1]
      have e2 : (toS (dl s (cnt s)) (dl_lt s hs)).toArray[j]! = ⟨(dl s (cnt s))[j], dl_lt s hs _ (List.getElem_mem hj2)⟩ := by
        rw [getElem!_pos _ j (by simpa using hj)]
        simp [toS]
      rw [e2]; rfl
    · cases e1
  have hsize : (toS (dl s (cnt s)) (dl_lt s hs)).toArray.size = cnt s := by rw [List.size_toArray, hl]
  have hcn : cnt s < 4611686018427387904 := by
    unfold cnt
    exact Nat.lt_of_le_of_lt (Nat.pow_le_pow_right (n := 2) (by decide) (pc_le s)) (by decide)
  have hS := Tryd.slices_SortFunc_total encS (fun _ => rfl) cfS swoS 21 #[] g 0 c (toS (dl s (cnt s)) (dl_lt s hs)).toArray w compare_enters (cmpLays _ _ _ _) hH hblk (by rw [hsize]; exact hcn) totS
  rw [hsize] at hS
  refine Calls.mono hS ?_
  rintro e w' ⟨rfl, n, os, rfl⟩
  have hsl : (sortS s hs).length = cnt s := by unfold sortS; rw [List.length_mergeSort, hl]
  have esort : ((toS (dl s (cnt s)) (dl_lt s hs)).toArray.toList.mergeSort fun x y => !(ltOf cfS) y x).toArray = (sortS s hs).toArray := rfl
  rw [esort]
  have hsz2 : (sortS s hs).toArray.size = (toS (dl s (cnt s)) (dl_lt s hs)).toArray.size := by rw [List.size_toArray, List.size_toArray, hsl, hl]
  have hsame : ∀ k, k < w.heap.size → k ≠ g → (sortWorld encS w g 0 n (sortS s hs).toArray os).heap[k]? = w.heap[k]? := by
    intro k hk hne
    unfold sortWorld
    rw [heap_grow_old]
    · show ((Sort.ahead w n).heap.modify g _)[k]? = _
      rw [Array.getElem?_modify, if_neg (fun e => hne e.symm)]; rfl
    · show k < ((Sort.ahead w n).heap.modify g _).size
      rw [Array.size_modify]; exact hk
  have hgb : g < (putRow encS (Sort.ahead w n) g 0 (sortS s hs).toArray).heap.size := by
    show g < ((Sort.ahead w n).heap.modify g _).size
    rw [Array.size_modify]; exact hblk
  have hsize2 : w.heap.size ≤ (sortWorld encS w g 0 n (sortS s hs).toArray os).heap.size := by
    unfold sortWorld Sort.grow
    simp only [Array.size_append]
    show w.heap.size ≤ ((Sort.ahead w n).heap.modify g _).size + _
    rw [Array.size_modify]; exact Nat.le_add_right _ _
  have hon : Only g w (sortWorld encS w g 0 n (sortS s hs).toArray os) := ⟨rfl, rfl, rfl, hsize2, fun k hk hne => hsame k hk (fun e => hne (by rw [e]))⟩
  have hH2 : Holds encS (sortWorld encS w g 0 n (sortS s hs).toArray os) g 0 (sortS s hs).toArray := by
    unfold sortWorld
    exact holds_grow _ _ _ _ _ _ hgb (holds_putRow _ _ _ _ _ _ (holds_ahead _ _ n _ _ _ hH) hsz2)
  refine ⟨rfl, ⟨by simp [VI, ints, hsl], hcap, by unfold maxLen at hmax; exact hmax, fun e => (by cases e), fun _ => ⟨_, rfl, Nat.lt_of_lt_of_le hblk hsize2, ?_⟩⟩, fun w0 ho hb0 => ho.only hon (Nat.le_trans hb0 hb)⟩
  intro j u hu
  have hj : j < (sortS s hs).length := by
    have := (List.getElem?_eq_some_iff.1 hu).1
    simpa [VI, ints] using this
  rw [add_plain]
  have e3 := (hH2 j (by simpa using hj)).1
  rw [e3]
  have e4 : (sortS s hs).toArray[j]! = (sortS s hs)[j] := by rw [getElem!_pos _ j (by simpa using hj)]; simp
  rw [e4]
  simp [VI, ints, hj] at hu
  rw [← hu]; rfl
end Go.Proofs.YtibkpglgeincdaaDoor.Sb
