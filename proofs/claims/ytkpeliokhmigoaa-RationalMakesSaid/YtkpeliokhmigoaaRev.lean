/-
  slices.Reverse of bytes in a block of the call's own.
-/
import Derived.Test.YtkpeliokhmigoaaOwn
import Derived.BigRegion
namespace Go.Proofs.Ytkpeliokhmigoaa
open Go.RowKit
set_option linter.unusedVariables false
namespace Num
/-- from place o on the cells are the bytes xs -/
def HasB (cur : Array Value) (o : Nat) (xs : List Nat) : Prop := (∀ u ∈ xs, u < 256) ∧ ∀ j, j < xs.length → cur[o + j]? = some (.int .u8 (gw xs j : Int))
theorem HasB.get {cur : Array Value} {o : Nat} {xs : List Nat} (h : HasB cur o xs) (j : Nat) (hj : j < xs.length) : cur[o + j]? = some (.int .u8 (gw xs j : Int)) := h.2 j hj
theorem HasB.lt {cur : Array Value} {o : Nat} {xs : List Nat} (h : HasB cur o xs) (j : Nat) : gw xs j < 256 := by
  unfold gw
  rw [List.getD_eq_getElem?_getD]
  rcases Nat.lt_or_ge j xs.length with hk | hk
  · rw [List.getElem?_eq_getElem hk]; exact h.1 _ (List.getElem_mem hk)
  · rw [List.getElem?_eq_none hk]; decide
theorem HasB.set_ {cur : Array Value} {o j x : Nat} {xs : List Nat} (h : HasB cur o xs) (hj : j < xs.length) (hx : x < 256) : HasB (cur.setIfInBounds (o + j) (.int .u8 (x : Int))) o (xs.set j x) := by
  refine ⟨fun u hu => ?_, fun k hk => ?_⟩
  · rcases List.mem_or_eq_of_mem_set hu with h' | h'
    · exact h.1 u h'
    · omega
  · rw [List.length_set] at hk
    have hb : o + j < cur.size := (Array.getElem?_eq_some_iff.1 (h.2 j hj)).1
    rw [gw_set xs j k x hj, Array.getElem?_setIfInBounds]
    by_cases hjk : j = k
    · subst hjk; rw [if_pos rfl, if_pos hb, if_pos rfl]
    · rw [if_neg (by omega), if_neg hjk]; exact h.2 k hk
/-- what stands in the list when the first k and the last k have changed places -/
def swaps (xs zs : List Nat) (k : Nat) : Prop := zs.length = xs.length ∧ ∀ j, j < xs.length → gw zs j = if j < k ∨ xs.length - k ≤ j then gw xs (xs.length - 1 - j) else gw xs j
theorem swaps_step {xs zs : List Nat} {k : Nat} (h : swaps xs zs k) (hk : 2 * k + 1 < xs.length) : swaps xs ((zs.set k (gw zs (xs.length - 1 - k))).set (xs.length - 1 - k) (gw zs k)) (k + 1) := by
  obtain ⟨h1, h2⟩ := h
  refine ⟨by rw [List.length_set, List.length_set, h1], fun j hj => ?_⟩
  rw [gw_set _ _ _ _ (by rw [List.length_set]; omega), gw_set _ _ _ _ (by omega)]
  have a := h2 k (by omega)
  have b := h2 (xs.length - 1 - k) (by omega)
  rw [if_neg (by omega)] at a b
  by_cases e1 : xs.length - 1 - k = j
  · subst e1
    rw [if_pos rfl, if_pos (by omega), a]
    congr 1; omega
  · rw [if_neg e1]
    by_cases e2 : k = j
    · subst e2
      rw [if_pos rfl, if_pos (by omega), b]
    · rw [if_neg e2, h2 j hj]
      by_cases e3 : j < k ∨ xs.length - k ≤ j
      · rw [if_pos e3, if_pos (by omega)]
      · rw [if_neg e3, if_neg (by omega)]
theorem swaps_end {xs zs : List Nat} {k : Nat} (h : swaps xs zs k) (hk : xs.length ≤ 2 * k + 1) : zs = xs.reverse := by
  obtain ⟨h1, h2⟩ := h
  apply List.ext_getElem
  · rw [List.length_reverse, h1]
  · intro j hj hj'
    have a := h2 j (by omega)
    have e : gw zs j = zs[j] := by simp [gw, List.getD_eq_getElem?_getD, hj]
    rw [← e, a, List.getElem_reverse]
    by_cases e3 : j < k ∨ xs.length - k ≤ j
    · rw [if_pos e3]; simp [gw, List.getD_eq_getElem?_getD, show xs.length - 1 - j < xs.length from by omega]
    · rw [if_neg e3]
      have : xs.length - 1 - j = j := by omega
      simp [this, gw, List.getD_eq_getElem?_getD, show j < xs.length from by omega]
def RevPost (w : World) (g : Nat) (t : TypeId) (cur : Array Value) (o : Nat) (xs : List Nat) (e : Ending) (w' : World) : Prop :=
  ∃ cur', e = .returned (.tuple #[]) ∧ Own w' g t cur' ∧ HasB cur' o xs.reverse ∧ cur'.size = cur.size ∧ Only g w w'
set_option maxHeartbeats 1000000 in
theorem reverse_any (w : World) (g o n c : Nat) (cur : Array Value) (xs : List Nat) (hown : Own w g 5 cur) (hh : HasB cur o xs) (hn : xs.length = n) (hm : n ≤ 1000000000) :
    Calls Try.prog 95 #[.slice (some ⟨g, o, none⟩) n c] w (RevPost w g 5 cur o xs) := by
  have HN := Lib.hid hn
  clear hn
  go_enter Try.func95, Try.ntmps95
  go_wp2
  go_loopw [2, 3] (fun i j wr => ∃ (k : Nat) (cur' : Array Value) (zs : List Nat), i = .int .i64 (k : Int) ∧ j = .int .i64 ((n : Int) - 1 - (k : Int)) ∧ 2 * k ≤ n + 1 ∧ Own wr g 5 cur' ∧ HasB cur' o zs ∧ swaps xs zs k ∧ cur'.size = cur.size ∧ Only g w wr) (fun i _ _ => n - (intOf i).toNat)
  case atStart => exact ⟨0, cur, xs, rfl, by simp, by omega, hown, hh, ⟨rfl, fun j hj => by rw [if_neg (by omega)]⟩, rfl, Only.refl _ _⟩
  case round =>
    obtain ⟨k, cur', zs, rfl, rfl, hk, hown', hh', hs, hsz, honly⟩ := hrel
    have H1 := Lib.hid hs
    have H2 := Lib.hid hsz
    have H3 := Lib.hid hown'
    clear hs hsz hown' hown
    by_cases hlt : 2 * k + 1 < n
    · have c1 := (H3.out.cell _).trans (hh'.get k (by rw [H1.out.1, HN.out]; omega))
      have c2 := (H3.out.cell _).trans (hh'.get (n - 1 - k) (by rw [H1.out.1, HN.out]; omega))
      have f1 : wr.frozen? ⟨g, o + k, none⟩ = false := H3.out.frozen _
      have f2 : wr.frozen? ⟨g, o + (n - 1 - k), none⟩ = false := H3.out.frozen _
      obtain ⟨m, hm1⟩ : ∃ m, n - 1 - k = m := ⟨_, rfl⟩
      have e1 : (n : Int) - 1 - (k : Int) = (m : Int) := by omega
      rw [hm1] at c2 f2
      have l1 : k < m := by omega
      have l2 : m < n := by omega
      have M1 := Lib.hid hm1
      rw [e1]
      clear e1 hm1
      go_wp2
      go_region
      all_goals go_wp2
      have hl : zs.length = n := by rw [H1.out.1, HN.out]
      have hA := (hh'.set_ (j := k) (x := gw zs m) (by omega) (hh'.lt m)).set_ (j := m) (x := gw zs k) (by rw [List.length_set]; omega) (hh'.lt k)
      have hS := swaps_step H1.out (by rw [HN.out]; exact hlt)
      rw [HN.out, M1.out] at hS
      have hmm := M1.out
      exact ⟨⟨k + 1, _, _, by go_num, by congr 1; omega, by omega, ((H3.out.set_ _ _).set_ _ _).drew, hA, hS, by simp [H2.out], ((honly.set_ _ _).set_ _ _).drew⟩, by simp [intOf]; omega⟩
    · go_wp2
      go_end0
      have hE := swaps_end H1.out (by rw [HN.out]; omega)
      subst hE
      exact ⟨cur', rfl, H3.out, hh', H2.out, honly⟩
end Num
end Go.Proofs.Ytkpeliokhmigoaa
