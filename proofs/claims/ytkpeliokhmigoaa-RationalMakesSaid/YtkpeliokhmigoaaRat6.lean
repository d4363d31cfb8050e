/-
  Floor; power of words.
-/
import Derived.Test.YtkpeliokhmigoaaRat5
import Derived.Laws.BitsAllLaws
namespace Go.Proofs.Ytkpeliokhmigoaa
open Go.RowKit
set_option linter.unusedVariables false
namespace Num
set_option maxHeartbeats 800000 in
theorem floorr_any (w : World) (s : Bool) (A A' : Option Addr) (n c n' c' L : Nat) (xs ys : List Nat) (h : Rd w A n c xs) (k : Rd w A' n' c' ys) (hn : n ≤ L) (hn' : n' ≤ L) (hL2 : 2 ≤ L) (hL : L ≤ 4000) :
    Calls Try.prog 32 #[.agg #[.bool s, .slice A n c, .slice A' n' c']] w (RatPost w ((flr (raw s xs ys) : Int) : Rat) (L + 1)) := by
  have B := ((On.refl w).alloc (.cells #[.bool s, .slice A n c, .slice A' n' c'] 24)).alloc (.cells #[.bool false, .slice none 0 0, .slice none 0 0] 24)
  have O2 := own_nextr w (.cells #[.bool s, .slice A n c, .slice A' n' c'] 24) 24 #[.bool false, .slice none 0 0, .slice none 0 0]
  have HO2 := Lib.hid O2
  obtain ⟨r, hr⟩ : ∃ r, raw s xs ys = r := ⟨_, rfl⟩
  rw [hr]
  have HR := Lib.hid hr
  obtain ⟨q, hq⟩ : ∃ q : Rat, ((flr r : Int) : Rat) = q := ⟨_, rfl⟩
  rw [hq]
  have HQ := Lib.hid hq
  clear O2 hr hq
  go_enter Try.func32, Try.ntmps32
  go_wp2_with fail
  refine (value_any _ _ _ _ _ _ _ _ L _ _ (h.on B) (k.on B) hn hn' (by omega)).mono ?_
  rintro e w2 ⟨v, rfl, I, P2⟩
  rw [HR.out] at I
  go_wp2_with fail
  refine (floor_any _ _ _ L I hL2 hL).mono ?_
  rintro e w3 ⟨v3, rfl, I3, P3⟩
  rw [HQ.out] at I3
  obtain ⟨A8, n8, c8, xs8, A9, n9, c9, ys9, rfl, J⟩ := id I3
  have O3 := (HO2.out.on P2).on P3
  have r0 : w3.cell? ⟨w.heap.size + 1, 0, none⟩ = some (.bool false) := O3.cell 0
  have rf0 := O3.frozen 0
  have r1 : w3.cell? ⟨w.heap.size + 1, 1, none⟩ = some (.slice none 0 0) := O3.cell 1
  have rf1 := O3.frozen 1
  have r2 : w3.cell? ⟨w.heap.size + 1, 2, none⟩ = some (.slice none 0 0) := O3.cell 2
  have rf2 := O3.frozen 2
  go_wp2
  exact bodyPost_ret (v := .agg #[.bool (decide (q < 0)), .slice A8 n8 c8, .slice A9 n9 c9]) (by simp [results, Try.results32, go_sem, r0, r1, r2]) rfl ⟨_, rfl, isR_put I3 O3 _ _ _, on3 (g := w.heap.size + 1) ((B.trans P2).trans P3) (by omega) _ _ _⟩
end Num
end Go.Proofs.Ytkpeliokhmigoaa
