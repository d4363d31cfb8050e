/-
  The document's examples: awake returns true.
-/
import Derived.Test.YtibkpglgeincdaaDoorSs8
namespace Go.Proofs.YtibkpglgeincdaaDoor.Sb
open Go.RowKit Go.Lib
set_option linter.unusedVariables false
set_option maxRecDepth 100000
theorem ex_of : ofS [3, 0] = (9, 0) := by decide
theorem ex_next : nextS 6 = (9, 0) := by decide
theorem ex_cmp : cmpS (cut 8) (cut 3) = -1 := by decide
theorem ex_text : str (textL 9) = ⟨#[123, 48, 44, 32, 51, 125]⟩ := by
  have e : els 9 = [0, 3] := by decide
  unfold textL digs
  rw [e]
  simp only [List.map_cons, List.map_nil]
  rw [decDigits_one (by decide), decDigits_one (by decide)]
  rfl
theorem ex_parts (l : List Nat) (h : PartsL l 5) : l = [0, 1, 4, 5] := by
  refine asc_eq l _ h.1 (by unfold Asc; decide) fun x => ?_
  rw [h.2.1]
  constructor
  · rintro ⟨_, e⟩
    have hx : x ≤ 5 := by rw [← e]; exact Nat.and_le_right
    have key : ∀ y, y < 6 → y &&& 5 = y → y ∈ [0, 1, 4, 5] := by decide
    exact key x (by omega) e
  · intro hx
    have key : ∀ y, y ∈ [0, 1, 4, 5] → y < 2 ^ 24 ∧ y &&& 5 = y := by decide
    exact key x hx
set_option maxHeartbeats 2000000 in
theorem awake_any (w : World) (hT : Tab w) :
    Calls Tryd.prog 5 #[] w fun e w' => e = .returned (.bool true) ∧ On w w' := by
  have R1 := rd_lit w 3 #[.int .i64 3, .int .i64 0] (VI [3, 0]) 2 rfl rfl (by omega)
  have P1 := (On.refl w).alloc (.cells #[.int .i64 3, .int .i64 0] 3)
  have hO := of_any _ _ _ _ _ R1
  rw [ex_of] at hO
  have hT1 := hT.on P1
  have hX := fun W => text_any W 9 (by decide)
  rw [ex_text] at hX
  have hN := fun W hT => next_any W 6 hT
  rw [ex_next] at hN
  have hP := fun W => parts_any W 5 (by decide) (by decide)
  have hC := fun W => compare_any W 8 3
  rw [ex_cmp] at hC
  go_enter Tryd.func5, Tryd.ntmps5
  go_wp2_with (first | (with_reducible refine hO.mono ?_; rintro e w' ⟨rfl, rfl⟩; rw [errV_zero]) | fail)
  generalize w.alloc (.cells #[.int .i64 3, .int .i64 0] 3) = w1 at *
  clear hO R1
  go_wp2_with fail
  refine (hX _).mono ?_
  rintro e w2 ⟨rfl, P2⟩
  rw [errV_zero]
  have hT2 := hT1.on P2
  have hN2 := hN _ hT2
  go_wp2_with fail
  refine hN2.mono ?_
  rintro e w' ⟨rfl, rfl⟩
  rw [errV_zero]
  go_wp2_with fail
  refine (hP _).mono ?_
  rintro e w3 ⟨A3, n3, c3, l3, rfl, L3, R3, P3⟩
  rw [errV_zero]
  have e3 := ex_parts _ L3
  subst e3
  clear hN2 hN hP hX L3
  have R4 := R3.alloc (.cells #[.int .i64 0, .int .i64 1, .int .i64 4, .int .i64 5] 3)
  have R5 := rd_lit w3 3 #[.int .i64 0, .int .i64 1, .int .i64 4, .int .i64 5] (VI (ints [0, 1, 4, 5])) 4 rfl rfl (by omega)
  have hI := ints_any _ _ _ _ _ _ _ _ _ R4 R5
  rw [decide_eq_true rfl] at hI
  go_wp2_with (first | (with_reducible refine hI.mono ?_; rintro e w4 ⟨rfl, P4⟩) | (with_reducible refine (hC _).mono ?_; rintro e w' ⟨rfl, rfl⟩))
  go_ret
  exact ⟨rfl, ((P1.trans P2).trans P3).trans (((On.refl _).alloc _).trans P4)⟩
end Go.Proofs.YtibkpglgeincdaaDoor.Sb
