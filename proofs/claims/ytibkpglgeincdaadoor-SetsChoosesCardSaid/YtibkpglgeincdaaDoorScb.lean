/-
  Parts, for any int: the program and the specification.
-/
import Derived.Test.YtibkpglgeincdaaDoorSca
namespace Go.Proofs.YtibkpglgeincdaaDoor.Sb
open Go.RowKit
set_option linter.unusedVariables false
set_option maxRecDepth 100000
set_option maxHeartbeats 1000000 in
theorem rparts_bad (w : World) (s : Int) (h : ¬ (0 ≤ s ∧ s < 16777216)) :
    Calls Tryd.prog 12 #[.int .i64 s] w fun e w' => e = .returned (.tuple #[.slice none 0 0, .int .i64 3]) ∧ w = w' := by
  have hV := fun W => rvalid_any W s
  rw [decide_eq_false h] at hV
  go_enter Tryd.func12, Tryd.ntmps12
  go_wp2_with (refine (hV _).mono ?_; rintro e w' ⟨rfl, rfl⟩)
  go_ret2
  exact ⟨rfl, rfl⟩
set_option maxHeartbeats 1000000 in
theorem rparts_large (w : World) (s : Nat) (hs : s < 16777216) (h : 10 < pc s) :
    Calls Tryd.prog 12 #[.int .i64 (s : Int)] w fun e w' => e = .returned (.tuple #[.slice none 0 0, .int .i64 4]) ∧ w = w' := by
  have hV := fun W => rvalid_any W (s : Int)
  rw [decide_eq_true (show (0 : Int) ≤ (s : Int) ∧ (s : Int) < 16777216 by omega)] at hV
  have hC := fun W => rcount_any W (s : Int)
  rw [cut_nat s hs] at hC
  have hpc : (10 : Int) < ((pc s : Nat) : Int) := by omega
  generalize pc s = pp at *
  go_enter Tryd.func12, Tryd.ntmps12
  go_wp2_with (first | (with_reducible refine (hV _).mono ?_; rintro e w' ⟨rfl, rfl⟩) | (with_reducible refine (hC _).mono ?_; rintro e w' ⟨rfl, rfl⟩))
  go_ret2
  exact ⟨rfl, rfl⟩
theorem parts_all (w : World) (s : Int) :
    Calls Tryd.prog 8 #[.int .i64 s] w (GivesI w (ints (partsR s).1) (partsR s).2) := by
  unfold partsR
  by_cases h : 0 ≤ s ∧ s < 16777216
  · rw [if_pos h]
    obtain ⟨a, rfl⟩ : ∃ a : Nat, s = (a : Int) := ⟨s.toNat, by omega⟩
    rw [Int.toNat_natCast]
    by_cases hl : 10 < pc a
    · rw [if_pos hl]
      refine (parts_large w a (by omega) hl).mono ?_
      rintro e w' ⟨rfl, rfl⟩
      exact ⟨none, 0, 0, rfl, Rd.nil_ _, On.refl _⟩
    · rw [if_neg hl]
      refine (parts_any w a (by omega) (by omega)).mono ?_
      rintro e w' ⟨A, n, c, l, rfl, hl, hR, hO⟩
      refine ⟨A, n, c, rfl, ?_, hO⟩
      have e2 : l = sortU (pl (els a) (els a).length) := sortU_uniq hl.1 fun x => by rw [hl.2.1, pl_sub a (by omega)]
      rw [← e2]; exact hR
  · rw [if_neg h]
    refine (parts_bad w s h).mono ?_
    rintro e w' ⟨rfl, rfl⟩
    exact ⟨none, 0, 0, rfl, Rd.nil_ _, On.refl _⟩
theorem rparts_all (w : World) (s : Int) :
    Calls Tryd.prog 12 #[.int .i64 s] w (GivesC w (partsR s).1 (partsR s).2) := by
  unfold partsR
  by_cases h : 0 ≤ s ∧ s < 16777216
  · rw [if_pos h]
    obtain ⟨a, rfl⟩ : ∃ a : Nat, s = (a : Int) := ⟨s.toNat, by omega⟩
    rw [Int.toNat_natCast]
    by_cases hl : 10 < pc a
    · rw [if_pos hl]
      refine (rparts_large w a (by omega) hl).mono ?_
      rintro e w' ⟨rfl, rfl⟩
      exact ⟨none, 0, 0, rfl, Rd.nil_ _, On.refl _⟩
    · rw [if_neg hl]
      exact rparts_run w a (by omega) (by omega)
  · rw [if_neg h]
    refine (rparts_bad w s h).mono ?_
    rintro e w' ⟨rfl, rfl⟩
    exact ⟨none, 0, 0, rfl, Rd.nil_ _, On.refl _⟩
end Go.Proofs.YtibkpglgeincdaaDoor.Sb
