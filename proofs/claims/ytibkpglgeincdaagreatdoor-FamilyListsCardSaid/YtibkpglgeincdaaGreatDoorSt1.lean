/-
  The specification's digits and Text of sets.
-/
import Derived.Test.YtibkpglgeincdaaGreatDoorSr2
import Derived.Test.YtibkpglgeincdaaGreatDoorSt0
import Derived.BigQuiet
namespace Go.Proofs.YtibkpglgeincdaaGreatDoor.Sb
open Go.RowKit Go.Lib
set_option linter.unusedVariables false
set_option maxRecDepth 100000
theorem digits_0 (w : World) : Calls Tryz.prog 60 #[.int .i64 0] w fun e w' => e = .returned (.string ⟨#[48]⟩) ∧ On w w' := by
  go_enter Tryz.func60, Tryz.ntmps60
  go_wp2
  go_ret
  exact ⟨by rfl, On.refl _⟩
theorem digits_1 (w : World) : Calls Tryz.prog 60 #[.int .i64 1] w fun e w' => e = .returned (.string ⟨#[49]⟩) ∧ On w w' := by
  go_enter Tryz.func60, Tryz.ntmps60
  go_wp2
  go_ret
  exact ⟨by rfl, On.refl _⟩
theorem digits_2 (w : World) : Calls Tryz.prog 60 #[.int .i64 2] w fun e w' => e = .returned (.string ⟨#[50]⟩) ∧ On w w' := by
  go_enter Tryz.func60, Tryz.ntmps60
  go_wp2
  go_ret
  exact ⟨by rfl, On.refl _⟩
theorem digits_3 (w : World) : Calls Tryz.prog 60 #[.int .i64 3] w fun e w' => e = .returned (.string ⟨#[51]⟩) ∧ On w w' := by
  go_enter Tryz.func60, Tryz.ntmps60
  go_wp2
  go_ret
  exact ⟨by rfl, On.refl _⟩
theorem digits_4 (w : World) : Calls Tryz.prog 60 #[.int .i64 4] w fun e w' => e = .returned (.string ⟨#[52]⟩) ∧ On w w' := by
  go_enter Tryz.func60, Tryz.ntmps60
  go_wp2
  go_ret
  exact ⟨by rfl, On.refl _⟩
theorem digits_5 (w : World) : Calls Tryz.prog 60 #[.int .i64 5] w fun e w' => e = .returned (.string ⟨#[53]⟩) ∧ On w w' := by
  go_enter Tryz.func60, Tryz.ntmps60
  go_wp2
  go_ret
  exact ⟨by rfl, On.refl _⟩
theorem digits_6 (w : World) : Calls Tryz.prog 60 #[.int .i64 6] w fun e w' => e = .returned (.string ⟨#[54]⟩) ∧ On w w' := by
  go_enter Tryz.func60, Tryz.ntmps60
  go_wp2
  go_ret
  exact ⟨by rfl, On.refl _⟩
theorem digits_7 (w : World) : Calls Tryz.prog 60 #[.int .i64 7] w fun e w' => e = .returned (.string ⟨#[55]⟩) ∧ On w w' := by
  go_enter Tryz.func60, Tryz.ntmps60
  go_wp2
  go_ret
  exact ⟨by rfl, On.refl _⟩
theorem digits_8 (w : World) : Calls Tryz.prog 60 #[.int .i64 8] w fun e w' => e = .returned (.string ⟨#[56]⟩) ∧ On w w' := by
  go_enter Tryz.func60, Tryz.ntmps60
  go_wp2
  go_ret
  exact ⟨by rfl, On.refl _⟩
theorem digits_9 (w : World) : Calls Tryz.prog 60 #[.int .i64 9] w fun e w' => e = .returned (.string ⟨#[57]⟩) ∧ On w w' := by
  go_enter Tryz.func60, Tryz.ntmps60
  go_wp2
  go_ret
  exact ⟨by rfl, On.refl _⟩
theorem digits_10 (w : World) : Calls Tryz.prog 60 #[.int .i64 10] w fun e w' => e = .returned (.string ⟨#[49, 48]⟩) ∧ On w w' := by
  go_enter Tryz.func60, Tryz.ntmps60
  go_wp2
  go_quiet (fail)
  all_goals go_wp2
  go_ret
  exact ⟨by rfl, (On.refl w).drewN _⟩
theorem digits_11 (w : World) : Calls Tryz.prog 60 #[.int .i64 11] w fun e w' => e = .returned (.string ⟨#[49, 49]⟩) ∧ On w w' := by
  go_enter Tryz.func60, Tryz.ntmps60
  go_wp2
  go_quiet (fail)
  all_goals go_wp2
  go_ret
  exact ⟨by rfl, (On.refl w).drewN _⟩
theorem digits_12 (w : World) : Calls Tryz.prog 60 #[.int .i64 12] w fun e w' => e = .returned (.string ⟨#[49, 50]⟩) ∧ On w w' := by
  go_enter Tryz.func60, Tryz.ntmps60
  go_wp2
  go_quiet (fail)
  all_goals go_wp2
  go_ret
  exact ⟨by rfl, (On.refl w).drewN _⟩
theorem digits_13 (w : World) : Calls Tryz.prog 60 #[.int .i64 13] w fun e w' => e = .returned (.string ⟨#[49, 51]⟩) ∧ On w w' := by
  go_enter Tryz.func60, Tryz.ntmps60
  go_wp2
  go_quiet (fail)
  all_goals go_wp2
  go_ret
  exact ⟨by rfl, (On.refl w).drewN _⟩
theorem digits_14 (w : World) : Calls Tryz.prog 60 #[.int .i64 14] w fun e w' => e = .returned (.string ⟨#[49, 52]⟩) ∧ On w w' := by
  go_enter Tryz.func60, Tryz.ntmps60
  go_wp2
  go_quiet (fail)
  all_goals go_wp2
  go_ret
  exact ⟨by rfl, (On.refl w).drewN _⟩
theorem digits_15 (w : World) : Calls Tryz.prog 60 #[.int .i64 15] w fun e w' => e = .returned (.string ⟨#[49, 53]⟩) ∧ On w w' := by
  go_enter Tryz.func60, Tryz.ntmps60
  go_wp2
  go_quiet (fail)
  all_goals go_wp2
  go_ret
  exact ⟨by rfl, (On.refl w).drewN _⟩
theorem digits_16 (w : World) : Calls Tryz.prog 60 #[.int .i64 16] w fun e w' => e = .returned (.string ⟨#[49, 54]⟩) ∧ On w w' := by
  go_enter Tryz.func60, Tryz.ntmps60
  go_wp2
  go_quiet (fail)
  all_goals go_wp2
  go_ret
  exact ⟨by rfl, (On.refl w).drewN _⟩
theorem digits_17 (w : World) : Calls Tryz.prog 60 #[.int .i64 17] w fun e w' => e = .returned (.string ⟨#[49, 55]⟩) ∧ On w w' := by
  go_enter Tryz.func60, Tryz.ntmps60
  go_wp2
  go_quiet (fail)
  all_goals go_wp2
  go_ret
  exact ⟨by rfl, (On.refl w).drewN _⟩
theorem digits_18 (w : World) : Calls Tryz.prog 60 #[.int .i64 18] w fun e w' => e = .returned (.string ⟨#[49, 56]⟩) ∧ On w w' := by
  go_enter Tryz.func60, Tryz.ntmps60
  go_wp2
  go_quiet (fail)
  all_goals go_wp2
  go_ret
  exact ⟨by rfl, (On.refl w).drewN _⟩
theorem digits_19 (w : World) : Calls Tryz.prog 60 #[.int .i64 19] w fun e w' => e = .returned (.string ⟨#[49, 57]⟩) ∧ On w w' := by
  go_enter Tryz.func60, Tryz.ntmps60
  go_wp2
  go_quiet (fail)
  all_goals go_wp2
  go_ret
  exact ⟨by rfl, (On.refl w).drewN _⟩
theorem digits_20 (w : World) : Calls Tryz.prog 60 #[.int .i64 20] w fun e w' => e = .returned (.string ⟨#[50, 48]⟩) ∧ On w w' := by
  go_enter Tryz.func60, Tryz.ntmps60
  go_wp2
  go_quiet (fail)
  all_goals go_wp2
  go_ret
  exact ⟨by rfl, (On.refl w).drewN _⟩
theorem digits_21 (w : World) : Calls Tryz.prog 60 #[.int .i64 21] w fun e w' => e = .returned (.string ⟨#[50, 49]⟩) ∧ On w w' := by
  go_enter Tryz.func60, Tryz.ntmps60
  go_wp2
  go_quiet (fail)
  all_goals go_wp2
  go_ret
  exact ⟨by rfl, (On.refl w).drewN _⟩
theorem digits_22 (w : World) : Calls Tryz.prog 60 #[.int .i64 22] w fun e w' => e = .returned (.string ⟨#[50, 50]⟩) ∧ On w w' := by
  go_enter Tryz.func60, Tryz.ntmps60
  go_wp2
  go_quiet (fail)
  all_goals go_wp2
  go_ret
  exact ⟨by rfl, (On.refl w).drewN _⟩
theorem digits_23 (w : World) : Calls Tryz.prog 60 #[.int .i64 23] w fun e w' => e = .returned (.string ⟨#[50, 51]⟩) ∧ On w w' := by
  go_enter Tryz.func60, Tryz.ntmps60
  go_wp2
  go_quiet (fail)
  all_goals go_wp2
  go_ret
  exact ⟨by rfl, (On.refl w).drewN _⟩
theorem digits_any (w : World) (i : Nat) (h : i < 24) : Calls Tryz.prog 60 #[.int .i64 (i : Int)] w fun e w' => e = .returned (.string (str (dig2 i))) ∧ On w w' := by
  match i, h with
  | 0, _ => exact digits_0 w
  | 1, _ => exact digits_1 w
  | 2, _ => exact digits_2 w
  | 3, _ => exact digits_3 w
  | 4, _ => exact digits_4 w
  | 5, _ => exact digits_5 w
  | 6, _ => exact digits_6 w
  | 7, _ => exact digits_7 w
  | 8, _ => exact digits_8 w
  | 9, _ => exact digits_9 w
  | 10, _ => exact digits_10 w
  | 11, _ => exact digits_11 w
  | 12, _ => exact digits_12 w
  | 13, _ => exact digits_13 w
  | 14, _ => exact digits_14 w
  | 15, _ => exact digits_15 w
  | 16, _ => exact digits_16 w
  | 17, _ => exact digits_17 w
  | 18, _ => exact digits_18 w
  | 19, _ => exact digits_19 w
  | 20, _ => exact digits_20 w
  | 21, _ => exact digits_21 w
  | 22, _ => exact digits_22 w
  | 23, _ => exact digits_23 w
  | n + 24, h => exact absurd h (by omega)
end Go.Proofs.YtibkpglgeincdaaGreatDoor.Sb
