/-
  Least and greatest numbers of spans.
-/
import Derived.Test.YtkchpagjkgmpmaaSsm
namespace Go.Proofs.Ytkchpagjkgmpmaa
open Go.RowKit
set_option linter.unusedVariables false
namespace Num
theorem rmin_le_l (x y : Rat) : rmin x y ≤ x := by unfold rmin; split <;> grind
theorem rmin_le_r (x y : Rat) : rmin x y ≤ y := by unfold rmin; split <;> grind
theorem le_rmax_l (x y : Rat) : x ≤ rmax x y := by unfold rmax; split <;> grind
theorem le_rmax_r (x y : Rat) : y ≤ rmax x y := by unfold rmax; split <;> grind
def ins (l h l' h' : Rat) : Bool := decide (l' ≤ l) && decide (h ≤ h')
theorem le_rmin_iff (x y z : Rat) : z ≤ rmin x y ↔ z ≤ x ∧ z ≤ y := by unfold rmin; split <;> grind
theorem rmin_le_iff (x y z : Rat) : rmin x y ≤ z ↔ x ≤ z ∨ y ≤ z := by unfold rmin; split <;> grind
theorem rmax_le_iff (x y z : Rat) : rmax x y ≤ z ↔ x ≤ z ∧ y ≤ z := by unfold rmax; split <;> grind
theorem hull_le {a b c d : Rat} (h : a ≤ b) (k : c ≤ d) : rmin a c ≤ rmax b d := Rat.le_trans (rmin_le_l a c) (Rat.le_trans h (le_rmax_l b d))
theorem ins_true {l h l' h' : Rat} (a : l' ≤ l) (b : h ≤ h') : ins l h l' h' = true := by unfold ins; rw [decide_eq_true a, decide_eq_true b]; rfl
theorem is_err (w : World) (x : Int) : Calls Try.prog 31 #[.iface 52 (.int .i64 x), .int .i64 x] w fun e w' => e = .returned (.bool true) ∧ w = w' := by
  have hta : ∀ W, (Instr.typeAssert (.iface 52 (.int .i64 x)) 28 52 true).run Try.prog W = .ok (.tuple #[.int .i64 x, .bool true]) W := fun _ => by kernel_rfl
  go_enter Try.func31, Try.ntmps31
  go_wp2
  go_ret
  exact ⟨rfl, rfl⟩
end Num
end Go.Proofs.Ytkchpagjkgmpmaa
