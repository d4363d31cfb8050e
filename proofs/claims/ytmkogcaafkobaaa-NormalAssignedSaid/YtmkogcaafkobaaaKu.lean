/-
  The specification of three values: Check, Value, Next.
-/
import Derived.Test.YtmkogcaafkobaaaKt
namespace Go.Proofs.Ytmkogcaafkobaaa.Fm
open Go.RowKit Go.Proofs.Ytmkogcaafkobaaa.Sb
set_option linter.unusedVariables false
set_option maxRecDepth 100000
/-- the error of a cube -/
def cubErr (vars : Nat) (y n : Int) : Nat := if setB vars y = false ∨ setB vars n = false then 3 else if bits .and .i64 y n = 0 then 0 else 6
/-- a cube without error -/
theorem cub_zero {vars : Nat} (hv : vars ≤ 24) {y n : Int} (h : cubErr vars y n = 0) : ∃ a b : Nat, y = (a : Int) ∧ n = (b : Int) ∧ a < 2 ^ vars ∧ b < 2 ^ vars ∧ Dis a b := by
  unfold cubErr at h
  split at h
  · omega
  rename_i h1
  split at h
  · rename_i h2
    have hy : setB vars y = true := by
      cases e : setB vars y with
      | true => rfl
      | false => exact absurd (.inl e) h1
    have hn : setB vars n = true := by
      cases e : setB vars n with
      | true => rfl
      | false => exact absurd (.inr e) h1
    obtain ⟨a, rfl, ha⟩ := setB_nat hy
    obtain ⟨b, rfl, hb⟩ := setB_nat hn
    have h24 := pow24 hv
    rw [and_nat a b (by omega) (by omega)] at h2
    refine ⟨a, b, rfl, rfl, ha, hb, fun i ⟨h3, h4⟩ => ?_⟩
    have h5 : (a &&& b).testBit i = true := by rw [Nat.testBit_and, h3, h4]; rfl
    have h6 : a &&& b = 0 := by omega
    rw [h6] at h5
    simp at h5
  · omega
end Go.Proofs.Ytmkogcaafkobaaa.Fm
