/-
  Sets of events: a part leaves nothing outside.
-/
import Derived.Test.YtakkbemldccekaaDoorSb0
import Derived.Test.YtakkbemldccekaaDoorSb1
namespace Go.Proofs.YtakkbemldccekaaDoor.Sb
set_option linter.unusedVariables false
theorem without_and (a b : Nat) : (without a b == 0) = (a &&& b == a) := by
  rw [Bool.eq_iff_iff, beq_iff_eq, beq_iff_eq]
  constructor
  · intro h
    apply Nat.eq_of_testBit_eq; intro i
    have := congrArg (·.testBit i) h
    simp only [without_tb, Nat.zero_testBit] at this
    rw [Nat.testBit_and]
    cases h1 : a.testBit i <;> cases h2 : b.testBit i <;> simp_all
  · intro h
    apply Nat.eq_of_testBit_eq; intro i
    have := congrArg (·.testBit i) h
    simp only [Nat.testBit_and] at this
    rw [without_tb, Nat.zero_testBit]
    cases h1 : a.testBit i <;> cases h2 : b.testBit i <;> simp_all
end Go.Proofs.YtakkbemldccekaaDoor.Sb
