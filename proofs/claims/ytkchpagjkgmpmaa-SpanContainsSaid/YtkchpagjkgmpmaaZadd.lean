/-
  The specification's Neg, Abs, Add, Sub, Mul.
-/
import Derived.Test.YtkchpagjkgmpmaaZneg
namespace Go.Proofs.Ytkchpagjkgmpmaa
open Go.RowKit
set_option linter.unusedVariables false
namespace Num
theorem fr_negp (r : Rat) : fr (!decide (r < 0)) r.num.natAbs r.den = -r := by rw [← fr_neg, fr_self]
def rabs (r : Rat) : Rat := if r < 0 then -r else r
theorem fr_absp (r : Rat) : fr false r.num.natAbs r.den = rabs r := by
  unfold rabs
  by_cases h : r < 0
  · rw [if_pos h, ← fr_negp, show decide (r < 0) = true from decide_eq_true h]; rfl
  · rw [if_neg h]
    have := fr_self r
    rw [show decide (r < 0) = false from decide_eq_false h] at this
    exact this
theorem fr_mk (r : Rat) : r = mkRat (sgn (decide (r < 0)) r.num.natAbs) r.den := (fr_self r).symm
theorem fr_add (r q : Rat) (s : Bool) (z : Nat) (h : sgn s z = sgn (decide (r < 0)) (r.num.natAbs * q.den) + sgn (decide (q < 0)) (q.num.natAbs * r.den)) : fr s z (r.den * q.den) = r + q := by
  unfold fr
  rw [h, sgn_mul_nat, sgn_mul_nat]
  conv => rhs; rw [fr_mk r, fr_mk q]
  rw [Rat.mkRat_add_mkRat _ _ (by have := r.den_pos; omega) (by have := q.den_pos; omega)]
theorem fr_mul (r q : Rat) : fr (decide (r < 0) != decide (q < 0)) (r.num.natAbs * q.num.natAbs) (r.den * q.den) = r * q := by
  unfold fr
  rw [← sgn_mul]
  conv => rhs; rw [fr_mk r, fr_mk q]
  rw [Rat.mkRat_mul_mkRat]
theorem fr_div (r q : Rat) (h : q ≠ 0) : fr (decide (r < 0) != decide (q < 0)) (r.num.natAbs * q.den) (r.den * q.num.natAbs) = r * q⁻¹ := by
  rw [inv_fr h]
  unfold fr
  rw [← sgn_mul]
  conv => rhs; rw [fr_mk r]
  rw [Rat.mkRat_mul_mkRat]
end Num
end Go.Proofs.Ytkchpagjkgmpmaa
