/-
  Plain arithmetic of fractions, no program: a sign, a numerator and a denominator make a rational number.
-/
import Derived.Test.YtkpeliokhmigoaaVal
namespace Go.Proofs.Ytkpeliokhmigoaa
set_option linter.unusedVariables false
namespace Num
/-- a number with a sign -/
def sgn (s : Bool) (x : Nat) : Int := if s = true then -(x : Int) else (x : Int)
theorem sgn_natAbs (s : Bool) (x : Nat) : (sgn s x).natAbs = x := by cases s <;> simp [sgn]
theorem sgn_neg {s : Bool} {x : Nat} (h : 0 < x) : (decide (sgn s x < 0)) = s := by cases s <;> simp [sgn] <;> omega
theorem sgn_zero (s : Bool) : sgn s 0 = 0 := by cases s <;> rfl
theorem sgn_of (z : Int) : sgn (decide (z < 0)) z.natAbs = z := by
  unfold sgn
  by_cases h : z < 0
  · simp only [h, decide_true, if_true]; omega
  · simp only [h, decide_false]; rw [if_neg (by decide)]; omega
theorem sgn_mul (s t : Bool) (x y : Nat) : sgn s x * sgn t y = sgn (s != t) (x * y) := by
  cases s <;> cases t <;> simp [sgn, Int.mul_neg, Int.neg_mul]
/-- the fraction -/
def fr (s : Bool) (x y : Nat) : Rat := mkRat (sgn s x) y
theorem fr_zero (s : Bool) (y : Nat) : fr s 0 y = 0 := by unfold fr; rw [sgn_zero]; simp
theorem rat_neg_iff (r : Rat) : r < 0 ↔ r.num < 0 := by
  rw [Rat.lt_iff]; simp
theorem fr_self (r : Rat) : fr (decide (r < 0)) r.num.natAbs r.den = r := by
  unfold fr
  have : decide (r < 0) = decide (r.num < 0) := by simp only [rat_neg_iff]
  rw [this, sgn_of, Rat.mkRat_self]
theorem fr_num (s : Bool) (x y : Nat) (hy : 0 < y) : (fr s x y).num = sgn s (x / Nat.gcd x y) := by
  unfold fr
  rw [Rat.num_mkRat, if_neg (by omega), sgn_natAbs, Nat.gcd_comm]
  have hg : Nat.gcd x y ∣ x := Nat.gcd_dvd_left x y
  cases s
  · simp [sgn, Int.natCast_ediv]
  · simp only [sgn, if_true]
    rw [Int.neg_ediv_of_dvd (Int.natCast_dvd_natCast.2 hg), Int.natCast_ediv]
theorem fr_den (s : Bool) (x y : Nat) (hy : 0 < y) : (fr s x y).den = y / Nat.gcd x y := by
  unfold fr
  rw [Rat.den_mkRat, if_neg (by omega), sgn_natAbs, Nat.gcd_comm]
theorem fr_abs (s : Bool) (x y : Nat) (hy : 0 < y) : (fr s x y).num.natAbs = x / Nat.gcd x y := by rw [fr_num s x y hy, sgn_natAbs]
theorem fr_sign (s : Bool) (x y : Nat) (hy : 0 < y) (hx : 0 < x) : decide (fr s x y < 0) = s := by
  have : decide (fr s x y < 0) = decide ((fr s x y).num < 0) := by simp only [rat_neg_iff]
  rw [this, fr_num s x y hy]
  exact sgn_neg (Nat.div_pos (Nat.le_of_dvd hx (Nat.gcd_dvd_left x y)) (Nat.gcd_pos_of_pos_left _ hx))
theorem fr_ne (s : Bool) (x y : Nat) (hy : 0 < y) (hx : 0 < x) : fr s x y ≠ 0 := by
  unfold fr
  rw [Rat.mkRat_ne_zero (by omega)]
  cases s <;> simp [sgn] <;> omega
theorem num_pos_of_ne {r : Rat} (h : r ≠ 0) : 0 < r.num.natAbs := by
  have : r.num ≠ 0 := fun e => h (Rat.num_eq_zero.1 e)
  omega
theorem fr_neg (s : Bool) (x y : Nat) : -(fr s x y) = fr (!s) x y := by
  unfold fr; rw [Rat.neg_mkRat]; cases s <;> simp [sgn]
/-- the sum as the program makes it -/
theorem add_fields (a b : Rat) : let g := Nat.gcd a.den b.den
    let n := a.num * ((b.den / g : Nat) : Int) + b.num * ((a.den / g : Nat) : Int)
    (a + b).num = n / ((Nat.gcd n.natAbs g : Nat) : Int) ∧ (a + b).den = (a.den / g) * (b.den / Nat.gcd n.natAbs g) := by
  intro g n
  have hgp : 0 < g := Nat.gcd_pos_of_pos_left _ a.den_pos
  have hd : Nat.gcd n.natAbs g ∣ b.den := Nat.dvd_trans (Nat.gcd_dvd_right _ _) (Nat.gcd_dvd_right _ _)
  rw [← Nat.mul_div_assoc _ hd]
  show (Rat.add a b).num = _ ∧ (Rat.add a b).den = _
  delta Rat.add
  dsimp only
  split
  · rename_i h1
    have hg : g = 1 := h1
    simp only [n, hg, Nat.div_one, Nat.gcd_one_right, Int.natCast_one, Int.ediv_one]
    exact ⟨trivial, trivial⟩
  · rw [Rat.maybeNormalize_eq]
    dsimp only
    rw [Int.divExact_eq_ediv]
    exact ⟨rfl, rfl⟩
/-- the product as the program makes it -/
theorem mul_fields (a b : Rat) : let g := Nat.gcd a.num.natAbs b.den
    let h := Nat.gcd b.num.natAbs a.den
    (a * b).num.natAbs = a.num.natAbs / g * (b.num.natAbs / h) ∧ (a * b).den = (a.den / h) * (b.den / g) := by
  intro g h
  show (Rat.mul a b).num.natAbs = _ ∧ (Rat.mul a b).den = _
  delta Rat.mul
  dsimp only
  rw [Int.divExact_eq_tdiv, Int.divExact_eq_tdiv, Nat.divExact_eq_div, Nat.divExact_eq_div, Int.natAbs_mul, Int.natAbs_tdiv, Int.natAbs_tdiv]
  exact ⟨rfl, rfl⟩
end Num
end Go.Proofs.Ytkpeliokhmigoaa
