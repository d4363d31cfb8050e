/-
  Plain arithmetic, no program: the leading bits of a number; the sum of two multiples, word by word.
-/
import Derived.Test.YtkpeliokhmigoaaVal
import Derived.Test.YtkpeliokhmigoaaLeh
namespace Go.Proofs.Ytkpeliokhmigoaa
set_option linter.unusedVariables false
namespace Num
/-- the three words from place m on -/
theorem val_div_pow (xs : List Nat) (h : Ok xs) (m : Nat) : val xs / BB ^ m = val (xs.drop m) := by
  have hp : 0 < BB ^ m := Nat.pow_pos BB_pos
  rcases Nat.lt_or_ge xs.length m with hl | hl
  · rw [List.drop_of_length_le (by omega)]
    have h1 := val_lt h
    have h2 : BB ^ xs.length ≤ BB ^ m := Nat.pow_le_pow_right BB_pos (by omega)
    exact Nat.div_eq_of_lt (by omega)
  · rw [val_split xs m hl, Nat.add_mul_div_left _ _ hp]
    have := val_lt (h.take m)
    rw [List.length_take, Nat.min_eq_left hl] at this
    rw [Nat.div_eq_of_lt this, Nat.zero_add]
theorem val_drop_any' (l : List Nat) (k : Nat) : val (l.drop k) = gw l k + BB * val (l.drop (k + 1)) := by
  rcases Nat.lt_or_ge k l.length with h | h
  · exact val_drop l k h
  · rw [List.drop_of_length_le h, List.drop_of_length_le (by omega), getD_ge h]; rfl
theorem val_three (xs : List Nat) (h : Ok xs) (m : Nat) (hl : xs.length ≤ m + 3) : val xs / BB ^ m = (gw xs (m + 2) * BB + gw xs (m + 1)) * BB + gw xs m := by
  rw [val_div_pow xs h m, val_drop_any' xs m, val_drop_any' xs (m + 1), val_drop_any' xs (m + 2), List.drop_of_length_le (show xs.length ≤ m + 2 + 1 by omega)]
  simp only [val, Nat.mul_zero, Nat.add_zero]
  rw [Nat.mul_comm BB, Nat.mul_comm BB, Nat.add_comm (gw xs (m + 1))]
  omega
/-- what leading computes: two words shifted, and the bits of the third that come in -/
theorem lead_bits (t g s : Nat) (hs : s ≤ 31) : (t * 2 ^ s + g * 2 ^ s / 4294967296) / 4 = (t * 4294967296 + g) / 2 ^ (34 - s) := by
  have h1 : t * 2 ^ s + g * 2 ^ s / 4294967296 = (t * 4294967296 + g) * 2 ^ s / 4294967296 := by
    rw [Nat.add_mul, show t * 4294967296 * 2 ^ s = (t * 2 ^ s) * 4294967296 from by rw [Nat.mul_right_comm], Nat.mul_comm (t * 2 ^ s) 4294967296, Nat.mul_add_div (by decide)]
  rw [h1, Nat.div_div_eq_div_mul, show (4294967296 : Nat) * 4 = 2 ^ (34 - s) * 2 ^ s from by rw [← Nat.pow_add, show 34 - s + s = 34 from by omega], Nat.mul_div_mul_right _ _ (Nat.pow_pos (by decide))]
/-- the remainder of the cut -/
theorem cut_low (v K : Nat) (hK : 0 < K) : 0 ≤ (v : Int) - (K : Int) * ((v / K : Nat) : Int) ∧ (v : Int) - (K : Int) * ((v / K : Nat) : Int) ≤ (K : Int) := by
  have h1 := Nat.div_add_mod v K
  have h2 := Nat.mod_lt v hK
  have h3 : (K : Int) * ((v / K : Nat) : Int) = ((K * (v / K) : Nat) : Int) := by rw [Int.natCast_mul]
  rw [h3]
  omega
/-- one word of the sum of two multiples -/
theorem comb_step (P v t a b s r x y T : Int) (h : v + P * t = s * a + r * b) (hT : T = t + (s * x + r * y)) :
    v + P * (T % 4294967296) + P * 4294967296 * (T / 4294967296) = s * (a + P * x) + r * (b + P * y) := by
  have h1 := Int.mul_ediv_add_emod T 4294967296
  have h2 : P * (T % 4294967296) + P * 4294967296 * (T / 4294967296) = P * T := by
    rw [Int.mul_assoc, ← Int.mul_add]; congr 1; omega
  rw [Int.add_assoc, h2, hT]
  grind
theorem comb_mul (s x : Int) (hs : -1073741824 ≤ s ∧ s ≤ 1073741824) (hx : 0 ≤ x ∧ x ≤ 4294967295) : -4611686017353646080 ≤ s * x ∧ s * x ≤ 4611686017353646080 := by
  have h1 : s * x ≤ 1073741824 * x := Int.mul_le_mul_of_nonneg_right hs.2 hx.1
  have h2 : (-1073741824) * x ≤ s * x := Int.mul_le_mul_of_nonneg_right hs.1 hx.1
  omega
/-- the end: nothing is carried -/
theorem comb_end (v P t z : Int) (h : v + P * t = z) (hv : 0 ≤ v) (hvP : v < P) (hz : 0 ≤ z) (hzP : z < P) : v = z := by
  have ht : t = 0 := by
    rcases Int.lt_trichotomy t 0 with h0 | h0 | h0
    · have : P * t ≤ P * (-1) := Int.mul_le_mul_of_nonneg_left (by omega) (by omega)
      omega
    · exact h0
    · have : P * 1 ≤ P * t := Int.mul_le_mul_of_nonneg_left (by omega) (by omega)
      omega
  subst ht
  omega
end Num
end Go.Proofs.Ytkpeliokhmigoaa
