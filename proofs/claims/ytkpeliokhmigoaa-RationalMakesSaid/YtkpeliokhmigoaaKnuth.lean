/-
  Plain arithmetic of long division: the estimate of a digit is the digit or one more.
-/
import Derived.Test.YtkpeliokhmigoaaVal
namespace Go.Proofs.Ytkpeliokhmigoaa
set_option linter.unusedVariables false
namespace Num
/-- the estimate is never less than the digit: the first guess. P is B^(n-1): V = f * P + v', U = t * P + u' -/
theorem est_first (U V q t f P : Nat) (hq : q * V ≤ U) (hV : f * P ≤ V) (hU : U < (t + 1) * P) (hf : 0 < f) : q ≤ t / f := by
  rw [Nat.le_div_iff_mul_le hf]
  apply Nat.le_of_lt_succ
  apply Nat.lt_of_mul_lt_mul_right (a := P)
  have h1 : q * (f * P) ≤ q * V := Nat.mul_le_mul_left _ hV
  rw [Nat.mul_assoc]
  exact Nat.lt_of_le_of_lt (Nat.le_trans h1 hq) hU
/-- .. and each correction. P is B^(n-2): the first two words of V are f, s, the first three of U are T -/
theorem est_step (U V q d f s T P B r u : Nat) (hq : q * V ≤ U) (hV : (f * B + s) * P ≤ V) (hU : U < (T + 1) * P) (hT : T = (d * f + r) * B + u) (hc : r * B + u < d * s) (hqd : q ≤ d) : q + 1 ≤ d := by
  rcases Nat.lt_or_ge q d with h | h
  · exact h
  · exfalso
    have hqd' : q = d := Nat.le_antisymm hqd h
    subst hqd'
    have h1 : T + 1 ≤ q * (f * B + s) := by
      rw [hT, Nat.mul_add, Nat.add_mul, ← Nat.mul_assoc]; omega
    have h2 : (T + 1) * P ≤ q * (f * B + s) * P := Nat.mul_le_mul_right _ h1
    have h3 : q * ((f * B + s) * P) ≤ q * V := Nat.mul_le_mul_left _ hV
    rw [Nat.mul_assoc] at h2
    omega
/-- at the end it is at most one too great: by the second test -/
theorem est_end1 (U V d f s T P B r u : Nat) (hV : V < (f * B + s + 1) * P) (hV2 : f * B * P ≤ V) (hf : 0 < f) (hU : T * P ≤ U) (hT : T = (d * f + r) * B + u) (hc : d * s ≤ r * B + u) (hd : d < B) : d * V < U + V := by
  have h1 : d * (f * B + s) ≤ T := by rw [hT, Nat.mul_add, Nat.add_mul, ← Nat.mul_assoc]; omega
  rcases Nat.eq_zero_or_pos d with h0 | h0
  · subst h0
    have : 0 < V := by
      rcases Nat.eq_zero_or_pos V with h | h
      · subst h
        have hP : P = 0 := by
          rcases Nat.eq_zero_or_pos P with hp | hp
          · exact hp
          · have : 0 < f * B * P := Nat.mul_pos (Nat.mul_pos hf (by omega)) hp
            omega
        rw [hP] at hV; omega
      · exact h
    omega
  · have h2 : d * V < d * ((f * B + s + 1) * P) := Nat.mul_lt_mul_of_pos_left hV h0
    have h3 : d * ((f * B + s + 1) * P) = d * (f * B + s) * P + d * P := by
      rw [Nat.add_mul, Nat.mul_add, ← Nat.mul_assoc, Nat.one_mul]
    have h4 : d * (f * B + s) * P ≤ T * P := Nat.mul_le_mul_right _ h1
    have h5 : d * P ≤ B * P := Nat.mul_le_mul_right _ (by omega)
    have h6 : B * P ≤ f * B * P := by rw [Nat.mul_assoc]; exact Nat.le_mul_of_pos_left _ hf
    omega
/-- .. by the first test -/
theorem est_end2 (U V d f t P B r : Nat) (hV : V < (f + 1) * P) (hP : 0 < P) (hU : t * P ≤ U) (hT : t = d * f + r) (hr : B ≤ r) (hd : d < B) : d * V ≤ U := by
  have h1 : d * V ≤ d * ((f + 1) * P) := Nat.mul_le_mul_left _ (by omega)
  have h2 : d * ((f + 1) * P) = (d * f + d) * P := by rw [← Nat.mul_assoc, Nat.mul_add, Nat.mul_one]
  have h3 : (d * f + d) * P ≤ t * P := Nat.mul_le_mul_right _ (by omega)
  omega
/-- what an estimate d of the digit of U by V is good for -/
def IsEst (U V d : Nat) : Prop := U / V ≤ d ∧ d ≤ U / V + 1
theorem isEst_of {U V d : Nat} (hV : 0 < V) (h1 : U / V ≤ d) (h2 : d * V < U + V) : IsEst U V d := by
  refine ⟨h1, ?_⟩
  rcases d with _ | d
  · exact Nat.zero_le _
  · have h3 : d * V < U := by rw [Nat.add_mul] at h2; omega
    have : d ≤ U / V := (Nat.le_div_iff_mul_le hV).2 (by omega)
    omega
/-- one step of the subtraction of a multiple -/
theorem subm_step (P a x v y c b S q : Nat) (hx : x < 4294967296) (hc : c < 4294967296) (hb : b ≤ 1) (h : S + v * q = a + P * (c + b)) :
    S + P * ((x + 8589934592 - (c + y * q) % 4294967296 - b) % 4294967296) + (v + P * y) * q = a + P * x + P * BB * ((c + y * q) / 4294967296 + (if x < (c + y * q) % 4294967296 + b then 1 else 0)) := by
  have h0 : (x + 8589934592 - (c + y * q) % 4294967296 - b) % 4294967296 + (c + y * q) % 4294967296 + b = x + 4294967296 * (if x < (c + y * q) % 4294967296 + b then 1 else 0) := by
    have := Nat.mod_lt (c + y * q) (show 0 < 4294967296 by decide)
    split <;> omega
  have h1 := Nat.div_add_mod (c + y * q) 4294967296
  generalize (if x < (c + y * q) % 4294967296 + b then 1 else 0) = b' at *
  generalize (x + 8589934592 - (c + y * q) % 4294967296 - b) % 4294967296 = D at *
  generalize (c + y * q) % 4294967296 = lo at *
  generalize (c + y * q) / 4294967296 = hi at *
  have h2 : P * (D + lo + b) = P * (x + 4294967296 * b') := by rw [h0]
  have h3 : P * (4294967296 * hi + lo) = P * (c + y * q) := by rw [h1]
  simp only [Nat.mul_add, Nat.add_mul, BB] at *
  rw [← Nat.mul_assoc] at h2 h3
  rw [Nat.mul_assoc P y q]
  omega
end Num
end Go.Proofs.Ytkpeliokhmigoaa
