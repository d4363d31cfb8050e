/-
  Plain arithmetic, no program: steps of Euclid's algorithm whose quotients the leading bits determine (Lehmer).
-/
namespace Go.Proofs.Ytkpeliokhmigoaa
set_option linter.unusedVariables false
namespace Num
/-- the steps made so far lead from x and y to a*x + b*y and c*x + d*y; p and q are the same of the leading parts p0 and q0 -/
structure Steps (x y p0 q0 a b c d p q : Int) : Prop where
  hp : p = a * p0 + b * q0
  hq : q = c * p0 + d * q0
  sg : (0 ≤ a ∧ b ≤ 0 ∧ c ≤ 0 ∧ 0 ≤ d) ∨ (a ≤ 0 ∧ 0 ≤ b ∧ 0 ≤ c ∧ d ≤ 0)
  pa : 0 ≤ p + a
  pb : 0 ≤ p + b
  qc : 0 ≤ q + c
  qd : 0 ≤ q + d
  ba : -1073741824 ≤ a ∧ a ≤ 1073741824
  bb : -1073741824 ≤ b ∧ b ≤ 1073741824
  bc : -1073741824 ≤ c ∧ c ≤ 1073741824
  bd : -1073741824 ≤ d ∧ d ≤ 1073741824
  bp : p ≤ 4611686018427387904
  bq : q ≤ 4611686018427387904
  y0 : 0 ≤ c * x + d * y
  yx : c * x + d * y ≤ a * x + b * y
  xx : a * x + b * y ≤ x
  gc : Int.gcd (a * x + b * y) (c * x + d * y) = Int.gcd x y
  lt : (a = 1 ∧ b = 0 ∧ c = 0 ∧ d = 1) ∨ c * x + d * y < y
theorem Steps.start (x y p0 q0 : Int) (hy : 0 ≤ y) (hyx : y ≤ x) (hp : 0 ≤ p0) (hq : 0 ≤ q0) (hp2 : p0 ≤ 4611686018427387904) (hq2 : q0 ≤ 4611686018427387904) : Steps x y p0 q0 1 0 0 1 p0 q0 := by
  refine ⟨by omega, by omega, by omega, by omega, by omega, by omega, by omega, by omega, by omega, by omega, by omega, by omega, by omega, by omega, by omega, by omega, ?_, .inl ⟨rfl, rfl, rfl, rfl⟩⟩
  rw [Int.one_mul, Int.zero_mul, Int.add_zero, Int.zero_mul, Int.one_mul, Int.zero_add]
theorem lo_mul {c K l : Int} (hc : c ≤ 0) (h : l ≤ K) : c * K ≤ c * l := Int.mul_le_mul_of_nonpos_left hc h
theorem hi_mul {c K l : Int} (hc : 0 ≤ c) (h : l ≤ K) : c * l ≤ c * K := Int.mul_le_mul_of_nonneg_left h hc
/-- with coefficients of opposite signs: the sum's lower bound -/
theorem low_ge {x y K p0 q0 c d z : Int} (hx0 : 0 ≤ x - K * p0) (hx1 : x - K * p0 ≤ K) (hy0 : 0 ≤ y - K * q0) (hy1 : y - K * q0 ≤ K) (hK : 0 ≤ K) (hz : z = c * p0 + d * q0)
    (hs : (c ≤ 0 ∧ 0 ≤ d) ∨ (0 ≤ c ∧ d ≤ 0)) (h1 : 0 ≤ z + c) (h2 : 0 ≤ z + d) : 0 ≤ c * x + d * y := by
  have e : c * x + d * y = K * z + c * (x - K * p0) + d * (y - K * q0) := by subst hz; grind
  rcases hs with ⟨hc, hd⟩ | ⟨hc, hd⟩
  · have a1 := lo_mul hc hx1
    have a2 := Int.mul_nonneg hd hy0
    have a3 : 0 ≤ K * (z + c) := Int.mul_nonneg hK h1
    rw [Int.mul_add, Int.mul_comm K c] at a3
    omega
  · have a1 := lo_mul hd hy1
    have a2 := Int.mul_nonneg hc hx0
    have a3 : 0 ≤ K * (z + d) := Int.mul_nonneg hK h2
    rw [Int.mul_add, Int.mul_comm K d] at a3
    omega
/-- .. and that it is below 0 -/
theorem low_lt {x y K p0 q0 c d z : Int} (hx0 : 0 ≤ x - K * p0) (hx1 : x - K * p0 ≤ K) (hy0 : 0 ≤ y - K * q0) (hy1 : y - K * q0 ≤ K) (hK : 0 < K) (hz : z = c * p0 + d * q0)
    (hs : (c ≤ 0 ∧ 0 ≤ d) ∨ (0 ≤ c ∧ d ≤ 0)) (h1 : z + c < 0) (h2 : z + d < 0) : c * x + d * y < 0 := by
  have e : c * x + d * y = K * z + c * (x - K * p0) + d * (y - K * q0) := by subst hz; grind
  rcases hs with ⟨hc, hd⟩ | ⟨hc, hd⟩
  · have a1 := hi_mul hd hy1
    have a2 : c * (x - K * p0) ≤ 0 := Int.mul_nonpos_of_nonpos_of_nonneg hc hx0
    have a3 : K * (z + d) < 0 := Int.mul_neg_of_pos_of_neg hK h2
    rw [Int.mul_add, Int.mul_comm K d] at a3
    omega
  · have a1 := hi_mul hc hx1
    have a2 : d * (y - K * q0) ≤ 0 := Int.mul_nonpos_of_nonpos_of_nonneg hd hy0
    have a3 : K * (z + c) < 0 := Int.mul_neg_of_pos_of_neg hK h1
    rw [Int.mul_add, Int.mul_comm K c] at a3
    omega
theorem gcd_step (X Y t : Int) : Int.gcd Y (X - t * Y) = Int.gcd X Y := by
  rw [Int.gcd_sub_mul_right_right, Int.gcd_comm]
/-- one step more -/
theorem Steps.step {x y p0 q0 a b c d p q K t : Int} (h : Steps x y p0 q0 a b c d p q) (hK : 0 < K) (hx0 : 0 ≤ x - K * p0) (hx1 : x - K * p0 ≤ K) (hy0 : 0 ≤ y - K * q0) (hy1 : y - K * q0 ≤ K)
    (h1 : q + c ≠ 0) (h2 : q + d ≠ 0) (ht : 0 ≤ t) (l1 : t * (q + c) ≤ p + a) (u1 : p + a < (t + 1) * (q + c)) (l2 : t * (q + d) ≤ p + b) (u2 : p + b < (t + 1) * (q + d))
    (bc : -1073741824 ≤ a - t * c ∧ a - t * c ≤ 1073741824) (bd : -1073741824 ≤ b - t * d ∧ b - t * d ≤ 1073741824) :
    Steps x y p0 q0 c d (a - t * c) (b - t * d) q (p - t * q) := by
  have hqc := h.qc
  have hqd := h.qd
  have hq0 : 0 ≤ q := by rcases h.sg with ⟨_, _, s3, s4⟩ | ⟨_, _, s3, s4⟩ <;> omega
  have hsg : (0 ≤ c ∧ d ≤ 0 ∧ a - t * c ≤ 0 ∧ 0 ≤ b - t * d) ∨ (c ≤ 0 ∧ 0 ≤ d ∧ 0 ≤ a - t * c ∧ b - t * d ≤ 0) := by
    rcases h.sg with ⟨s1, s2, s3, s4⟩ | ⟨s1, s2, s3, s4⟩
    · right
      have e1 : t * c ≤ 0 := Int.mul_nonpos_of_nonneg_of_nonpos ht s3
      have e2 := Int.mul_nonneg ht s4
      exact ⟨s3, s4, by omega, by omega⟩
    · left
      have e1 := Int.mul_nonneg ht s3
      have e2 : t * d ≤ 0 := Int.mul_nonpos_of_nonneg_of_nonpos ht s4
      exact ⟨s3, s4, by omega, by omega⟩
  have hz : p - t * q = (a - t * c) * p0 + (b - t * d) * q0 := by rw [h.hp, h.hq]; grind
  rw [Int.mul_add] at l1 l2
  rw [Int.add_mul, Int.one_mul, Int.mul_add] at u1 u2
  have htq := Int.mul_nonneg ht hq0
  have hs2 : (a - t * c ≤ 0 ∧ 0 ≤ b - t * d) ∨ (0 ≤ a - t * c ∧ b - t * d ≤ 0) := by
    rcases hsg with ⟨_, _, s3, s4⟩ | ⟨_, _, s3, s4⟩
    · exact .inl ⟨s3, s4⟩
    · exact .inr ⟨s3, s4⟩
  have hge := low_ge hx0 hx1 hy0 hy1 (Int.le_of_lt hK) hz hs2 (by omega) (by omega)
  have hlt : (a - t * c - c) * x + (b - t * d - d) * y < 0 := by
    refine low_lt (z := p - t * q - q) hx0 hx1 hy0 hy1 hK ?_ ?_ (by omega) (by omega)
    · rw [hz]; have := h.hq; grind
    · rcases hsg with ⟨s1, s2, s3, s4⟩ | ⟨s1, s2, s3, s4⟩
      · exact .inl ⟨by omega, by omega⟩
      · exact .inr ⟨by omega, by omega⟩
  have hyx : (a - t * c) * x + (b - t * d) * y < c * x + d * y := by
    have e : (a - t * c - c) * x + (b - t * d - d) * y = (a - t * c) * x + (b - t * d) * y - (c * x + d * y) := by grind
    omega
  have hYy : c * x + d * y ≤ y := by
    rcases h.lt with ⟨_, _, e3, e4⟩ | e
    · subst e3; subst e4; omega
    · omega
  refine ⟨h.hq, hz, hsg, hqc, hqd, by omega, by omega, h.bc, h.bd, bc, bd, h.bq, by have := h.bp; omega, hge, by omega, Int.le_trans h.yx h.xx, ?_, .inr (by omega)⟩
  rw [← h.gc]
  have e : (a - t * c) * x + (b - t * d) * y = (a * x + b * y) - t * (c * x + d * y) := by grind
  rw [e, gcd_step]
end Num
end Go.Proofs.Ytkpeliokhmigoaa
