/-
  Sets of events: the next set of as many elements.
-/
import Derived.Test.YtibkpglgeincdaaDoorSb0
import Derived.Test.YtibkpglgeincdaaDoorSb1
namespace Go.Proofs.YtibkpglgeincdaaDoor.Sb
set_option linter.unusedVariables false
theorem p2 (n q : Nat) : 2 ^ (n + 1) * q = 2 ^ n * (2 * q) := by rw [Nat.pow_succ, Nat.mul_assoc]
/-- a set that is not empty: zeros, a run of ones, a zero, the rest -/
theorem run_odd (t : Nat) : ∃ r h, 2 * t + 1 + 1 = 2 ^ (r + 1) + 2 ^ (r + 2) * h := by
  induction t using Nat.strongRecOn with
  | _ t ih =>
    rcases Nat.mod_two_eq_zero_or_one t with h0 | h0
    · exact ⟨0, t / 2, by simp only [Nat.zero_add, Nat.reducePow, Nat.pow_one]; omega⟩
    · obtain ⟨r, h, e⟩ := ih (t / 2) (by omega)
      refine ⟨r + 1, h, ?_⟩
      have e1 : 2 ^ (r + 1 + 2) * h = 2 * (2 ^ (r + 2) * h) := by rw [show r + 1 + 2 = (r + 2) + 1 from rfl, p2, Nat.mul_left_comm]
      have e2 : 2 ^ (r + 1 + 1) = 2 * 2 ^ (r + 1) := by rw [Nat.pow_succ, Nat.mul_comm]
      obtain ⟨z, hz⟩ : ∃ z, 2 ^ (r + 2) * h = z := ⟨_, rfl⟩
      obtain ⟨y, hy⟩ : ∃ y, 2 ^ (r + 1) = y := ⟨_, rfl⟩
      rw [hz, hy] at e
      rw [hz] at e1
      rw [e1, e2, hy]
      clear hz hy e1 e2
      omega
theorem run_form (s : Nat) (h : s ≠ 0) : ∃ l r q, s + 2 ^ l = 2 ^ (l + r + 1) + 2 ^ (l + r + 2) * q ∧ ∃ m, s = 2 ^ l * (2 * m + 1) := by
  obtain ⟨m, e, _⟩ := Lib.ctzFrom_spec s s (by omega) Nat.lt_two_pow_self
  generalize Lib.ctzFrom s s = l at e
  obtain ⟨r, q, e2⟩ := run_odd m
  refine ⟨l, r, q, ?_, m, e⟩
  have : s + 2 ^ l = 2 ^ l * (2 * m + 1 + 1) := by rw [e, Nat.mul_add (2 ^ l) (2 * m + 1) 1, Nat.mul_one]
  rw [this, e2, Nat.mul_add, ← Nat.pow_add, ← Nat.mul_assoc, ← Nat.pow_add]
  rfl
/-- the parts of such a set -/
structure Run (s l r q : Nat) : Prop where
  eq : s + 2 ^ l = 2 ^ (l + r + 1) + 2 ^ (l + r + 2) * q
  odd : ∃ m, s = 2 ^ l * (2 * m + 1)
theorem Run.low {s l r q : Nat} (h : Run s l r q) : s = 2 ^ (l + r + 1) * (2 * q) + 2 ^ l * (2 ^ (r + 1) - 1) := by
  have e := h.eq
  have h1 : 2 ^ (l + r + 2) * q = 2 ^ (l + r + 1) * (2 * q) := by rw [show l + r + 2 = (l + r + 1) + 1 from rfl, Nat.pow_succ, Nat.mul_assoc]
  have h2 : 2 ^ l * (2 ^ (r + 1) - 1) = 2 ^ (l + r + 1) - 2 ^ l := by rw [Nat.mul_sub, Nat.mul_one, ← Nat.pow_add]; rfl
  have h3 : 2 ^ l ≤ 2 ^ (l + r + 1) := Nat.pow_le_pow_right (by decide) (by omega)
  rw [h1] at e; rw [h2]; omega
theorem low_lt (l r : Nat) : 2 ^ l * (2 ^ (r + 1) - 1) < 2 ^ (l + r + 1) := by
  have h2 : 2 ^ l * (2 ^ (r + 1) - 1) = 2 ^ (l + r + 1) - 2 ^ l := by rw [Nat.mul_sub, Nat.mul_one, ← Nat.pow_add]; rfl
  have h3 : 2 ^ l ≤ 2 ^ (l + r + 1) := Nat.pow_le_pow_right (by decide) (by omega)
  have h4 : 0 < 2 ^ l := Nat.pow_pos (by decide)
  omega
/-- the set without its moved one -/
theorem Run.side {s l r q : Nat} (h : Run s l r q) : without s (s + 2 ^ l) = 2 ^ l * (2 ^ (r + 1) - 1) := by
  have e1 := h.low
  have e2 : s + 2 ^ l = 2 ^ (l + r + 1) * (2 * q + 1) + 0 := by
    rw [h.eq, show l + r + 2 = (l + r + 1) + 1 from rfl, p2 (l + r + 1), Nat.mul_add (2 ^ (l + r + 1)), Nat.mul_one]; omega
  have hl := low_lt l r
  have hp : 0 < 2 ^ (l + r + 1) := Nat.pow_pos (by decide)
  apply Nat.eq_of_testBit_eq
  intro i
  rw [without_tb, e2]
  conv => lhs; rw [e1]
  generalize 2 ^ l * (2 ^ (r + 1) - 1) = low at *
  rw [Nat.testBit_two_pow_mul_add _ hl, Nat.testBit_two_pow_mul_add _ hp]
  by_cases hi : i < l + r + 1
  · simp [hi]
  · have hz : low.testBit i = false := Nat.testBit_lt_two_pow (Nat.lt_of_lt_of_le hl (Nat.pow_le_pow_right (by decide) (by omega)))
    simp only [hi, if_false, hz]
    obtain ⟨k, hk⟩ : ∃ k, i - (l + r + 1) = k := ⟨_, rfl⟩
    rw [hk]
    rcases k with _ | k
    · simp
    · rw [Nat.testBit_succ, Nat.testBit_succ, show 2 * q / 2 = q by omega, show (2 * q + 1) / 2 = q by omega]
      cases q.testBit k <;> rfl
theorem Run.shift {l r : Nat} : 2 ^ l * (2 ^ (r + 1) - 1) / 2 ^ (l + 1) = 2 ^ r - 1 := by
  rw [Nat.pow_succ 2 l, ← Nat.div_div_eq_div_mul, Nat.mul_div_cancel_left _ (Nat.pow_pos (by decide)), Nat.pow_succ]
  have : 0 < 2 ^ r := Nat.pow_pos (by decide)
  omega
/-- the next one -/
theorem Run.join {s l r q : Nat} (h : Run s l r q) : (s + 2 ^ l) ||| (2 ^ r - 1) = s + 2 ^ l + (2 ^ r - 1) := by
  refine nat_join (l + r + 1) _ _ ?_ ?_
  · rw [h.eq, show l + r + 2 = (l + r + 1) + 1 from rfl, p2 (l + r + 1)]; simp
  · have : 2 ^ r ≤ 2 ^ (l + r + 1) := Nat.pow_le_pow_right (by decide) (by omega)
    have : 0 < 2 ^ r := Nat.pow_pos (by decide)
    omega
theorem Run.tb_low {s l r q : Nat} (h : Run s l r q) (i : Nat) (hi : i < l + r + 1) : s.testBit i = decide (l ≤ i) := by
  have e1 := h.low
  have hl := low_lt l r
  have hp : 0 < 2 ^ l := Nat.pow_pos (by decide)
  rw [e1, Nat.testBit_two_pow_mul_add _ hl, if_pos hi]
  have e2 : 2 ^ l * (2 ^ (r + 1) - 1) = 2 ^ l * (2 ^ (r + 1) - 1) + 0 := rfl
  rw [e2, Nat.testBit_two_pow_mul_add _ hp]
  by_cases h1 : i < l
  · have : ¬ l ≤ i := by omega
    simp [h1, this]
  · have h2 : l ≤ i := by omega
    have h3 : i - l < r + 1 := by omega
    simp only [h1, if_false, Nat.testBit_two_pow_sub_one, h3, h2]
theorem Run.tb_top {s l r q : Nat} (h : Run s l r q) : s.testBit (l + r + 1) = false := by
  have e1 := h.low
  have hl := low_lt l r
  rw [e1, Nat.testBit_two_pow_mul_add _ hl]
  simp
theorem Run.least {s l r q : Nat} (h : Run s l r q) (hs : s < 2 ^ 24) : least s = (l : Int) := by
  have a := h.tb_low l (by omega)
  have hl : l < 24 := by
    refine Classical.byContradiction fun hl => ?_
    have : s.testBit l = false := Nat.testBit_lt_two_pow (Nat.lt_of_lt_of_le hs (Nat.pow_le_pow_right (by decide) (by omega)))
    rw [this] at a; simp at a
  refine least_first s l hl (by rw [a]; simp) fun i hi => ?_
  rw [h.tb_low i (by omega)]; simp; omega
theorem Run.top_lt {s l r q : Nat} (h : Run s l r q) (hs : s < 2 ^ 24) : l + r < 24 := by
  refine Classical.byContradiction fun hl => ?_
  have a := h.tb_low (l + r) (by omega)
  have : s.testBit (l + r) = false := Nat.testBit_lt_two_pow (Nat.lt_of_lt_of_le hs (Nat.pow_le_pow_right (by decide) (by omega)))
  rw [this] at a; simp at a
theorem Run.top {s l r q : Nat} (h : Run s l r q) : s / 2 ^ (l + r + 1) = 2 * q := by
  have e1 := h.low
  have hl := low_lt l r
  have hp : 0 < 2 ^ (l + r + 1) := Nat.pow_pos (by decide)
  generalize 2 ^ l * (2 ^ (r + 1) - 1) = low at *
  rw [e1, Nat.add_comm, Nat.add_mul_div_left _ _ hp, Nat.div_eq_of_lt hl, Nat.zero_add]
/-- the next set of as many elements -/
def succS (s : Nat) : Nat := if s = 0 then 0 else (let l := Lib.ctzFrom s s; let m := s + 2 ^ l; m ||| (without s m / 2 ^ (l + 1)))
theorem ctz_unique (a b m n : Nat) (h : 2 ^ a * (2 * m + 1) = 2 ^ b * (2 * n + 1)) : a = b := by
  have key : ∀ x y k j, x < y → 2 ^ x * (2 * k + 1) ≠ 2 ^ y * (2 * j + 1) := by
    intro x y k j hxy e
    obtain ⟨d, rfl⟩ : ∃ d, y = x + (d + 1) := ⟨y - x - 1, by omega⟩
    rw [Nat.pow_add, Nat.mul_assoc] at e
    have := Nat.eq_of_mul_eq_mul_left (Nat.pow_pos (by decide)) e
    rw [p2] at this
    have h2 : 2 ^ d * (2 * (2 * j + 1)) = 2 * (2 ^ d * (2 * j + 1)) := by rw [Nat.mul_left_comm]
    omega
  rcases Nat.lt_trichotomy a b with h1 | h1 | h1
  · exact absurd h (key a b m n h1)
  · exact h1
  · exact absurd h.symm (key b a n m h1)
theorem Run.succ {s l r q : Nat} (h : Run s l r q) : succS s = s + 2 ^ l + (2 ^ r - 1) := by
  obtain ⟨m, em⟩ := h.odd
  have h0 : s ≠ 0 := by
    have : 0 < 2 ^ l * (2 * m + 1) := Nat.mul_pos (Nat.pow_pos (by decide)) (by omega)
    omega
  obtain ⟨n, en, _⟩ := Lib.ctzFrom_spec s s (by omega) Nat.lt_two_pow_self
  have e : Lib.ctzFrom s s = l := ctz_unique _ _ n m (by rw [← en, ← em])
  unfold succS
  rw [if_neg h0, e]
  simp only []
  rw [h.side, Run.shift, h.join]
theorem run_of (s : Nat) (h : s ≠ 0) : ∃ l r q, Run s l r q := by
  obtain ⟨l, r, q, e, o⟩ := run_form s h
  exact ⟨l, r, q, e, o⟩
theorem succS_zero : succS 0 = 0 := rfl
theorem succS_gt (s : Nat) (h : s ≠ 0) : s < succS s := by
  obtain ⟨l, r, q, R⟩ := run_of s h
  rw [R.succ]
  have := Nat.pow_pos (n := l) (show 0 < 2 by decide)
  omega
end Go.Proofs.YtibkpglgeincdaaDoor.Sb
