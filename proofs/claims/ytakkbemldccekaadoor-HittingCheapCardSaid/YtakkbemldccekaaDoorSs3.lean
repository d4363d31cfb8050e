/-
  Package sets: Of and List.
-/
import Derived.Test.YtakkbemldccekaaDoorSs2
import Derived.Test.YtakkbemldccekaaDoorSn1
namespace Go.Proofs.YtakkbemldccekaaDoor.Sb
open Go.RowKit
set_option linter.unusedVariables false
theorem or_bit (s i : Nat) (h : s.testBit i = false) : s ||| 2 ^ i = s + 2 ^ i := by
  have hp : 0 < 2 ^ i := Nat.pow_pos (by decide)
  have hlo : s % 2 ^ i < 2 ^ i := Nat.mod_lt _ hp
  have hq : s / 2 ^ i % 2 = 0 := by
    rw [Nat.testBit_eq_decide_div_mod_eq] at h
    simp at h; omega
  have e : s = 2 ^ i * (s / 2 ^ i) + s % 2 ^ i := (Nat.div_add_mod _ _).symm
  have e2 : s + 2 ^ i = 2 ^ i * (s / 2 ^ i + 1) + s % 2 ^ i := by rw [Nat.mul_add, Nat.mul_one]; omega
  apply Nat.eq_of_testBit_eq
  intro j
  rw [e2, Nat.testBit_two_pow_mul_add _ hlo, Nat.testBit_or]
  generalize s / 2 ^ i = q at *
  generalize s % 2 ^ i = r at *
  subst e
  rw [Nat.testBit_two_pow_mul_add _ hlo, Nat.testBit_two_pow]
  by_cases hj : j < i
  · have : i ≠ j := by omega
    simp [hj, this]
  · by_cases he : i = j
    · subst he
      simp; omega
    · obtain ⟨k, rfl⟩ : ∃ k, j = i + (k + 1) := ⟨j - i - 1, by omega⟩
      have a1 : ¬ i + (k + 1) < i := by omega
      have a2 : i + (k + 1) - i = k + 1 := by omega
      simp only [a1, he, if_false, decide_false, Bool.or_false, a2, Nat.testBit_succ]
      rw [show (q + 1) / 2 = q / 2 by omega]
theorem or_lt (s i : Nat) (hs : s < 2 ^ 24) (hi : i < 24) : s ||| 2 ^ i < 2 ^ 24 := Nat.or_lt_two_pow hs (Nat.pow_lt_pow_right (by decide) hi)
theorem pow_lt24 (i : Nat) (hi : i < 24) : 2 ^ i < 16777216 := by
  have : 2 ^ i < 2 ^ 24 := Nat.pow_lt_pow_right (by decide) hi
  omega
theorem shlw (i : Nat) (hi : i < 24) : wrap64 ((2 : Int) ^ i) = ((2 ^ i : Nat) : Int) := by
  have h := pow_lt24 i hi
  have e : (2 : Int) ^ i = ((2 ^ i : Nat) : Int) := by simp
  rw [e]
  generalize 2 ^ i = p at *
  unfold wrap64; omega
/-- what Of makes of a list: the set, and the number of an error -/
def ofGo : Nat → List Int → Nat × Nat
  | s, [] => (s, 0)
  | s, i :: l => if i < 0 ∨ 24 ≤ i then (0, 3) else if s.testBit i.toNat then (0, 6) else ofGo (s ||| 2 ^ i.toNat) l
def ofS (l : List Int) : Nat × Nat := if 24 < l.length then (0, 4) else ofGo 0 l
theorem els_le (c : Nat) : (els c).length ≤ 24 := pc_le c
end Go.Proofs.YtakkbemldccekaaDoor.Sb
