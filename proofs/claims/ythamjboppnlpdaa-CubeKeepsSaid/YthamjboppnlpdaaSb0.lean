/-
  Sets of events as numbers: the lowest bits of an int, their count, their list.
-/
import Derived.Laws.BitsAllLaws
import Derived.Laws.BitsLemmas
namespace Go.Proofs.Ythamjboppnlpdaa.Sb
set_option linter.unusedVariables false
/-- the lowest 24 bits of an int -/
def cut (s : Int) : Nat := (s % 16777216).toNat
theorem cut_lt (s : Int) : cut s < 2 ^ 24 := by unfold cut; omega
theorem cut_lt' (s : Int) : cut s < 16777216 := by unfold cut; omega
theorem cut_nat (n : Nat) (h : n < 16777216) : cut (n : Int) = n := by unfold cut; omega
theorem cut_of_nat (n : Nat) : cut (n : Int) = n % 16777216 := by unfold cut; omega
theorem cut_wrap (n : Int) : cut (IntKind.i64.wrap n) = cut n := by rw [IntKind.wrap_i64]; unfold cut; omega
theorem ofInt_cut (s : Int) : (BitVec.ofInt 64 s).toNat % 2 ^ 24 = cut s := by
  rw [BitVec.toNat_ofInt]; unfold cut; omega
theorem cut_bv (r : BitVec 64) : cut (IntKind.i64.wrap (r.toNat : Int)) = r.toNat % 2 ^ 24 := by
  rw [cut_wrap, cut_of_nat]
theorem cut_and (a b : Int) : cut (bits .and .i64 a b) = cut a &&& cut b := by
  show cut (IntKind.i64.wrap ((BitVec.ofInt 64 a &&& BitVec.ofInt 64 b).toNat : Int)) = _
  rw [cut_bv, BitVec.toNat_and, Nat.and_mod_two_pow, ofInt_cut, ofInt_cut]
theorem cut_or (a b : Int) : cut (bits .or .i64 a b) = cut a ||| cut b := by
  show cut (IntKind.i64.wrap ((BitVec.ofInt 64 a ||| BitVec.ofInt 64 b).toNat : Int)) = _
  rw [cut_bv, BitVec.toNat_or, Nat.or_mod_two_pow, ofInt_cut, ofInt_cut]
/-- a without b -/
def without (a b : Nat) : Nat := a &&& (a ^^^ b)
theorem without_tb (a b i : Nat) : (without a b).testBit i = (a.testBit i && !b.testBit i) := by
  unfold without
  rw [Nat.testBit_and, Nat.testBit_xor]
  cases a.testBit i <;> cases b.testBit i <;> rfl
theorem without_le (a b : Nat) : without a b ≤ a := Nat.and_le_left
theorem cut_andNot (a b : Int) : cut (bits .andNot .i64 a b) = without (cut a) (cut b) := by
  show cut (IntKind.i64.wrap ((BitVec.ofInt 64 a &&& ~~~BitVec.ofInt 64 b).toNat : Int)) = _
  rw [cut_bv]
  apply Nat.eq_of_testBit_eq
  intro i
  rw [without_tb, ← ofInt_cut, ← ofInt_cut, Nat.testBit_mod_two_pow, Nat.testBit_mod_two_pow, Nat.testBit_mod_two_pow]
  by_cases h : i < 24
  · rw [BitVec.testBit_toNat, BitVec.testBit_toNat, BitVec.testBit_toNat, BitVec.getLsbD_and, BitVec.getLsbD_not]
    have h2 : i < 64 := by omega
    simp [h, h2]
  · simp [h]
/-- an and with a number that is small -/
theorem and_small (a : Int) (m : Nat) (hm : m < 16777216) : bits .and .i64 a (m : Int) = ((cut a &&& m : Nat) : Int) := by
  show IntKind.i64.wrap ((BitVec.ofInt 64 a &&& BitVec.ofInt 64 (m : Int)).toNat : Int) = _
  have hm' : (BitVec.ofInt 64 (m : Int)).toNat = m := by
    rw [BitVec.toNat_ofInt]; omega
  have e : (BitVec.ofInt 64 a &&& BitVec.ofInt 64 (m : Int)).toNat = cut a &&& m := by
    rw [BitVec.toNat_and, hm']
    apply Nat.eq_of_testBit_eq
    intro i
    rw [Nat.testBit_and, Nat.testBit_and, ← ofInt_cut, Nat.testBit_mod_two_pow]
    by_cases h : i < 24
    · simp [h]
    · have : m.testBit i = false := Nat.testBit_lt_two_pow (Nat.lt_of_lt_of_le hm (show 2 ^ 24 ≤ 2 ^ i from Nat.pow_le_pow_right (by decide) (by omega)))
      simp [this]
  rw [e, IntKind.wrap_i64]
  have := cut_lt' a
  have : cut a &&& m ≤ m := Nat.and_le_right
  omega
theorem and_full (a : Int) : bits .and .i64 a 16777215 = (cut a : Int) := by
  have h := and_small a 16777215 (by decide)
  rw [show ((16777215 : Nat) : Int) = 16777215 from rfl] at h
  rw [h, show (16777215 : Nat) = 2 ^ 24 - 1 from rfl, Nat.and_two_pow_sub_one_eq_mod, Nat.mod_eq_of_lt (cut_lt a)]
theorem and_one (a : Int) : bits .and .i64 a 1 = a % 2 := by
  have h := and_small a 1 (by decide)
  rw [show ((1 : Nat) : Int) = 1 from rfl] at h
  rw [h, Nat.and_one_is_mod]
  unfold cut; omega
theorem and_nat (a b : Nat) (ha : a < 16777216) (hb : b < 16777216) : bits .and .i64 (a : Int) (b : Int) = ((a &&& b : Nat) : Int) := by
  rw [and_small _ b hb, cut_nat a ha]
theorem nat64 (a : Nat) (ha : a < 9223372036854775808) : (BitVec.ofInt 64 (a : Int)).toNat = a := by rw [BitVec.toNat_ofInt]; omega
theorem wrapn (a : Nat) (ha : a < 9223372036854775808) : IntKind.i64.wrap (a : Int) = (a : Int) := by rw [IntKind.wrap_i64]; omega
theorem or_nat (a b : Nat) (ha : a < 9223372036854775808) (hb : b < 9223372036854775808) : bits .or .i64 (a : Int) (b : Int) = ((a ||| b : Nat) : Int) := by
  show IntKind.i64.wrap ((BitVec.ofInt 64 (a : Int) ||| BitVec.ofInt 64 (b : Int)).toNat : Int) = _
  rw [BitVec.toNat_or, nat64 a ha, nat64 b hb, wrapn]
  exact Nat.or_lt_two_pow (n := 63) ha hb
theorem andNot_nat (a b : Nat) (ha : a < 9223372036854775808) (hb : b < 9223372036854775808) : bits .andNot .i64 (a : Int) (b : Int) = ((without a b : Nat) : Int) := by
  show IntKind.i64.wrap ((BitVec.ofInt 64 (a : Int) &&& ~~~BitVec.ofInt 64 (b : Int)).toNat : Int) = _
  have e : (BitVec.ofInt 64 (a : Int) &&& ~~~BitVec.ofInt 64 (b : Int)).toNat = without a b := by
    apply Nat.eq_of_testBit_eq
    intro i
    rw [without_tb, BitVec.testBit_toNat, BitVec.getLsbD_and, BitVec.getLsbD_not]
    by_cases h : i < 64
    · rw [← BitVec.testBit_toNat, ← BitVec.testBit_toNat, nat64 a ha, nat64 b hb]; simp [h]
    · have : a.testBit i = false := Nat.testBit_lt_two_pow (Nat.lt_of_lt_of_le ha (show 2 ^ 63 ≤ 2 ^ i from Nat.pow_le_pow_right (by decide) (by omega)))
      simp [h, this]
  rw [e, wrapn]
  exact Nat.lt_of_le_of_lt (without_le a b) ha
theorem cut_tb (s : Int) (i : Nat) (h : i < 24) : (cut s).testBit i = decide (s / 2 ^ i % 2 = 1) := by
  rw [Nat.testBit_eq_decide_div_mod_eq]
  congr 1
  apply propext
  have key : ((cut s / 2 ^ i % 2 : Nat) : Int) = s / 2 ^ i % 2 := by
    have e1 : ((cut s / 2 ^ i % 2 : Nat) : Int) = (s % 16777216) / 2 ^ i % 2 := by
      have : ((cut s : Nat) : Int) = s % 16777216 := by unfold cut; omega
      rw [Int.natCast_emod, Int.natCast_ediv, this]; simp
    rw [e1]
    have hs : s = 16777216 * (s / 16777216) + s % 16777216 := (Int.mul_ediv_add_emod s 16777216).symm
    have h2 : (16777216 : Int) = 2 ^ i * (2 * 2 ^ (23 - i)) := by
      rw [show (16777216 : Int) = 2 ^ 24 from rfl, ← Int.pow_succ', ← Int.pow_add]; congr 1; omega
    have hp : (2 : Int) ^ i ≠ 0 := by have := Int.pow_pos (n := 2) (m := i) (by decide); omega
    generalize hq : s / 16777216 = q at hs
    generalize s % 16777216 = r at hs
    rw [hs, h2, Int.add_comm, Int.mul_assoc (2 ^ i), Int.add_mul_ediv_left _ _ hp, Int.mul_assoc 2, Int.add_mul_emod_self_left]
  omega
end Go.Proofs.Ythamjboppnlpdaa.Sb
