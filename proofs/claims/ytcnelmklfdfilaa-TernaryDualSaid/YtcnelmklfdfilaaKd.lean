/-
  Pure: cubes that know more, sets within a cube, sets as cubes.
-/
import Derived.Test.YtcnelmklfdfilaaKa
namespace Go.Proofs.Ytcnelmklfdfilaa.Fm
open Go.RowKit Go.Proofs.Ytcnelmklfdfilaa.Sb
set_option linter.unusedVariables false
theorem without_lt (a b : Nat) {p : Nat} (h : a < p) : without a b < p := Nat.lt_of_le_of_lt (without_le a b) h
/-- more is known to be so -/
def lnY (v y n : Nat) (x : Int) : Nat := y ||| without (cut x % 2 ^ v) n
theorem lnY_lt {v y n : Nat} {x : Int} (hy : y < 2 ^ v) : lnY v y n x < 2 ^ v := Nat.or_lt_two_pow hy (without_lt _ _ (Nat.mod_lt _ (Nat.two_pow_pos v)))
/-- .. and not to be so -/
def lnN (v y n : Nat) (x z : Int) : Nat := n ||| without (cut z % 2 ^ v) (lnY v y n x)
theorem lnN_lt {v y n : Nat} {x z : Int} (hn : n < 2 ^ v) : lnN v y n x z < 2 ^ v := Nat.or_lt_two_pow hn (without_lt _ _ (Nat.mod_lt _ (Nat.two_pow_pos v)))
theorem ln_dis {v y n : Nat} {x z : Int} (h : Dis y n) : Dis (lnY v y n x) (lnN v y n x z) := by
  intro a ⟨h1, h2⟩
  unfold lnN at h2
  rw [Nat.testBit_or, without_tb, h1] at h2
  unfold lnY at h1
  rw [Nat.testBit_or, without_tb] at h1
  have hd := h a
  cases hn : n.testBit a with
  | false => rw [hn] at h2; simp at h2
  | true =>
    rw [hn] at h1
    cases hy : y.testBit a with
    | true => exact hd ⟨hy, hn⟩
    | false => rw [hy] at h1; simp at h1
theorem ln_knows {v y n : Nat} {x z : Int} (h : Dis y n) : Knows v y n (lnY v y n x) (lnN v y n x z) := by
  intro a _
  have hd := h a
  unfold evC
  cases hy : y.testBit a with
  | true =>
    have : (lnY v y n x).testBit a = true := by unfold lnY; rw [Nat.testBit_or, hy]; rfl
    rw [this]; exact Or.inr rfl
  | false =>
    cases hn : n.testBit a with
    | false => exact Or.inl rfl
    | true =>
      have h1 : (lnY v y n x).testBit a = false := by unfold lnY; rw [Nat.testBit_or, hy, without_tb, hn]; simp
      have h2 : (lnN v y n x z).testBit a = true := by unfold lnN; rw [Nat.testBit_or, hn]; rfl
      rw [h1, h2]; exact Or.inr rfl
theorem all_tb (v a : Nat) : (2 ^ v - 1).testBit a = decide (a < v) := Nat.testBit_two_pow_sub_one v a
/-- the greatest set within a cube -/
theorem inC_most {v y n : Nat} (hy : y < 2 ^ v) (h : Dis y n) : InC v y n (without (2 ^ v - 1) n) := fun a ha => by
  rw [without_tb, all_tb, decide_eq_true ha]
  refine ⟨fun h1 => ?_, fun h1 => by rw [h1]; rfl⟩
  cases hn : n.testBit a with
  | false => rfl
  | true => exact absurd ⟨h1, hn⟩ (h a)
/-- any set within a cube -/
theorem inC_some {v y n x : Nat} (h : Dis y n) : InC v y n (y ||| (without (2 ^ v - 1) n &&& x)) := fun a ha => by
  rw [Nat.testBit_or, Nat.testBit_and, without_tb]
  refine ⟨fun h1 => by rw [h1]; rfl, fun h1 => ?_⟩
  cases hy : y.testBit a with
  | true => exact absurd ⟨hy, h1⟩ (h a)
  | false => rw [h1]; simp
theorem all_lt (v n : Nat) : without (2 ^ v - 1) n < 2 ^ v := without_lt _ _ (by have := Nat.two_pow_pos v; omega)
theorem some_lt {v y n x : Nat} (hy : y < 2 ^ v) : y ||| (without (2 ^ v - 1) n &&& x) < 2 ^ v := Nat.or_lt_two_pow hy (Nat.lt_of_le_of_lt Nat.and_le_left (all_lt v n))
theorem dis_all (v s : Nat) : Dis s (without (2 ^ v - 1) s) := by
  intro a ⟨h1, h2⟩
  rw [without_tb, h1] at h2
  simp at h2
theorem full_all {f : Fn} (hf : WF f) (s : Nat) : tval f s (without (2 ^ f.vars - 1) s) ≠ 2 := tval_full hf (fun a ha => by
  unfold evC
  rw [without_tb, all_tb, decide_eq_true ha]
  cases s.testBit a <;> decide)
theorem own_atB9 {w : World} {g : Nat} {xs : List Bool} (h : Own w g 4 (VB xs).toArray) {i : Nat} (hi : i < xs.length) : w.cell? ⟨g, i, none⟩ = some (.bool (xs.getD i false)) := by
  rw [h.cell]
  simp [VB, hi]
theorem small_and (m : Nat) (a : Int) (hm : m < 16777216) : bits .and .i64 (m : Int) a = ((m &&& cut a : Nat) : Int) := by
  have e := and_small a m hm
  have c : bits .and .i64 (m : Int) a = bits .and .i64 a (m : Int) := by
    show IntKind.i64.wrap ((BitVec.ofInt 64 (m : Int) &&& BitVec.ofInt 64 a).toNat : Int) = IntKind.i64.wrap ((BitVec.ofInt 64 a &&& BitVec.ofInt 64 (m : Int)).toNat : Int)
    rw [BitVec.and_comm]
  rw [c, e, Nat.and_comm]
theorem sup_mk9 {f : Fn} {e : Nat} (he : e < f.vars) (hm : mk f e = true) : (sup f).testBit e = true := by
  unfold sup; rw [supTo_bit, decide_eq_true he, Bool.true_and]; exact hm
theorem sup24 {f : Fn} (hf : WF f) : sup f < 16777216 := supTo_24 _ hf.1
/-- a bit, as a number -/
theorem tb_int (s a : Nat) (hs : s < 16777216) : bits .and .i64 ((s : Int) / 2 ^ a) 1 = if s.testBit a = true then 1 else 0 := by
  have e : ((s : Int) / 2 ^ a) = ((s >>> a : Nat) : Int) := by
    rw [Nat.shiftRight_eq_div_pow, Int.natCast_ediv, Int.natCast_pow]; rfl
  have h := tb_val s a hs
  rw [e, bit_step s a hs] at h ⊢
  have h2 : (s >>> a) % 2 = 0 ∨ (s >>> a) % 2 = 1 := by omega
  rw [← h]
  rcases h2 with h2 | h2 <;> rw [h2] <;> decide
theorem or_lt9 {y e v : Nat} (hy : y < 2 ^ v) (he : e < v) : y ||| 2 ^ e < 2 ^ v := Nat.or_lt_two_pow hy (Nat.pow_lt_pow_right (by omega) he)
end Go.Proofs.Ytcnelmklfdfilaa.Fm
