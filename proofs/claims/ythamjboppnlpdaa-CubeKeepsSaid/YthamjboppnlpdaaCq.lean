/-
  The least event of a set, and what is left without it. No statement of the program.
-/
import Derived.Test.YthamjboppnlpdaaSo
import Derived.Test.YthamjboppnlpdaaSb0
import Derived.Test.YthamjboppnlpdaaSb1
namespace Go.Proofs.Ythamjboppnlpdaa.Sb
open Go.RowKit
set_option linter.unusedVariables false
theorem tb_two (i j : Nat) : (2 ^ i).testBit j = decide (i = j) := Nat.testBit_two_pow
theorem sorted_eq : ∀ (l k : List Nat), l.Pairwise (· < ·) → k.Pairwise (· < ·) → (∀ x, x ∈ l ↔ x ∈ k) → l = k := by
  intro l
  induction l with
  | nil =>
    intro k _ _ h
    cases k with
    | nil => rfl
    | cons y k => exact absurd ((h y).2 (List.mem_cons_self ..)) (by simp)
  | cons x l ih =>
    intro k hl hk h
    cases k with
    | nil => exact absurd ((h x).1 (List.mem_cons_self ..)) (by simp)
    | cons y k =>
      rw [List.pairwise_cons] at hl hk
      have e : x = y := by
        rcases List.mem_cons.1 ((h x).1 (List.mem_cons_self ..)) with e | h1
        · exact e
        · rcases List.mem_cons.1 ((h y).2 (List.mem_cons_self ..)) with e | h2
          · exact e.symm
          · have := hl.1 y h2
            have := hk.1 x h1
            omega
      subst e
      congr 1
      apply ih k hl.2 hk.2
      intro z
      have := h z
      simp only [List.mem_cons] at this
      constructor
      · intro hz
        rcases this.1 (.inr hz) with rfl | h1
        · have := hl.1 z hz; omega
        · exact h1
      · intro hz
        rcases this.2 (.inr hz) with rfl | h1
        · have := hk.1 z hz; omega
        · exact h1
/-- the least event, and what is left without it -/
theorem els_cons (c : Nat) (hc : c < 16777216) (h0 : c ≠ 0) : ∃ i d, i < 24 ∧ c.testBit i = true ∧ d = without c (2 ^ i) ∧ d + 2 ^ i = c ∧ els c = i :: els d ∧ c &&& (16777216 - c) = 2 ^ i ∧ c &&& (c - 1) = d ∧ pc d + 1 = pc c := by
  obtain ⟨h1, h2⟩ := tz_spec c h0 (by omega)
  obtain ⟨hlow, hk⟩ := Lib.lowest_bit 24 c h0 (by omega)
  generalize Lib.ctz 64 c = i at h1 h2
  have hi : i < 24 := by
    refine Classical.byContradiction fun hn => ?_
    have hp : 2 ^ 24 ≤ 2 ^ i := Nat.pow_le_pow_right (by decide) (by omega)
    rw [Nat.testBit_lt_two_pow (Nat.lt_of_lt_of_le hc hp)] at h1; cases h1
  have hmod : c % 2 ^ (i + 1) = 2 ^ i := by
    apply Nat.eq_of_testBit_eq; intro j
    rw [Nat.testBit_mod_two_pow, tb_two]
    by_cases hj : j < i
    · rw [h2 j hj, decide_eq_false (show ¬ i = j by omega)]; simp
    · by_cases hj2 : i = j
      · subst hj2; simp [h1]
      · rw [decide_eq_false hj2, decide_eq_false (show ¬ j < i + 1 by omega)]; simp
  have hdiv := Nat.div_add_mod c (2 ^ (i + 1))
  rw [hmod] at hdiv
  generalize c / 2 ^ (i + 1) = q at hdiv
  have hpos : 0 < 2 ^ i := Nat.two_pow_pos i
  have hlt : 2 ^ i < 2 ^ (i + 1) := by rw [Nat.pow_succ]; omega
  have hq : ∀ j, (2 ^ (i + 1) * q).testBit j = true → i < j := by
    intro j hj
    rw [Nat.testBit_two_pow_mul] at hj
    simp at hj; omega
  have hor : c = 2 ^ (i + 1) * q ||| 2 ^ i := by rw [← Nat.two_pow_add_eq_or_of_lt hlt, hdiv]
  have hd : 2 ^ (i + 1) * q = without c (2 ^ i) := by
    apply Nat.eq_of_testBit_eq; intro j
    rw [without_tb, tb_two]
    have e := congrArg (·.testBit j) hor
    simp only [Nat.testBit_or, tb_two] at e
    rw [e]
    by_cases hj : i = j
    · subst hj
      have : (2 ^ (i + 1) * q).testBit i = false := by
        rw [Bool.eq_false_iff]; exact fun h => by have := hq i h; omega
      simp [this]
    · simp [hj]
  have hand : c &&& (c - 1) = 2 ^ (i + 1) * q := by
    have e1 : c - 1 = 2 ^ (i + 1) * q ||| (2 ^ i - 1) := by rw [← Nat.two_pow_add_eq_or_of_lt (by omega)]; omega
    rw [e1]
    apply Nat.eq_of_testBit_eq; intro j
    have e := congrArg (·.testBit j) hor
    simp only [Nat.testBit_or, tb_two] at e
    rw [Nat.testBit_and, e, Nat.testBit_or, Nat.testBit_two_pow_sub_one]
    cases h3 : (2 ^ (i + 1) * q).testBit j
    · simp; omega
    · simp
  have hels : els c = i :: els (without c (2 ^ i)) := by
    apply sorted_eq _ _ (els_sorted c)
    · rw [List.pairwise_cons]
      refine ⟨fun x hx => ?_, els_sorted _⟩
      rw [mem_els, ← hd] at hx
      exact hq x hx.2
    · intro x
      rw [List.mem_cons, mem_els, mem_els, without_tb, tb_two]
      by_cases hx : i = x
      · subst hx; simp [hi, h1]
      · simp [hx]; omega
  have hct : Lib.ctz 24 c = i := by
    have e1 : c &&& (16777216 - c) = 2 ^ Lib.ctz 24 c := hlow
    have e2 : (2 ^ Lib.ctz 24 c).testBit i = true ∨ Lib.ctz 24 c ≠ i := by
      by_cases h : Lib.ctz 24 c = i
      · left; rw [h, tb_two]; simp
      · exact .inr h
    refine Classical.byContradiction fun hne => ?_
    -- the bit of the power is one of c, and no lower one is
    have hb : c.testBit (Lib.ctz 24 c) = true := by
      have := congrArg (·.testBit (Lib.ctz 24 c)) e1
      simp only [Nat.testBit_and, tb_two, decide_true, Bool.and_eq_true] at this
      exact this.1
    have hge : i < Lib.ctz 24 c := by
      refine Classical.byContradiction fun hn => ?_
      have := h2 (Lib.ctz 24 c) (by omega)
      rw [this] at hb; cases hb
    -- the lowest bit of c is one of 2^24 - c, too
    have hm2 : (16777216 - c) % 2 ^ (i + 1) = 2 ^ i := by
      have hsum : 16777216 = 2 ^ (i + 1) * 2 ^ (23 - i) := by rw [← Nat.pow_add, show i + 1 + (23 - i) = 24 by omega]
      have hle : q < 2 ^ (23 - i) := by
        refine Classical.byContradiction fun hn => ?_
        have := Nat.mul_le_mul_left (2 ^ (i + 1)) (Nat.le_of_not_lt hn)
        omega
      obtain ⟨r, hr⟩ : ∃ r, 2 ^ (23 - i) = q + 1 + r := ⟨2 ^ (23 - i) - (q + 1), by omega⟩
      have e : 16777216 - c = 2 ^ i + 2 ^ (i + 1) * r := by
        rw [hsum, hr, ← hdiv]
        have e5 : 2 ^ (i + 1) * (q + 1 + r) = 2 ^ (i + 1) * q + 2 ^ (i + 1) + 2 ^ (i + 1) * r := by rw [Nat.mul_add, Nat.mul_add, Nat.mul_one]
        have e6 : 2 ^ (i + 1) = 2 ^ i + 2 ^ i := by rw [Nat.pow_succ]; omega
        omega
      rw [e, Nat.add_mul_mod_self_left, Nat.mod_eq_of_lt hlt]
    have hb2 : (16777216 - c).testBit i = true := by
      have := congrArg (·.testBit i) hm2
      simp only [Nat.testBit_mod_two_pow, tb_two] at this
      simpa using this
    have := congrArg (·.testBit i) e1
    simp only [Nat.testBit_and, tb_two, h1, hb2, Bool.and_self] at this
    exact hne (of_decide_eq_true this.symm)
  refine ⟨i, without c (2 ^ i), hi, h1, rfl, by rw [← hd]; exact hdiv, hels, by rw [← hct]; exact hlow, by rw [← hd]; exact hand, ?_⟩
  unfold pc
  rw [hels, List.length_cons]
theorem small_and (m : Nat) (a : Int) (hm : m < 16777216) : bits .and .i64 (m : Int) a = ((m &&& cut a : Nat) : Int) := by
  have h := and_small a m hm
  have e : bits .and .i64 (m : Int) a = bits .and .i64 a (m : Int) := by
    show IntKind.i64.wrap ((BitVec.ofInt 64 (m : Int) &&& BitVec.ofInt 64 a).toNat : Int) = IntKind.i64.wrap ((BitVec.ofInt 64 a &&& BitVec.ofInt 64 (m : Int)).toNat : Int)
    rw [BitVec.and_comm]
  rw [e, h, Nat.and_comm]
theorem low_run (s p : Nat) (hs : s < 16777216) (h0 : s ≠ 0) (h : s &&& (16777216 - s) = p) : bits .and .i64 (s : Int) (wrap64 (-(s : Int))) = (p : Int) := by
  unfold wrap64
  rw [← IntKind.wrap_i64, small_and s _ hs, cut_wrap]
  have : cut (-(s : Int)) = 16777216 - s := by unfold cut; omega
  rw [this, h]
end Go.Proofs.Ythamjboppnlpdaa.Sb
