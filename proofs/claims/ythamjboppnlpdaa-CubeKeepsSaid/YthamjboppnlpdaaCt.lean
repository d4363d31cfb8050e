/-
  The states of a meeting and of a consensus. No statement of the program.
-/
import Derived.Test.YthamjboppnlpdaaCp
namespace Go.Proofs.Ythamjboppnlpdaa.Cu
open Go.Proofs.Ythamjboppnlpdaa.Sb
set_option linter.unusedVariables false
def meetOut (a b : Cb) : Cb × Bool := if clash a b = 0 then (meetC a b, true) else ((0, 0), false)
def consC (a b : Cb) : Cb := (without (a.1 ||| b.1) (clash a b), without (a.2 ||| b.2) (clash a b))
def consOut (a b : Cb) : Cb × Bool := if pc (clash a b) = 1 then (consC a b, true) else ((0, 0), false)
theorem clash_lt {a b : Cb} (ha : OkC a) : clash a b < 16777216 := by
  unfold clash
  exact or24 (Nat.lt_of_le_of_lt Nat.and_le_left ha.1) (Nat.lt_of_le_of_lt Nat.and_le_left ha.2.1)
theorem okC_zero : OkC (0, 0) := ⟨by decide, by decide, by decide⟩
theorem meetOut_ok {a b : Cb} (ha : OkC a) (hb : OkC b) : OkC (meetOut a b).1 := by
  unfold meetOut
  split
  · exact meetC_ok ha hb (by assumption)
  · exact okC_zero
theorem meet_states (a b : Cb) (s : Nat) : ((meetOut a b).2 && holdsC (meetOut a b).1 s) = (holdsC a s && holdsC b s) := by
  unfold meetOut
  by_cases h : clash a b = 0
  · rw [if_pos h]
    simp only [Bool.true_and]
    exact meetC_holds a b s
  · rw [if_neg h]
    have := clash_holds (s := s) h
    revert this
    cases holdsC a s <;> cases holdsC b s <;> simp
theorem clash_tb (a b : Cb) (i : Nat) : (clash a b).testBit i = ((a.1.testBit i && b.2.testBit i) || (a.2.testBit i && b.1.testBit i)) := by
  unfold clash
  rw [Nat.testBit_or, Nat.testBit_and, Nat.testBit_and]
theorem consOut_ok {a b : Cb} (ha : OkC a) (hb : OkC b) : OkC (consOut a b).1 := by
  unfold consOut
  split
  · refine ⟨Nat.lt_of_le_of_lt (without_le _ _) (or24 ha.1 hb.1), Nat.lt_of_le_of_lt (without_le _ _) (or24 ha.2.1 hb.2.1), ?_⟩
    have h1 := and_zero.1 ha.2.2
    have h2 := and_zero.1 hb.2.2
    rw [and_zero]
    intro i
    unfold consC
    simp only [without_tb, Nat.testBit_or, clash_tb]
    have k1 := h1 i
    have k2 := h2 i
    revert k1 k2
    cases a.1.testBit i <;> cases a.2.testBit i <;> cases b.1.testBit i <;> cases b.2.testBit i <;> simp
  · exact okC_zero
theorem pc_one {c : Nat} (hc : c < 16777216) (h : pc c = 1) : ∃ k, c.testBit k = true ∧ ∀ j, c.testBit j = true → j = k := by
  unfold pc at h
  obtain ⟨k, hk⟩ := List.length_eq_one_iff.1 h
  refine ⟨k, ((mem_els c k).1 (by rw [hk]; exact List.mem_singleton.2 rfl)).2, fun j hj => ?_⟩
  have hj24 : j < 24 := by
    refine Classical.byContradiction fun hn => ?_
    rw [tb24 hc (by omega)] at hj
    cases hj
  have := (mem_els c j).2 ⟨hj24, hj⟩
  rw [hk] at this
  exact List.mem_singleton.1 this
theorem cons_states {a b : Cb} (ha : OkC a) (hb : OkC b) (s : Nat) : (consOut a b).2 = true → holdsC (consOut a b).1 s = true → (holdsC a s || holdsC b s) = true := by
  unfold consOut
  by_cases h : pc (clash a b) = 1
  · rw [if_pos h]
    intro _ hs
    simp only at hs
    rw [holdsC_iff] at hs
    unfold consC at hs
    simp only [without_tb, Nat.testBit_or] at hs
    obtain ⟨k, hk, hu⟩ := pc_one (clash_lt ha) h
    rw [clash_tb] at hk
    have va := and_zero.1 ha.2.2
    have vb := and_zero.1 hb.2.2
    have hoff : ∀ i, i ≠ k → (clash a b).testBit i = false := by
      intro i hi
      cases hc : (clash a b).testBit i with
      | false => rfl
      | true => exact absurd (hu i hc) hi
    have away : ∀ i, i ≠ k → ((a.1.testBit i = true ∨ b.1.testBit i = true → s.testBit i = true) ∧ (a.2.testBit i = true ∨ b.2.testBit i = true → s.testBit i = false)) := by
      intro i hi
      have := hs i
      rw [hoff i hi] at this
      simpa using this
    rw [Bool.or_eq_true, holdsC_iff, holdsC_iff]
    by_cases hp : (a.1.testBit k = s.testBit k ∧ a.2.testBit k = !s.testBit k)
    · left
      intro i
      by_cases hi : i = k
      · subst hi
        rw [hp.1, hp.2]
        cases s.testBit i <;> simp
      · exact ⟨fun x => (away i hi).1 (.inl x), fun x => (away i hi).2 (.inl x)⟩
    · right
      intro i
      by_cases hi : i = k
      · subst hi
        have v1 := va i
        have v2 := vb i
        revert hp hk v1 v2
        cases a.1.testBit i <;> cases a.2.testBit i <;> cases b.1.testBit i <;> cases b.2.testBit i <;> cases s.testBit i <;> simp
      · exact ⟨fun x => (away i hi).1 (.inr x), fun x => (away i hi).2 (.inr x)⟩
  · rw [if_neg h]
    intro e
    cases e
end Go.Proofs.Ythamjboppnlpdaa.Cu
