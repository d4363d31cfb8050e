/-
  What the specification's Parse compares: a number's text and the text that was read.
-/
import Derived.Test.YtkchpagjkgmpmaaRtxt
namespace Go.Proofs.Ytkchpagjkgmpmaa
open Go.RowKit
set_option linter.unusedVariables false
namespace Num
theorem app_split {c : Nat} : ∀ {a b p q : List Nat}, c ∉ a → c ∉ p → a ++ c :: b = p ++ c :: q → a = p ∧ b = q
  | [], b, [], q, _, _, h => by simp at h; exact ⟨rfl, h⟩
  | [], b, x :: p, q, _, hp, h => by simp at h; exact absurd h.1.symm (fun e => hp (by rw [← e]; simp) |>.elim)
  | x :: a, b, [], q, ha, _, h => by simp at h; exact absurd h.1 (fun e => ha (by rw [e]; simp) |>.elim)
  | x :: a, b, y :: p, q, ha, hp, h => by
    simp at h
    obtain ⟨h1, h2⟩ := app_split (fun e => ha (List.mem_cons_of_mem _ e)) (fun e => hp (List.mem_cons_of_mem _ e)) h.2
    exact ⟨by rw [h.1, h1], h2⟩
theorem dig_no {l : List Nat} (h : IsDig l) {c : Nat} (hc : c < 48) : c ∉ l := fun hm => by have := h c hm; omega
theorem text_cons {l : List Nat} (h : TextOk l) : ∃ x t, l = x :: t ∧ 48 ≤ x ∧ x ≤ 57 := text_head h.text
theorem fr_zero_num (s : Bool) (y : Nat) : fr s 0 y = 0 := by
  unfold fr
  have : sgn s 0 = 0 := by unfold sgn; cases s <;> rfl
  rw [this]; simp
theorem rtx_zero {bs : List Nat} (h : RTx 0 bs) : bs = [48] := by
  refine h.unique ⟨[48], [49], .inl ⟨rfl, rfl⟩, one_digit 1 (by decide) (by decide), ?_⟩
  unfold sgt
  rw [if_neg (by decide), if_pos (show Rat.den 0 = 1 from rfl)]; rfl
/-- a whole number's text is what was read exactly if there is no sign before 0 -/
theorem whole_same {neg : Bool} {l bs : List Nat} (hl : TextOk l) (h : RTx (fr neg (dv l) 1) bs) : bs = (if neg = true then [45] else []) ++ l ↔ ¬ (neg = true ∧ dv l = 0) := by
  constructor
  · rintro e ⟨rfl, h0⟩
    rw [h0, fr_zero_num] at h
    rw [rtx_zero h] at e
    have := congrArg List.head? e
    simp at this
  · intro hc
    exact h.unique (whole_text (by unfold WholeR; rw [if_pos ⟨hl, hc⟩]))
theorem broken_same {neg : Bool} {a b bs : List Nat} (ha : TextOk a) (hb : TextOk b) (h0 : dv b ≠ 0) (h : RTx (fr neg (dv a) (dv b)) bs) : bs = (if neg = true then [45] else []) ++ (a ++ 47 :: b) ↔ (2 ≤ dv b ∧ dv a ≠ 0 ∧ Nat.gcd (dv a) (dv b) = 1) := by
  constructor
  · intro e
    rw [e] at h
    obtain ⟨b1, b2, t1, t2, he⟩ := h
    obtain ⟨r, hr⟩ : ∃ r, fr neg (dv a) (dv b) = r := ⟨_, rfl⟩
    rw [hr] at t1 t2 he
    obtain ⟨x, t, hx, x1, x2⟩ := text_cons ha
    obtain ⟨y, u, hy, y1, y2⟩ := text_cons t1.ok.1
    have hda : IsDig a := ha.text.digs
    have hd1 : IsDig b1 := t1.digs
    have he2 : a ++ 47 :: b = b1 ++ (if r.den = 1 then [] else 47 :: b2) := by
      rw [List.append_assoc] at he
      unfold sgt at he
      cases neg
      · by_cases hn : r < 0
        · rw [if_pos hn, hx] at he
          simp at he
          omega
        · rw [if_neg hn] at he
          simpa using he
      · by_cases hn : r < 0
        · rw [if_pos hn] at he
          simpa using he
        · rw [if_neg hn, hy] at he
          simp at he
          omega
    by_cases hd : r.den = 1
    · rw [if_pos hd, List.append_nil] at he2
      have : 47 ∈ b1 := by rw [← he2]; simp
      exact absurd this (dig_no hd1 (by decide))
    · rw [if_neg hd] at he2
      obtain ⟨e1, e2⟩ := app_split (dig_no hda (by decide)) (dig_no hd1 (by decide)) he2
      have v1 : dv a = r.num.natAbs := by rw [e1]; exact t1.ok.2
      have v2 : dv b = r.den := by rw [e2]; exact t2.ok.2
      have hp := r.den_pos
      refine ⟨by omega, ?_, by rw [v1, v2]; exact r.reduced⟩
      rw [v1]
      intro h1
      have : r = 0 := (rat_zero_iff r).1 h1
      rw [this] at hd
      exact hd rfl
  · rintro ⟨h1, h2, h3⟩
    exact h.unique (broken_text (by unfold BrokenR; rw [if_pos ⟨ha, hb, h1, h2, h3⟩]))
theorem textB_no {s : ByteArray} (c : Nat) (hc : c < 48) (h : c ∈ bl s) : textB s = false := by
  unfold textB
  apply decide_eq_false
  intro hk
  exact dig_no hk.text.digs hc h
instance (l : List Nat) : Decidable (IsDig l) := by unfold IsDig; infer_instance
theorem textB_one_cons (b : List UInt8) : textB (ByteArray.mk #[49] ++ ⟨b.toArray⟩) = decide (IsDig (nl b)) := by
  unfold textB
  have : bl (ByteArray.mk #[49] ++ ⟨b.toArray⟩) = 49 :: nl b := by unfold bl nl; simp
  rw [this]
  rw [Bool.eq_iff_iff]
  simp only [decide_eq_true_eq]
  constructor
  · rintro (h | ⟨_, _, h⟩)
    · simp at h
    · exact fun x hx => h x (List.mem_cons_of_mem _ hx)
  · intro h
    refine .inr ⟨by simp, by simp [gw], ?_⟩
    intro x hx
    rcases List.mem_cons.1 hx with rfl | hx
    · omega
    · exact h x hx
end Num
end Go.Proofs.Ytkchpagjkgmpmaa
