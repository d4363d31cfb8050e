/-
  How many states of a cube are in a cube of a list: splitting by an event. No statement of the program.
-/
import Derived.Test.YthamjboppnlpdaaCv
import Derived.Test.YthamjboppnlpdaaCq
namespace Go.Proofs.Ythamjboppnlpdaa.Cu
open Go.Proofs.Ythamjboppnlpdaa.Sb
set_option linter.unusedVariables false
/-- how many states of the first v events are in c and in a cube of l -/
def Cov (v : Nat) (l : List Cb) (c : Cb) : Nat := (List.range (2 ^ v)).countP fun s => holdsC c s && !unc l s
theorem Cov_U (v : Nat) (l : List Cb) (c : Cb) : Cov v l c + U v l c = U v [] c := by
  rw [U_nil]
  unfold Cov U
  induction List.range (2 ^ v) with
  | nil => rfl
  | cons s R ih =>
    rw [List.countP_cons, List.countP_cons, List.countP_cons]
    cases holdsC c s <;> cases unc l s <;> simp <;> omega
def yesC (c : Cb) (k : Nat) : Cb := (c.1 ||| 2 ^ k, c.2)
def noC (c : Cb) (k : Nat) : Cb := (c.1, c.2 ||| 2 ^ k)
theorem yesC_holds (c : Cb) (k s : Nat) : holdsC (yesC c k) s = (holdsC c s && s.testBit k) := by
  rw [Bool.eq_iff_iff, Bool.and_eq_true, holdsC_iff, holdsC_iff]
  unfold yesC
  simp only [Nat.testBit_or, tb_two]
  constructor
  · intro h
    refine ⟨fun i => ⟨fun x => (h i).1 (by rw [x]; rfl), (h i).2⟩, (h k).1 (by simp)⟩
  · rintro ⟨h, hk⟩ i
    refine ⟨fun x => ?_, (h i).2⟩
    rw [Bool.or_eq_true, decide_eq_true_eq] at x
    rcases x with x | x
    · exact (h i).1 x
    · subst x; exact hk
theorem noC_holds (c : Cb) (k s : Nat) : holdsC (noC c k) s = (holdsC c s && !s.testBit k) := by
  rw [Bool.eq_iff_iff, Bool.and_eq_true, holdsC_iff, holdsC_iff]
  unfold noC
  simp only [Nat.testBit_or, tb_two]
  constructor
  · intro h
    refine ⟨fun i => ⟨(h i).1, fun x => (h i).2 (by rw [x]; rfl)⟩, ?_⟩
    have := (h k).2 (by simp)
    rw [this]; rfl
  · rintro ⟨h, hk⟩ i
    refine ⟨(h i).1, fun x => ?_⟩
    rw [Bool.or_eq_true, decide_eq_true_eq] at x
    rcases x with x | x
    · exact (h i).2 x
    · subst x; simpa using hk
theorem count_two (R : List Nat) (P Q : Nat → Bool) (k : Nat) : (R.countP fun s => P s && Q s) = (R.countP fun s => (P s && s.testBit k) && Q s) + (R.countP fun s => (P s && !s.testBit k) && Q s) := by
  induction R with
  | nil => rfl
  | cons s R ih =>
    rw [List.countP_cons, List.countP_cons, List.countP_cons, ih]
    cases P s <;> cases Q s <;> cases s.testBit k <;> simp <;> omega
theorem U_two (v : Nat) (l : List Cb) (c : Cb) (k : Nat) : U v l c = U v l (yesC c k) + U v l (noC c k) := by
  unfold U
  rw [count_two _ _ _ k]
  congr 1
  · congr 1; funext s; rw [yesC_holds]
  · congr 1; funext s; rw [noC_holds]
theorem Cov_two (v : Nat) (l : List Cb) (c : Cb) (k : Nat) : Cov v l c = Cov v l (yesC c k) + Cov v l (noC c k) := by
  unfold Cov
  rw [count_two _ _ _ k]
  congr 1
  · congr 1; funext s; rw [yesC_holds]
  · congr 1; funext s; rw [noC_holds]
theorem U_impl {v : Nat} {l : List Cb} {c d : Cb} (hd : d ∈ l) (h : implC c d = true) : U v l c = 0 := by
  unfold U
  rw [List.countP_eq_zero]
  intro s _
  cases hc : holdsC c s with
  | false => simp
  | true =>
    have h1 := implC_holds h hc
    have : unc l s = false := by
      cases hu : unc l s with
      | false => rfl
      | true => rw [(unc_iff l s).1 hu d hd] at h1; cases h1
    rw [this]; simp
theorem U_apart {v : Nat} {l : List Cb} {c : Cb} (h : ∀ d ∈ l, clash c d ≠ 0) : U v l c = U v [] c := by
  rw [U_near, show near c l = [] from ?_]
  unfold near
  rw [List.filter_eq_nil_iff]
  intro d hd
  simpa using h d hd
theorem split_more {c d : Cb} (hc : clash c d = 0) (hi : implC c d = false) : without (evs d) (evs c) ≠ 0 := by
  intro e
  have : implC c d = true := by
    rw [without_zero] at e
    rw [implC_iff]
    intro i
    have h1 := (clash_zero.1 hc i).1
    have h2 := (clash_zero.1 hc i).2
    have h3 := e i
    unfold evs at h3
    rw [Nat.testBit_or, Nat.testBit_or] at h3
    revert h1 h2 h3
    cases c.1.testBit i <;> cases c.2.testBit i <;> cases d.1.testBit i <;> cases d.2.testBit i <;> simp
  rw [this] at hi
  cases hi
theorem yesC_ok {c : Cb} {k : Nat} (hc : OkC c) (hk : k < 24) (h : (evs c).testBit k = false) : OkC (yesC c k) ∧ OkC (noC c k) := by
  have hp : 2 ^ k < 16777216 := by have : (2 : Nat) ^ k < 2 ^ 24 := Nat.pow_lt_pow_right (by decide) hk; exact this
  have hb := and_zero.1 hc.2.2
  unfold evs at h
  rw [Nat.testBit_or, Bool.or_eq_false_iff] at h
  constructor
  · refine ⟨or24 hc.1 hp, hc.2.1, ?_⟩
    rw [and_zero]
    intro i
    unfold yesC
    rw [Nat.testBit_or, tb_two, Bool.or_eq_true, decide_eq_true_eq]
    rintro (x | x)
    · exact hb i x
    · subst x; exact h.2
  · refine ⟨hc.1, or24 hc.2.1 hp, ?_⟩
    rw [and_zero]
    intro i
    unfold noC
    rw [Nat.testBit_or, tb_two]
    intro x
    rw [hb i x, Bool.false_or]
    rw [decide_eq_false_iff_not]
    intro e
    subst e
    rw [h.1] at x
    cases x
theorem yes_evs (c : Cb) (k : Nat) : evs (yesC c k) = evs c ||| 2 ^ k ∧ evs (noC c k) = evs c ||| 2 ^ k := by
  unfold evs yesC noC
  constructor
  · rw [Nat.or_assoc, Nat.or_comm (2 ^ k), ← Nat.or_assoc]
  · rw [Nat.or_assoc]
theorem more_evs {e k : Nat} (he : e < 16777216) (hk : k < 24) (h : e.testBit k = false) : pc e < pc (e ||| 2 ^ k) := by
  have hp : 2 ^ k < 16777216 := by have : (2 : Nat) ^ k < 2 ^ 24 := Nat.pow_lt_pow_right (by decide) hk; exact this
  refine pc_sub _ _ he (or24 he hp) ?_ ?_
  · apply Nat.eq_of_testBit_eq
    intro i
    rw [Nat.testBit_and, Nat.testBit_or]
    cases e.testBit i <;> simp
  · intro x
    have := congrArg (·.testBit k) x
    simp only [Nat.testBit_or, tb_two, h, decide_true, Bool.or_true] at this
    cases this
theorem fit_or {e k v : Nat} (he : e < 2 ^ v) (hk : k < v) : e ||| 2 ^ k < 2 ^ v := Nat.or_lt_two_pow he (Nat.pow_lt_pow_right (by decide) hk)
/-- the split that a list gives: of the last cube that c meets -/
def splitL (c : Cb) : List Cb → Nat
  | [] => 0
  | d :: l => if splitL c l ≠ 0 then splitL c l else if clash c d = 0 then without (evs d) (evs c) else 0
theorem splitL_snoc (c : Cb) (l : List Cb) (d : Cb) (hd : clash c d = 0 → without (evs d) (evs c) ≠ 0) : splitL c (l ++ [d]) = if clash c d = 0 then without (evs d) (evs c) else splitL c l := by
  induction l with
  | nil =>
    show (if (0 : Nat) ≠ 0 then 0 else if clash c d = 0 then without (evs d) (evs c) else 0) = _
    rw [if_neg (by simp)]
    rfl
  | cons a l ih =>
    show (if splitL c (l ++ [d]) ≠ 0 then splitL c (l ++ [d]) else if clash c a = 0 then without (evs a) (evs c) else 0) = _
    rw [ih]
    by_cases h : clash c d = 0
    · rw [if_pos h, if_pos (hd h), if_pos h]
    · rw [if_neg h, if_neg h]
      rfl
theorem splitL_zero {c : Cb} {l : List Cb} (hd : ∀ d ∈ l, clash c d = 0 → without (evs d) (evs c) ≠ 0) (h : splitL c l = 0) : ∀ d ∈ l, clash c d ≠ 0 := by
  induction l with
  | nil => intro d h; cases h
  | cons a l ih =>
    have h' : (if splitL c l ≠ 0 then splitL c l else if clash c a = 0 then without (evs a) (evs c) else 0) = 0 := h
    by_cases k : splitL c l ≠ 0
    · rw [if_pos k] at h'; exact absurd h' k
    · rw [if_neg k] at h'
      have hz : splitL c l = 0 := by simpa using k
      intro d hm
      rcases List.mem_cons.1 hm with rfl | hm
      · intro e
        rw [if_pos e] at h'
        exact hd d List.mem_cons_self e h'
      · exact ih (fun x hx => hd x (List.mem_cons_of_mem _ hx)) hz d hm
theorem splitL_some {c : Cb} {l : List Cb} (h : splitL c l ≠ 0) : ∃ d ∈ l, splitL c l = without (evs d) (evs c) := by
  induction l with
  | nil => exact absurd rfl h
  | cons a l ih =>
    have e : splitL c (a :: l) = if splitL c l ≠ 0 then splitL c l else if clash c a = 0 then without (evs a) (evs c) else 0 := rfl
    rw [e] at h ⊢
    by_cases k : splitL c l ≠ 0
    · rw [if_pos k]
      obtain ⟨d, hd, he⟩ := ih k
      exact ⟨d, List.mem_cons_of_mem _ hd, he⟩
    · rw [if_neg k] at h ⊢
      by_cases hc : clash c a = 0
      · rw [if_pos hc]; exact ⟨a, List.mem_cons_self, rfl⟩
      · rw [if_neg hc] at h; exact absurd rfl h
end Go.Proofs.Ythamjboppnlpdaa.Cu
