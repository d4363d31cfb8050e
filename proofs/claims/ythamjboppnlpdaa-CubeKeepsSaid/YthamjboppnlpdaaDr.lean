/-
  CubeKeeps: pure facts.
-/
import Derived.Test.YthamjboppnlpdaaDq
import Derived.Test.YthamjboppnlpdaaDj
import Derived.Test.YthamjboppnlpdaaDe
namespace Go.Proofs.Ythamjboppnlpdaa.Cu
open Go.Proofs.Ythamjboppnlpdaa.Sb
set_option linter.unusedVariables false
theorem fold_keep : ∀ (l k : List Cb) (x : Cb), (∃ o ∈ k, implC x o = true) → ∃ o ∈ l.foldl absS k, implC x o = true
  | [], k, x, h => h
  | c :: l, k, x, h => by
    refine fold_keep l (absS k c) x ?_
    obtain ⟨o, ho, hi⟩ := h
    refine ⟨o, ?_, hi⟩
    unfold absS
    by_cases e : ∃ o ∈ k, implC c o = true
    · rw [if_pos e]; exact ho
    · rw [if_neg e, List.mem_append]; exact .inl ho
theorem fold_cover : ∀ (l k : List Cb) (x : Cb), x ∈ l → ∃ o ∈ l.foldl absS k, implC x o = true
  | [], k, x, h => by cases h
  | c :: l, k, x, h => by
    rcases List.mem_cons.1 h with rfl | h
    · refine fold_keep l (absS k x) x ?_
      unfold absS
      by_cases e : ∃ o ∈ k, implC x o = true
      · rw [if_pos e]; exact e
      · rw [if_neg e]; exact ⟨x, List.mem_append.2 (.inr (List.mem_singleton.2 rfl)), implC_refl x⟩
    · exact fold_cover l (absS k c) x h
theorem inL_pos {l : List Cb} {s : Nat} : 0 < inL l s ↔ ∃ c ∈ l, holdsC c s = true := by
  unfold inL
  rw [List.countP_pos_iff]
theorem abs_in (l : List Cb) (s : Nat) : 0 < inL (absL l) s ↔ 0 < inL l s := by
  rw [inL_pos, inL_pos]
  constructor
  · rintro ⟨c, hc, hs⟩
    exact ⟨c, (sortL_perm l).mem_iff.1 (absF_sub hc), hs⟩
  · rintro ⟨c, hc, hs⟩
    obtain ⟨o, ho, hi⟩ := fold_cover (sortL l) [] c ((sortL_perm l).mem_iff.2 hc)
    exact ⟨o, ho, implC_holds hi hs⟩
theorem common {a b : Cb} (ha : OkC a) (hb : OkC b) (h : clash a b = 0) : ∃ s, holdsC a s = true ∧ holdsC b s = true := by
  refine ⟨a.1 ||| b.1, ?_, ?_⟩
  · rw [holdsC_iff]
    intro i
    rw [clash_zero] at h
    have ho := and_zero.1 ha.2.2 i
    rw [Nat.testBit_or]
    refine ⟨fun x => by rw [x]; rfl, fun x => ?_⟩
    have h2 := (h i).2 x
    cases e : a.1.testBit i with
    | false => rw [h2]; rfl
    | true => rw [ho e] at x; cases x
  · rw [holdsC_iff]
    intro i
    rw [clash_zero] at h
    have ho := and_zero.1 hb.2.2 i
    rw [Nat.testBit_or]
    refine ⟨fun x => by rw [x, Bool.or_true], fun x => ?_⟩
    cases e : a.1.testBit i with
    | false =>
      cases e2 : b.1.testBit i with
      | false => rfl
      | true => rw [ho e2] at x; cases x
    | true => rw [(h i).1 e] at x; cases x
theorem in_two {l : List Cb} {s i j : Nat} (hi : i < l.length) (hj : j < i) (h1 : holdsC (l.getD i (0, 0)) s = true) (h2 : holdsC (l.getD j (0, 0)) s = true) : 2 ≤ inL l s := by
  have e : l = l.take i ++ l.drop i := (List.take_append_drop i l).symm
  have e2 : inL l s = inL (l.take i) s + inL (l.drop i) s := by rw [← inL_append, ← e]
  have p1 : 0 < inL (l.take i) s := inL_pos.2 ⟨_, getD_mem (d := (0, 0)) (j := j) (by rw [List.length_take]; omega), by rw [getD_take hj]; exact h2⟩
  have p2 : 0 < inL (l.drop i) s := inL_pos.2 ⟨l.getD i (0, 0), by
    rw [List.getD_eq_getElem?_getD, List.getElem?_eq_getElem hi]
    have : l.drop i = l[i] :: l.drop (i + 1) := List.drop_eq_getElem_cons hi
    rw [this]
    exact List.mem_cons_self, h1⟩
  omega
theorem cover_disj {l cv : List Cb} (hl : ∀ d ∈ l, OkC d) (h : coverL l = some cv) : DisjP cv cv.length := by
  intro i hi j hj e
  have ok := cover_ok hl h
  obtain ⟨s, h1, h2⟩ := common (ok _ (getD_mem (d := (0, 0)) hi)) (ok _ (getD_mem (d := (0, 0)) (show j < cv.length by omega))) e
  have h3 := in_two hi hj h1 h2
  rw [cover_in hl h s] at h3
  split at h3 <;> omega
theorem unc_in (l : List Cb) (s : Nat) : (if unc l s then 0 else 1) = min (inL l s) 1 := by
  cases h : unc l s with
  | true =>
    have : ¬ 0 < inL l s := fun hp => by
      obtain ⟨c, hc, hh⟩ := inL_pos.1 hp
      unfold unc at h
      rw [List.all_eq_true] at h
      have := h c hc
      rw [hh] at this
      cases this
    simp; omega
  | false =>
    have : 0 < inL l s := by
      rw [inL_pos]
      unfold unc at h
      rw [List.all_eq_false] at h
      obtain ⟨c, hc, hh⟩ := h
      exact ⟨c, hc, by simpa using hh⟩
    simp; omega
theorem cover_min {l cv : List Cb} (hl : ∀ d ∈ l, OkC d) (h : coverL l = some cv) (s : Nat) : inL cv s = min (inL l s) 1 := by rw [cover_in hl h s, unc_in]
end Go.Proofs.Ythamjboppnlpdaa.Cu
