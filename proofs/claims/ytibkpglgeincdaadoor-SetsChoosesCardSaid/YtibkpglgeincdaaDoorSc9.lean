/-
  Subsets of a set, as the specification lists them. No program.
-/
import Derived.Test.YtibkpglgeincdaaDoorSf0
import Derived.Test.YtibkpglgeincdaaDoorSb1
import Derived.Test.YtibkpglgeincdaaDoorSb3
namespace Go.Proofs.YtibkpglgeincdaaDoor.Sb
set_option linter.unusedVariables false
theorem and_sub (x m : Nat) : x &&& m = x ↔ ∀ b, x.testBit b = true → m.testBit b = true := by
  constructor
  · intro h b hb
    rw [← h, Nat.testBit_and, Bool.and_eq_true] at hb
    exact hb.2
  · intro h
    refine Nat.eq_of_testBit_eq fun b => ?_
    rw [Nat.testBit_and]
    cases e : x.testBit b with
    | false => rfl
    | true => rw [h b e]; rfl
theorem subs_step (L : List Nat) (m i : Nat) (hL : ∀ x, x ∈ L ↔ x &&& m = x) (x : Nat) : x ∈ L ++ L.map (· ||| 2 ^ i) ↔ x &&& (m ||| 2 ^ i) = x := by
  constructor
  · intro h
    rw [and_sub]
    rcases List.mem_append.1 h with h | h
    · intro b hb
      rw [Nat.testBit_or, (and_sub x m).1 ((hL x).1 h) b hb]; rfl
    · obtain ⟨a, ha, rfl⟩ := List.mem_map.1 h
      intro b hb
      rw [Nat.testBit_or] at hb ⊢
      cases e : a.testBit b with
      | true => rw [(and_sub a m).1 ((hL a).1 ha) b e]; rfl
      | false => rw [e, Bool.false_or] at hb; rw [hb, Bool.or_true]
  · intro h
    rw [and_sub] at h
    by_cases hs : ∀ b, x.testBit b = true → m.testBit b = true
    · exact List.mem_append.2 (.inl ((hL x).2 ((and_sub x m).2 hs)))
    · have hi : x.testBit i = true := by
        cases e : x.testBit i with
        | true => rfl
        | false =>
          exfalso
          refine hs fun b hb => ?_
          have h2 := h b hb
          rw [Nat.testBit_or] at h2
          cases e2 : m.testBit b with
          | true => rfl
          | false =>
            rw [e2, Bool.false_or, Nat.testBit_two_pow, decide_eq_true_iff] at h2
            subst h2
            rw [e] at hb; cases hb
      refine List.mem_append.2 (.inr (List.mem_map.2 ⟨x &&& m, (hL _).2 ?_, ?_⟩))
      · rw [and_sub]
        intro b hb
        rw [Nat.testBit_and, Bool.and_eq_true] at hb
        exact hb.2
      · refine Nat.eq_of_testBit_eq fun b => ?_
        rw [Nat.testBit_or, Nat.testBit_and, Nat.testBit_two_pow]
        by_cases hb : i = b
        · subst hb; rw [hi, decide_eq_true rfl, Bool.or_true]
        · rw [decide_eq_false hb, Bool.or_false]
          cases e : x.testBit b with
          | false => rfl
          | true =>
            have h2 := h b e
            rw [Nat.testBit_or, Nat.testBit_two_pow, decide_eq_false hb, Bool.or_false] at h2
            rw [h2]; rfl
/-- the sets of the first j elements -/
def pl (es : List Nat) : Nat → List Nat
  | 0 => [0]
  | j + 1 => pl es j ++ (pl es j).map (· ||| 2 ^ es.getD j 0)
def mkM (es : List Nat) : Nat → Nat
  | 0 => 0
  | j + 1 => mkM es j ||| 2 ^ es.getD j 0
theorem pl_len (es : List Nat) (j : Nat) : (pl es j).length = 2 ^ j := by
  induction j with
  | zero => rfl
  | succ j ih => rw [pl, List.length_append, List.length_map, ih, Nat.pow_succ]; omega
theorem pl_mem (es : List Nat) (j : Nat) : ∀ x, x ∈ pl es j ↔ x &&& mkM es j = x := by
  induction j with
  | zero =>
    intro x
    show x ∈ [0] ↔ x &&& 0 = x
    rw [Nat.and_zero, List.mem_singleton]
    exact eq_comm
  | succ j ih => exact subs_step _ _ _ ih
theorem mkM_bit (es : List Nat) (j i : Nat) : (mkM es j).testBit i = true ↔ ∃ t, t < j ∧ es.getD t 0 = i := by
  induction j with
  | zero => simp [mkM]
  | succ j ih =>
    rw [mkM, Nat.testBit_or, Bool.or_eq_true, ih, Nat.testBit_two_pow, decide_eq_true_iff]
    constructor
    · rintro (⟨t, h1, h2⟩ | h)
      · exact ⟨t, by omega, h2⟩
      · exact ⟨j, by omega, h⟩
    · rintro ⟨t, h1, h2⟩
      by_cases h : t = j
      · subst h; exact .inr h2
      · exact .inl ⟨t, by omega, h2⟩
theorem mkM_els (s : Nat) (hs : s < 16777216) : mkM (els s) (els s).length = s := by
  refine Nat.eq_of_testBit_eq fun b => ?_
  have h1 := mkM_bit (els s) (els s).length b
  have h2 : (∃ t, t < (els s).length ∧ (els s).getD t 0 = b) ↔ b ∈ els s := by
    rw [List.mem_iff_getElem]
    constructor
    · rintro ⟨t, ht, e⟩
      exact ⟨t, ht, by simpa [ht] using e⟩
    · rintro ⟨t, ht, e⟩
      exact ⟨t, ht, by simpa [ht] using e⟩
  rw [h2, mem_els] at h1
  cases e : s.testBit b with
  | false =>
    rw [e] at h1
    cases e2 : (mkM (els s) (els s).length).testBit b with
    | false => rfl
    | true => exact absurd (h1.1 e2).2 (by simp)
  | true =>
    refine h1.2 ⟨?_, e⟩
    rcases Nat.lt_or_ge b 24 with h | h
    · exact h
    · exfalso
      have h24 : (2 : Nat) ^ 24 ≤ 2 ^ b := Nat.pow_le_pow_right (by decide) h
      have h25 : (2 : Nat) ^ 24 = 16777216 := rfl
      have : s < 2 ^ b := by omega
      rw [Nat.testBit_lt_two_pow this] at e
      cases e
theorem pl_ok (s : Nat) (hs : s < 16777216) : ∀ x ∈ pl (els s) (els s).length, x < 16777216 := fun x hx => by
  have h := (pl_mem _ _ x).1 hx
  rw [mkM_els s hs] at h
  have : x &&& s ≤ s := Nat.and_le_right
  omega
theorem pl_sub (s : Nat) (hs : s < 16777216) (x : Nat) : x ∈ pl (els s) (els s).length ↔ x < 2 ^ 24 ∧ x &&& s = x := by
  constructor
  · intro h
    refine ⟨pl_ok s hs x h, ?_⟩
    have h2 := (pl_mem _ _ x).1 h
    rwa [mkM_els s hs] at h2
  · rintro ⟨_, h⟩
    rw [pl_mem, mkM_els s hs]; exact h
/-- what Parts answers -/
def partsR (s : Int) : List Nat × Nat := if 0 ≤ s ∧ s < 16777216 then (if 10 < pc s.toNat then ([], 4) else (sortU (pl (els s.toNat) (els s.toNat).length), 0)) else ([], 3)
end Go.Proofs.YtibkpglgeincdaaDoor.Sb
