/-
  Sets and their texts and lists: back again.
-/
import Derived.Test.YteijndnofihgdaaDoorSq3
namespace Go.Proofs.YteijndnofihgdaaDoor.Sb
open Go.RowKit Go.Lib
set_option linter.unusedVariables false
set_option maxRecDepth 100000
theorem cut2_app (x r : List UInt8) (h : ∀ b ∈ x, b ≠ 44) : cut2 (x ++ 44 :: 32 :: r) = (x, r, true) := by
  induction x with
  | nil => simp [cut2, List.isPrefixOf]
  | cons b x ih =>
    have hb := h b (List.mem_cons_self ..)
    have hb2 : ¬ (44 : UInt8) = b := fun e => hb e.symm
    have hi := ih fun c hc => h c (List.mem_cons_of_mem _ hc)
    rw [List.cons_append]
    unfold cut2
    rw [if_neg (by simp [List.isPrefixOf, hb2]), hi]
theorem cut2_none (x : List UInt8) (h : ∀ b ∈ x, b ≠ 44) : cut2 x = (x, [], false) := by
  induction x with
  | nil => rfl
  | cons b x ih =>
    have hb := h b (List.mem_cons_self ..)
    have hb2 : ¬ (44 : UInt8) = b := fun e => hb e.symm
    have hi := ih fun c hc => h c (List.mem_cons_of_mem _ hc)
    unfold cut2
    rw [if_neg (by simp [List.isPrefixOf, hb2]), hi]
def dig2 (i : Nat) : List UInt8 := if i < 10 then [UInt8.ofNat (48 + i)] else [UInt8.ofNat (48 + i / 10), UInt8.ofNat (48 + i % 10)]
theorem dec_dig2 (i : Nat) (h : i < 100) : decDigits i = dig2 i := by
  unfold dig2
  by_cases h1 : i < 10
  · rw [decDigits_one h1, if_pos h1]
  · rw [decDigits_two h1 h, if_neg h1]
theorem dig2_facts : ∀ i, i < 100 → numP (dig2 i) = some i ∧ (∀ b ∈ dig2 i, b ≠ 44) := by decide +kernel
theorem join_two (x y : List UInt8) (r : List (List UInt8)) : Lib.join (x :: y :: r) [44, 32] = x ++ 44 :: 32 :: Lib.join (y :: r) [44, 32] := by
  rw [join_cons, join_cons]
  simp [joinTail]
theorem tok_join (l : List Nat) : (∀ i ∈ l, i < 100) → l ≠ [] → tok (Lib.join (l.map decDigits) [44, 32]) = some l := by
  induction l with
  | nil => intro _ h; exact absurd rfl h
  | cons i l ih =>
    intro h _
    have hi := h i (List.mem_cons_self ..)
    obtain ⟨h1, h2⟩ := dig2_facts i hi
    rcases l with _ | ⟨j, l⟩
    · rw [List.map_cons, List.map_nil, join_one, tok_eq, dec_dig2 i hi, cut2_none _ h2]
      simp only [h1]
      rfl
    · have hr := ih (fun k hk => h k (List.mem_cons_of_mem _ hk)) (by simp)
      rw [List.map_cons, List.map_cons, join_two, tok_eq, dec_dig2 i hi, cut2_app _ _ h2]
      rw [List.map_cons] at hr
      simp only [h1, hr]
      rfl
theorem maskN_snoc (l : List Nat) (n : Nat) : ∀ acc, maskN acc (l ++ [n]) = maskN acc l + 2 ^ n := by
  induction l with
  | nil => intro acc; rfl
  | cons i l ih => intro acc; rw [List.cons_append, maskN, maskN, ih]
theorem mask_to (c k : Nat) : maskN 0 (elsTo c k) = c % 2 ^ k := by
  induction k with
  | zero => simp [elsTo, maskN, Nat.mod_one]
  | succ k ih =>
    rw [elsTo_succ, Nat.mod_pow_succ]
    by_cases h : c.testBit k = true
    · have h2 : c / 2 ^ k % 2 = 1 := by rw [Nat.testBit_eq_decide_div_mod_eq] at h; simpa using h
      rw [if_pos h, maskN_snoc, ih, h2, Nat.mul_one]
    · have h2 : c / 2 ^ k % 2 = 0 := by
        rw [Nat.testBit_eq_decide_div_mod_eq] at h
        have : ¬ c / 2 ^ k % 2 = 1 := by simpa using h
        omega
      rw [if_neg h, ih, h2, Nat.mul_zero, Nat.add_zero]
theorem mask_els (c : Nat) (h : c < 2 ^ 24) : maskN 0 (els c) = c := by rw [els_to, mask_to, Nat.mod_eq_of_lt h]
theorem asc_of (l : List Nat) : ∀ last : Int, (∀ i ∈ l, last < (i : Int)) → l.Pairwise (· < ·) → ascFrom last l = true := by
  induction l with
  | nil => intro last _ _; rfl
  | cons i l ih =>
    intro last h hp
    rw [List.pairwise_cons] at hp
    unfold ascFrom
    rw [decide_eq_true (h i (List.mem_cons_self ..)), Bool.true_and]
    exact ih _ (fun j hj => by have := hp.1 j hj; omega) hp.2
theorem asc_els (s : Nat) : ascFrom (-1) (els s) = true := asc_of _ _ (fun i _ => by omega) (els_sorted s)
theorem all_els (s : Nat) : (els s).all (· < 24) = true := by
  rw [List.all_eq_true]
  intro i hi
  simpa using ((mem_els s i).1 hi).1
theorem parse_text (s : Nat) (hs : s < 16777216) : parseR (textL s) = ((s : Int), 0) := by
  unfold parseR textL
  have h1 : (([123] : List UInt8) ++ (Lib.join (digs s) [44, 32] ++ [125])).head? = some 123 := rfl
  have h2 : (([123] : List UInt8) ++ (Lib.join (digs s) [44, 32] ++ [125])).tail = Lib.join (digs s) [44, 32] ++ [125] := rfl
  rw [h2, if_pos ⟨h1, by simp⟩, List.dropLast_concat]
  by_cases h0 : els s = []
  · have : s = 0 := (els_nil s hs).1 h0
    subst this
    unfold digs
    rw [h0]
    rfl
  · have ht := tok_join (els s) (fun i hi => by have := ((mem_els s i).1 hi).1; omega) h0
    have hne : Lib.join (digs s) [44, 32] ≠ [] := by
      intro e
      have e2 : tok [] = some (els s) := by rw [← ht]; unfold digs at e; rw [e]
      rw [tok_eq] at e2
      simp [cut2, numP] at e2
    rw [if_neg hne]
    unfold restE digs
    rw [ht]
    show evalP 0 (-1) true true (els s) = _
    have := evalP_eq (els s) 0 (-1) (by decide) (fun i hi => Nat.pow_pos (by decide))
    rw [if_pos (all_els s), if_pos (asc_els s), mask_els s hs] at this
    exact this
theorem ofGo_asc (l : List Nat) : ∀ (acc : Nat) (last : Int), acc < 2 ^ 24 → (∀ i : Nat, last < (i : Int) → acc < 2 ^ i) → (∀ i ∈ l, i < 24) → ascFrom last l = true → ofGo acc (ints l) = (maskN acc l, 0) := by
  induction l with
  | nil => intro acc last _ _ _ _; rfl
  | cons i r ih =>
    intro acc last hs hl h24 hasc
    unfold ascFrom at hasc
    rw [Bool.and_eq_true] at hasc
    have h2 := of_decide_eq_true hasc.1
    have hi := h24 i (List.mem_cons_self ..)
    have hb : acc.testBit i = false := Nat.testBit_lt_two_pow (hl i h2)
    have hlt := hl i h2
    show ofGo acc ((i : Int) :: ints r) = _
    unfold ofGo maskN
    rw [if_neg (by omega), Int.toNat_natCast, if_neg (by rw [hb]; decide), or_bit acc i hb]
    refine ih _ (i : Int) ?_ ?_ (fun j hj => h24 j (List.mem_cons_of_mem _ hj)) hasc.2
    · rw [← or_bit acc i hb]; exact or_lt acc i hs hi
    · intro j hj
      have : 2 ^ (i + 1) ≤ 2 ^ j := Nat.pow_le_pow_right (by decide) (by omega)
      rw [Nat.pow_succ] at this
      omega
theorem of_list (s : Nat) (hs : s < 16777216) : ofS (ints (els s)) = (s, 0) := by
  unfold ofS
  rw [if_neg (by rw [ints_length]; have := els_le s; omega), ofGo_asc (els s) 0 (-1) (by decide) (fun i hi => Nat.pow_pos (by decide)) (fun i hi => ((mem_els s i).1 hi).1) (asc_els s), mask_els s hs]
theorem pc_pow : ∀ i, i < 24 → pc (2 ^ i) = 1 := by decide +kernel
theorem pc_or (s i : Nat) (hi : i < 24) (hb : s.testBit i = false) : pc (s ||| 2 ^ i) = pc s + 1 := by
  have h := pc_add s (2 ^ i)
  have h0 : s &&& 2 ^ i = 0 := by
    rw [nat_bit]
    have : s / 2 ^ i % 2 = 0 := by
      rw [Nat.testBit_eq_decide_div_mod_eq] at hb
      have : ¬ s / 2 ^ i % 2 = 1 := by simpa using hb
      omega
    rw [this, Nat.zero_mul]
  rw [h0, pc_zero, pc_pow i hi] at h
  omega
theorem ofGo_code (l : List Int) : ∀ s, s < 2 ^ 24 → ((ofGo s l).2 ≠ 0 → (ofGo s l).1 = 0) ∧ ((ofGo s l).2 = 0 → pc (ofGo s l).1 = pc s + l.length) ∧ (ofGo s l).1 < 2 ^ 24 := by
  induction l with
  | nil => intro s hs; exact ⟨fun h => absurd rfl h, fun _ => rfl, hs⟩
  | cons i l ih =>
    intro s hs
    unfold ofGo
    by_cases h1 : i < 0 ∨ 24 ≤ i
    · rw [if_pos h1]; exact ⟨fun _ => rfl, fun h => absurd h (by decide), by decide⟩
    · rw [if_neg h1]
      by_cases h2 : s.testBit i.toNat = true
      · rw [if_pos h2]; exact ⟨fun _ => rfl, fun h => absurd h (by decide), by decide⟩
      · have hb : s.testBit i.toNat = false := by simpa using h2
        rw [if_neg h2]
        obtain ⟨a, b, c⟩ := ih (s ||| 2 ^ i.toNat) (or_lt s i.toNat hs (by omega))
        refine ⟨a, fun h => ?_, c⟩
        rw [b h, pc_or s i.toNat (by omega) hb, List.length_cons]; omega
theorem ofS_code (l : List Int) : ((ofS l).2 ≠ 0 → (ofS l).1 = 0) ∧ ((ofS l).2 = 0 → (els (ofS l).1).length = l.length) ∧ (ofS l).1 < 16777216 := by
  unfold ofS
  by_cases h : 24 < l.length
  · rw [if_pos h]; exact ⟨fun _ => rfl, fun h => absurd h (by decide), by decide⟩
  · rw [if_neg h]
    obtain ⟨a, b, c⟩ := ofGo_code l 0 (by decide)
    refine ⟨a, fun h => ?_, c⟩
    have := b h
    rw [pc_zero, Nat.zero_add] at this
    exact this
end Go.Proofs.YteijndnofihgdaaDoor.Sb
