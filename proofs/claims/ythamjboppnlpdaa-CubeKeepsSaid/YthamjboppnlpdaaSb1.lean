/-
  Sets of events: the ascending list of the elements, their number, the least and the greatest one, the order of sets.
-/
import Derived.Laws.BitsAllLaws
import Derived.Laws.BitsLemmas
import Derived.Lib.BitFns
import Derived.Lib.TrailingZeros
namespace Go.Proofs.Ythamjboppnlpdaa.Sb
set_option linter.unusedVariables false
/-- the elements, ascending -/
def els (c : Nat) : List Nat := (List.range 24).filter (fun i => c.testBit i)
/-- the elements below k -/
def elsTo (c k : Nat) : List Nat := (List.range k).filter (fun i => c.testBit i)
/-- how many -/
def pc (c : Nat) : Nat := (els c).length
theorem els_to (c : Nat) : els c = elsTo c 24 := rfl
theorem elsTo_succ (c k : Nat) : elsTo c (k + 1) = if c.testBit k then elsTo c k ++ [k] else elsTo c k := by
  unfold elsTo
  rw [List.range_succ, List.filter_append]
  by_cases h : c.testBit k <;> simp [h]
theorem mem_els (c i : Nat) : i ∈ els c ↔ i < 24 ∧ c.testBit i = true := by simp [els]
theorem mem_elsTo (c k i : Nat) : i ∈ elsTo c k ↔ i < k ∧ c.testBit i = true := by simp [elsTo]
theorem els_sorted (c : Nat) : (els c).Pairwise (· < ·) := List.Pairwise.filter _ List.pairwise_lt_range
theorem elsTo_len (c k : Nat) : (elsTo c k).length ≤ k := by
  have := List.length_filter_le (fun i => c.testBit i) (List.range k)
  simpa [elsTo] using this
theorem pc_le (c : Nat) : pc c ≤ 24 := elsTo_len c 24
theorem els_zero : els 0 = [] := by simp [els]
theorem pc_zero : pc 0 = 0 := by unfold pc; rw [els_zero]; rfl
theorem eq_of_tb (a b : Nat) (ha : a < 2 ^ 24) (hb : b < 2 ^ 24) (h : ∀ i, i < 24 → a.testBit i = b.testBit i) : a = b := by
  apply Nat.eq_of_testBit_eq
  intro i
  by_cases hi : i < 24
  · exact h i hi
  · have hp : 2 ^ 24 ≤ 2 ^ i := Nat.pow_le_pow_right (by decide) (by omega)
    rw [Nat.testBit_lt_two_pow (Nat.lt_of_lt_of_le ha hp), Nat.testBit_lt_two_pow (Nat.lt_of_lt_of_le hb hp)]
theorem els_inj (a b : Nat) (ha : a < 2 ^ 24) (hb : b < 2 ^ 24) (h : els a = els b) : a = b := by
  apply eq_of_tb a b ha hb
  intro i hi
  have := congrArg (i ∈ ·) h
  simp only [mem_els, hi, true_and, eq_iff_iff] at this
  by_cases h1 : a.testBit i <;> by_cases h2 : b.testBit i <;> simp_all
theorem els_nil (c : Nat) (hc : c < 2 ^ 24) : els c = [] ↔ c = 0 := by
  constructor
  · intro h; exact els_inj c 0 hc (by decide) (by rw [h, els_zero])
  · rintro rfl; exact els_zero
theorem pc_eq_zero (c : Nat) (hc : c < 2 ^ 24) : pc c = 0 ↔ c = 0 := by
  rw [← els_nil c hc]; unfold pc; exact List.length_eq_zero_iff
/-- how many, bit by bit -/
theorem pop_range (f : Nat) : ∀ c : Nat, ((List.range f).filter (fun i => c.testBit i)).length = Lib.popAux f c := by
  induction f with
  | zero => intro c; rfl
  | succ f ih =>
    intro c
    rw [List.range_succ_eq_map, List.filter_cons, List.filter_map, Lib.popAux, ← ih (c / 2)]
    have e : ((fun i => c.testBit i) ∘ Nat.succ) = fun i => (c / 2).testBit i := by funext i; simp [Nat.testBit_succ]
    rw [e]
    by_cases h : c.testBit 0
    · have h2 : c % 2 = 1 := by simpa using h
      simp [h, h2]; omega
    · have h2 : c % 2 = 0 := by have : ¬ c % 2 = 1 := by simpa using h
                                omega
      simp [h, h2]
theorem pc_pop (c : Nat) : pc c = Lib.popAux 24 c := pop_range 24 c
theorem pop_drop (f : Nat) : ∀ c : Nat, c ≠ 0 → c < 2 ^ f → Lib.popAux f (c &&& (c - 1)) + 1 = Lib.popAux f c := by
  induction f with
  | zero => intro c h1 h2; simp at h2; omega
  | succ f ih =>
    intro c h1 h2
    rw [Nat.pow_succ] at h2
    simp only [Lib.popAux]
    rw [Nat.and_div_two, show (c &&& (c - 1)) % 2 = 0 by
      rw [show (2 : Nat) = 2 ^ 1 from rfl, Nat.and_mod_two_pow, show (2 : Nat) ^ 1 = 2 from rfl]
      rcases Nat.mod_two_eq_zero_or_one c with h | h
      · rw [h]; simp
      · rw [show (c - 1) % 2 = 0 by omega]; simp]
    rcases Nat.mod_two_eq_zero_or_one c with h | h
    · rw [h, show (c - 1) / 2 = c / 2 - 1 by omega, Nat.zero_add, Nat.zero_add]
      exact ih (c / 2) (by omega) (by omega)
    · rw [h, show (c - 1) / 2 = c / 2 by omega, Nat.and_self]; omega
theorem pc_drop (c : Nat) (h : c ≠ 0) (hc : c < 2 ^ 24) : pc (c &&& (c - 1)) + 1 = pc c := by rw [pc_pop, pc_pop]; exact pop_drop 24 c h hc
theorem pc_add (a b : Nat) : pc (a ||| b) + pc (a &&& b) = pc a + pc b := by
  unfold pc els
  generalize List.range 24 = l
  induction l with
  | nil => rfl
  | cons x l ih =>
    simp only [List.filter_cons, Nat.testBit_or, Nat.testBit_and]
    simp only [Nat.testBit_or, Nat.testBit_and] at ih
    cases a.testBit x <;> cases b.testBit x <;> simp <;> omega
theorem pc_pos_of (c : Nat) (hc : c < 2 ^ 24) (h : c ≠ 0) : 0 < pc c := by
  have := pc_eq_zero c hc
  omega
theorem pc_sub (a b : Nat) (ha : a < 2 ^ 24) (hb : b < 2 ^ 24) (h : a &&& b = a) (hn : a ≠ b) : pc a < pc b := by
  -- b is a and the rest
  have hd : a ||| (b ^^^ a) = b := by
    apply Nat.eq_of_testBit_eq; intro i
    have := congrArg (·.testBit i) h
    simp only [Nat.testBit_and] at this
    rw [Nat.testBit_or, Nat.testBit_xor]
    cases h1 : a.testBit i <;> cases h2 : b.testBit i <;> simp_all
  have hz : a &&& (b ^^^ a) = 0 := by
    apply Nat.eq_of_testBit_eq; intro i
    have := congrArg (·.testBit i) h
    simp only [Nat.testBit_and] at this
    rw [Nat.testBit_and, Nat.testBit_xor, Nat.zero_testBit]
    cases h1 : a.testBit i <;> cases h2 : b.testBit i <;> simp_all
  have := pc_add a (b ^^^ a)
  rw [hd, hz, pc_zero] at this
  have hx : b ^^^ a ≠ 0 := by
    intro h0
    rw [h0] at hd
    simp at hd; exact hn hd
  have := pc_pos_of (b ^^^ a) (Nat.xor_lt_two_pow hb ha) hx
  omega
/-- the order -/
def cmpS (a b : Nat) : Int := if pc a < pc b then -1 else if pc b < pc a then 1 else if a < b then -1 else if b < a then 1 else 0
theorem cmpS_eq (a b : Nat) : cmpS a b = 0 ↔ a = b := by
  unfold cmpS
  constructor
  · intro h; repeat' split at h <;> first | omega | skip
  · rintro rfl; simp
theorem cmpS_neg (a b : Nat) : cmpS a b = - cmpS b a := by
  unfold cmpS
  repeat' split <;> first | omega | skip
theorem cmpS_lt (a b : Nat) : cmpS a b < 0 ↔ (pc a < pc b ∨ pc a = pc b ∧ a < b) := by
  unfold cmpS
  by_cases h1 : pc a < pc b
  · simp [h1]
  · by_cases h2 : pc b < pc a
    · simp [h1, h2]; omega
    · by_cases h3 : a < b
      · simp [h1, h2, h3]; omega
      · by_cases h4 : b < a <;> simp [h1, h2, h3, h4]
theorem cmpS_trans (a b c : Nat) (h1 : cmpS a b < 0) (h2 : cmpS b c < 0) : cmpS a c < 0 := by
  rw [cmpS_lt] at *; omega
theorem cmpS_range (a b : Nat) : cmpS a b = -1 ∨ cmpS a b = 0 ∨ cmpS a b = 1 := by
  unfold cmpS
  by_cases h1 : pc a < pc b
  · exact Or.inl (if_pos h1)
  · rw [if_neg h1]
    by_cases h2 : pc b < pc a
    · exact Or.inr (Or.inr (if_pos h2))
    · rw [if_neg h2]
      by_cases h3 : a < b
      · exact Or.inl (if_pos h3)
      · rw [if_neg h3]
        by_cases h4 : b < a
        · exact Or.inr (Or.inr (if_pos h4))
        · exact Or.inr (Or.inl (if_neg h4))
/-- a part -/
def subS (a b : Nat) : Bool := a &&& b == a
theorem subS_els (a b : Nat) (ha : a < 2 ^ 24) : subS a b = (els a).all (fun i => b.testBit i) := by
  unfold subS
  rw [Bool.eq_iff_iff, beq_iff_eq, List.all_eq_true]
  constructor
  · intro h i hi
    have := congrArg (·.testBit i) h
    rw [mem_els] at hi
    simp only [Nat.testBit_and] at this
    simp_all
  · intro h
    apply Nat.eq_of_testBit_eq; intro i
    rw [Nat.testBit_and]
    by_cases hi : i < 24
    · by_cases h1 : a.testBit i
      · rw [h i ((mem_els a i).2 ⟨hi, h1⟩)]; simp
      · simp [h1]
    · rw [Nat.testBit_lt_two_pow (Nat.lt_of_lt_of_le ha (Nat.pow_le_pow_right (by decide) (by omega : 24 ≤ i)))]; simp
/-- the least element, or -1 -/
def least (c : Nat) : Int := match els c with | [] => -1 | i :: _ => (i : Int)
/-- the greatest one, or -1 -/
def greatest (c : Nat) : Int := match (els c).getLast? with | none => -1 | some i => (i : Int)
theorem filter_upto (p : Nat → Bool) (n m : Nat) (h : n ≤ m) (hp : ∀ i, n ≤ i → i < m → p i = false) : (List.range m).filter p = (List.range n).filter p := by
  induction m with
  | zero => obtain rfl : n = 0 := by omega
            rfl
  | succ m ih =>
    rcases Nat.eq_or_lt_of_le h with h1 | h1
    · subst h1; rfl
    · rw [List.range_succ, List.filter_append, ih (by omega) (fun i a b => hp i a (by omega))]
      simp [hp m (by omega) (by omega)]
/-- the greatest one stands last -/
theorem els_last (c l : Nat) (hl : l < 24) (h1 : c.testBit l = true) (h2 : ∀ i, l < i → i < 24 → c.testBit i = false) : els c = elsTo c l ++ [l] := by
  unfold els
  rw [filter_upto _ (l + 1) 24 (by omega) (fun i a b => h2 i (by omega) b)]
  show elsTo c (l + 1) = _
  rw [elsTo_succ, if_pos h1]
theorem greatest_last (c l : Nat) (hl : l < 24) (h1 : c.testBit l = true) (h2 : ∀ i, l < i → i < 24 → c.testBit i = false) : greatest c = (l : Int) := by
  unfold greatest
  rw [els_last c l hl h1 h2]; simp
theorem bitLen_aux (f : Nat) : ∀ c, c ≠ 0 → c < 2 ^ f → ∃ l, Lib.bitLenAux f c = l + 1 ∧ 2 ^ l ≤ c ∧ c < 2 ^ (l + 1) := by
  induction f with
  | zero => intro c h1 h2; simp at h2; omega
  | succ f ih =>
    intro c h1 h2
    rw [Nat.pow_succ] at h2
    rw [Lib.bitLenAux, if_neg h1]
    by_cases h : c / 2 = 0
    · refine ⟨0, ?_, by omega, by omega⟩
      rw [h]; cases f <;> simp [Lib.bitLenAux]
    · obtain ⟨l, e, a, b⟩ := ih (c / 2) h (by omega)
      refine ⟨l + 1, by omega, ?_, ?_⟩
      · rw [Nat.pow_succ]; omega
      · rw [Nat.pow_succ]; omega
theorem greatest_len (c : Nat) (hc : c < 2 ^ 24) : greatest c = (Lib.bitLen c : Int) - 1 := by
  by_cases h : c = 0
  · subst h; decide
  · obtain ⟨l, e, a, b⟩ := bitLen_aux 64 c h (by omega)
    unfold Lib.bitLen
    rw [e]
    have hl : l < 24 := by
      have := Nat.lt_of_le_of_lt a hc
      exact (Nat.pow_lt_pow_iff_right (by decide)).1 this
    rw [greatest_last c l hl ?_ ?_]
    · omega
    · rw [Nat.testBit_eq_decide_div_mod_eq, decide_eq_true_eq]
      have : c / 2 ^ l = 1 := by
        rw [Nat.pow_succ] at b
        have h1 : 1 ≤ c / 2 ^ l := (Nat.le_div_iff_mul_le (Nat.pow_pos (by decide))).2 (by omega)
        have h2 : c / 2 ^ l < 2 := (Nat.div_lt_iff_lt_mul (Nat.pow_pos (by decide))).2 (by omega)
        omega
      rw [this]
    · intro i hi _
      exact Nat.testBit_lt_two_pow (Nat.lt_of_lt_of_le b (Nat.pow_le_pow_right (by decide) (by omega)))
theorem filter_first (p : Nat → Bool) (l m : Nat) (hl : l < m) (h1 : p l = true) (h2 : ∀ i, i < l → p i = false) : ∃ r, (List.range m).filter p = l :: r := by
  induction m with
  | zero => omega
  | succ m ih =>
    rw [List.range_succ, List.filter_append]
    rcases Nat.eq_or_lt_of_le (Nat.le_of_lt_succ hl) with h | h
    · subst h
      have : (List.range l).filter p = [] := by simpa using fun i a => h2 i a
      exact ⟨[], by simp [this, h1]⟩
    · obtain ⟨r, e⟩ := ih h
      exact ⟨r ++ [m].filter p, by rw [e]; rfl⟩
theorem least_first (c l : Nat) (hl : l < 24) (h1 : c.testBit l = true) (h2 : ∀ i, i < l → c.testBit i = false) : least c = (l : Int) := by
  unfold least els
  obtain ⟨r, e⟩ := filter_first (fun i => c.testBit i) l 24 hl h1 h2
  rw [e]
/-- the zeros at the end of a number: its least bit -/
theorem tz_spec (x : Nat) (h : x ≠ 0) (hx : x < 2 ^ 64) : x.testBit (Lib.ctz 64 x) = true ∧ ∀ i, i < Lib.ctz 64 x → x.testBit i = false := by
  unfold Lib.ctz
  rw [if_neg h]
  obtain ⟨m, e, _⟩ := Lib.ctzFrom_spec 64 x (by omega) hx
  generalize Lib.ctzFrom 64 x = k at e
  have e' : x = 2 ^ k * (2 * m + 1) + 0 := by omega
  constructor
  · rw [e', Nat.testBit_two_pow_mul_add _ (Nat.pow_pos (by decide))]; simp
  · intro i hi
    rw [e', Nat.testBit_two_pow_mul_add _ (Nat.pow_pos (by decide))]; simp [hi]
theorem least_tz (x : Nat) (hx : x < 2 ^ 64) (h : x % 2 ^ 24 ≠ 0) : least (x % 2 ^ 24) = (Lib.ctz 64 x : Int) := by
  have h0 : x ≠ 0 := by rintro rfl; exact h rfl
  obtain ⟨a, b⟩ := tz_spec x h0 hx
  generalize Lib.ctz 64 x = k at a b
  have hk : k < 24 := by
    refine Classical.byContradiction fun hk => h ?_
    apply Nat.eq_of_testBit_eq; intro i
    rw [Nat.testBit_mod_two_pow, Nat.zero_testBit]
    by_cases hi : i < 24
    · rw [b i (by omega)]; simp
    · simp [hi]
  refine least_first _ k hk ?_ ?_
  · rw [Nat.testBit_mod_two_pow, a]; simp [hk]
  · intro i hi; rw [Nat.testBit_mod_two_pow, b i hi]; simp
end Go.Proofs.Ythamjboppnlpdaa.Sb
