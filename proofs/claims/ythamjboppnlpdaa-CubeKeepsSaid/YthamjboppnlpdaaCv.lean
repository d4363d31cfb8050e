/-
  How many states of a cube are in no cube of a list. No statement of the program.
-/
import Derived.Test.YthamjboppnlpdaaCp
namespace Go.Proofs.Ythamjboppnlpdaa.Cu
open Go.Proofs.Ythamjboppnlpdaa.Sb
set_option linter.unusedVariables false
/-- a state is in no cube of the list -/
def unc (l : List Cb) (s : Nat) : Bool := l.all fun d => !holdsC d s
/-- how many states of the first v events are in c and in no cube of l -/
def U (v : Nat) (l : List Cb) (c : Cb) : Nat := (List.range (2 ^ v)).countP fun s => holdsC c s && unc l s
/-- the cubes with a state in common with c -/
def near (c : Cb) (l : List Cb) : List Cb := l.filter fun d => decide (clash c d = 0)
theorem unc_iff (l : List Cb) (s : Nat) : unc l s = true ↔ ∀ d ∈ l, holdsC d s = false := by
  unfold unc
  rw [List.all_eq_true]
  exact ⟨fun h d hd => by simpa using h d hd, fun h d hd => by rw [h d hd]; rfl⟩
theorem U_near (v : Nat) (l : List Cb) (c : Cb) : U v l c = U v (near c l) c := by
  unfold U
  congr 1
  funext s
  cases hc : holdsC c s with
  | false => rfl
  | true =>
    rw [Bool.true_and, Bool.true_and, Bool.eq_iff_iff, unc_iff, unc_iff]
    constructor
    · intro h d hd
      exact h d (List.mem_filter.1 hd).1
    · intro h d hd
      by_cases hz : clash c d = 0
      · exact h d (List.mem_filter.2 ⟨hd, decide_eq_true hz⟩)
      · cases hdd : holdsC d s with
        | false => rfl
        | true => exact absurd ⟨hc, hdd⟩ (clash_holds hz)
theorem countP_split (R : List Nat) (L : List Cb) (P Q : Nat → Bool) (h : ∀ s, (if P s then 1 else 0) = (if Q s then inL L s else 0)) : R.countP P = (L.map fun p => R.countP fun s => holdsC p s && Q s).sum := by
  induction R with
  | nil =>
    simp only [List.countP_nil]
    induction L with
    | nil => rfl
    | cons p L ih =>
      rw [List.map_cons, List.sum_cons]
      clear ih h
      induction L with
      | nil => rfl
      | cons q L ih => rw [List.map_cons, List.sum_cons]; omega
  | cons s R ih =>
    have e : ∀ L : List Cb, (L.map fun p => (s :: R).countP fun s => holdsC p s && Q s).sum = (L.map fun p => R.countP fun s => holdsC p s && Q s).sum + (if Q s then inL L s else 0) := by
      intro L
      induction L with
      | nil => cases Q s <;> rfl
      | cons p L ih =>
        rw [List.map_cons, List.sum_cons, ih, List.map_cons, List.sum_cons, List.countP_cons]
        have e2 : inL (p :: L) s = (if holdsC p s then 1 else 0) + inL L s := by
          show inL ([p] ++ L) s = _
          rw [inL_append, inL_one]
        rw [e2]
        cases Q s <;> cases holdsC p s <;> simp <;> omega
    rw [e, ← ih, List.countP_cons, ← h s]
theorem U_split {v : Nat} {l : List Cb} {c d : Cb} (hd : OkC d) (hm : d ∈ l) : U v l c = ((minusL c d).map fun p => U v l p).sum := by
  unfold U
  refine countP_split _ _ _ (fun s => unc l s) fun s => ?_
  rw [minus_in hd]
  cases hu : unc l s with
  | false => cases holdsC c s <;> rfl
  | true =>
    have := (unc_iff l s).1 hu d hm
    rw [this]
    cases holdsC c s <;> rfl
theorem U_nil (v : Nat) (c : Cb) : U v [] c = (List.range (2 ^ v)).countP fun s => holdsC c s := by
  unfold U
  congr 1
  funext s
  show (holdsC c s && true) = _
  rw [Bool.and_true]
/-! ## the states of one cube -/
theorem range_two (v : Nat) : List.range (2 ^ (v + 1)) = List.range (2 ^ v) ++ (List.range (2 ^ v)).map (· + 2 ^ v) := by
  have e : (2 : Nat) ^ (v + 1) = 2 ^ v + 2 ^ v := by rw [Nat.pow_succ]; omega
  rw [e, List.range_add]
  congr 1
  exact List.map_congr_left fun x _ => Nat.add_comm _ _
/-- the events of c below v -/
def top0 (c : Cb) (v : Nat) : Bool := (evs c).testBit v
theorem tb_add {s v : Nat} (h : s < 2 ^ v) (i : Nat) : (s + 2 ^ v).testBit i = if i = v then true else s.testBit i := by
  by_cases hi : i = v
  · subst hi
    rw [if_pos rfl, Nat.add_comm, Nat.testBit_two_pow_add_eq, Nat.testBit_lt_two_pow h]; rfl
  · rw [if_neg hi]
    have e : s + 2 ^ v = 2 ^ v ||| s := by
      have := Nat.two_pow_add_eq_or_of_lt h 1
      rw [Nat.mul_one] at this
      rw [Nat.add_comm]; exact this
    rw [e, Nat.testBit_or, Nat.testBit_two_pow, decide_eq_false (fun e => hi e.symm), Bool.false_or]
theorem holds_low {c : Cb} {s v : Nat} (h : s < 2 ^ v) : holdsC (low c (v + 1)) s = (holdsC (low c v) s && !c.1.testBit v) := by
  rw [low_holds_succ, lit_holds, Nat.testBit_lt_two_pow h]
  cases holdsC (low c v) s <;> cases c.1.testBit v <;> cases c.2.testBit v <;> rfl
theorem holds_high {c : Cb} {s v : Nat} (h : s < 2 ^ v) : holdsC (low c (v + 1)) (s + 2 ^ v) = (holdsC (low c v) s && !c.2.testBit v) := by
  have e : holdsC (low c v) (s + 2 ^ v) = holdsC (low c v) s := by
    rw [Bool.eq_iff_iff, holdsC_iff, holdsC_iff]
    have key : ∀ i, (low c v).1.testBit i = true ∨ (low c v).2.testBit i = true → (s + 2 ^ v).testBit i = s.testBit i := by
      intro i hi
      rw [low_tb1, low_tb2] at hi
      have hiv : i < v := by
        rcases hi with hi | hi <;> · rw [Bool.and_eq_true, decide_eq_true_eq] at hi; exact hi.1
      rw [tb_add h, if_neg (by omega)]
    exact ⟨fun k i => ⟨fun x => by rw [← key i (.inl x)]; exact (k i).1 x, fun x => by rw [← key i (.inr x)]; exact (k i).2 x⟩, fun k i => ⟨fun x => by rw [key i (.inl x)]; exact (k i).1 x, fun x => by rw [key i (.inr x)]; exact (k i).2 x⟩⟩
  rw [low_holds_succ, lit_holds, e, tb_add h, if_pos rfl]
  cases holdsC (low c v) s <;> cases c.1.testBit v <;> cases c.2.testBit v <;> rfl
/-- how many of the first v events c has -/
def szTo (c : Cb) (v : Nat) : Nat := (List.range v).countP fun i => (evs c).testBit i
theorem szTo_le (c : Cb) (v : Nat) : szTo c v ≤ v := by
  unfold szTo
  have := List.countP_le_length (p := fun i => (evs c).testBit i) (l := List.range v)
  rwa [List.length_range] at this
theorem szTo_succ (c : Cb) (v : Nat) : szTo c (v + 1) = szTo c v + if (evs c).testBit v then 1 else 0 := by
  unfold szTo
  rw [List.range_succ, List.countP_append, List.countP_singleton]
theorem count_low {c : Cb} (hc : OkC c) : ∀ v, (List.range (2 ^ v)).countP (fun s => holdsC (low c v) s) = 2 ^ (v - szTo c v) := by
  intro v
  induction v with
  | zero =>
    rw [low_zero]
    have : holdsC (0, 0) 0 = true := by rw [holdsC_iff]; simp
    simp [this]
  | succ v ih =>
    have h1 : (List.range (2 ^ v)).countP (fun s => holdsC (low c (v + 1)) s) = if c.1.testBit v then 0 else 2 ^ (v - szTo c v) := by
      rw [← ih]
      have : (List.range (2 ^ v)).countP (fun s => holdsC (low c (v + 1)) s) = (List.range (2 ^ v)).countP (fun s => holdsC (low c v) s && !c.1.testBit v) :=
        List.countP_congr fun s hs => by rw [holds_low (List.mem_range.1 hs)]
      rw [this]
      cases c.1.testBit v <;> simp
    have h2 : (List.range (2 ^ v)).countP (fun s => holdsC (low c (v + 1)) (s + 2 ^ v)) = if c.2.testBit v then 0 else 2 ^ (v - szTo c v) := by
      rw [← ih]
      have : (List.range (2 ^ v)).countP (fun s => holdsC (low c (v + 1)) (s + 2 ^ v)) = (List.range (2 ^ v)).countP (fun s => holdsC (low c v) s && !c.2.testBit v) :=
        List.countP_congr fun s hs => by rw [holds_high (List.mem_range.1 hs)]
      rw [this]
      cases c.2.testBit v <;> simp
    rw [range_two, List.countP_append, List.countP_map, h1]
    have e3 : ((fun s => holdsC (low c (v + 1)) s) ∘ fun x => x + 2 ^ v) = fun s => holdsC (low c (v + 1)) (s + 2 ^ v) := rfl
    rw [e3, h2, szTo_succ]
    have hle := szTo_le c v
    have hb := and_zero.1 hc.2.2 v
    have ee : (evs c).testBit v = (c.1.testBit v || c.2.testBit v) := by unfold evs; rw [Nat.testBit_or]
    rw [ee]
    have hp : (2 : Nat) ^ (v + 1 - szTo c v) = 2 ^ (v - szTo c v) + 2 ^ (v - szTo c v) := by
      rw [show v + 1 - szTo c v = (v - szTo c v) + 1 by omega, Nat.pow_succ]; omega
    revert hb
    have hq : v + 1 - (szTo c v + 1) = v - szTo c v := by omega
    cases c.1.testBit v <;> cases c.2.testBit v <;> simp [hq] <;> omega
theorem szTo_pc {c : Cb} {v : Nat} (hv : v ≤ 24) (h : evs c < 2 ^ v) : szTo c v = pc (evs c) := by
  unfold szTo pc els
  rw [List.countP_eq_length_filter, filter_upto (fun i => (evs c).testBit i) v 24 hv (fun i hi _ => Nat.testBit_lt_two_pow (Nat.lt_of_lt_of_le h (Nat.pow_le_pow_right (by decide) hi)))]
theorem low_fit {c : Cb} {v : Nat} (h : evs c < 2 ^ v) : low c v = c := by
  unfold low
  have h1 : c.1 ≤ evs c := Nat.left_le_or
  have h2 : c.2 ≤ evs c := Nat.right_le_or
  rw [Nat.mod_eq_of_lt (by omega), Nat.mod_eq_of_lt (by omega)]
/-- a cube without cubes that cover it -/
theorem U_leaf {c : Cb} {v : Nat} (hv : v ≤ 24) (hc : OkC c) (h : evs c < 2 ^ v) : U v [] c = 2 ^ (v - pc (evs c)) := by
  rw [U_nil, ← szTo_pc hv h, ← count_low hc v, low_fit h]
theorem pc_fit {c : Cb} {v : Nat} (hv : v ≤ 24) (h : evs c < 2 ^ v) : pc (evs c) ≤ v := by rw [← szTo_pc hv h]; exact szTo_le _ _
/-! ## what pieces have -/
theorem pieces_mem {a b p : Cb} : ∀ i, p ∈ pieces a b i → ∃ j, j < i ∧ lack a b j = true ∧ p = piece a b j := by
  intro i
  induction i with
  | zero => intro h; cases h
  | succ i ih =>
    intro h
    unfold pieces at h
    split at h
    · rcases List.mem_append.1 h with h | h
      · obtain ⟨j, h1, h2⟩ := ih h
        exact ⟨j, by omega, h2⟩
      · rw [List.mem_singleton] at h
        exact ⟨i, by omega, by assumption, h⟩
    · obtain ⟨j, h1, h2⟩ := ih h
      exact ⟨j, by omega, h2⟩
theorem piece_evs {a b : Cb} (j i : Nat) (h : (evs (piece a b j)).testBit i = true) : (evs a).testBit i = true ∨ (evs b).testBit i = true := by
  unfold evs piece joinTo meetC opp at h
  unfold evs
  simp only [Nat.testBit_or, Nat.testBit_and, low_tb1, low_tb2] at h ⊢
  revert h
  cases a.1.testBit i <;> cases a.2.testBit i <;> cases b.1.testBit i <;> cases b.2.testBit i <;> simp
theorem lt_of_tb {x v : Nat} (h : ∀ i, x.testBit i = true → i < v) : x < 2 ^ v := by
  refine Nat.lt_pow_two_of_testBit x fun i hi => ?_
  cases hx : x.testBit i with
  | false => rfl
  | true => have := h i hx; omega
theorem fit_tb {x v i : Nat} (h : x < 2 ^ v) (hi : x.testBit i = true) : i < v := by
  refine Classical.byContradiction fun hn => ?_
  rw [Nat.testBit_lt_two_pow (Nat.lt_of_lt_of_le h (Nat.pow_le_pow_right (by decide) (by omega)))] at hi
  cases hi
theorem minus_fit {a b p : Cb} {v : Nat} (ha : evs a < 2 ^ v) (hb : evs b < 2 ^ v) (hp : p ∈ minusL a b) : evs p < 2 ^ v := by
  unfold minusL at hp
  split at hp
  · obtain ⟨j, _, _, rfl⟩ := pieces_mem 24 hp
    exact lt_of_tb fun i hi => (piece_evs j i hi).elim (fit_tb ha) (fit_tb hb)
  · rw [List.mem_singleton] at hp; subst hp; exact ha
/-- a piece has more literals -/
theorem minus_more {a b p : Cb} (ha : OkC a) (hb : OkC b) (hc : clash a b = 0) (hp : p ∈ minusL a b) : pc (evs a) < pc (evs p) := by
  have hok := minusL_ok ha hb p hp
  unfold minusL at hp
  rw [if_pos hc] at hp
  obtain ⟨j, hj, hl, rfl⟩ := pieces_mem 24 hp
  have hsub : ∀ i, (evs a).testBit i = true → (evs (piece a b j)).testBit i = true := by
    intro i
    unfold evs piece joinTo meetC opp
    simp only [Nat.testBit_or, Nat.testBit_and, low_tb1, low_tb2]
    cases a.1.testBit i <;> cases a.2.testBit i <;> simp
  refine pc_sub _ _ (or24 ha.1 ha.2.1) (or24 hok.1 hok.2.1) ?_ ?_
  · apply Nat.eq_of_testBit_eq
    intro i
    rw [Nat.testBit_and]
    cases h : (evs a).testBit i with
    | false => rfl
    | true => rw [hsub i h]; rfl
  · intro e
    rw [lack_iff] at hl
    have h1 : (evs a).testBit j = false := by unfold evs; rw [Nat.testBit_or, hl.2.1, hl.2.2]; rfl
    rw [e] at h1
    have h2 : (evs (piece a b j)).testBit j = true := by
      unfold evs piece joinTo meetC opp
      simp only [Nat.testBit_or, Nat.testBit_and, low_tb1, low_tb2, tb_pow]
      rcases hl.1 with h | h <;> simp [h]
    rw [h1] at h2
    cases h2
end Go.Proofs.Ythamjboppnlpdaa.Cu
