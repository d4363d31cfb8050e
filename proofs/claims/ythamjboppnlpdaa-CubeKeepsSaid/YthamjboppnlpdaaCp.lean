/-
  Cubes as pairs of masks: meeting, implication, difference, their states. No statement of the program.
-/
import Derived.Test.YthamjboppnlpdaaSb0
import Derived.Test.YthamjboppnlpdaaSb1
namespace Go.Proofs.Ythamjboppnlpdaa.Cu
open Go.Proofs.Ythamjboppnlpdaa.Sb
set_option linter.unusedVariables false
abbrev Cb := Nat × Nat
def OkC (a : Cb) : Prop := a.1 < 16777216 ∧ a.2 < 16777216 ∧ a.1 &&& a.2 = 0
def clash (a b : Cb) : Nat := (a.1 &&& b.2) ||| (a.2 &&& b.1)
def evs (a : Cb) : Nat := a.1 ||| a.2
def holdsC (a : Cb) (s : Nat) : Bool := decide (without a.1 s = 0) && decide (a.2 &&& s = 0)
def implC (a b : Cb) : Bool := decide (without b.1 a.1 = 0) && decide (without b.2 a.2 = 0)
def meetC (a b : Cb) : Cb := (a.1 ||| b.1, a.2 ||| b.2)
theorem tb24 {x i : Nat} (h : x < 16777216) (hi : 24 ≤ i) : x.testBit i = false :=
  Nat.testBit_lt_two_pow (Nat.lt_of_lt_of_le h (show 2 ^ 24 ≤ 2 ^ i from Nat.pow_le_pow_right (by decide) hi))
theorem zero_tb (x : Nat) : x = 0 ↔ ∀ i, x.testBit i = false := by
  constructor
  · rintro rfl i; exact Nat.zero_testBit i
  · intro h; exact Nat.eq_of_testBit_eq fun i => by rw [h i, Nat.zero_testBit]
theorem and_zero {x y : Nat} : x &&& y = 0 ↔ ∀ i, x.testBit i = true → y.testBit i = false := by
  rw [zero_tb]
  constructor
  · intro h i hx
    have := h i
    rw [Nat.testBit_and, hx, Bool.true_and] at this
    exact this
  · intro h i
    rw [Nat.testBit_and]
    cases hx : x.testBit i with
    | true => rw [h i hx]; rfl
    | false => rfl
theorem without_zero {x y : Nat} : without x y = 0 ↔ ∀ i, x.testBit i = true → y.testBit i = true := by
  rw [zero_tb]
  constructor
  · intro h i hx
    have := h i
    rw [without_tb, hx, Bool.true_and] at this
    simpa using this
  · intro h i
    rw [without_tb]
    cases hx : x.testBit i with
    | true => rw [h i hx]; rfl
    | false => rfl
theorem or_zero {x y : Nat} : x ||| y = 0 ↔ x = 0 ∧ y = 0 := by
  constructor
  · intro h
    have h1 : x ≤ x ||| y := Nat.left_le_or
    have h2 : y ≤ x ||| y := Nat.right_le_or
    omega
  · rintro ⟨rfl, rfl⟩; rfl
theorem clash_zero {a b : Cb} : clash a b = 0 ↔ ∀ i, (a.1.testBit i = true → b.2.testBit i = false) ∧ (a.2.testBit i = true → b.1.testBit i = false) := by
  unfold clash
  rw [or_zero, and_zero, and_zero]
  exact ⟨fun h i => ⟨h.1 i, h.2 i⟩, fun h => ⟨fun i => (h i).1, fun i => (h i).2⟩⟩
theorem clash_comm (a b : Cb) : clash a b = clash b a := by
  unfold clash
  rw [Nat.or_comm, Nat.and_comm a.2, Nat.and_comm a.1]
theorem okC_iff {a : Cb} : a.1 &&& a.2 = 0 ↔ clash a a = 0 := by
  unfold clash
  rw [Nat.and_comm a.2 a.1, Nat.or_self]
theorem holdsC_iff {a : Cb} {s : Nat} : holdsC a s = true ↔ ∀ i, (a.1.testBit i = true → s.testBit i = true) ∧ (a.2.testBit i = true → s.testBit i = false) := by
  unfold holdsC
  rw [Bool.and_eq_true, decide_eq_true_eq, decide_eq_true_eq, without_zero, and_zero]
  exact ⟨fun h i => ⟨h.1 i, h.2 i⟩, fun h => ⟨fun i => (h i).1, fun i => (h i).2⟩⟩
theorem implC_iff {a b : Cb} : implC a b = true ↔ ∀ i, (b.1.testBit i = true → a.1.testBit i = true) ∧ (b.2.testBit i = true → a.2.testBit i = true) := by
  unfold implC
  rw [Bool.and_eq_true, decide_eq_true_eq, decide_eq_true_eq, without_zero, without_zero]
  exact ⟨fun h i => ⟨h.1 i, h.2 i⟩, fun h => ⟨fun i => (h i).1, fun i => (h i).2⟩⟩
theorem implC_holds {a b : Cb} {s : Nat} (h : implC a b = true) (hs : holdsC a s = true) : holdsC b s = true := by
  rw [implC_iff] at h
  rw [holdsC_iff] at hs ⊢
  exact fun i => ⟨fun k => (hs i).1 ((h i).1 k), fun k => (hs i).2 ((h i).2 k)⟩
theorem implC_refl (a : Cb) : implC a a = true := implC_iff.2 fun i => ⟨id, id⟩
theorem implC_trans {a b c : Cb} (h : implC a b = true) (k : implC b c = true) : implC a c = true := by
  rw [implC_iff] at *
  exact fun i => ⟨fun x => (h i).1 ((k i).1 x), fun x => (h i).2 ((k i).2 x)⟩
/-- what clashes with a cube clashes with what implies that cube -/
theorem clash_impl {a b c : Cb} (h : clash b c ≠ 0) (k : implC a b = true) : clash a c ≠ 0 := by
  intro e
  apply h
  rw [clash_zero] at e ⊢
  rw [implC_iff] at k
  exact fun i => ⟨fun x => (e i).1 ((k i).1 x), fun x => (e i).2 ((k i).2 x)⟩
theorem clash_holds {a b : Cb} {s : Nat} (h : clash a b ≠ 0) : ¬ (holdsC a s = true ∧ holdsC b s = true) := by
  rintro ⟨h1, h2⟩
  apply h
  rw [clash_zero]
  rw [holdsC_iff] at h1 h2
  intro i
  constructor
  · intro x
    have := (h1 i).1 x
    cases hb : b.2.testBit i with
    | false => rfl
    | true => rw [(h2 i).2 hb] at this; exact absurd this (by decide)
  · intro x
    have := (h1 i).2 x
    cases hb : b.1.testBit i with
    | false => rfl
    | true => rw [(h2 i).1 hb] at this; exact absurd this (by decide)
theorem meetC_holds (a b : Cb) (s : Nat) : holdsC (meetC a b) s = (holdsC a s && holdsC b s) := by
  rw [Bool.eq_iff_iff, Bool.and_eq_true, holdsC_iff, holdsC_iff, holdsC_iff]
  unfold meetC
  constructor
  · intro h
    exact ⟨fun i => ⟨fun x => (h i).1 (by rw [Nat.testBit_or, x]; rfl), fun x => (h i).2 (by rw [Nat.testBit_or, x]; rfl)⟩, fun i => ⟨fun x => (h i).1 (by rw [Nat.testBit_or, x, Bool.or_true]), fun x => (h i).2 (by rw [Nat.testBit_or, x, Bool.or_true])⟩⟩
  · rintro ⟨h1, h2⟩ i
    rw [Nat.testBit_or, Nat.testBit_or, Bool.or_eq_true, Bool.or_eq_true]
    exact ⟨fun x => x.elim (h1 i).1 (h2 i).1, fun x => x.elim (h1 i).2 (h2 i).2⟩
theorem or24 {x y : Nat} (h : x < 16777216) (k : y < 16777216) : x ||| y < 16777216 := Nat.or_lt_two_pow (n := 24) h k
theorem meetC_ok {a b : Cb} (ha : OkC a) (hb : OkC b) (h : clash a b = 0) : OkC (meetC a b) := by
  refine ⟨or24 ha.1 hb.1, or24 ha.2.1 hb.2.1, ?_⟩
  rw [clash_zero] at h
  have h1 := and_zero.1 ha.2.2
  have h2 := and_zero.1 hb.2.2
  rw [and_zero]
  intro i
  show (a.1 ||| b.1).testBit i = true → (a.2 ||| b.2).testBit i = false
  rw [Nat.testBit_or, Nat.testBit_or, Bool.or_eq_true, Bool.or_eq_false_iff]
  rintro (x | x)
  · exact ⟨h1 i x, (h i).1 x⟩
  · refine ⟨?_, h2 i x⟩
    cases hk : a.2.testBit i with
    | false => rfl
    | true => rw [(h i).2 hk] at x; exact absurd x (by decide)
theorem implC_meet (a b : Cb) : implC (meetC a b) a = true ∧ implC (meetC a b) b = true := by
  rw [implC_iff, implC_iff]
  unfold meetC
  constructor
  · intro i; rw [Nat.testBit_or, Nat.testBit_or]; exact ⟨fun x => by rw [x]; rfl, fun x => by rw [x]; rfl⟩
  · intro i; rw [Nat.testBit_or, Nat.testBit_or]; exact ⟨fun x => by rw [x, Bool.or_true], fun x => by rw [x, Bool.or_true]⟩
/-! ## difference -/
/-- the literals of b of the first i events -/
def low (b : Cb) (i : Nat) : Cb := (b.1 % 2 ^ i, b.2 % 2 ^ i)
def joinTo (a b : Cb) (i : Nat) : Cb := meetC a (low b i)
/-- the literal of b of event i, turned -/
def opp (b : Cb) (i : Nat) : Cb := (b.2 &&& 2 ^ i, b.1 &&& 2 ^ i)
def piece (a b : Cb) (i : Nat) : Cb := meetC (joinTo a b i) (opp b i)
/-- b has a literal of event i that a does not have -/
def lack (a b : Cb) (i : Nat) : Bool := (evs b).testBit i && !(evs a).testBit i
def pieces (a b : Cb) : Nat → List Cb
  | 0 => []
  | i + 1 => if lack a b i then pieces a b i ++ [piece a b i] else pieces a b i
def minusL (a b : Cb) : List Cb := if clash a b = 0 then pieces a b 24 else [a]
theorem tb_pow (i j : Nat) : (2 ^ i).testBit j = decide (i = j) := Nat.testBit_two_pow
theorem low_tb1 (b : Cb) (i j : Nat) : (low b i).1.testBit j = (decide (j < i) && b.1.testBit j) := Nat.testBit_mod_two_pow _ _ _
theorem low_tb2 (b : Cb) (i j : Nat) : (low b i).2.testBit j = (decide (j < i) && b.2.testBit j) := Nat.testBit_mod_two_pow _ _ _
theorem low_zero (b : Cb) : low b 0 = (0, 0) := by unfold low; rw [Nat.pow_zero, Nat.mod_one, Nat.mod_one]
theorem joinTo_zero (a b : Cb) : joinTo a b 0 = a := by unfold joinTo; rw [low_zero]; unfold meetC; rw [Nat.or_zero, Nat.or_zero]
theorem low_all {b : Cb} (hb : OkC b) : low b 24 = b := by
  unfold low
  rw [Nat.mod_eq_of_lt hb.1, Nat.mod_eq_of_lt hb.2.1]
theorem low_clash {a b : Cb} (h : clash a b = 0) (i : Nat) : clash a (low b i) = 0 := by
  rw [clash_zero] at h ⊢
  intro j
  rw [low_tb1, low_tb2]
  exact ⟨fun x => by rw [(h j).1 x, Bool.and_false], fun x => by rw [(h j).2 x, Bool.and_false]⟩
theorem mod_le24 {x : Nat} (h : x < 16777216) (i : Nat) : x % 2 ^ i < 16777216 := Nat.lt_of_le_of_lt (Nat.mod_le _ _) h
theorem low_ok {b : Cb} (hb : OkC b) (i : Nat) : OkC (low b i) := by
  refine ⟨mod_le24 hb.1 i, mod_le24 hb.2.1 i, ?_⟩
  rw [and_zero]
  have h := and_zero.1 hb.2.2
  intro j
  rw [low_tb1, low_tb2]
  intro x
  rw [Bool.and_eq_true] at x
  rw [h j x.2, Bool.and_false]
theorem joinTo_ok {a b : Cb} (ha : OkC a) (hb : OkC b) (h : clash a b = 0) (i : Nat) : OkC (joinTo a b i) := meetC_ok ha (low_ok hb i) (low_clash h i)
theorem opp_ok {b : Cb} (hb : OkC b) (i : Nat) : OkC (opp b i) := by
  refine ⟨Nat.lt_of_le_of_lt Nat.and_le_left hb.2.1, Nat.lt_of_le_of_lt Nat.and_le_left hb.1, ?_⟩
  rw [and_zero]
  have h := and_zero.1 hb.2.2
  intro j
  unfold opp
  rw [Nat.testBit_and, Nat.testBit_and, Bool.and_eq_true]
  rintro ⟨x, y⟩
  cases hk : b.1.testBit j with
  | false => rfl
  | true => rw [h j hk] at x; exact absurd x (by decide)
theorem lack_iff {a b : Cb} {i : Nat} : lack a b i = true ↔ (b.1.testBit i = true ∨ b.2.testBit i = true) ∧ a.1.testBit i = false ∧ a.2.testBit i = false := by
  unfold lack evs
  rw [Nat.testBit_or, Nat.testBit_or, Bool.and_eq_true, Bool.or_eq_true, Bool.not_eq_true', Bool.or_eq_false_iff]
theorem piece_ok {a b : Cb} (ha : OkC a) (hb : OkC b) (h : clash a b = 0) {i : Nat} (hl : lack a b i = true) : OkC (piece a b i) := by
  refine meetC_ok (joinTo_ok ha hb h i) (opp_ok hb i) ?_
  rw [clash_zero]
  rw [lack_iff] at hl
  intro j
  unfold joinTo meetC opp
  simp only [Nat.testBit_or, Nat.testBit_and, low_tb1, low_tb2, tb_pow]
  by_cases hj : i = j
  · subst hj
    rw [hl.2.1, hl.2.2]
    simp
  · simp [hj]
theorem pieces_ok {a b : Cb} (ha : OkC a) (hb : OkC b) (h : clash a b = 0) : ∀ i, ∀ p ∈ pieces a b i, OkC p := by
  intro i
  induction i with
  | zero => intro p hp; cases hp
  | succ i ih =>
    intro p hp
    unfold pieces at hp
    split at hp
    · rcases List.mem_append.1 hp with x | x
      · exact ih p x
      · rw [List.mem_singleton] at x; subst x; exact piece_ok ha hb h (by assumption)
    · exact ih p hp
theorem minusL_ok {a b : Cb} (ha : OkC a) (hb : OkC b) : ∀ p ∈ minusL a b, OkC p := by
  unfold minusL
  split
  · exact pieces_ok ha hb (by assumption) 24
  · intro p hp; rw [List.mem_singleton] at hp; subst hp; exact ha
theorem pieces_len (a b : Cb) : ∀ i, (pieces a b i).length ≤ i := by
  intro i
  induction i with
  | zero => simp [pieces]
  | succ i ih =>
    unfold pieces
    split
    · rw [List.length_append, List.length_singleton]; omega
    · omega
theorem minusL_len (a b : Cb) : (minusL a b).length ≤ 24 := by
  unfold minusL
  split
  · exact pieces_len a b 24
  · simp
/-- bits in which nothing is lacking change nothing -/
theorem pieces_skip (a b : Cb) (i : Nat) : ∀ d, (∀ j, i ≤ j → j < i + d → lack a b j = false) → pieces a b (i + d) = pieces a b i := by
  intro d
  induction d with
  | zero => intro _; rfl
  | succ d ih =>
    intro h
    show (if lack a b (i + d) then _ else _) = _
    rw [h (i + d) (by omega) (by omega)]
    simp only [Bool.false_eq_true, if_false]
    exact ih fun j h1 h2 => h j h1 (by omega)
theorem joinTo_succ (a b : Cb) (i : Nat) : joinTo a b (i + 1) = meetC (joinTo a b i) (b.1 &&& 2 ^ i, b.2 &&& 2 ^ i) := by
  unfold joinTo meetC
  refine Prod.ext ?_ ?_ <;>
  · apply Nat.eq_of_testBit_eq
    intro j
    simp only [Nat.testBit_or, Nat.testBit_and, low_tb1, low_tb2, tb_pow]
    by_cases hj : j < i
    · have h1 : j < i + 1 := by omega
      have h2 : ¬ i = j := by omega
      simp [hj, h1, h2]
    · by_cases h2 : i = j
      · subst h2; simp
      · have h1 : ¬ j < i + 1 := by omega
        simp [hj, h1, h2]
/-- a literal that a has too changes nothing -/
theorem joinTo_same {a b : Cb} (h : clash a b = 0) {i : Nat} (hl : lack a b i = false) : joinTo a b (i + 1) = joinTo a b i := by
  rw [joinTo_succ]
  unfold joinTo meetC
  rw [clash_zero] at h
  have hl' : b.1.testBit i = true ∨ b.2.testBit i = true → a.1.testBit i = true ∨ a.2.testBit i = true := by
    intro x
    cases h1 : a.1.testBit i with
    | true => exact .inl rfl
    | false =>
      cases h2 : a.2.testBit i with
      | true => exact .inr rfl
      | false => rw [lack_iff.2 ⟨x, h1, h2⟩] at hl; cases hl
  refine Prod.ext ?_ ?_ <;>
  · apply Nat.eq_of_testBit_eq
    intro j
    simp only [Nat.testBit_or, Nat.testBit_and, low_tb1, low_tb2, tb_pow]
    by_cases h2 : i = j
    · subst h2
      have h3 := (h i).1
      have h4 := (h i).2
      revert hl' h3 h4
      cases a.1.testBit i <;> cases a.2.testBit i <;> cases b.1.testBit i <;> cases b.2.testBit i <;> simp
    · simp [h2]
theorem joinTo_skip {a b : Cb} (h : clash a b = 0) (i : Nat) : ∀ d, (∀ j, i ≤ j → j < i + d → lack a b j = false) → joinTo a b (i + d) = joinTo a b i := by
  intro d
  induction d with
  | zero => intro _; rfl
  | succ d ih =>
    intro k
    show joinTo a b (i + d + 1) = _
    rw [joinTo_same h (k (i + d) (by omega) (by omega))]
    exact ih fun j h1 h2 => k j h1 (by omega)
/-! ## the states of a difference -/
theorem low_holds_succ (b : Cb) (i s : Nat) : holdsC (low b (i + 1)) s = (holdsC (low b i) s && holdsC (b.1 &&& 2 ^ i, b.2 &&& 2 ^ i) s) := by
  have e : low b (i + 1) = meetC (low b i) (b.1 &&& 2 ^ i, b.2 &&& 2 ^ i) := by
    have := joinTo_succ (0, 0) b i
    unfold joinTo at this
    have z : ∀ x : Cb, meetC (0, 0) x = x := fun x => by unfold meetC; rw [Nat.zero_or, Nat.zero_or]
    rwa [z, z] at this
  rw [e, meetC_holds]
theorem lit_holds (b : Cb) (i s : Nat) : holdsC (b.1 &&& 2 ^ i, b.2 &&& 2 ^ i) s = ((!b.1.testBit i || s.testBit i) && (!b.2.testBit i || !s.testBit i)) := by
  rw [Bool.eq_iff_iff, holdsC_iff]
  constructor
  · intro h
    have h1 := h i
    simp only [Nat.testBit_and, tb_pow, decide_true, Bool.and_true] at h1
    revert h1
    cases b.1.testBit i <;> cases b.2.testBit i <;> cases s.testBit i <;> simp
  · intro h j
    simp only [Nat.testBit_and, tb_pow]
    by_cases hj : i = j
    · subst hj
      revert h
      cases b.1.testBit i <;> cases b.2.testBit i <;> cases s.testBit i <;> simp
    · simp [hj]
theorem opp_holds (b : Cb) (i s : Nat) : holdsC (opp b i) s = ((!b.2.testBit i || s.testBit i) && (!b.1.testBit i || !s.testBit i)) := lit_holds (b.2, b.1) i s
/-- how many cubes of a list have a state -/
def inL (l : List Cb) (s : Nat) : Nat := l.countP (fun c => holdsC c s)
theorem inL_append (l k : List Cb) (s : Nat) : inL (l ++ k) s = inL l s + inL k s := List.countP_append
theorem inL_one (a : Cb) (s : Nat) : inL [a] s = if holdsC a s then 1 else 0 := by
  unfold inL; rw [List.countP_singleton]
theorem pieces_in {a b : Cb} (hb : OkC b) (h : clash a b = 0) (s : Nat) : ∀ i, inL (pieces a b i) s = if holdsC a s && !holdsC (low b i) s then 1 else 0 := by
  intro i
  induction i with
  | zero =>
    have : holdsC (low b 0) s = true := by rw [low_zero, holdsC_iff]; simp
    rw [this]
    simp [pieces, inL]
  | succ i ih =>
    rw [low_holds_succ, lit_holds]
    have hbb := and_zero.1 hb.2.2 i
    by_cases hl : lack a b i = true
    · have e : pieces a b (i + 1) = pieces a b i ++ [piece a b i] := by show (if lack a b i then _ else _) = _; rw [if_pos hl]
      rw [e, inL_append, ih, inL_one]
      unfold piece joinTo
      rw [meetC_holds, meetC_holds, opp_holds]
      rw [lack_iff] at hl
      obtain ⟨h1, _, _⟩ := hl
      revert h1 hbb
      cases holdsC a s <;> cases holdsC (low b i) s <;> cases b.1.testBit i <;> cases b.2.testBit i <;> cases s.testBit i <;> simp
    · have e : pieces a b (i + 1) = pieces a b i := by show (if lack a b i then _ else _) = _; rw [if_neg hl]
      rw [e, ih]
      cases hA : holdsC a s with
      | false => simp
      | true =>
        have h1 := (clash_zero.1 h i).1
        have h2 := (clash_zero.1 h i).2
        have h3 := (holdsC_iff.1 hA i).1
        have h4 := (holdsC_iff.1 hA i).2
        have h5 : b.1.testBit i = true ∨ b.2.testBit i = true → a.1.testBit i = true ∨ a.2.testBit i = true := by
          intro x
          cases k1 : a.1.testBit i with
          | true => exact .inl rfl
          | false =>
            cases k2 : a.2.testBit i with
            | true => exact .inr rfl
            | false => exact absurd (lack_iff.2 ⟨x, k1, k2⟩) hl
        revert h1 h2 h3 h4 h5
        cases holdsC (low b i) s <;> cases b.1.testBit i <;> cases b.2.testBit i <;> cases s.testBit i <;> cases a.1.testBit i <;> cases a.2.testBit i <;> simp
theorem minus_in {a b : Cb} (hb : OkC b) (s : Nat) : inL (minusL a b) s = if holdsC a s && !holdsC b s then 1 else 0 := by
  unfold minusL
  by_cases h : clash a b = 0
  · rw [if_pos h, pieces_in hb h, low_all hb]
  · rw [if_neg h, inL_one]
    have := clash_holds (s := s) h
    revert this
    cases holdsC a s <;> cases holdsC b s <;> simp
end Go.Proofs.Ythamjboppnlpdaa.Cu
