/-
  Hitting sets: single events, the family of minimal hitting sets, disjoint sets. No statement of the program.
-/
import Derived.Test.YtakkbemldccekaaDoorSf0
namespace Go.Proofs.YtakkbemldccekaaDoor.Sb
set_option linter.unusedVariables false
/-- the single events, ascending -/
def sgl (s : Nat) : List Nat := (els s).map fun i => 2 ^ i
theorem sgl_mem (s x : Nat) : x ∈ sgl s ↔ ∃ i, (i < 24 ∧ s.testBit i = true) ∧ 2 ^ i = x := by
  unfold sgl; rw [List.mem_map]; simp only [mem_els]
theorem two_lt {i : Nat} (h : i < 24) : 2 ^ i < 16777216 := by
  have : (2 : Nat) ^ i < 2 ^ 24 := Nat.pow_lt_pow_right (by decide) h
  exact this
theorem sgl_ok (s : Nat) : Ok (sgl s) := fun x hx => by
  obtain ⟨i, ⟨hi, _⟩, rfl⟩ := (sgl_mem s x).1 hx
  exact two_lt hi
theorem sgl_len (s : Nat) : (sgl s).length ≤ 24 := by unfold sgl; rw [List.length_map]; exact pc_le s
theorem tb_two (i j : Nat) : (2 ^ i).testBit j = decide (i = j) := Nat.testBit_two_pow
theorem sub_two (i s : Nat) : Sub (2 ^ i) s ↔ s.testBit i = true := by
  rw [sub_tb]
  constructor
  · intro h; exact h i (by rw [tb_two]; simp)
  · intro h j hj
    rw [tb_two] at hj
    have e : i = j := of_decide_eq_true hj
    rw [← e]; exact h
theorem and_some (s x : Nat) (hx : x < 16777216) : s &&& x ≠ 0 ↔ ∃ i, i < 24 ∧ s.testBit i = true ∧ x.testBit i = true := by
  constructor
  · intro h
    refine Classical.byContradiction fun hn => h ?_
    apply eq_of_tb _ _ (Nat.lt_of_le_of_lt Nat.and_le_right hx) (by decide)
    intro i hi
    rw [Nat.testBit_and, Nat.zero_testBit]
    cases h1 : s.testBit i <;> cases h2 : x.testBit i <;> simp
    exact hn ⟨i, hi, h1, h2⟩
  · rintro ⟨i, hi, h1, h2⟩ e
    have := congrArg (·.testBit i) e
    simp [h1, h2] at this
theorem meets_iff (l : List Nat) (s : Nat) : meets l s = true ↔ ∀ x ∈ l, s &&& x ≠ 0 := by simp [meets]
theorem cov_sgl (x s : Nat) (hx : x < 16777216) : cov (sgl x) s = !(s &&& x == 0) := by
  rw [Bool.eq_iff_iff, cov_iff]
  have := and_some s x hx
  simp only [Bool.not_eq_true', beq_eq_false_iff_ne, ne_eq] at this ⊢
  rw [this]
  constructor
  · rintro ⟨y, hy, hs⟩
    obtain ⟨i, ⟨hi, h1⟩, rfl⟩ := (sgl_mem x y).1 hy
    exact ⟨i, hi, (sub_two i s).1 hs, h1⟩
  · rintro ⟨i, hi, h1, h2⟩
    exact ⟨2 ^ i, (sgl_mem x _).2 ⟨i, ⟨hi, h2⟩, rfl⟩, (sub_two i s).2 h1⟩
theorem meets_cons (x : Nat) (l : List Nat) (s : Nat) : meets (x :: l) s = (!(s &&& x == 0) && meets l s) := rfl
theorem meets_mono {l : List Nat} {s t : Nat} (h : Sub s t) (k : meets l s = true) : meets l t = true := by
  rw [meets_iff] at k ⊢
  intro x hx e
  refine k x hx ?_
  apply Nat.eq_of_testBit_eq; intro i
  have h1 := (sub_tb s t).1 h i
  have h2 := congrArg (·.testBit i) e
  simp only [Nat.testBit_and, Nat.zero_testBit] at h2 ⊢
  cases h3 : s.testBit i <;> simp_all
theorem meets_mem {l k : List Nat} (h : ∀ x ∈ k, x ∈ l) {s : Nat} (m : meets l s = true) : meets k s = true := by
  rw [meets_iff] at m ⊢; exact fun x hx => m x (h x hx)
theorem meets_min {l : List Nat} (hl : Ok l) (s : Nat) : meets (minL l) s = meets l s := by
  rw [Bool.eq_iff_iff]
  constructor
  · intro h
    rw [meets_iff] at h ⊢
    intro x hx e
    obtain ⟨y, hy, hs⟩ := min_below hl _ x hx (Nat.le_refl _)
    refine h y hy ?_
    apply Nat.eq_of_testBit_eq; intro i
    have h1 := (sub_tb y x).1 hs i
    have h2 := congrArg (·.testBit i) e
    simp only [Nat.testBit_and, Nat.zero_testBit] at h2 ⊢
    cases h3 : y.testBit i <;> simp_all
  · exact meets_mem fun x hx => ((minL_mem l x).1 hx).1
/-- the family for one set after the other -/
def hitGo : List Nat → List Nat → List Nat × Nat
  | f, [] => (f, 0)
  | f, s :: l => if (minL (uni f (sgl s))).length ≤ 1024 then hitGo (minL (uni f (sgl s))) l else ([], 4)
theorem hitGo_spec : ∀ (l f : List Nat), Ok f → minL f = f → f.length ≤ 1024 → Ok l → (hitGo f l).2 = 0 →
    Ok (hitGo f l).1 ∧ minL (hitGo f l).1 = (hitGo f l).1 ∧ (hitGo f l).1.length ≤ 1024 ∧ ∀ s, cov (hitGo f l).1 s = (cov f s && meets l s) := by
  intro l
  induction l with
  | nil => intro f hf hm hn _ _; exact ⟨hf, hm, hn, fun s => by simp [hitGo, meets]⟩
  | cons x l ih =>
    intro f hf hm hn hl h0
    have hx := hl x (List.mem_cons_self ..)
    unfold hitGo at h0 ⊢
    by_cases hlen : (minL (uni f (sgl x))).length ≤ 1024
    · rw [if_pos hlen] at h0 ⊢
      have hu := uni_ok hf (sgl_ok x)
      obtain ⟨h1, h2, h3, h4⟩ := ih _ (minL_ok hu) (minL_min hu) hlen (fun y hy => hl y (List.mem_cons_of_mem _ hy)) h0
      refine ⟨h1, h2, h3, fun s => ?_⟩
      rw [h4, cov_min hu, cov_uni, cov_sgl x s hx, meets_cons, Bool.and_assoc]
    · rw [if_neg hlen] at h0; exact absurd h0 (by simp)
theorem hitGo_err (l : List Nat) : ∀ f, (hitGo f l).2 = 0 ∨ (hitGo f l).2 = 4 ∧ (hitGo f l).1 = [] := by
  induction l with
  | nil => intro f; exact .inl rfl
  | cons x l ih =>
    intro f; unfold hitGo
    split
    · exact ih _
    · exact .inr ⟨rfl, rfl⟩
/-- the minimal hitting sets -/
def allN (l : List Nat) : List Nat × Nat := hitGo [0] (minL l)
theorem ok_zero : Ok [0] := fun x hx => by rw [List.mem_singleton] at hx; subst hx; decide
theorem min_zero : minL [0] = [0] := by decide
theorem cov_zero (s : Nat) : cov [0] s = true := by simp [cov]
theorem allN_spec {l : List Nat} (hl : Ok l) (h : (allN l).2 = 0) :
    Ok (allN l).1 ∧ minL (allN l).1 = (allN l).1 ∧ (allN l).1.length ≤ 1024 ∧ ∀ s, cov (allN l).1 s = meets l s := by
  obtain ⟨h1, h2, h3, h4⟩ := hitGo_spec (minL l) [0] ok_zero min_zero (by decide) (minL_ok hl) h
  exact ⟨h1, h2, h3, fun s => by rw [show (allN l).1 = (hitGo [0] (minL l)).1 from rfl, h4, cov_zero, Bool.true_and, meets_min hl]⟩
theorem wo_sub (a b : Nat) : Sub (without a b) a := (sub_tb _ _).2 fun i hi => by rw [without_tb] at hi; simp_all
theorem wo_ne {s i : Nat} (h : s.testBit i = true) : without s (2 ^ i) ≠ s := fun e => by
  have := congrArg (·.testBit i) e
  simp [without_tb, h] at this
/-- a set of the list cannot be made smaller -/
theorem allN_min {l : List Nat} (hl : Ok l) (h : (allN l).2 = 0) {x : Nat} (hx : x ∈ (allN l).1) :
    meets l x = true ∧ ∀ y, Sub y x → y ≠ x → meets l y = false := by
  obtain ⟨h1, h2, h3, h4⟩ := allN_spec hl h
  rw [← h2] at hx
  obtain ⟨a, b, c⟩ := (minL_cov h1 x).1 hx
  refine ⟨by rw [← h4]; exact a, fun y hy hne => ?_⟩
  rw [← h4, Bool.eq_false_iff]
  exact fun e => hne (c y e hy)
/-- twice is the list -/
theorem allN_twice {l : List Nat} (hl : Ok l) (h : (allN l).2 = 0) (h' : (allN (allN l).1).2 = 0) : (allN (allN l).1).1 = minL l := by
  obtain ⟨h1, h2, h3, h4⟩ := allN_spec hl h
  obtain ⟨k1, k2, k3, k4⟩ := allN_spec h1 h'
  rw [← k2]
  -- what the two cover within the sets
  have key : ∀ s, s < 16777216 → cov (allN (allN l).1).1 s = cov l s := by
    intro s hs
    rw [k4, Bool.eq_iff_iff]
    constructor
    · intro hm
      refine Classical.byContradiction fun hc => ?_
      have hmeet : meets l (without 16777215 s) = true := by
        rw [meets_iff]
        intro x hx
        rw [and_some _ x (hl x hx)]
        refine Classical.byContradiction fun hn => hc ?_
        rw [cov_iff]
        refine ⟨x, hx, (sub_tb x s).2 fun i hi => ?_⟩
        have hi24 : i < 24 := by
          refine Classical.byContradiction fun h24 => ?_
          have hp : 2 ^ 24 ≤ 2 ^ i := Nat.pow_le_pow_right (by decide) (by omega)
          rw [Nat.testBit_lt_two_pow (Nat.lt_of_lt_of_le (hl x hx) hp)] at hi
          cases hi
        refine Classical.byContradiction fun hsi => hn ⟨i, hi24, ?_, hi⟩
        rw [without_tb, show (16777215 : Nat) = 2 ^ 24 - 1 from rfl, Nat.testBit_two_pow_sub_one]
        simp [hi24]; exact Bool.eq_false_iff.2 hsi
      rw [← h4] at hmeet
      obtain ⟨y, hy, hsub⟩ := (cov_iff _ _).1 hmeet
      refine (meets_iff _ _).1 hm y hy ?_
      apply Nat.eq_of_testBit_eq; intro i
      rw [Nat.testBit_and, Nat.zero_testBit]
      have := (sub_tb _ _).1 hsub i
      rw [without_tb] at this
      cases hyi : y.testBit i
      · simp
      · have := this hyi; simp_all
    · intro hc
      obtain ⟨x, hx, hs2⟩ := (cov_iff _ _).1 hc
      rw [meets_iff]
      intro y hy
      have hm : meets l y = true := by rw [← h4]; exact (cov_iff _ _).2 ⟨y, hy, sub_refl y⟩
      have h5 := (meets_iff _ _).1 hm x hx
      intro e
      refine h5 ?_
      apply Nat.eq_of_testBit_eq; intro i
      have h6 := (sub_tb _ _).1 hs2 i
      have h7 := congrArg (·.testBit i) e
      simp only [Nat.testBit_and, Nat.zero_testBit] at h7 ⊢
      cases h8 : x.testBit i <;> cases h9 : y.testBit i <;> simp_all
  apply asc_eq _ _ (minL_asc _) (minL_asc l)
  intro x
  rw [minL_cov k1, minL_cov hl]
  have low : ∀ {x y : Nat}, x < 16777216 → Sub y x → y < 16777216 := fun {x y} hx hy => Nat.lt_of_le_of_lt (by have := hy; unfold Sub at this; rw [← this]; exact Nat.and_le_right) hx
  constructor
  · rintro ⟨a, b, c⟩
    exact ⟨by rw [← key x b]; exact a, b, fun y hy hs => c y (by rw [key y (low b hs)]; exact hy) hs⟩
  · rintro ⟨a, b, c⟩
    exact ⟨by rw [key x b]; exact a, b, fun y hy hs => c y (by rw [← key y (low b hs)]; exact hy) hs⟩
/-- pairwise disjoint sets -/
def packL : Nat → List Nat → List Nat
  | _, [] => []
  | t, s :: l => if s &&& t = 0 then s :: packL (t ||| s) l else packL t l
/-- what they take -/
def packT : Nat → List Nat → Nat
  | t, [] => t
  | t, s :: l => if s &&& t = 0 then packT (t ||| s) l else packT t l
theorem pack_sub (l : List Nat) : ∀ t x, x ∈ packL t l → x ∈ l := by
  induction l with
  | nil => intro t x h; simp [packL] at h
  | cons s l ih =>
    intro t x h
    unfold packL at h
    split at h
    · rcases List.mem_cons.1 h with rfl | h
      · simp
      · exact List.mem_cons_of_mem _ (ih _ _ h)
    · exact List.mem_cons_of_mem _ (ih _ _ h)
theorem packT_grows (l : List Nat) : ∀ t, Sub t (packT t l) := by
  induction l with
  | nil => intro t; exact sub_refl t
  | cons s l ih =>
    intro t; unfold packT
    split
    · exact sub_trans (sub_or_left t s) (ih _)
    · exact ih t
theorem packT_or (l : List Nat) : ∀ t, packT t l = t ||| (packL t l).foldr (· ||| ·) 0 := by
  induction l with
  | nil => intro t; simp [packT, packL]
  | cons s l ih =>
    intro t; unfold packT packL
    split
    · rw [ih, List.foldr_cons, Nat.or_assoc]
    · exact ih t
theorem and_sub_zero {a b s : Nat} (h : Sub a b) (e : s &&& b = 0) : s &&& a = 0 := by
  apply Nat.eq_of_testBit_eq; intro i
  have h1 := (sub_tb _ _).1 h i
  have h2 := congrArg (·.testBit i) e
  simp only [Nat.testBit_and, Nat.zero_testBit] at h2 ⊢
  cases h8 : a.testBit i <;> cases h9 : s.testBit i <;> simp_all
/-- every set that is not empty meets what is taken -/
theorem pack_meets (l : List Nat) : ∀ t x, x ∈ l → x ≠ 0 → x &&& packT t l ≠ 0 := by
  induction l with
  | nil => intro t x h; cases h
  | cons s l ih =>
    intro t x h hx e
    rcases List.mem_cons.1 h with rfl | h
    · unfold packT at e
      by_cases h0 : x &&& t = 0
      · rw [if_pos h0] at e
        have := and_sub_zero (sub_trans (sub_or_right t x) (packT_grows l _)) e
        rw [Nat.and_self] at this
        exact hx this
      · rw [if_neg h0] at e
        exact h0 (and_sub_zero (packT_grows l t) e)
    · unfold packT at e
      split at e
      · exact ih _ x h hx e
      · exact ih _ x h hx e
theorem pc_or_le (a b : Nat) : pc a + pc b = pc (a ||| b) + pc (a &&& b) := (pc_add a b).symm
/-- a set that meets all of them has as many elements -/
theorem pack_count (l : List Nat) (hl : Ok l) (s : Nat) (hs : s < 16777216) : ∀ t, t < 16777216 → (∀ x ∈ packL t l, s &&& x ≠ 0) → (packL t l).length + pc (s &&& t) ≤ pc (s &&& packT t l) := by
  induction l with
  | nil => intro t _ _; simp [packL, packT]
  | cons x l ih =>
    intro t ht hm
    have hx := hl x (List.mem_cons_self ..)
    have ih' := ih fun y hy => hl y (List.mem_cons_of_mem _ hy)
    unfold packL at hm ⊢
    unfold packT
    by_cases h0 : x &&& t = 0
    · rw [if_pos h0] at hm ⊢
      rw [if_pos h0]
      have h1 := ih' (t ||| x) (or_lt24 ht hx) fun y hy => hm y (List.mem_cons_of_mem _ hy)
      have h2 := hm x (List.mem_cons_self ..)
      have h3 : pc (s &&& (t ||| x)) = pc (s &&& t) + pc (s &&& x) := by
        have e1 : s &&& (t ||| x) = (s &&& t) ||| (s &&& x) := Nat.and_or_distrib_left ..
        have e2 : (s &&& t) &&& (s &&& x) = 0 := by
          apply Nat.eq_of_testBit_eq; intro i
          have h2 := congrArg (·.testBit i) h0
          simp only [Nat.testBit_and, Nat.zero_testBit] at h2 ⊢
          cases h8 : x.testBit i <;> cases h9 : t.testBit i <;> simp_all
        have := pc_add (s &&& t) (s &&& x)
        rw [e2, pc_zero] at this
        rw [e1]; omega
      have h4 := pc_pos_of (s &&& x) (Nat.lt_of_le_of_lt Nat.and_le_left hs) h2
      rw [List.length_cons]; omega
    · rw [if_neg h0] at hm ⊢
      rw [if_neg h0]
      exact ih' t ht hm
/-- they are disjoint, one after the other -/
theorem pack_apart (l : List Nat) : ∀ t p x q, packL t l = p ++ x :: q → x &&& (t ||| p.foldr (· ||| ·) 0) = 0 := by
  induction l with
  | nil => intro t p x q h; simp [packL] at h
  | cons s l ih =>
    intro t p x q h
    unfold packL at h
    split at h
    · rename_i h0
      cases p with
      | nil =>
        rw [List.nil_append] at h
        injection h with h1 h2
        subst h1
        simpa using h0
      | cons y p =>
        rw [List.cons_append] at h
        injection h with h1 h2
        subst h1
        have := ih _ _ _ _ h2
        rw [List.foldr_cons, ← Nat.or_assoc]; exact this
    · exact ih _ _ _ _ h
theorem min_has_zero {l : List Nat} (h0 : 0 ∈ l) : minL l = [0] := by
  apply asc_eq _ _ (minL_asc l) (by unfold Asc; simp)
  intro x
  rw [minL_mem, List.mem_singleton]
  constructor
  · rintro ⟨_, hm⟩
    exact (hm 0 h0 (by unfold Sub; simp)).symm
  · rintro rfl
    exact ⟨h0, fun y _ hs => by unfold Sub at hs; simpa using hs.symm⟩
theorem min_nil {l : List Nat} (hl : Ok l) (h : minL l = []) : l = [] := by
  cases l with
  | nil => rfl
  | cons x l =>
    obtain ⟨y, hy, _⟩ := min_below hl _ x (List.mem_cons_self ..) (Nat.le_refl _)
    rw [h] at hy; cases hy
theorem pack_some {l : List Nat} (h : l ≠ []) : packL 0 l ≠ [] := by
  cases l with
  | nil => exact absurd rfl h
  | cons x l => unfold packL; rw [if_pos (by simp)]; simp
theorem allN_zero {l : List Nat} (h0 : 0 ∈ l) : allN l = ([], 0) := by
  unfold allN
  rw [min_has_zero h0]
  decide
end Go.Proofs.YtakkbemldccekaaDoor.Sb
/-
  Sums over the events of a set, weights whose sums are in the order of cost, number, mask; the search for the least one. No statement of the program.
-/
namespace Go.Proofs.YtakkbemldccekaaDoor.Sb
set_option linter.unusedVariables false
/-- the sum of f over the elements below n -/
def sumR (f : Nat → Nat) (s : Nat) : Nat → Nat
  | 0 => 0
  | n + 1 => sumR f s n + if s.testBit n then f n else 0
theorem sumR_congr {f g : Nat → Nat} {a b : Nat} : ∀ (n : Nat), (∀ i, i < n → a.testBit i = b.testBit i ∧ (a.testBit i = true → f i = g i)) → sumR f a n = sumR g b n := by
  intro n
  induction n with
  | zero => intro _; rfl
  | succ n ih =>
    intro h
    obtain ⟨h1, h2⟩ := h n (by omega)
    unfold sumR
    rw [ih fun i hi => h i (by omega), ← h1]
    cases ht : a.testBit n
    · simp
    · simp [h2 ht]
theorem sumR_zero (f : Nat → Nat) (n : Nat) : sumR f 0 n = 0 := by
  induction n with
  | zero => rfl
  | succ n ih => unfold sumR; rw [ih]; simp
theorem sumR_or (f : Nat → Nat) {a b : Nat} (h : a &&& b = 0) : ∀ n, sumR f (a ||| b) n = sumR f a n + sumR f b n := by
  intro n
  induction n with
  | zero => rfl
  | succ n ih =>
    have := congrArg (·.testBit n) h
    unfold sumR
    simp only [Nat.testBit_and, Nat.zero_testBit] at this
    rw [ih, Nat.testBit_or]
    cases h1 : a.testBit n <;> cases h2 : b.testBit n <;> simp_all <;> omega
theorem sumR_mono {f g : Nat → Nat} {a b : Nat} : ∀ (n : Nat), (∀ i, i < n → a.testBit i = true → b.testBit i = true ∧ f i ≤ g i) → sumR f a n ≤ sumR g b n := by
  intro n
  induction n with
  | zero => intro _; exact Nat.le_refl _
  | succ n ih =>
    intro h
    have h1 := ih fun i hi => h i (by omega)
    unfold sumR
    cases ht : a.testBit n
    · simp; omega
    · obtain ⟨h2, h3⟩ := h n (by omega) ht
      simp [h2]; omega
theorem sumR_two (f : Nat → Nat) (i : Nat) : ∀ n, sumR f (2 ^ i) n = if i < n then f i else 0 := by
  intro n
  induction n with
  | zero => rfl
  | succ n ih =>
    unfold sumR
    rw [ih, tb_two]
    by_cases h : i = n
    · subst h; simp
    · rw [decide_eq_false h]
      by_cases h2 : i < n
      · have h3 : i < n + 1 := Nat.lt_succ_of_lt h2
        rw [if_pos h2, if_pos h3]; simp
      · have h3 : ¬ i < n + 1 := fun h4 => by omega
        rw [if_neg h2, if_neg h3]; simp
theorem sumR_add (f g : Nat → Nat) (s : Nat) : ∀ n, sumR (fun i => f i + g i) s n = sumR f s n + sumR g s n := by
  intro n
  induction n with
  | zero => rfl
  | succ n ih =>
    unfold sumR; rw [ih]
    cases s.testBit n <;> simp <;> omega
theorem sumR_mul (f : Nat → Nat) (m s : Nat) : ∀ n, sumR (fun i => f i * m) s n = sumR f s n * m := by
  intro n
  induction n with
  | zero => simp [sumR]
  | succ n ih =>
    unfold sumR; rw [ih]
    cases s.testBit n <;> simp [Nat.add_mul]
theorem sumR_els (f : Nat → Nat) (s : Nat) : ∀ n, sumR f s n = ((elsTo s n).map f).sum := by
  intro n
  induction n with
  | zero => simp [sumR, elsTo]
  | succ n ih =>
    unfold sumR
    rw [elsTo_succ, ih]
    cases s.testBit n <;> simp
theorem sumR_le (f : Nat → Nat) (s m : Nat) (h : ∀ i, f i ≤ m) : ∀ n, sumR f s n ≤ n * m := by
  intro n
  induction n with
  | zero => simp [sumR]
  | succ n ih =>
    unfold sumR
    have := h n
    rw [Nat.add_mul, Nat.one_mul]
    cases s.testBit n <;> simp <;> omega
theorem sumR_one (s : Nat) : sumR (fun _ => 1) s 24 = pc s := by
  rw [sumR_els, ← els_to]
  unfold pc
  induction els s with
  | nil => rfl
  | cons x l ih => rw [List.map_cons, List.sum_cons, ih, List.length_cons]; omega
theorem sumR_mask (s : Nat) : ∀ n, sumR (fun i => 2 ^ i) s n = s % 2 ^ n := by
  intro n
  induction n with
  | zero => simp [sumR, Nat.mod_one]
  | succ n ih =>
    unfold sumR
    rw [ih]
    have h : s % 2 ^ (n + 1) = s % 2 ^ n + 2 ^ n * (s / 2 ^ n % 2) := by rw [Nat.pow_succ, Nat.mod_mul]
    have ht : s.testBit n = decide (s / 2 ^ n % 2 = 1) := Nat.testBit_eq_decide_div_mod_eq
    rw [h, ht]
    rcases Nat.mod_two_eq_zero_or_one (s / 2 ^ n) with e | e
    · rw [e]; simp
    · rw [e]; simp
/-- the weight of an event with these costs -/
def wt (c : Nat → Nat) (i : Nat) : Nat := 16777216 + 2 ^ i + c i * 536870912
theorem wt_sum (c : Nat → Nat) (s : Nat) (hs : s < 16777216) : sumR (wt c) s 24 = pc s * 16777216 + s + sumR c s 24 * 536870912 := by
  have e : wt c = fun i => ((fun _ => 1 * 16777216) i + (fun i => 2 ^ i) i) + (fun i => c i * 536870912) i := by funext i; simp [wt]
  rw [e, sumR_add, sumR_add, sumR_mul c, sumR_mul (fun _ => 1), sumR_one, sumR_mask, Nat.mod_eq_of_lt (show s < 2 ^ 24 from hs)]
/-- a set comes before another one: by cost, number, mask -/
def ord (c : Nat → Nat) (a b : Nat) : Bool := decide (sumR (wt c) a 24 < sumR (wt c) b 24)
theorem ord_iff (c : Nat → Nat) (a b : Nat) (ha : a < 16777216) (hb : b < 16777216) :
    sumR (wt c) a 24 < sumR (wt c) b 24 ↔ sumR c a 24 < sumR c b 24 ∨ sumR c a 24 = sumR c b 24 ∧ cmpS a b < 0 := by
  rw [wt_sum c a ha, wt_sum c b hb, cmpS_lt]
  have := pc_le a
  have := pc_le b
  omega
theorem wt_inj (c : Nat → Nat) (a b : Nat) (ha : a < 16777216) (hb : b < 16777216) (h : sumR (wt c) a 24 = sumR (wt c) b 24) : a = b := by
  rw [wt_sum c a ha, wt_sum c b hb] at h
  have := pc_le a
  have := pc_le b
  omega
theorem wt_mod (c : Nat → Nat) (a : Nat) (ha : a < 16777216) : sumR (wt c) a 24 % 16777216 = a := by
  rw [wt_sum c a ha]; omega
theorem wt_le {c : Nat → Nat} (hc : ∀ i, c i ≤ 1048576) {i : Nat} (hi : i < 24) : wt c i ≤ 1125899906842624 := by
  have h1 := hc i
  have h2 : 2 ^ i < 16777216 := two_lt hi
  unfold wt
  generalize 2 ^ i = p at h2
  omega
theorem wt_pos (c : Nat → Nat) (i : Nat) : 0 < wt c i := by unfold wt; generalize 2 ^ i = p; omega
theorem sum24_le {w : Nat → Nat} (hw : ∀ i, i < 24 → w i ≤ 1125899906842624) (s : Nat) : sumR w s 24 ≤ 24 * 1125899906842624 := by
  have h := sumR_le (fun i => if i < 24 then w i else 0) s 1125899906842624 (fun i => by
    by_cases h : i < 24
    · simp only [h, if_true]; exact hw i h
    · simp [h]) 24
  have e : sumR w s 24 = sumR (fun i => if i < 24 then w i else 0) s 24 := sumR_congr 24 fun i hi => ⟨rfl, fun _ => by simp [hi]⟩
  omega
/-- the least hitting set -/
def Bst (l : List Nat) (c : Nat → Nat) (H : Nat) : Prop :=
  H < 16777216 ∧ meets l H = true ∧ ∀ K, K < 16777216 → meets l K = true → sumR (wt c) H 24 ≤ sumR (wt c) K 24
theorem Bst.uniq {l : List Nat} {c : Nat → Nat} {H K : Nat} (h : Bst l c H) (k : Bst l c K) : H = K :=
  wt_inj c H K h.1 k.1 (Nat.le_antisymm (h.2.2 K k.1 k.2.1) (k.2.2 H h.1 h.2.1))
theorem Bst.congr {l k : List Nat} (h : ∀ s, meets l s = meets k s) {c : Nat → Nat} {H : Nat} (b : Bst l c H) : Bst k c H :=
  ⟨b.1, by rw [← h]; exact b.2.1, fun K hK hm => b.2.2 K hK (by rw [h]; exact hm)⟩
theorem split_bit (f : Nat → Nat) {H i : Nat} (hi : i < 24) (h : H.testBit i = true) : sumR f H 24 = f i + sumR f (without H (2 ^ i)) 24 := by
  have e : H = 2 ^ i ||| without H (2 ^ i) := by
    apply Nat.eq_of_testBit_eq; intro j
    rw [Nat.testBit_or, without_tb, tb_two]
    by_cases hj : i = j
    · subst hj; simp [h]
    · simp [hj]
  have h0 : 2 ^ i &&& without H (2 ^ i) = 0 := by
    apply Nat.eq_of_testBit_eq; intro j
    rw [Nat.testBit_and, without_tb, tb_two, Nat.zero_testBit]
    cases decide (i = j) <;> simp
  have := sumR_or f h0 24
  rw [← e, sumR_two, if_pos hi] at this
  exact this
theorem add_bit (f : Nat → Nat) {H i : Nat} (hi : i < 24) (h : H.testBit i = false) : sumR f (H ||| 2 ^ i) 24 = f i + sumR f H 24 := by
  have h0 : H &&& 2 ^ i = 0 := by
    apply Nat.eq_of_testBit_eq; intro j
    rw [Nat.testBit_and, tb_two, Nat.zero_testBit]
    by_cases hj : i = j
    · subst hj; simp [h]
    · simp [hj]
  rw [sumR_or f h0, sumR_two, if_pos hi, Nat.add_comm]
/-- the elements of H occur in the list -/
def In (H : Nat) (l : List Nat) : Prop := ∀ i, H.testBit i = true → ∃ x ∈ l, x.testBit i = true
/-- what the search makes of b -/
def Look (w : Nat → Nat) (l : List Nat) (sum b b' : Nat) : Prop :=
  b' ≤ b ∧ (∀ H, meets l H = true → b' ≤ sum + sumR w H 24) ∧ (b' = b ∨ ∃ H, In H l ∧ meets l H = true ∧ b' = sum + sumR w H 24)
/-- what it made of b with the first events tried -/
def LookTo (w : Nat → Nat) (l : List Nat) (sum b : Nat) (E : List Nat) (b' : Nat) : Prop :=
  b' ≤ b ∧ (∀ H, meets l H = true → (∃ i ∈ E, H.testBit i = true) → b' ≤ sum + sumR w H 24) ∧ (b' = b ∨ ∃ H, In H l ∧ meets l H = true ∧ b' = sum + sumR w H 24)
theorem LookTo.start (w : Nat → Nat) (l : List Nat) (sum b : Nat) : LookTo w l sum b [] b :=
  ⟨Nat.le_refl _, fun H _ h => (by obtain ⟨i, hi, _⟩ := h; cases hi), .inl rfl⟩
theorem LookTo.done {w : Nat → Nat} {l : List Nat} {sum b b' x : Nat} (h : LookTo w l sum b (els x) b') (hx : x ∈ l) (hx24 : x < 16777216) : Look w l sum b b' :=
  ⟨h.1, fun H hm => h.2.1 H hm (by
    obtain ⟨i, hi, h1, h2⟩ := (and_some H x hx24).1 ((meets_iff l H).1 hm x hx)
    exact ⟨i, (mem_els x i).2 ⟨hi, h2⟩, h1⟩), h.2.2⟩
theorem Look.prune {w : Nat → Nat} {l : List Nat} {sum b B : Nat} (hB : ∀ H, meets l H = true → B ≤ sumR w H 24) (h : b ≤ sum + B) : Look w l sum b b :=
  ⟨Nat.le_refl _, fun H hm => by have := hB H hm; omega, .inl rfl⟩
theorem Look.empty {w : Nat → Nat} {sum b : Nat} (h : sum ≤ b) : Look w [] sum b sum :=
  ⟨h, fun H _ => by omega, .inr ⟨0, fun i hi => by simp at hi, rfl, by rw [sumR_zero]; omega⟩⟩
/-- the sets without the event, less the events that are refused -/
def chs (k : List Nat) (f s : Nat) : List Nat := (k.filter fun x => x &&& s == 0).map fun x => without x f
theorem chs_mem (k : List Nat) (f s y : Nat) : y ∈ chs k f s ↔ ∃ x ∈ k, x &&& s = 0 ∧ without x f = y := by
  unfold chs
  simp only [List.mem_map, List.mem_filter, beq_iff_eq]
  constructor
  · rintro ⟨x, ⟨a, b⟩, c⟩; exact ⟨x, a, b, c⟩
  · rintro ⟨x, a, b, c⟩; exact ⟨x, ⟨a, b⟩, c⟩
theorem chs_ok {k : List Nat} (hk : Ok k) (f s : Nat) : Ok (chs k f s) := fun y hy => by
  obtain ⟨x, hx, _, rfl⟩ := (chs_mem k f s y).1 hy
  exact Nat.lt_of_le_of_lt (without_le _ _) (hk x hx)
theorem chs_len {k : List Nat} {x s : Nat} (hx : x ∈ k) (h : x &&& s ≠ 0) (f : Nat) : (chs k f s).length < k.length := by
  unfold chs
  rw [List.length_map]
  have : ∀ l : List Nat, x ∈ l → (l.filter fun x => x &&& s == 0).length < l.length := by
    intro l
    induction l with
    | nil => intro h; cases h
    | cons y l ih =>
      intro hm
      rw [List.filter_cons]
      have hle := List.length_filter_le (fun x => x &&& s == 0) l
      rcases List.mem_cons.1 hm with hxy | hm
      · rw [← hxy, if_neg (by simpa using h), List.length_cons]; exact Nat.lt_succ_of_le hle
      · have := ih hm
        split
        · rw [List.length_cons, List.length_cons]; omega
        · rw [List.length_cons]; omega
  exact this k hx
theorem and_two {x i : Nat} : x &&& 2 ^ i = 0 ↔ x.testBit i = false := by
  constructor
  · intro h
    have := congrArg (·.testBit i) h
    simpa [tb_two] using this
  · intro h
    apply Nat.eq_of_testBit_eq; intro j
    rw [Nat.testBit_and, tb_two, Nat.zero_testBit]
    by_cases hj : i = j
    · subst hj; simp [h]
    · simp [hj]
/-- one event more, with the sets that are left -/
theorem LookTo.step {w : Nat → Nat} {l : List Nat} {sum b bj b' r i x : Nat} {E : List Nat} (h : LookTo w l sum b E bj) (hi : i < 24) (hx : x ∈ l) (hxi : x.testBit i = true)
    (hl : Ok l) (hr : ∀ k, r.testBit k = true ↔ k ∈ E) (hL : Look w (chs l r (2 ^ i)) (sum + w i) bj b') : LookTo w l sum b (E ++ [i]) b' := by
  obtain ⟨h1, h2, h3⟩ := h
  obtain ⟨k1, k2, k3⟩ := hL
  refine ⟨Nat.le_trans k1 h1, fun H hm hex => ?_, ?_⟩
  · by_cases hE : ∃ j ∈ E, H.testBit j = true
    · exact Nat.le_trans k1 (h2 H hm hE)
    · have hHi : H.testBit i = true := by
        obtain ⟨j, hj, hb⟩ := hex
        rcases List.mem_append.1 hj with hj | hj
        · exact absurd ⟨j, hj, hb⟩ hE
        · rw [List.mem_singleton] at hj; subst hj; exact hb
      rw [split_bit w hi hHi]
      have := k2 (without H (2 ^ i)) (by
        rw [meets_iff]
        intro y hy
        obtain ⟨t, ht, ht2, rfl⟩ := (chs_mem l r _ y).1 hy
        obtain ⟨k, hk, hk1, hk2⟩ := (and_some H t (hl t ht)).1 ((meets_iff l H).1 hm t ht)
        rw [and_some _ _ (Nat.lt_of_le_of_lt (without_le _ _) (hl t ht))]
        refine ⟨k, hk, ?_, ?_⟩
        · rw [without_tb, hk1, tb_two]
          have : i ≠ k := fun e => by subst e; rw [and_two.1 ht2] at hk2; cases hk2
          simp [this]
        · rw [without_tb, hk2]
          have : r.testBit k = false := by
            rw [Bool.eq_false_iff]
            exact fun e => hE ⟨k, (hr k).1 e, hk1⟩
          simp [this])
      omega
  · rcases k3 with k3 | ⟨H, hIn, hm, e⟩
    · rw [k3]; exact h3
    · right
      have hHi : H.testBit i = false := by
        rw [Bool.eq_false_iff]
        intro hb
        obtain ⟨y, hy, hyb⟩ := hIn i hb
        obtain ⟨t, ht, ht2, rfl⟩ := (chs_mem l r _ y).1 hy
        rw [without_tb, and_two.1 ht2] at hyb
        simp at hyb
      refine ⟨H ||| 2 ^ i, fun k hk => ?_, ?_, ?_⟩
      · rw [Nat.testBit_or, Bool.or_eq_true] at hk
        rcases hk with hk | hk
        · obtain ⟨y, hy, hyb⟩ := hIn k hk
          obtain ⟨t, ht, _, rfl⟩ := (chs_mem l r _ y).1 hy
          rw [without_tb, Bool.and_eq_true] at hyb
          exact ⟨t, ht, hyb.1⟩
        · rw [tb_two] at hk
          have e : i = k := of_decide_eq_true hk
          subst e; exact ⟨x, hx, hxi⟩
      · rw [meets_iff]
        intro t ht
        rw [and_some _ t (hl t ht)]
        by_cases hti : t.testBit i = true
        · exact ⟨i, hi, by rw [Nat.testBit_or, tb_two]; simp, hti⟩
        · have hy : without t r ∈ chs l r (2 ^ i) := (chs_mem _ _ _ _).2 ⟨t, ht, and_two.2 (Bool.eq_false_iff.2 hti), rfl⟩
          obtain ⟨k, hk, hk1, hk2⟩ := (and_some H _ (Nat.lt_of_le_of_lt (without_le _ _) (hl t ht))).1 ((meets_iff _ _).1 hm _ hy)
          rw [without_tb, Bool.and_eq_true] at hk2
          exact ⟨k, hk, by rw [Nat.testBit_or, hk1]; rfl, hk2.1⟩
      · rw [add_bit w hi hHi]; omega
/-- one event more, with nothing left of a set -/
theorem LookTo.skip {w : Nat → Nat} {l : List Nat} {sum b bj r i : Nat} {E : List Nat} (h : LookTo w l sum b E bj)
    (hl : Ok l) (hr : ∀ k, r.testBit k = true ↔ k ∈ E) (h0 : 0 ∈ chs l r (2 ^ i)) : LookTo w l sum b (E ++ [i]) bj := by
  obtain ⟨h1, h2, h3⟩ := h
  refine ⟨h1, fun H hm hex => ?_, h3⟩
  by_cases hE : ∃ j ∈ E, H.testBit j = true
  · exact h2 H hm hE
  · exfalso
    obtain ⟨t, ht, ht2, e0⟩ := (chs_mem l r _ 0).1 h0
    obtain ⟨k, hk, hk1, hk2⟩ := (and_some H t (hl t ht)).1 ((meets_iff l H).1 hm t ht)
    have := congrArg (·.testBit k) e0
    simp only [without_tb, hk2, Nat.zero_testBit, Bool.true_and, Bool.not_eq_false'] at this
    exact hE ⟨k, (hr k).1 this, hk1⟩
theorem Look.top {c : Nat → Nat} (hc : ∀ i, c i ≤ 1048576) {l : List Nat} (hl : Ok l) (h0 : 0 ∉ l) {b' : Nat} (h : Look (wt c) l 0 9223372036854775807 b') :
    ∃ H, Bst l c H ∧ b' = sumR (wt c) H 24 := by
  obtain ⟨h1, h2, h3⟩ := h
  have hfull : meets l 16777215 = true := by
    rw [meets_iff]
    intro x hx
    have hne : x ≠ 0 := fun e => h0 (e ▸ hx)
    have : x &&& x ≠ 0 := by rwa [Nat.and_self]
    obtain ⟨i, hi, ha, hb⟩ := (and_some x x (hl x hx)).1 this
    rw [and_some _ x (hl x hx)]
    refine ⟨i, hi, ?_, hb⟩
    rw [show (16777215 : Nat) = 2 ^ 24 - 1 from rfl, Nat.testBit_two_pow_sub_one]
    simp [hi]
  have h4 := h2 _ hfull
  have h5 := sum24_le (w := wt c) (fun i hi => wt_le hc hi) 16777215
  rcases h3 with h3 | ⟨H, hIn, hm, e⟩
  · omega
  · have hH : H < 16777216 := by
      refine Classical.byContradiction fun hn => ?_
      have : 2 ^ 24 ≤ H := by omega
      obtain ⟨i, hi, hb⟩ := Nat.exists_ge_and_testBit_of_ge_two_pow this
      obtain ⟨x, hx, hxb⟩ := hIn i hb
      have hp : 2 ^ 24 ≤ 2 ^ i := Nat.pow_le_pow_right (by decide) hi
      rw [Nat.testBit_lt_two_pow (Nat.lt_of_lt_of_le (hl x hx) hp)] at hxb
      cases hxb
    exact ⟨H, ⟨hH, hm, fun K _ hK => by have := h2 K hK; omega⟩, by omega⟩
end Go.Proofs.YtakkbemldccekaaDoor.Sb
/-
  The least event of a set, taken out of it. No statement of the program.
-/
namespace Go.Proofs.YtakkbemldccekaaDoor.Sb
set_option linter.unusedVariables false
theorem sorted_eq : ∀ (l k : List Nat), l.Pairwise (· < ·) → k.Pairwise (· < ·) → (∀ x, x ∈ l ↔ x ∈ k) → l = k := by
  intro l
  induction l with
  | nil =>
    intro k _ _ h
    cases k with
    | nil => rfl
    | cons y k => exact absurd ((h y).2 (List.mem_cons_self ..)) (by simp)
  | cons x l ih =>
    intro k hl hk h
    cases k with
    | nil => exact absurd ((h x).1 (List.mem_cons_self ..)) (by simp)
    | cons y k =>
      rw [List.pairwise_cons] at hl hk
      have e : x = y := by
        rcases List.mem_cons.1 ((h x).1 (List.mem_cons_self ..)) with e | h1
        · exact e
        · rcases List.mem_cons.1 ((h y).2 (List.mem_cons_self ..)) with e | h2
          · exact e.symm
          · have := hl.1 y h2
            have := hk.1 x h1
            omega
      subst e
      congr 1
      apply ih k hl.2 hk.2
      intro z
      have := h z
      simp only [List.mem_cons] at this
      constructor
      · intro hz
        rcases this.1 (.inr hz) with rfl | h1
        · have := hl.1 z hz; omega
        · exact h1
      · intro hz
        rcases this.2 (.inr hz) with rfl | h1
        · have := hk.1 z hz; omega
        · exact h1
/-- the least event, and what is left without it -/
theorem els_cons (c : Nat) (hc : c < 16777216) (h0 : c ≠ 0) : ∃ i d, i < 24 ∧ c.testBit i = true ∧ d = without c (2 ^ i) ∧ d + 2 ^ i = c ∧ els c = i :: els d ∧ c &&& (16777216 - c) = 2 ^ i ∧ c &&& (c - 1) = d ∧ pc d + 1 = pc c := by
  obtain ⟨h1, h2⟩ := tz_spec c h0 (by omega)
  obtain ⟨hlow, hk⟩ := Lib.lowest_bit 24 c h0 (by omega)
  generalize Lib.ctz 64 c = i at h1 h2
  have hi : i < 24 := by
    refine Classical.byContradiction fun hn => ?_
    have hp : 2 ^ 24 ≤ 2 ^ i := Nat.pow_le_pow_right (by decide) (by omega)
    rw [Nat.testBit_lt_two_pow (Nat.lt_of_lt_of_le hc hp)] at h1; cases h1
  have hmod : c % 2 ^ (i + 1) = 2 ^ i := by
    apply Nat.eq_of_testBit_eq; intro j
    rw [Nat.testBit_mod_two_pow, tb_two]
    by_cases hj : j < i
    · rw [h2 j hj, decide_eq_false (show ¬ i = j by omega)]; simp
    · by_cases hj2 : i = j
      · subst hj2; simp [h1]
      · rw [decide_eq_false hj2, decide_eq_false (show ¬ j < i + 1 by omega)]; simp
  have hdiv := Nat.div_add_mod c (2 ^ (i + 1))
  rw [hmod] at hdiv
  generalize c / 2 ^ (i + 1) = q at hdiv
  have hpos : 0 < 2 ^ i := Nat.two_pow_pos i
  have hlt : 2 ^ i < 2 ^ (i + 1) := by rw [Nat.pow_succ]; omega
  have hq : ∀ j, (2 ^ (i + 1) * q).testBit j = true → i < j := by
    intro j hj
    rw [Nat.testBit_two_pow_mul] at hj
    simp at hj; omega
  have hor : c = 2 ^ (i + 1) * q ||| 2 ^ i := by rw [← Nat.two_pow_add_eq_or_of_lt hlt, hdiv]
  have hd : 2 ^ (i + 1) * q = without c (2 ^ i) := by
    apply Nat.eq_of_testBit_eq; intro j
    rw [without_tb, tb_two]
    have e := congrArg (·.testBit j) hor
    simp only [Nat.testBit_or, tb_two] at e
    rw [e]
    by_cases hj : i = j
    · subst hj
      have : (2 ^ (i + 1) * q).testBit i = false := by
        rw [Bool.eq_false_iff]; exact fun h => by have := hq i h; omega
      simp [this]
    · simp [hj]
  have hand : c &&& (c - 1) = 2 ^ (i + 1) * q := by
    have e1 : c - 1 = 2 ^ (i + 1) * q ||| (2 ^ i - 1) := by rw [← Nat.two_pow_add_eq_or_of_lt (by omega)]; omega
    rw [e1]
    apply Nat.eq_of_testBit_eq; intro j
    have e := congrArg (·.testBit j) hor
    simp only [Nat.testBit_or, tb_two] at e
    rw [Nat.testBit_and, e, Nat.testBit_or, Nat.testBit_two_pow_sub_one]
    cases h3 : (2 ^ (i + 1) * q).testBit j
    · simp; omega
    · simp
  have hels : els c = i :: els (without c (2 ^ i)) := by
    apply sorted_eq _ _ (els_sorted c)
    · rw [List.pairwise_cons]
      refine ⟨fun x hx => ?_, els_sorted _⟩
      rw [mem_els, ← hd] at hx
      exact hq x hx.2
    · intro x
      rw [List.mem_cons, mem_els, mem_els, without_tb, tb_two]
      by_cases hx : i = x
      · subst hx; simp [hi, h1]
      · simp [hx]; omega
  have hct : Lib.ctz 24 c = i := by
    have e1 : c &&& (16777216 - c) = 2 ^ Lib.ctz 24 c := hlow
    have e2 : (2 ^ Lib.ctz 24 c).testBit i = true ∨ Lib.ctz 24 c ≠ i := by
      by_cases h : Lib.ctz 24 c = i
      · left; rw [h, tb_two]; simp
      · exact .inr h
    refine Classical.byContradiction fun hne => ?_
    -- the bit of the power is one of c, and no lower one is
    have hb : c.testBit (Lib.ctz 24 c) = true := by
      have := congrArg (·.testBit (Lib.ctz 24 c)) e1
      simp only [Nat.testBit_and, tb_two, decide_true, Bool.and_eq_true] at this
      exact this.1
    have hge : i < Lib.ctz 24 c := by
      refine Classical.byContradiction fun hn => ?_
      have := h2 (Lib.ctz 24 c) (by omega)
      rw [this] at hb; cases hb
    -- the lowest bit of c is one of 2^24 - c, too
    have hm2 : (16777216 - c) % 2 ^ (i + 1) = 2 ^ i := by
      have hsum : 16777216 = 2 ^ (i + 1) * 2 ^ (23 - i) := by rw [← Nat.pow_add, show i + 1 + (23 - i) = 24 by omega]
      have hle : q < 2 ^ (23 - i) := by
        refine Classical.byContradiction fun hn => ?_
        have := Nat.mul_le_mul_left (2 ^ (i + 1)) (Nat.le_of_not_lt hn)
        omega
      obtain ⟨r, hr⟩ : ∃ r, 2 ^ (23 - i) = q + 1 + r := ⟨2 ^ (23 - i) - (q + 1), by omega⟩
      have e : 16777216 - c = 2 ^ i + 2 ^ (i + 1) * r := by
        rw [hsum, hr, ← hdiv]
        have e5 : 2 ^ (i + 1) * (q + 1 + r) = 2 ^ (i + 1) * q + 2 ^ (i + 1) + 2 ^ (i + 1) * r := by rw [Nat.mul_add, Nat.mul_add, Nat.mul_one]
        have e6 : 2 ^ (i + 1) = 2 ^ i + 2 ^ i := by rw [Nat.pow_succ]; omega
        omega
      rw [e, Nat.add_mul_mod_self_left, Nat.mod_eq_of_lt hlt]
    have hb2 : (16777216 - c).testBit i = true := by
      have := congrArg (·.testBit i) hm2
      simp only [Nat.testBit_mod_two_pow, tb_two] at this
      simpa using this
    have := congrArg (·.testBit i) e1
    simp only [Nat.testBit_and, tb_two, h1, hb2, Bool.and_self] at this
    exact hne (of_decide_eq_true this.symm)
  refine ⟨i, without c (2 ^ i), hi, h1, rfl, by rw [← hd]; exact hdiv, hels, by rw [← hct]; exact hlow, by rw [← hd]; exact hand, ?_⟩
  unfold pc
  rw [hels, List.length_cons]
theorem least_cons {c i : Nat} {r : List Nat} (h : els c = i :: r) : least c = (i : Int) := by unfold least; rw [h]
theorem sgl_cons {c i d : Nat} (h : els c = i :: els d) : sgl c = 2 ^ i :: sgl d := by unfold sgl; rw [h]; rfl
theorem sgl_zero : sgl 0 = [] := by unfold sgl; rw [els_zero]; rfl
end Go.Proofs.YtakkbemldccekaaDoor.Sb
/-
  What the bound of the search keeps. No statement of the program.
-/
namespace Go.Proofs.YtakkbemldccekaaDoor.Sb
set_option linter.unusedVariables false
/-- all events of a set become lighter -/
def cheap (g : Nat → Nat) (t m i : Nat) : Nat := if t.testBit i then g i - m else g i
theorem bnd_step {f g : Nat → Nat} {s m t H : Nat} (h : s + sumR g H 24 ≤ sumR f H 24) (hl : ∀ i, i < 24 → t.testBit i = true → m ≤ g i) (hm : H &&& t ≠ 0) (ht : t < 16777216) :
    s + m + sumR (cheap g t m) H 24 ≤ sumR f H 24 := by
  obtain ⟨i, hi, h1, h2⟩ := (and_some H t ht).1 hm
  have e1 := split_bit g hi h1
  have e2 := split_bit (cheap g t m) hi h1
  have e3 : sumR (cheap g t m) (without H (2 ^ i)) 24 ≤ sumR g (without H (2 ^ i)) 24 := sumR_mono 24 fun k hk hb => ⟨hb, by unfold cheap; split <;> omega⟩
  have e4 : cheap g t m i = g i - m := by unfold cheap; rw [if_pos h2]
  have := hl i hi h2
  omega
/-- the bound so far -/
def Bnd (f : Nat → Nat) (l : List Nat) (g : Nat → Nat) (s : Nat) : Prop :=
  (∀ i, i < 24 → g i ≤ f i) ∧ ∀ H, meets l H = true → s + sumR g H 24 ≤ sumR f H 24
theorem Bnd.start (f : Nat → Nat) : Bnd f [] f 0 := ⟨fun _ _ => Nat.le_refl _, fun H _ => by omega⟩
theorem meets_snoc (l : List Nat) (x H : Nat) : meets (l ++ [x]) H = (meets l H && !(H &&& x == 0)) := by simp [meets]
theorem Bnd.skip {f : Nat → Nat} {l : List Nat} {g : Nat → Nat} {s : Nat} (h : Bnd f l g s) (x : Nat) : Bnd f (l ++ [x]) g s :=
  ⟨h.1, fun H hm => h.2 H (by rw [meets_snoc, Bool.and_eq_true] at hm; exact hm.1)⟩
theorem Bnd.step {f : Nat → Nat} {l : List Nat} {g : Nat → Nat} {s m t : Nat} (h : Bnd f l g s) (hl : ∀ i, i < 24 → t.testBit i = true → m ≤ g i) (ht : t < 16777216) : Bnd f (l ++ [t]) (cheap g t m) (s + m) :=
  ⟨fun i hi => Nat.le_trans (by unfold cheap; split <;> omega) (h.1 i hi), fun H hm => by
    rw [meets_snoc, Bool.and_eq_true] at hm
    exact bnd_step (h.2 H hm.1) hl (by simpa using hm.2) ht⟩
theorem full_meets {l : List Nat} (hl : Ok l) (h0 : 0 ∉ l) : meets l 16777215 = true := by
  rw [meets_iff]
  intro x hx
  have hne : x ≠ 0 := fun e => h0 (e ▸ hx)
  have : x &&& x ≠ 0 := by rwa [Nat.and_self]
  obtain ⟨i, hi, ha, hb⟩ := (and_some x x (hl x hx)).1 this
  rw [and_some _ x (hl x hx)]
  refine ⟨i, hi, ?_, hb⟩
  rw [show (16777215 : Nat) = 2 ^ 24 - 1 from rfl, Nat.testBit_two_pow_sub_one]
  simp [hi]
theorem Bnd.small {f : Nat → Nat} {l : List Nat} {g : Nat → Nat} {s : Nat} (h : Bnd f l g s) (hl : Ok l) (h0 : 0 ∉ l) (hf : ∀ i, i < 24 → f i ≤ 1125899906842624) : s ≤ 27021597764222976 := by
  have h1 := h.2 _ (full_meets hl h0)
  have h2 := sum24_le hf 16777215
  omega
/-- the least weight of the events of t that are not in u -/
def Lst (g : Nat → Nat) (t u m : Nat) : Prop := u < 16777216 ∧ Sub u t ∧ (∀ i, i < 24 → t.testBit i = true → u.testBit i = false → m ≤ g i) ∧ ((u = t ∧ m = 9223372036854775807) ∨ ∃ i, i < 24 ∧ t.testBit i = true ∧ m = g i)
theorem Lst.start (g : Nat → Nat) (t : Nat) (ht : t < 16777216) : Lst g t t 9223372036854775807 := ⟨ht, sub_refl t, fun i _ h1 h2 => (by rw [h1] at h2; cases h2), .inl ⟨rfl, rfl⟩⟩
theorem Lst.step {g : Nat → Nat} {t u m i d : Nat} (h : Lst g t u m) (hi : i < 24) (hb : u.testBit i = true) (hd : d = without u (2 ^ i)) (hg : g i ≤ 9223372036854775807) : Lst g t d (min m (g i)) := by
  obtain ⟨h1, h2, h3, h4⟩ := h
  subst hd
  have hti := (sub_tb u t).1 h2 i hb
  refine ⟨Nat.lt_of_le_of_lt (without_le _ _) h1, sub_trans (wo_sub _ _) h2, fun k hk hkt hkd => ?_, ?_⟩
  · rw [without_tb, tb_two] at hkd
    by_cases e : i = k
    · subst e; exact Nat.min_le_right ..
    · have : u.testBit k = false := by simpa [e] using hkd
      exact Nat.le_trans (Nat.min_le_left ..) (h3 k hk hkt this)
  · right
    rcases h4 with ⟨rfl, rfl⟩ | ⟨k, hk, hkt, e⟩
    · exact ⟨i, hi, hb, by omega⟩
    · rcases Nat.le_total m (g i) with h5 | h5
      · exact ⟨k, hk, hkt, by omega⟩
      · exact ⟨i, hi, hti, by omega⟩
theorem Lst.done {g : Nat → Nat} {t m : Nat} (h : Lst g t 0 m) (h0 : t ≠ 0) : (∀ i, i < 24 → t.testBit i = true → m ≤ g i) ∧ ∃ i, i < 24 ∧ t.testBit i = true ∧ m = g i := by
  obtain ⟨_, _, h3, h4⟩ := h
  refine ⟨fun i hi hb => h3 i hi hb (Nat.zero_testBit i), ?_⟩
  rcases h4 with ⟨e, _⟩ | h4
  · exact absurd e.symm h0
  · exact h4
theorem cheap_none (g : Nat → Nat) (t m i : Nat) : cheap g (without t t) m i = g i := by
  unfold cheap
  rw [if_neg]
  rw [without_tb]; cases t.testBit i <;> simp
theorem cheap_all (g : Nat → Nat) (t m i : Nat) : cheap g (without t 0) m i = cheap g t m i := by
  unfold cheap
  rw [without_tb, Nat.zero_testBit]; cases t.testBit i <;> simp
theorem cheap_old {g : Nat → Nat} {t u m i : Nat} (hb : u.testBit i = true) : cheap g (without t u) m i = g i := by
  unfold cheap
  rw [if_neg]
  rw [without_tb, hb]; simp
theorem cheap_next {g : Nat → Nat} {t u m i d k : Nat} (hs : Sub u t) (hb : u.testBit i = true) (hd : d = without u (2 ^ i)) : (if k = i then g i - m else cheap g (without t u) m k) = cheap g (without t d) m k := by
  subst hd
  have hti := (sub_tb u t).1 hs i hb
  unfold cheap
  rw [without_tb, without_tb, without_tb, tb_two]
  by_cases e : k = i
  · subst e; rw [if_pos rfl, if_pos]; simp [hti]
  · rw [if_neg e]
    have e2 : ¬ i = k := fun h => e h.symm
    simp [e2]
end Go.Proofs.YtakkbemldccekaaDoor.Sb
/-
  The specification's search for the least hitting set. No statement of the program.
-/
namespace Go.Proofs.YtakkbemldccekaaDoor.Sb
set_option linter.unusedVariables false
/-- the best so far stays at least as good -/
def Keeps (c : Nat → Nat) (b b' : Option Nat) : Prop := ∀ x, b = some x → ∃ y, b' = some y ∧ sumR (wt c) y 24 ≤ sumR (wt c) x 24
theorem Keeps.refl (c : Nat → Nat) (b : Option Nat) : Keeps c b b := fun x h => ⟨x, h, Nat.le_refl _⟩
theorem Keeps.trans {c : Nat → Nat} {a b d : Option Nat} (h : Keeps c a b) (k : Keeps c b d) : Keeps c a d := fun x hx => by
  obtain ⟨y, hy, h1⟩ := h x hx
  obtain ⟨z, hz, h2⟩ := k y hy
  exact ⟨z, hz, Nat.le_trans h2 h1⟩
/-- the best so far, or a hitting set that was found -/
def From (l : List Nat) (s : Nat) (b b' : Option Nat) : Prop := b' = b ∨ ∃ H, b' = some H ∧ H < 16777216 ∧ meets l H = true ∧ ∀ i, H.testBit i = true → s.testBit i = true ∨ ∃ x ∈ l, x.testBit i = true
/-- at least as good as a set -/
def Beats (c : Nat → Nat) (b : Option Nat) (H : Nat) : Prop := ∃ x, b = some x ∧ sumR (wt c) x 24 ≤ sumR (wt c) H 24
theorem Beats.keep {c : Nat → Nat} {b b' : Option Nat} {H : Nat} (h : Beats c b H) (k : Keeps c b b') : Beats c b' H := by
  obtain ⟨x, hx, h1⟩ := h
  obtain ⟨y, hy, h2⟩ := k x hx
  exact ⟨y, hy, Nat.le_trans h2 h1⟩
def Srch (l : List Nat) (c : Nat → Nat) (s : Nat) (b b' : Option Nat) : Prop :=
  From l s b b' ∧ Keeps c b b' ∧ ∀ H, H < 16777216 → Sub s H → meets l H = true → Beats c b' H
def SrchTo (l : List Nat) (c : Nat → Nat) (s : Nat) (b : Option Nat) (E : List Nat) (b' : Option Nat) : Prop :=
  From l s b b' ∧ Keeps c b b' ∧ ∀ H, H < 16777216 → Sub s H → meets l H = true → (∃ i ∈ E, H.testBit i = true) → Beats c b' H
theorem SrchTo.start (l : List Nat) (c : Nat → Nat) (s : Nat) (b : Option Nat) : SrchTo l c s b [] b :=
  ⟨.inl rfl, Keeps.refl c b, fun H _ _ _ h => by obtain ⟨i, hi, _⟩ := h; cases hi⟩
theorem sub_add_bit {s H i : Nat} (h : Sub s H) (hb : H.testBit i = true) : Sub (s ||| 2 ^ i) H := by
  rw [sub_or]; exact ⟨h, (sub_two i H).2 hb⟩
theorem SrchTo.step {l : List Nat} {c : Nat → Nat} {s i x : Nat} {b bj b' : Option Nat} {E : List Nat} (h : SrchTo l c s b E bj) (hx : x ∈ l) (hxi : x.testBit i = true) (hS : Srch l c (s ||| 2 ^ i) bj b') : SrchTo l c s b (E ++ [i]) b' := by
  obtain ⟨h1, h2, h3⟩ := h
  obtain ⟨k1, k2, k3⟩ := hS
  refine ⟨?_, h2.trans k2, fun H hH hs hm hex => ?_⟩
  · rcases k1 with k1 | ⟨H, e, hH, hm, hin⟩
    · rw [k1]; exact h1
    · refine .inr ⟨H, e, hH, hm, fun k hk => ?_⟩
      rcases hin k hk with h | h
      · rw [Nat.testBit_or, tb_two, Bool.or_eq_true] at h
        rcases h with h | h
        · exact .inl h
        · have e : i = k := of_decide_eq_true h
          subst e; exact .inr ⟨x, hx, hxi⟩
      · exact .inr h
  · by_cases hE : ∃ j ∈ E, H.testBit j = true
    · exact (h3 H hH hs hm hE).keep k2
    · obtain ⟨j, hj, hb⟩ := hex
      rcases List.mem_append.1 hj with hj | hj
      · exact absurd ⟨j, hj, hb⟩ hE
      · rw [List.mem_singleton] at hj; subst hj
        exact k3 H hH (sub_add_bit hs hb) hm
theorem SrchTo.done {l : List Nat} {c : Nat → Nat} {s x : Nat} {b b' : Option Nat} (h : SrchTo l c s b (els x) b') (hx : x ∈ l) (hx24 : x < 16777216) : Srch l c s b b' :=
  ⟨h.1, h.2.1, fun H hH hs hm => h.2.2 H hH hs hm (by
    obtain ⟨i, hi, h1, h2⟩ := (and_some H x hx24).1 ((meets_iff l H).1 hm x hx)
    exact ⟨i, (mem_els x i).2 ⟨hi, h2⟩, h1⟩)⟩
theorem weight_mono (c : Nat → Nat) {s H : Nat} (h : Sub s H) : sumR (wt c) s 24 ≤ sumR (wt c) H 24 :=
  sumR_mono 24 fun i _ hb => ⟨(sub_tb s H).1 h i hb, Nat.le_refl _⟩
theorem Srch.prune {l : List Nat} {c : Nat → Nat} {s y : Nat} (h : ¬ sumR (wt c) s 24 < sumR (wt c) y 24) : Srch l c s (some y) (some y) :=
  ⟨.inl rfl, Keeps.refl c _, fun H _ hs _ => ⟨y, rfl, by have := weight_mono c hs; omega⟩⟩
theorem Srch.hit {l : List Nat} {c : Nat → Nat} {s : Nat} {b : Option Nat} (hs : s < 16777216) (hm : meets l s = true) (hb : ∀ y, b = some y → sumR (wt c) s 24 < sumR (wt c) y 24) : Srch l c s b (some s) :=
  ⟨.inr ⟨s, rfl, hs, hm, fun i h => .inl h⟩, fun x hx => ⟨s, rfl, Nat.le_of_lt (hb x hx)⟩, fun H _ hsub _ => ⟨s, rfl, weight_mono c hsub⟩⟩
/-- what the search of all finds -/
theorem Srch.top {l : List Nat} {c : Nat → Nat} {b' : Option Nat} (hl : Ok l) (h : Srch l c 0 none b') :
    (0 ∈ l ∧ b' = none) ∨ (0 ∉ l ∧ ∃ H, b' = some H ∧ Bst l c H) := by
  obtain ⟨h1, _, h3⟩ := h
  have hsub : ∀ H, Sub 0 H := fun H => by unfold Sub; simp
  by_cases h0 : 0 ∈ l
  · refine .inl ⟨h0, ?_⟩
    rcases h1 with h1 | ⟨H, _, _, hm, _⟩
    · exact h1
    · exact absurd (by simp) ((meets_iff l H).1 hm 0 h0)
  · right
    refine ⟨h0, ?_⟩
    obtain ⟨x, hx, _⟩ := h3 16777215 (by decide) (hsub _) (full_meets hl h0)
    rcases h1 with h1 | ⟨H, e, hH, hm, _⟩
    · rw [h1] at hx; cases hx
    · refine ⟨H, e, hH, hm, fun K hK hmK => ?_⟩
      obtain ⟨y, hy, h4⟩ := h3 K hK (hsub K) hmK
      rw [e] at hy; cases hy
      exact h4
/-- only events below m -/
def Low (m s : Nat) : Prop := ∀ i, s.testBit i = true → i < m
theorem Low.of {l : List Nat} {c : Nat → Nat} {s m : Nat} {b b' : Option Nat} (h : Srch l c s b b') (hl : ∀ x ∈ l, Low m x) (hs : Low m s) (hb : ∀ x, b = some x → Low m x) : ∀ x, b' = some x → Low m x := by
  intro x hx
  rcases h.1 with h1 | ⟨H, e, _, _, hin⟩
  · exact hb x (by rw [← h1]; exact hx)
  · rw [e] at hx; cases hx
    intro i hi
    rcases hin i hi with h | ⟨y, hy, h⟩
    · exact hs i h
    · exact hl y hy i h
theorem From.small {l : List Nat} {s : Nat} {b b' : Option Nat} (h : From l s b b') (hb : ∀ x, b = some x → x < 16777216) : ∀ x, b' = some x → x < 16777216 := by
  intro x hx
  rcases h with h1 | ⟨H, e, hH, _, _⟩
  · exact hb x (by rw [← h1]; exact hx)
  · rw [e] at hx; cases hx; exact hH
/-- the first set that s does not meet -/
def fstL : List Nat → Nat → Option Nat
  | [], _ => none
  | x :: l, s => if x &&& s = 0 then some x else fstL l s
theorem fstL_none {l : List Nat} {s : Nat} (h : fstL l s = none) : meets l s = true := by
  induction l with
  | nil => rfl
  | cons x l ih =>
    unfold fstL at h
    split at h
    · cases h
    · rename_i h1
      rw [meets_cons, ih h, Nat.and_comm]; simp [h1]
theorem fstL_some {l : List Nat} {s x : Nat} (h : fstL l s = some x) : x ∈ l ∧ x &&& s = 0 := by
  induction l with
  | nil => cases h
  | cons y l ih =>
    unfold fstL at h
    split at h
    · rename_i h1; cases h; exact ⟨List.mem_cons_self .., h1⟩
    · exact ⟨List.mem_cons_of_mem _ (ih h).1, (ih h).2⟩
theorem pc_add_bit {s i : Nat} (hi : i < 24) (hb : s.testBit i = false) : pc (s ||| 2 ^ i) = pc s + 1 := by
  have h := pc_add s (2 ^ i)
  have e1 : s &&& 2 ^ i = 0 := and_two.2 hb
  have e2 : pc (2 ^ i) = 1 := by
    have := sumR_one (2 ^ i)
    rw [sumR_two, if_pos hi] at this; exact this.symm
  rw [e1, pc_zero, e2] at h; omega
end Go.Proofs.YtakkbemldccekaaDoor.Sb
