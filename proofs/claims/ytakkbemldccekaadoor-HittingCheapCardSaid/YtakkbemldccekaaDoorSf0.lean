/-
  Families of sets: sorted lists, minimal and maximal sets, what a list covers. No statement of the program.
-/
import Derived.Test.YtakkbemldccekaaDoorSb3
import Derived.Test.YtakkbemldccekaaDoorSb5
namespace Go.Proofs.YtakkbemldccekaaDoor.Sb
set_option linter.unusedVariables false
/-- a is a part of b -/
abbrev Sub (a b : Nat) : Prop := a &&& b = a
theorem sub_tb (a b : Nat) : Sub a b ↔ ∀ i, a.testBit i = true → b.testBit i = true := by
  unfold Sub
  constructor
  · intro h i hi
    have := congrArg (·.testBit i) h
    simp only [Nat.testBit_and] at this
    simp_all
  · intro h
    apply Nat.eq_of_testBit_eq; intro i
    rw [Nat.testBit_and]
    have := h i
    cases h1 : a.testBit i <;> cases h2 : b.testBit i <;> simp_all
theorem sub_refl (a : Nat) : Sub a a := Nat.and_self a
theorem sub_trans {a b c : Nat} (h : Sub a b) (k : Sub b c) : Sub a c := (sub_tb a c).2 fun i hi => (sub_tb b c).1 k i ((sub_tb a b).1 h i hi)
theorem sub_anti {a b : Nat} (h : Sub a b) (k : Sub b a) : a = b := by
  have : a &&& b = b &&& a := Nat.and_comm a b
  unfold Sub at h k
  omega
theorem sub_or {a b s : Nat} : Sub (a ||| b) s ↔ Sub a s ∧ Sub b s := by
  rw [sub_tb, sub_tb, sub_tb]
  constructor
  · intro h
    exact ⟨fun i hi => h i (by rw [Nat.testBit_or, hi]; rfl), fun i hi => h i (by rw [Nat.testBit_or, hi]; simp)⟩
  · rintro ⟨h, k⟩ i hi
    rw [Nat.testBit_or] at hi
    cases h1 : a.testBit i
    · rw [h1] at hi; exact k i (by simpa using hi)
    · exact h i h1
theorem sub_or_left (a b : Nat) : Sub a (a ||| b) := (sub_tb _ _).2 fun i hi => by rw [Nat.testBit_or, hi]; rfl
theorem sub_or_right (a b : Nat) : Sub b (a ||| b) := (sub_tb _ _).2 fun i hi => by rw [Nat.testBit_or, hi]; simp
/-- a list of sets -/
abbrev Ok (l : List Nat) : Prop := ∀ x ∈ l, x < 16777216
theorem Ok.cons {x : Nat} {l : List Nat} (hx : x < 16777216) (h : Ok l) : Ok (x :: l) := fun y hy => by
  rcases List.mem_cons.1 hy with rfl | hy
  · exact hx
  · exact h y hy
theorem Ok.append {l k : List Nat} (h : Ok l) (h' : Ok k) : Ok (l ++ k) := fun y hy => by
  rcases List.mem_append.1 hy with hy | hy
  · exact h y hy
  · exact h' y hy
/-- a proper part comes before -/
theorem cmp_sub {a b : Nat} (ha : a < 16777216) (hb : b < 16777216) (h : Sub a b) (hn : a ≠ b) : cmpS a b < 0 :=
  (cmpS_lt a b).2 (.inl (pc_sub a b ha hb h hn))
theorem cmpS_irr (a : Nat) : ¬ cmpS a a < 0 := fun h => by have := (cmpS_eq a a).2 rfl; omega
/-- x put into a sorted list, once -/
def ins (x : Nat) : List Nat → List Nat
  | [] => [x]
  | y :: l => if cmpS x y < 0 then x :: y :: l else if x = y then y :: l else y :: ins x l
theorem ins_mem (x : Nat) (l : List Nat) (z : Nat) : z ∈ ins x l ↔ z = x ∨ z ∈ l := by
  induction l with
  | nil => simp [ins]
  | cons y l ih =>
    unfold ins
    split
    · simp
    · split
      · rename_i h; subst h; simp
      · rw [List.mem_cons, ih, List.mem_cons]; constructor <;> (intro h; rcases h with h | h | h <;> simp [h])
theorem ins_asc (x : Nat) (l : List Nat) (h : Asc l) : Asc (ins x l) := by
  induction l with
  | nil => simp [ins, Asc]
  | cons y l ih =>
    unfold Asc at h ih ⊢
    rw [List.pairwise_cons] at h
    unfold ins
    split
    · rename_i hxy
      rw [List.pairwise_cons]
      refine ⟨fun z hz => ?_, List.pairwise_cons.2 h⟩
      rcases List.mem_cons.1 hz with rfl | hz
      · exact hxy
      · exact cmpS_trans _ _ _ hxy (h.1 z hz)
    · split
      · exact List.pairwise_cons.2 h
      · rename_i h1 h2
        rw [List.pairwise_cons]
        refine ⟨fun z hz => ?_, ih h.2⟩
        rcases (ins_mem x l z).1 hz with rfl | hz
        · have := cmpS_neg z y
          have h3 : cmpS z y ≠ 0 := fun e => h2 ((cmpS_eq _ _).1 e)
          omega
        · exact h.1 z hz
/-- the sets of a list, sorted, each once -/
def sortU : List Nat → List Nat
  | [] => []
  | x :: l => ins x (sortU l)
theorem sortU_mem (l : List Nat) (z : Nat) : z ∈ sortU l ↔ z ∈ l := by
  induction l with
  | nil => simp [sortU]
  | cons x l ih => rw [sortU, ins_mem, ih, List.mem_cons]
theorem sortU_asc (l : List Nat) : Asc (sortU l) := by
  induction l with
  | nil => simp [sortU, Asc]
  | cons x l ih => exact ins_asc x _ ih
theorem sortU_ok {l : List Nat} (h : Ok l) : Ok (sortU l) := fun x hx => h x ((sortU_mem l x).1 hx)
theorem sortU_uniq {l k : List Nat} (hk : Asc k) (h : ∀ x, x ∈ k ↔ x ∈ l) : k = sortU l :=
  asc_eq _ _ hk (sortU_asc l) fun x => by rw [h, sortU_mem]
theorem sortU_of_asc {l : List Nat} (h : Asc l) : sortU l = l := (sortU_uniq h fun _ => Iff.rfl).symm
theorem ins_len (x : Nat) (l : List Nat) : (ins x l).length ≤ l.length + 1 := by
  induction l with
  | nil => simp [ins]
  | cons y l ih =>
    unfold ins
    split
    · simp
    · split
      · simp
      · simp; omega
theorem sortU_len (l : List Nat) : (sortU l).length ≤ l.length := by
  induction l with
  | nil => simp [sortU]
  | cons x l ih => have := ins_len x (sortU l); simp only [sortU, List.length_cons]; omega
/-- some set of l is a part of s -/
def cov (l : List Nat) (s : Nat) : Bool := l.any fun x => x &&& s == x
theorem cov_iff (l : List Nat) (s : Nat) : cov l s = true ↔ ∃ x ∈ l, Sub x s := by simp [cov, Sub]
theorem cov_nil (s : Nat) : cov [] s = false := rfl
theorem cov_append (l k : List Nat) (s : Nat) : cov (l ++ k) s = (cov l s || cov k s) := by simp [cov]
theorem cov_cons (x : Nat) (l : List Nat) (s : Nat) : cov (x :: l) s = ((x &&& s == x) || cov l s) := rfl
theorem cov_mono {l : List Nat} {s t : Nat} (h : Sub s t) (k : cov l s = true) : cov l t = true := by
  obtain ⟨x, hx, hs⟩ := (cov_iff l s).1 k
  exact (cov_iff l t).2 ⟨x, hx, sub_trans hs h⟩
theorem cov_mem {l k : List Nat} (h : ∀ x, x ∈ l ↔ x ∈ k) (s : Nat) : cov l s = cov k s := by
  rw [Bool.eq_iff_iff, cov_iff, cov_iff]
  constructor
  · rintro ⟨x, a, b⟩; exact ⟨x, (h x).1 a, b⟩
  · rintro ⟨x, a, b⟩; exact ⟨x, (h x).2 a, b⟩
/-- x is minimal in l -/
def isMin (l : List Nat) (x : Nat) : Bool := l.all fun y => !(y &&& x == y) || y == x
theorem isMin_iff (l : List Nat) (x : Nat) : isMin l x = true ↔ ∀ y ∈ l, Sub y x → y = x := by
  simp only [isMin, List.all_eq_true, Bool.or_eq_true, Bool.not_eq_true', beq_eq_false_iff_ne, beq_iff_eq, Sub]
  constructor
  · intro h y hy hs
    rcases h y hy with h1 | h1
    · exact absurd hs h1
    · exact h1
  · intro h y hy
    by_cases hs : y &&& x = y
    · exact .inr (h y hy hs)
    · exact .inl hs
/-- the minimal sets, sorted -/
def minL (l : List Nat) : List Nat := (sortU l).filter (isMin l)
theorem minL_mem (l : List Nat) (x : Nat) : x ∈ minL l ↔ x ∈ l ∧ ∀ y ∈ l, Sub y x → y = x := by
  unfold minL; rw [List.mem_filter, sortU_mem, isMin_iff]
theorem minL_asc (l : List Nat) : Asc (minL l) := List.Pairwise.filter _ (sortU_asc l)
theorem minL_ok {l : List Nat} (h : Ok l) : Ok (minL l) := fun x hx => h x ((minL_mem l x).1 hx).1
theorem minL_len (l : List Nat) : (minL l).length ≤ l.length := Nat.le_trans (List.length_filter_le _ _) (sortU_len l)
/-- below every set of l lies a minimal one -/
theorem min_below {l : List Nat} (hl : Ok l) : ∀ (n x : Nat), x ∈ l → pc x ≤ n → ∃ y ∈ minL l, Sub y x := by
  intro n
  induction n with
  | zero =>
    intro x hx hp
    refine ⟨x, (minL_mem l x).2 ⟨hx, fun y hy hs => ?_⟩, sub_refl x⟩
    refine Classical.byContradiction fun hne => ?_
    have := pc_sub y x (hl y hy) (hl x hx) hs hne
    omega
  | succ n ih =>
    intro x hx hp
    by_cases h : ∃ y ∈ l, Sub y x ∧ y ≠ x
    · obtain ⟨y, hy, hs, hne⟩ := h
      have := pc_sub y x (hl y hy) (hl x hx) hs hne
      obtain ⟨z, hz, hzy⟩ := ih y hy (by omega)
      exact ⟨z, hz, sub_trans hzy hs⟩
    · exact ⟨x, (minL_mem l x).2 ⟨hx, fun y hy hs => Classical.byContradiction fun hne => h ⟨y, hy, hs, hne⟩⟩, sub_refl x⟩
theorem cov_min {l : List Nat} (hl : Ok l) (s : Nat) : cov (minL l) s = cov l s := by
  rw [Bool.eq_iff_iff, cov_iff, cov_iff]
  constructor
  · rintro ⟨x, a, b⟩; exact ⟨x, ((minL_mem l x).1 a).1, b⟩
  · rintro ⟨x, a, b⟩
    obtain ⟨y, hy, hs⟩ := min_below hl _ x a (Nat.le_refl _)
    exact ⟨y, hy, sub_trans hs b⟩
theorem minL_cov {l : List Nat} (hl : Ok l) (x : Nat) : x ∈ minL l ↔ cov l x = true ∧ x < 16777216 ∧ ∀ y, cov l y = true → Sub y x → y = x := by
  rw [minL_mem]
  constructor
  · rintro ⟨hx, hm⟩
    refine ⟨(cov_iff l x).2 ⟨x, hx, sub_refl x⟩, hl x hx, fun y hy hs => ?_⟩
    obtain ⟨z, hz, hzy⟩ := (cov_iff l y).1 hy
    have e := hm z hz (sub_trans hzy hs)
    subst e
    exact sub_anti hs hzy
  · rintro ⟨hc, _, hm⟩
    obtain ⟨z, hz, hzx⟩ := (cov_iff l x).1 hc
    have e := hm z ((cov_iff l z).2 ⟨z, hz, sub_refl z⟩) hzx
    subst e
    exact ⟨hz, fun y hy hs => hm y ((cov_iff l y).2 ⟨y, hy, sub_refl y⟩) hs⟩
/-- what is covered says what the minimal sets are -/
theorem minL_eq {l k : List Nat} (hl : Ok l) (hk : Ok k) (h : ∀ s, cov l s = cov k s) : minL l = minL k :=
  asc_eq _ _ (minL_asc l) (minL_asc k) fun x => by rw [minL_cov hl, minL_cov hk, h]; simp only [h]
theorem minL_min {l : List Nat} (hl : Ok l) : minL (minL l) = minL l := minL_eq (minL_ok hl) hl fun s => cov_min hl s
theorem minL_sort {l : List Nat} (hl : Ok l) : minL (sortU l) = minL l := minL_eq (sortU_ok hl) hl fun s => cov_mem (sortU_mem l) s
/-- the sorted list, one set after the other: what is kept is minimal -/
theorem min_upto {l : List Nat} (hl : Ok l) (p : List Nat) (s : Nat) (r : List Nat) (e : sortU l = p ++ s :: r) :
    isMin l s = !cov (p.filter (isMin l)) s := by
  have hasc := sortU_asc l
  rw [e] at hasc
  unfold Asc at hasc
  rw [List.pairwise_append] at hasc
  obtain ⟨_, h2, h3⟩ := hasc
  rw [List.pairwise_cons] at h2
  have hmem : ∀ x, x ∈ l ↔ x ∈ p ∨ x = s ∨ x ∈ r := fun x => by rw [← sortU_mem, e]; simp
  have hs : s ∈ l := (hmem s).2 (.inr (.inl rfl))
  rw [Bool.eq_iff_iff]
  constructor
  · intro hm
    rw [Bool.not_eq_true', Bool.eq_false_iff]
    intro hc
    obtain ⟨x, hx, hsub⟩ := (cov_iff _ _).1 hc
    rw [List.mem_filter] at hx
    have e2 := (isMin_iff l s).1 hm x ((hmem x).2 (.inl hx.1)) hsub
    subst e2
    exact cmpS_irr _ (h3 x hx.1 x (List.mem_cons_self ..))
  · intro hc
    rw [Bool.not_eq_true', Bool.eq_false_iff] at hc
    rw [isMin_iff]
    intro y hy hsub
    refine Classical.byContradiction fun hne => hc ?_
    obtain ⟨z, hz, hzy⟩ := min_below hl _ y hy (Nat.le_refl _)
    have hz2 := (minL_mem l z).1 hz
    have hzs : Sub z s := sub_trans hzy hsub
    have hzne : z ≠ s := by
      rintro rfl
      exact hne (sub_anti hsub hzy)
    have hcmp := cmp_sub (hl z hz2.1) (hl s hs) hzs hzne
    rw [cov_iff]
    refine ⟨z, List.mem_filter.2 ⟨?_, (isMin_iff l z).2 hz2.2⟩, hzs⟩
    rcases (hmem z).1 hz2.1 with h | h | h
    · exact h
    · exact absurd h hzne
    · have := h2.1 z h
      rw [cmpS_neg] at this; omega
/-- the unions -/
def uni (a b : List Nat) : List Nat := a.flatMap fun x => b.map fun y => x ||| y
theorem uni_mem (a b : List Nat) (z : Nat) : z ∈ uni a b ↔ ∃ x ∈ a, ∃ y ∈ b, x ||| y = z := by simp [uni]
theorem or_lt24 {x y : Nat} (hx : x < 16777216) (hy : y < 16777216) : x ||| y < 16777216 := Nat.or_lt_two_pow (n := 24) hx hy
theorem uni_ok {a b : List Nat} (ha : Ok a) (hb : Ok b) : Ok (uni a b) := fun z hz => by
  obtain ⟨x, hx, y, hy, rfl⟩ := (uni_mem a b z).1 hz
  exact or_lt24 (ha x hx) (hb y hy)
theorem cov_uni (a b : List Nat) (s : Nat) : cov (uni a b) s = (cov a s && cov b s) := by
  rw [Bool.eq_iff_iff, Bool.and_eq_true, cov_iff, cov_iff, cov_iff]
  constructor
  · rintro ⟨z, hz, hs⟩
    obtain ⟨x, hx, y, hy, rfl⟩ := (uni_mem a b z).1 hz
    obtain ⟨h1, h2⟩ := sub_or.1 hs
    exact ⟨⟨x, hx, h1⟩, y, hy, h2⟩
  · rintro ⟨⟨x, hx, h1⟩, y, hy, h2⟩
    exact ⟨_, (uni_mem a b _).2 ⟨x, hx, y, hy, rfl⟩, sub_or.2 ⟨h1, h2⟩⟩
theorem uni_len (a b : List Nat) : (uni a b).length = a.length * b.length := by
  unfold uni
  induction a with
  | nil => simp
  | cons x a ih => rw [List.flatMap_cons, List.length_append, ih, List.length_map, List.length_cons, Nat.add_mul, Nat.one_mul, Nat.add_comm]
/-- the sets of l that contain one of k, and those that don't -/
def above (l k : List Nat) : List Nat := l.filter fun s => cov k s
def rest (l k : List Nat) : List Nat := l.filter fun s => !cov k s
/-- the unions, the way that the program takes -/
def uni2 (a b : List Nat) : List Nat := above a b ++ above b a ++ uni (rest a b) (rest b a)
theorem uni2_ok {a b : List Nat} (ha : Ok a) (hb : Ok b) : Ok (uni2 a b) :=
  ((show Ok (above a b) from fun x hx => ha x (List.mem_filter.1 hx).1).append (show Ok (above b a) from fun x hx => hb x (List.mem_filter.1 hx).1)).append
    (uni_ok (show Ok (rest a b) from fun x hx => ha x (List.mem_filter.1 hx).1) (show Ok (rest b a) from fun x hx => hb x (List.mem_filter.1 hx).1))
theorem cov_uni2 (a b : List Nat) (s : Nat) : cov (uni2 a b) s = (cov a s && cov b s) := by
  unfold uni2
  rw [cov_append, cov_append, cov_uni, Bool.eq_iff_iff]
  simp only [Bool.or_eq_true, Bool.and_eq_true, cov_iff, above, rest, List.mem_filter, Bool.not_eq_true', Bool.eq_false_iff]
  constructor
  · rintro ((⟨x, ⟨hx, y, hy, hyx⟩, hs⟩ | ⟨x, ⟨hx, y, hy, hyx⟩, hs⟩) | ⟨⟨x, ⟨hx, _⟩, hs⟩, y, ⟨hy, _⟩, hs2⟩)
    · exact ⟨⟨x, hx, hs⟩, y, hy, sub_trans hyx hs⟩
    · exact ⟨⟨y, hy, sub_trans hyx hs⟩, x, hx, hs⟩
    · exact ⟨⟨x, hx, hs⟩, y, hy, hs2⟩
  · rintro ⟨⟨x, hx, hs⟩, y, hy, hs2⟩
    by_cases h1 : ∃ z ∈ b, Sub z x
    · obtain ⟨z, hz, hzx⟩ := h1
      exact .inl (.inl ⟨x, ⟨hx, z, hz, hzx⟩, hs⟩)
    · by_cases h2 : ∃ z ∈ a, Sub z y
      · obtain ⟨z, hz, hzy⟩ := h2
        exact .inl (.inr ⟨y, ⟨hy, z, hz, hzy⟩, hs2⟩)
      · exact .inr ⟨⟨x, ⟨hx, fun h => h1 ((cov_iff b x).1 h)⟩, hs⟩, y, ⟨hy, fun h => h2 ((cov_iff a y).1 h)⟩, hs2⟩
/-- s meets every set of l -/
def meets (l : List Nat) (s : Nat) : Bool := l.all fun x => !(s &&& x == 0)
/-- x is maximal in l -/
def isMax (l : List Nat) (x : Nat) : Bool := l.all fun y => !(x &&& y == x) || y == x
theorem isMax_iff (l : List Nat) (x : Nat) : isMax l x = true ↔ ∀ y ∈ l, Sub x y → y = x := by
  simp only [isMax, List.all_eq_true, Bool.or_eq_true, Bool.not_eq_true', beq_eq_false_iff_ne, beq_iff_eq, Sub]
  constructor
  · intro h y hy hs
    rcases h y hy with h1 | h1
    · exact absurd hs h1
    · exact h1
  · intro h y hy
    by_cases hs : x &&& y = x
    · exact .inr (h y hy hs)
    · exact .inl hs
/-- the maximal sets, sorted -/
def maxL (l : List Nat) : List Nat := (sortU l).filter (isMax l)
theorem maxL_mem (l : List Nat) (x : Nat) : x ∈ maxL l ↔ x ∈ l ∧ ∀ y ∈ l, Sub x y → y = x := by
  unfold maxL; rw [List.mem_filter, sortU_mem, isMax_iff]
theorem maxL_asc (l : List Nat) : Asc (maxL l) := List.Pairwise.filter _ (sortU_asc l)
theorem maxL_ok {l : List Nat} (h : Ok l) : Ok (maxL l) := fun x hx => h x ((maxL_mem l x).1 hx).1
theorem maxL_len (l : List Nat) : (maxL l).length ≤ l.length := Nat.le_trans (List.length_filter_le _ _) (sortU_len l)
/-- some set of l contains s -/
def inn (l : List Nat) (s : Nat) : Bool := l.any fun x => s &&& x == s
theorem inn_iff (l : List Nat) (s : Nat) : inn l s = true ↔ ∃ x ∈ l, Sub s x := by simp [inn, Sub]
/-- above every set of l lies a maximal one -/
theorem max_above {l : List Nat} (hl : Ok l) : ∀ (n x : Nat), x ∈ l → 24 ≤ pc x + n → ∃ y ∈ maxL l, Sub x y := by
  intro n
  induction n with
  | zero =>
    intro x hx hp
    refine ⟨x, (maxL_mem l x).2 ⟨hx, fun y hy hs => ?_⟩, sub_refl x⟩
    refine Classical.byContradiction fun hne => ?_
    have := pc_sub x y (hl x hx) (hl y hy) hs (fun e => hne e.symm)
    have := pc_le y
    omega
  | succ n ih =>
    intro x hx hp
    by_cases h : ∃ y ∈ l, Sub x y ∧ y ≠ x
    · obtain ⟨y, hy, hs, hne⟩ := h
      have := pc_sub x y (hl x hx) (hl y hy) hs (fun e => hne e.symm)
      obtain ⟨z, hz, hzy⟩ := ih y hy (by omega)
      exact ⟨z, hz, sub_trans hs hzy⟩
    · exact ⟨x, (maxL_mem l x).2 ⟨hx, fun y hy hs => Classical.byContradiction fun hne => h ⟨y, hy, hs, hne⟩⟩, sub_refl x⟩
theorem maxL_max {l : List Nat} (hl : Ok l) : maxL (maxL l) = maxL l :=
  asc_eq _ _ (maxL_asc _) (maxL_asc l) fun x => by
    rw [maxL_mem (maxL l)]
    constructor
    · exact fun h => h.1
    · intro h
      exact ⟨h, fun y hy hs => ((maxL_mem l x).1 h).2 y ((maxL_mem l y).1 hy).1 hs⟩
/-- the sorted list from its end: what is kept is maximal -/
theorem max_upto {l : List Nat} (hl : Ok l) (p : List Nat) (s : Nat) (r : List Nat) (e : sortU l = p ++ s :: r) :
    isMax l s = !inn (r.filter (isMax l)) s := by
  have hasc := sortU_asc l
  rw [e] at hasc
  unfold Asc at hasc
  rw [List.pairwise_append] at hasc
  obtain ⟨_, h2, h3⟩ := hasc
  rw [List.pairwise_cons] at h2
  have hmem : ∀ x, x ∈ l ↔ x ∈ p ∨ x = s ∨ x ∈ r := fun x => by rw [← sortU_mem, e]; simp
  have hs : s ∈ l := (hmem s).2 (.inr (.inl rfl))
  rw [Bool.eq_iff_iff]
  constructor
  · intro hm
    rw [Bool.not_eq_true', Bool.eq_false_iff]
    intro hc
    obtain ⟨x, hx, hsub⟩ := (inn_iff _ _).1 hc
    rw [List.mem_filter] at hx
    have e2 := (isMax_iff l s).1 hm x ((hmem x).2 (.inr (.inr hx.1))) hsub
    subst e2
    exact cmpS_irr _ (h2.1 x hx.1)
  · intro hc
    rw [Bool.not_eq_true', Bool.eq_false_iff] at hc
    rw [isMax_iff]
    intro y hy hsub
    refine Classical.byContradiction fun hne => hc ?_
    obtain ⟨z, hz, hzy⟩ := max_above hl 24 y hy (by omega)
    have hz2 := (maxL_mem l z).1 hz
    have hzs : Sub s z := sub_trans hsub hzy
    have hzne : s ≠ z := by
      rintro rfl
      exact hne (sub_anti hzy hsub)
    have hcmp := cmp_sub (hl s hs) (hl z hz2.1) hzs hzne
    rw [inn_iff]
    refine ⟨z, List.mem_filter.2 ⟨?_, (isMax_iff l z).2 hz2.2⟩, hzs⟩
    rcases (hmem z).1 hz2.1 with h | h | h
    · have := h3 z h s (List.mem_cons_self ..)
      rw [cmpS_neg] at this; omega
    · exact absurd h.symm hzne
    · exact h
end Go.Proofs.YtakkbemldccekaaDoor.Sb
