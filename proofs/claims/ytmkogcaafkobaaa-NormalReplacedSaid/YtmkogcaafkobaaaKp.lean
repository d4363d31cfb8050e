/-
  Formulas of which only some events are known: three values, soundness, more knowledge, the event to be split at. No statement of the program.
-/
import Derived.Test.YtmkogcaafkobaaaFp
namespace Go.Proofs.Ytmkogcaafkobaaa.Fm
set_option linter.unusedVariables false
/-! ## two evaluations side by side -/
section
variable {α β : Type} {ev : Nat → α} {ev' : Nat → β} {d0 : α} {d0' : β} {cmb : Nat → Nat → List α → α} {cmb' : Nat → Nat → List β → β} {R : α → β → Prop} {f : Fn}
/-- lists that belong together element by element -/
inductive Pw (R : α → β → Prop) : List α → List β → Prop
  | nil : Pw R [] []
  | cons {x : α} {y : β} {xs : List α} {ys : List β} : R x y → Pw R xs ys → Pw R (x :: xs) (y :: ys)
theorem Pw.len {xs : List α} {ys : List β} (h : Pw R xs ys) : xs.length = ys.length := by
  induction h with
  | nil => rfl
  | cons _ _ ih => simp [ih]
theorem Pw.map {l : List Nat} {p : Nat → α} {q : Nat → β} (h : ∀ a ∈ l, R (p a) (q a)) : Pw R (l.map p) (l.map q) := by
  induction l with
  | nil => exact .nil
  | cons a l ih => exact .cons (h a List.mem_cons_self) (ih fun b hb => h b (List.mem_cons_of_mem _ hb))
theorem evTo_rel (h : WF f) (he : ∀ a, a < f.vars → R (ev a) (ev' a)) (hc : ∀ (m : Nat) (x : Nn) (xs : List α) (ys : List β), okN m x → xs.length = x.args.length → Pw R xs ys → R (cmb x.kind x.k xs) (cmb' x.kind x.k ys))
    {i j : Nat} (hij : i < j) (hj : j ≤ f.nodes.length) : R ((evTo ev d0 cmb f j).getD i d0) ((evTo ev' d0' cmb' f j).getD i d0') := by
  induction i using Nat.strongRecOn generalizing j with
  | ind i ih =>
    rw [evTo_get hij hj, evTo_get hij hj]
    refine hc (f.vars + i) (f.nd i) _ _ (h.2.2.1 i (by omega)) (by simp) (Pw.map fun a ha => ?_)
    have h1 := h.arg (by omega) ha
    unfold argE
    by_cases hv : a < f.vars
    · rw [if_pos hv, if_pos hv]; exact he a hv
    · rw [if_neg hv, if_neg hv]; exact ih (a - f.vars) (by omega) (by omega) (by omega)
theorem argE_rel (h : WF f) (he : ∀ a, a < f.vars → R (ev a) (ev' a)) (hc : ∀ (m : Nat) (x : Nn) (xs : List α) (ys : List β), okN m x → xs.length = x.args.length → Pw R xs ys → R (cmb x.kind x.k xs) (cmb' x.kind x.k ys))
    {a : Nat} (ha : a < f.vars + f.nodes.length) : R (argE f.vars ev d0 (evTo ev d0 cmb f f.nodes.length) a) (argE f.vars ev' d0' (evTo ev' d0' cmb' f f.nodes.length) a) := by
  unfold argE
  by_cases hv : a < f.vars
  · rw [if_pos hv, if_pos hv]; exact he a hv
  · rw [if_neg hv, if_neg hv]; exact evTo_rel h he hc (by omega) (Nat.le_refl _)
end
/-! ## three values: 0 false, 1 true, 2 unknown -/
/-- the value of an event -/
def evC (y n : Nat) (a : Nat) : Nat := if y.testBit a then 1 else if n.testBit a then 0 else 2
/-- a value for a condition that makes it true, and one that makes it false -/
def truthN (yes no : Bool) : Nat := if yes then 1 else if no then 0 else 2
/-- the value of a node of whose arguments c0 are false, c1 true, cu unknown -/
def decT (kind k n c0 c1 cu : Nat) : Nat :=
  if kind = 0 then truthN (decide (k = 1)) true
  else if kind = 1 then truthN (decide (c0 = 1)) (decide (c1 = 1))
  else if kind = 2 then truthN (decide (c1 = n)) (decide (0 < c0))
  else if kind = 3 then truthN (decide (0 < c1)) (decide (c0 = n))
  else if kind = 4 then truthN (decide (k ≤ c1)) (decide (n < k + c0))
  else truthN (decide (cu = 0) && decide (c1 % 2 = 1)) (decide (cu = 0))
def cmbT (kind k : Nat) (xs : List Nat) : Nat := decT kind k xs.length (xs.count 0) (xs.count 1) (xs.count 2)
def tvalsTo (f : Fn) (y n i : Nat) : List Nat := evTo (evC y n) 0 cmbT f i
def tvals (f : Fn) (y n : Nat) : List Nat := tvalsTo f y n f.nodes.length
def argT (vars : Nat) (vs : List Nat) (y n a : Nat) : Nat := argE vars (evC y n) 0 vs a
def tval (f : Fn) (y n : Nat) : Nat := argT f.vars (tvals f y n) y n f.top
theorem tvals_len (f : Fn) (y n : Nat) : (tvals f y n).length = f.nodes.length := evTo_len (Nat.le_refl _)
theorem evC_le (y n a : Nat) : evC y n a ≤ 2 := by unfold evC; split <;> (try split) <;> omega
theorem truthN_two {a b : Bool} (h : truthN a b = 2) : a = false ∧ b = false := by cases a <;> cases b <;> first | exact ⟨rfl, rfl⟩ | exact absurd h (by decide)
theorem truthN_le (a b : Bool) : truthN a b ≤ 2 := by cases a <;> cases b <;> decide
theorem decT_le (kind k n a b c : Nat) : decT kind k n a b c ≤ 2 := by
  unfold decT; repeat' split
  all_goals exact truthN_le _ _
theorem tvalsTo_le (f : Fn) (y n i : Nat) (hi : i ≤ f.nodes.length) : ∀ x ∈ tvalsTo f y n i, x ≤ 2 := by
  induction i with
  | zero => intro x hx; unfold tvalsTo at hx; rw [evTo_zero] at hx; cases hx
  | succ i ih =>
    intro x hx
    unfold tvalsTo at hx
    rw [evTo_succ (by omega)] at hx
    rcases List.mem_append.1 hx with h | h
    · exact ih (by omega) x h
    · rw [List.mem_singleton] at h
      subst h
      exact decT_le _ _ _ _ _ _
theorem argT_le (f : Fn) (y n i a : Nat) (hi : i ≤ f.nodes.length) : argT f.vars (tvalsTo f y n i) y n a ≤ 2 := by
  unfold argT argE
  split
  · exact evC_le _ _ _
  · rw [List.getD_eq_getElem?_getD]
    rcases hg : (tvalsTo f y n i)[a - f.vars]? with _ | v
    · simp
    · exact tvalsTo_le f y n i hi v (List.mem_of_getElem? hg)
theorem count3 (xs : List Nat) (h : ∀ x ∈ xs, x ≤ 2) : xs.count 0 + xs.count 1 + xs.count 2 = xs.length := by
  induction xs with
  | nil => rfl
  | cons x l ih =>
    have h1 := ih fun b hb => h b (List.mem_cons_of_mem _ hb)
    have h2 := h x List.mem_cons_self
    have : x = 0 ∨ x = 1 ∨ x = 2 := by omega
    rcases this with rfl | rfl | rfl <;> simp <;> omega
/-! ## a value that is known is right -/
/-- t is unknown, or the value b -/
def Tr (t : Nat) (b : Bool) : Prop := t = 2 ∨ (t = 1 ∧ b = true) ∨ (t = 0 ∧ b = false)
theorem truthN_tr {yes no b : Bool} (h1 : yes = true → b = true) (h2 : yes = false → no = true → b = false) : Tr (truthN yes no) b := by
  unfold Tr truthN
  cases yes with
  | true => rw [h1 rfl]; simp
  | false =>
    cases no with
    | true => rw [h2 rfl rfl]; simp
    | false => simp
theorem tr_count {xs : List Nat} {ys : List Bool} (h : Pw Tr xs ys) : xs.count 1 ≤ ys.count true ∧ ys.count true + xs.count 0 ≤ xs.length ∧ (xs.count 2 = 0 → ys.count true = xs.count 1) := by
  induction h with
  | nil => simp
  | cons hr _ ih =>
    rcases hr with rfl | ⟨rfl, rfl⟩ | ⟨rfl, rfl⟩
    · rename_i y _ _ _
      cases y <;> simp <;> omega
    · simp; omega
    · simp; omega
theorem tr_node (m : Nat) (x : Nn) (xs : List Nat) (ys : List Bool) (hok : okN m x) (hl : xs.length = x.args.length) (h : Pw Tr xs ys) : Tr (cmbT x.kind x.k xs) (cmbV x.kind x.k ys) := by
  obtain ⟨h5, h0, h1, h2, _, h4, _⟩ := hok
  obtain ⟨a, b, c⟩ := tr_count h
  have hlen := h.len
  rw [← hl] at h1 h2 h4
  unfold cmbT cmbV decT
  generalize xs.count 1 = c1 at *
  generalize xs.count 0 = c0 at *
  generalize xs.count 2 = cu at *
  generalize ys.count true = ct at *
  rw [← hlen]
  generalize xs.length = n at *
  have : x.kind = 0 ∨ x.kind = 1 ∨ x.kind = 2 ∨ x.kind = 3 ∨ x.kind = 4 ∨ x.kind = 5 := by omega
  rcases this with e | e | e | e | e | e <;> rw [e] at h1 h2 h4 ⊢ <;> simp only [if_true, if_neg (show ¬ (1 : Nat) = 0 by decide), if_neg (show ¬ (2 : Nat) = 0 by decide), if_neg (show ¬ (3 : Nat) = 0 by decide), if_neg (show ¬ (4 : Nat) = 0 by decide), if_neg (show ¬ (5 : Nat) = 0 by decide), if_neg (show ¬ (2 : Nat) = 1 by decide), if_neg (show ¬ (3 : Nat) = 1 by decide), if_neg (show ¬ (4 : Nat) = 1 by decide), if_neg (show ¬ (5 : Nat) = 1 by decide), if_neg (show ¬ (3 : Nat) = 2 by decide), if_neg (show ¬ (4 : Nat) = 2 by decide), if_neg (show ¬ (5 : Nat) = 2 by decide), if_neg (show ¬ (4 : Nat) = 3 by decide), if_neg (show ¬ (5 : Nat) = 3 by decide), if_neg (show ¬ (5 : Nat) = 4 by decide)]
  · exact truthN_tr (fun h => h) (fun h _ => h)
  · have hn := h1 rfl
    exact truthN_tr (fun h => by have := of_decide_eq_true h; exact decide_eq_true (by omega)) (fun h h' => by have := of_decide_eq_true h'; exact decide_eq_false (by omega))
  · exact truthN_tr (fun h => by have := of_decide_eq_true h; exact decide_eq_true (by omega)) (fun h h' => by have := of_decide_eq_true h'; exact decide_eq_false (by omega))
  · exact truthN_tr (fun h => by have := of_decide_eq_true h; exact decide_eq_true (by omega)) (fun h h' => by have := of_decide_eq_true h'; exact decide_eq_false (by omega))
  · exact truthN_tr (fun h => by have := of_decide_eq_true h; exact decide_eq_true (by omega)) (fun h h' => by have := of_decide_eq_true h'; exact decide_eq_false (by omega))
  · refine truthN_tr (fun h => ?_) (fun h h' => ?_)
    · obtain ⟨e1, e2⟩ := Bool.and_eq_true_iff.1 h
      have := of_decide_eq_true e1
      have := of_decide_eq_true e2
      have := c (by omega)
      exact decide_eq_true (by omega)
    · have e1 := of_decide_eq_true h'
      have e2 := c e1
      rw [h', Bool.true_and] at h
      have := of_decide_eq_false h
      exact decide_eq_false (by omega)
/-- a set of the cube: it contains yes, and no event of no -/
def InC (vars y n s : Nat) : Prop := ∀ a, a < vars → (y.testBit a = true → s.testBit a = true) ∧ (n.testBit a = true → s.testBit a = false)
theorem evC_tr {vars y n s : Nat} (h : InC vars y n s) {a : Nat} (ha : a < vars) : Tr (evC y n a) (s.testBit a) := by
  obtain ⟨h1, h2⟩ := h a ha
  unfold Tr evC
  by_cases hy : y.testBit a = true
  · rw [if_pos hy]; exact .inr (.inl ⟨rfl, h1 hy⟩)
  · rw [if_neg hy]
    by_cases hn : n.testBit a = true
    · rw [if_pos hn]; exact .inr (.inr ⟨rfl, h2 hn⟩)
    · rw [if_neg hn]; exact .inl rfl
theorem tvals_sound {f : Fn} (h : WF f) {y n s : Nat} (hs : InC f.vars y n s) {i : Nat} (hi : i < f.nodes.length) : Tr ((tvals f y n).getD i 0) ((vals f s).getD i false) :=
  evTo_rel h (fun a ha => evC_tr hs ha) tr_node hi (Nat.le_refl _)
theorem tval_sound {f : Fn} (h : WF f) {y n s : Nat} (hs : InC f.vars y n s) : Tr (tval f y n) (val f s) :=
  argE_rel h (fun a ha => evC_tr hs ha) tr_node h.2.2.2
/-! ## with all events known it is decided; more knowledge -/
/-- t is unknown, or u -/
def Le3 (t u : Nat) : Prop := t ≤ 2 ∧ u ≤ 2 ∧ (t = 2 ∨ t = u)
theorem le3_count {xs ys : List Nat} (h : Pw Le3 xs ys) : xs.count 1 ≤ ys.count 1 ∧ xs.count 0 ≤ ys.count 0 ∧ (xs.count 2 = 0 → xs = ys) ∧ ys.count 0 + ys.count 1 + ys.count 2 = ys.length ∧ xs.count 0 + xs.count 1 + xs.count 2 = xs.length := by
  induction h with
  | nil => simp
  | cons hr _ ih =>
    rename_i x y xs ys _
    obtain ⟨h1, h2, h3⟩ := hr
    obtain ⟨a, b, c, d, e⟩ := ih
    have hx : x = 0 ∨ x = 1 ∨ x = 2 := by omega
    have hy : y = 0 ∨ y = 1 ∨ y = 2 := by omega
    rcases h3 with rfl | rfl
    · rcases hy with rfl | rfl | rfl <;> simp <;> omega
    · refine ⟨?_, ?_, fun h => ?_, ?_, ?_⟩
      · rcases hx with rfl | rfl | rfl <;> simp <;> omega
      · rcases hx with rfl | rfl | rfl <;> simp <;> omega
      · rw [c]
        rcases hx with rfl | rfl | rfl <;> simp at h <;> omega
      · rcases hx with rfl | rfl | rfl <;> simp <;> omega
      · rcases hx with rfl | rfl | rfl <;> simp <;> omega
theorem truthN_le3 {a b a' b' : Bool} (h1 : a = true → a' = true) (h2 : a = false → b = true → a' = false ∧ b' = true) : Le3 (truthN a b) (truthN a' b') := by
  refine ⟨truthN_le _ _, truthN_le _ _, ?_⟩
  unfold truthN
  cases a with
  | true => rw [h1 rfl]; simp
  | false =>
    cases b with
    | true => obtain ⟨e1, e2⟩ := h2 rfl rfl; rw [e1, e2]; simp
    | false => simp
theorem le3_node (m : Nat) (x : Nn) (xs ys : List Nat) (hok : okN m x) (hl : xs.length = x.args.length) (h : Pw Le3 xs ys) : Le3 (cmbT x.kind x.k xs) (cmbT x.kind x.k ys) := by
  obtain ⟨h5, h0, h1, h2, _, h4, _⟩ := hok
  obtain ⟨a, b, c, d, e0⟩ := le3_count h
  have hlen := h.len
  rw [← hl] at h1 h2 h4
  by_cases hc : xs.count 2 = 0
  · rw [c hc]
    exact ⟨decT_le _ _ _ _ _ _, decT_le _ _ _ _ _ _, .inr rfl⟩
  unfold cmbT decT
  rw [← hlen] at d ⊢
  generalize xs.count 1 = c1 at *
  generalize xs.count 0 = c0 at *
  generalize xs.count 2 = cu at *
  generalize ys.count 1 = d1 at *
  generalize ys.count 0 = d0 at *
  generalize ys.count 2 = du at *
  generalize xs.length = n at *
  have : x.kind = 0 ∨ x.kind = 1 ∨ x.kind = 2 ∨ x.kind = 3 ∨ x.kind = 4 ∨ x.kind = 5 := by omega
  rcases this with e | e | e | e | e | e <;> rw [e] at h1 h2 h4 ⊢ <;> simp only [if_true, if_neg (show ¬ (1 : Nat) = 0 by decide), if_neg (show ¬ (2 : Nat) = 0 by decide), if_neg (show ¬ (3 : Nat) = 0 by decide), if_neg (show ¬ (4 : Nat) = 0 by decide), if_neg (show ¬ (5 : Nat) = 0 by decide), if_neg (show ¬ (2 : Nat) = 1 by decide), if_neg (show ¬ (3 : Nat) = 1 by decide), if_neg (show ¬ (4 : Nat) = 1 by decide), if_neg (show ¬ (5 : Nat) = 1 by decide), if_neg (show ¬ (3 : Nat) = 2 by decide), if_neg (show ¬ (4 : Nat) = 2 by decide), if_neg (show ¬ (5 : Nat) = 2 by decide), if_neg (show ¬ (4 : Nat) = 3 by decide), if_neg (show ¬ (5 : Nat) = 3 by decide), if_neg (show ¬ (5 : Nat) = 4 by decide)]
  · exact truthN_le3 (fun h => h) (fun h h' => ⟨h, h'⟩)
  · have hn := h1 rfl
    exact truthN_le3 (fun h => by have := of_decide_eq_true h; exact decide_eq_true (by omega)) (fun h h' => by have := of_decide_eq_true h'; exact ⟨decide_eq_false (by omega), decide_eq_true (by omega)⟩)
  · exact truthN_le3 (fun h => by have := of_decide_eq_true h; exact decide_eq_true (by omega)) (fun h h' => by have := of_decide_eq_true h'; exact ⟨decide_eq_false (by omega), decide_eq_true (by omega)⟩)
  · have hn := (h2 (by decide)).1
    exact truthN_le3 (fun h => by have := of_decide_eq_true h; exact decide_eq_true (by omega)) (fun h h' => by have := of_decide_eq_true h'; exact ⟨decide_eq_false (by omega), decide_eq_true (by omega)⟩)
  · exact truthN_le3 (fun h => by have := of_decide_eq_true h; exact decide_eq_true (by omega)) (fun h h' => by have := of_decide_eq_true h'; have := of_decide_eq_false h; exact ⟨decide_eq_false (by omega), decide_eq_true (by omega)⟩)
  · refine truthN_le3 (fun h => ?_) (fun h h' => ?_)
    · obtain ⟨e1, e2⟩ := Bool.and_eq_true_iff.1 h
      have := of_decide_eq_true e1
      omega
    · have := of_decide_eq_true h'
      omega
/-- what is known in (y, n) is known in (y', n') -/
def Knows (vars y n y' n' : Nat) : Prop := ∀ a, a < vars → evC y n a = 2 ∨ evC y n a = evC y' n' a
theorem tvals_learns {f : Fn} (h : WF f) {y n y' n' : Nat} (hk : Knows f.vars y n y' n') {i : Nat} (hi : i < f.nodes.length) : Le3 ((tvals f y n).getD i 0) ((tvals f y' n').getD i 0) :=
  evTo_rel h (fun a ha => ⟨evC_le _ _ _, evC_le _ _ _, hk a ha⟩) le3_node hi (Nat.le_refl _)
/-- a node whose value is unknown has an argument that is -/
theorem node_unknown (m : Nat) (x : Nn) (xs : List Nat) (hok : okN m x) (hl : xs.length = x.args.length) (hx : ∀ t ∈ xs, t ≤ 2) (h : cmbT x.kind x.k xs = 2) : 2 ∈ xs := by
  have hP : Pw Le3 xs xs := by
    clear h hl
    induction xs with
    | nil => exact .nil
    | cons a l ih => exact .cons ⟨hx a List.mem_cons_self, hx a List.mem_cons_self, .inr rfl⟩ (ih fun t ht => hx t (List.mem_cons_of_mem _ ht))
  refine List.count_pos_iff.1 (Nat.pos_of_ne_zero fun hc => ?_)
  obtain ⟨h5, h0, h1, h2, _, h4, _⟩ := hok
  by_cases e0 : x.kind = 0
  · have h' : truthN (decide (x.k = 1)) true = 2 := by unfold cmbT decT at h; rw [if_pos e0] at h; exact h
    cases hd : decide (x.k = 1) <;> rw [hd] at h' <;> exact absurd h' (by decide)
  have d := count3 xs hx
  rw [← hl] at h1 h2 h4
  unfold cmbT decT at h
  generalize xs.count 1 = c1 at *
  generalize xs.count 0 = c0 at *
  generalize xs.count 2 = cu at *
  generalize xs.length = n at *
  have : x.kind = 1 ∨ x.kind = 2 ∨ x.kind = 3 ∨ x.kind = 4 ∨ x.kind = 5 := by omega
  subst hc
  rcases this with e | e | e | e | e <;> rw [e] at h h1 h2 h4 <;> simp only [if_true, if_neg (show ¬ (1 : Nat) = 0 by decide), if_neg (show ¬ (2 : Nat) = 0 by decide), if_neg (show ¬ (3 : Nat) = 0 by decide), if_neg (show ¬ (4 : Nat) = 0 by decide), if_neg (show ¬ (5 : Nat) = 0 by decide), if_neg (show ¬ (2 : Nat) = 1 by decide), if_neg (show ¬ (3 : Nat) = 1 by decide), if_neg (show ¬ (4 : Nat) = 1 by decide), if_neg (show ¬ (5 : Nat) = 1 by decide), if_neg (show ¬ (3 : Nat) = 2 by decide), if_neg (show ¬ (4 : Nat) = 2 by decide), if_neg (show ¬ (5 : Nat) = 2 by decide), if_neg (show ¬ (4 : Nat) = 3 by decide), if_neg (show ¬ (5 : Nat) = 3 by decide), if_neg (show ¬ (5 : Nat) = 4 by decide)] at h <;> obtain ⟨u1, u2⟩ := truthN_two h
  · have := of_decide_eq_false u1; have := of_decide_eq_false u2; have := h1 rfl; omega
  · have := of_decide_eq_false u1; have := of_decide_eq_false u2; omega
  · have := of_decide_eq_false u1; have := of_decide_eq_false u2; omega
  · have := of_decide_eq_false u1; have := of_decide_eq_false u2; omega
  · exact absurd u2 (by decide)
end Go.Proofs.Ytmkogcaafkobaaa.Fm
