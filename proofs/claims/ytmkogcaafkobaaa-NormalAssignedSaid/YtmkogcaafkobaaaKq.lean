/-
  The event to be split at; splits; a negation on top; votes. No statement of the program.
-/
import Derived.Test.YtmkogcaafkobaaaKp
namespace Go.Proofs.Ytmkogcaafkobaaa.Fm
set_option linter.unusedVariables false
/-- the first argument whose value is unknown -/
def fstU (f : Fn) (y n : Nat) (l : List Nat) : Nat := (l.find? fun b => argT f.vars (tvals f y n) y n b == 2).getD 0
/-- from an argument downward, at most so many steps -/
def nxtF (f : Fn) (y n : Nat) : Nat → Nat → Nat
  | 0, a => a
  | k + 1, a => if a < f.vars then a else nxtF f y n k (fstU f y n (f.nd (a - f.vars)).args)
/-- the event to be split at -/
def nxt (f : Fn) (y n : Nat) : Nat := nxtF f y n (f.nodes.length + 1) f.top
theorem argT_node {f : Fn} {y n i : Nat} (hi : i < f.nodes.length) : argT f.vars (tvals f y n) y n (f.vars + i) = cmbT (f.nd i).kind (f.nd i).k ((f.nd i).args.map (argT f.vars (tvalsTo f y n i) y n)) := by
  unfold argT argE
  rw [if_neg (by omega), Nat.add_sub_cancel_left]
  unfold tvals tvalsTo
  rw [evTo_get hi (Nat.le_refl _)]
  rfl
/-- an argument of a node is worth the same before and behind it -/
theorem argT_to {f : Fn} (h : WF f) {y n i a : Nat} (hi : i ≤ f.nodes.length) (ha : a < f.vars + i) : argT f.vars (tvalsTo f y n i) y n a = argT f.vars (tvals f y n) y n a := by
  unfold argT argE
  by_cases hv : a < f.vars
  · rw [if_pos hv, if_pos hv]
  · rw [if_neg hv, if_neg hv]
    unfold tvals tvalsTo
    exact evTo_mono (by omega) hi (by omega) (Nat.le_refl _)
theorem fstU_spec {f : Fn} (h : WF f) {y n i : Nat} (hi : i < f.nodes.length) (hu : argT f.vars (tvals f y n) y n (f.vars + i) = 2) :
    fstU f y n (f.nd i).args ∈ (f.nd i).args ∧ argT f.vars (tvals f y n) y n (fstU f y n (f.nd i).args) = 2 := by
  rw [argT_node hi] at hu
  have h2 := node_unknown (f.vars + i) (f.nd i) _ (h.2.2.1 i hi) (by simp) (fun t ht => by
    obtain ⟨a, _, rfl⟩ := List.mem_map.1 ht
    exact argT_le f y n i a (by omega)) hu
  obtain ⟨a, ha, e⟩ := List.mem_map.1 h2
  rw [argT_to h (by omega) (h.arg hi ha)] at e
  unfold fstU
  cases hf : (f.nd i).args.find? fun b => argT f.vars (tvals f y n) y n b == 2 with
  | none =>
    have := List.find?_eq_none.1 hf a ha
    simp [e] at this
  | some b =>
    have h3 := List.find?_some hf
    exact ⟨List.mem_of_find?_eq_some hf, by simpa using h3⟩
theorem nxtF_spec {f : Fn} (h : WF f) {y n : Nat} : ∀ (k a : Nat), a < f.vars + k → a < f.vars + f.nodes.length → argT f.vars (tvals f y n) y n a = 2 → mk f a = true →
    nxtF f y n k a < f.vars ∧ evC y n (nxtF f y n k a) = 2 ∧ mk f (nxtF f y n k a) = true := by
  intro k
  induction k with
  | zero =>
    intro a ha _ hu hm
    rw [nxtF]
    have hv : a < f.vars := by omega
    unfold argT argE at hu
    rw [if_pos hv] at hu
    exact ⟨hv, hu, hm⟩
  | succ k ih =>
    intro a ha hn hu hm
    rw [nxtF]
    by_cases hv : a < f.vars
    · rw [if_pos hv]
      unfold argT argE at hu
      rw [if_pos hv] at hu
      exact ⟨hv, hu, hm⟩
    · rw [if_neg hv]
      obtain ⟨i, rfl⟩ : ∃ i, a = f.vars + i := ⟨a - f.vars, by omega⟩
      rw [Nat.add_sub_cancel_left]
      obtain ⟨h1, h2⟩ := fstU_spec h (show i < f.nodes.length by omega) hu
      have h3 := h.arg (by omega) h1
      exact ih _ (by omega) (by omega) h2 (mk_arg h (by omega) hm h1)
theorem nxt_spec {f : Fn} (h : WF f) {y n : Nat} (hu : tval f y n = 2) : nxt f y n < f.vars ∧ evC y n (nxt f y n) = 2 ∧ mk f (nxt f y n) = true :=
  nxtF_spec h _ _ (by have := h.2.2.2; omega) h.2.2.2 hu (mk_top h)
theorem evC_two {y n a : Nat} (h : evC y n a = 2) : y.testBit a = false ∧ n.testBit a = false := by
  unfold evC at h
  by_cases hy : y.testBit a = true
  · rw [if_pos hy] at h; exact absurd h (by decide)
  · rw [if_neg hy] at h
    by_cases hn : n.testBit a = true
    · rw [if_pos hn] at h; exact absurd h (by decide)
    · exact ⟨Bool.eq_false_iff.2 hy, Bool.eq_false_iff.2 hn⟩
/-- with all events known it is decided -/
theorem tval_full {f : Fn} (h : WF f) {y n : Nat} (hk : ∀ a, a < f.vars → evC y n a ≠ 2) : tval f y n ≠ 2 := fun hu => by
  obtain ⟨h1, h2, _⟩ := nxt_spec h hu
  exact hk _ h1 h2
/-! ## splits -/
/-- the number of unknown events below v -/
def unk (y n : Nat) : Nat → Nat
  | 0 => 0
  | v + 1 => unk y n v + (if evC y n v = 2 then 1 else 0)
theorem unk_le (y n v : Nat) : unk y n v ≤ v := by
  induction v with
  | zero => simp [unk]
  | succ v ih => rw [unk]; split <;> omega
theorem unk_zero {y n v : Nat} (h : unk y n v = 0) : ∀ a, a < v → evC y n a ≠ 2 := by
  induction v with
  | zero => intro a ha; omega
  | succ v ih =>
    rw [unk] at h
    intro a ha
    by_cases e : a = v
    · subst e
      intro h2
      rw [if_pos h2] at h
      omega
    · exact ih (by omega) a (by omega)
theorem unk_less {y n y' n' e v : Nat} (he : e < v) (h2 : evC y n e = 2) (h2' : evC y' n' e ≠ 2) (hs : ∀ a, a ≠ e → evC y' n' a = evC y n a) : unk y' n' v + 1 = unk y n v := by
  induction v with
  | zero => omega
  | succ v ih =>
    rw [unk, unk]
    by_cases hv : e = v
    · subst hv
      have : ∀ w, w ≤ e → unk y' n' w = unk y n w := by
        intro w
        induction w with
        | zero => intro _; rfl
        | succ w ihw => intro hw; rw [unk, unk, ihw (by omega), hs w (by omega)]
      rw [this e (Nat.le_refl _), if_pos h2, if_neg h2']
    · have := ih (by omega)
      rw [hs v (fun h => hv h.symm)]
      omega
theorem evC_yes {y n e a : Nat} (h : a ≠ e) : evC (y ||| 2 ^ e) n a = evC y n a := by
  unfold evC
  rw [Nat.testBit_or, Nat.testBit_two_pow]
  have : decide (e = a) = false := decide_eq_false fun h2 => h h2.symm
  rw [this, Bool.or_false]
theorem evC_no {y n e a : Nat} (h : a ≠ e) : evC y (n ||| 2 ^ e) a = evC y n a := by
  unfold evC
  rw [Nat.testBit_or, Nat.testBit_two_pow]
  have : decide (e = a) = false := decide_eq_false fun h2 => h h2.symm
  rw [this, Bool.or_false]
theorem split_yes {y n e v : Nat} (he : e < v) (h2 : evC y n e = 2) : unk (y ||| 2 ^ e) n v + 1 = unk y n v :=
  unk_less he h2 (by unfold evC; rw [Nat.testBit_or, Nat.testBit_two_pow]; simp) fun a ha => evC_yes ha
theorem split_no {y n e v : Nat} (he : e < v) (h2 : evC y n e = 2) : unk y (n ||| 2 ^ e) v + 1 = unk y n v :=
  unk_less he h2 (by unfold evC; rw [Nat.testBit_or, Nat.testBit_two_pow]; have := (evC_two h2).1; simp [this]) fun a ha => evC_no ha
/-- no event is in both -/
def Dis (y n : Nat) : Prop := ∀ a, ¬ (y.testBit a = true ∧ n.testBit a = true)
theorem dis_yes {y n e : Nat} (h : Dis y n) (h2 : evC y n e = 2) : Dis (y ||| 2 ^ e) n := by
  intro a ⟨h3, h4⟩
  rw [Nat.testBit_or, Nat.testBit_two_pow] at h3
  by_cases ea : e = a
  · subst ea; rw [(evC_two h2).2] at h4; cases h4
  · rw [decide_eq_false ea, Bool.or_false] at h3
    exact h a ⟨h3, h4⟩
theorem dis_no {y n e : Nat} (h : Dis y n) (h2 : evC y n e = 2) : Dis y (n ||| 2 ^ e) := by
  intro a ⟨h3, h4⟩
  rw [Nat.testBit_or, Nat.testBit_two_pow] at h4
  by_cases ea : e = a
  · subst ea; rw [(evC_two h2).1] at h3; cases h3
  · rw [decide_eq_false ea, Bool.or_false] at h4
    exact h a ⟨h3, h4⟩
theorem inC_yes {vars y n : Nat} (h : Dis y n) : InC vars y n y := fun a _ => ⟨fun h1 => h1, fun h1 => by
  cases hy : y.testBit a with
  | false => rfl
  | true => exact absurd ⟨hy, h1⟩ (h a)⟩
/-! ## a negation on top -/
/-- the formula with two negations on its top -/
def neg2 (f : Fn) (t : Nat) : Fn := ⟨f.vars, f.nodes ++ [⟨1, 0, [f.top]⟩, ⟨1, 0, [f.vars + f.nodes.length]⟩], t⟩
theorem neg2_len (f : Fn) (t : Nat) : (neg2 f t).nodes.length = f.nodes.length + 2 := by simp [neg2]
theorem neg2_nd (f : Fn) (t : Nat) {i : Nat} (hi : i < f.nodes.length) : (neg2 f t).nd i = f.nd i := by
  unfold Fn.nd neg2
  simp only
  rw [List.getD_eq_getElem?_getD, List.getElem?_append_left hi, ← List.getD_eq_getElem?_getD]
theorem neg2_nd1 (f : Fn) (t : Nat) : (neg2 f t).nd f.nodes.length = ⟨1, 0, [f.top]⟩ := by
  unfold Fn.nd neg2
  simp only
  rw [List.getD_eq_getElem?_getD, List.getElem?_append_right (Nat.le_refl _)]; simp
theorem neg2_nd2 (f : Fn) (t : Nat) : (neg2 f t).nd (f.nodes.length + 1) = ⟨1, 0, [f.vars + f.nodes.length]⟩ := by
  unfold Fn.nd neg2
  simp only
  rw [List.getD_eq_getElem?_getD, List.getElem?_append_right (by omega)]
  simp
theorem okN_not {m a : Nat} (h : a < m) : okN m ⟨1, 0, [a]⟩ := by
  refine ⟨by simp, fun e => absurd e (by simp), fun _ => rfl, fun _ => ⟨by simp, by simp⟩, fun b hb => ?_, fun e => absurd e (by simp), fun _ _ => rfl⟩
  rw [List.mem_singleton.1 hb]; exact h
theorem neg2_wf {f : Fn} (h : WF f) (hn : f.nodes.length + 2 ≤ 128) {t : Nat} (ht : t < f.vars + f.nodes.length + 2) : WF (neg2 f t) := by
  refine ⟨h.1, by rw [neg2_len]; exact hn, fun i hi => ?_, by rw [neg2_len]; show t < f.vars + _; omega⟩
  rw [neg2_len] at hi
  show okN (f.vars + i) _
  by_cases h1 : i < f.nodes.length
  · rw [neg2_nd f t h1]; exact h.2.2.1 i h1
  · by_cases h2 : i = f.nodes.length
    · subst h2; rw [neg2_nd1]; exact okN_not h.2.2.2
    · have h3 : i = f.nodes.length + 1 := by omega
      subst h3; rw [neg2_nd2]; exact okN_not (by omega)
theorem neg2_to {f : Fn} (t y n : Nat) {i : Nat} (hi : i ≤ f.nodes.length) : tvalsTo (neg2 f t) y n i = tvalsTo f y n i := by
  unfold tvalsTo evTo
  show evL f.vars _ _ _ ((neg2 f t).nodes.take i) = _
  have : (neg2 f t).nodes.take i = f.nodes.take i := by
    unfold neg2
    simp only
    rw [List.take_append_of_le_length hi]
  rw [this]
def notT (t : Nat) : Nat := truthN (decide (t = 0)) (decide (t = 1))
theorem cmbT_not (t : Nat) : cmbT 1 0 [t] = notT t := by
  unfold cmbT decT notT
  rw [if_neg (by decide), if_pos rfl]
  congr 1
  · rw [Bool.eq_iff_iff]; simp [List.count_cons]
  · rw [Bool.eq_iff_iff]; simp [List.count_cons]
theorem neg2_one {f : Fn} (h : WF f) (hn : f.nodes.length + 2 ≤ 128) (y n : Nat) : tval (neg2 f (f.vars + f.nodes.length)) y n = notT (tval f y n) := by
  have hi : f.nodes.length < (neg2 f (f.vars + f.nodes.length)).nodes.length := by rw [neg2_len]; omega
  show argT f.vars (tvals (neg2 f (f.vars + f.nodes.length)) y n) y n (f.vars + f.nodes.length) = _
  have e := argT_node (f := neg2 f (f.vars + f.nodes.length)) (y := y) (n := n) hi
  have e2 : (neg2 f (f.vars + f.nodes.length)).vars = f.vars := rfl
  rw [e2] at e
  rw [e, neg2_nd1, neg2_to _ y n (Nat.le_refl _)]
  exact cmbT_not _
theorem neg2_two {f : Fn} (h : WF f) (hn : f.nodes.length + 2 ≤ 128) (y n : Nat) : tval (neg2 f (f.vars + f.nodes.length + 1)) y n = notT (notT (tval f y n)) := by
  have hw := neg2_wf h hn (t := f.vars + f.nodes.length + 1) (by omega)
  have hi : f.nodes.length + 1 < (neg2 f (f.vars + f.nodes.length + 1)).nodes.length := by rw [neg2_len]; omega
  have e := argT_node (f := neg2 f (f.vars + f.nodes.length + 1)) (y := y) (n := n) hi
  have e2 : (neg2 f (f.vars + f.nodes.length + 1)).vars = f.vars := rfl
  rw [e2] at e
  show argT f.vars (tvals (neg2 f (f.vars + f.nodes.length + 1)) y n) y n (f.vars + (f.nodes.length + 1)) = _
  rw [e, neg2_nd2]
  have e3 := argT_to hw (y := y) (n := n) (i := f.nodes.length + 1) (a := f.vars + f.nodes.length) (by omega) (by rw [e2]; omega)
  rw [e2] at e3
  show cmbT 1 0 [argT f.vars _ y n (f.vars + f.nodes.length)] = _
  rw [cmbT_not, e3]
  have hi1 : f.nodes.length < (neg2 f (f.vars + f.nodes.length + 1)).nodes.length := by rw [neg2_len]; omega
  have e4 := argT_node (f := neg2 f (f.vars + f.nodes.length + 1)) (y := y) (n := n) hi1
  rw [e2] at e4
  rw [e4, neg2_nd1, neg2_to _ y n (Nat.le_refl _)]
  show notT (cmbT 1 0 [argT f.vars _ y n f.top]) = _
  rw [cmbT_not]
  rfl
theorem notT_law {t : Nat} (h : t ≤ 2) : notT (notT t) = t ∧ ((t = 2 ∧ notT t = 2) ∨ (t ≠ 2 ∧ t + notT t = 1)) := by
  have : t = 0 ∨ t = 1 ∨ t = 2 := by omega
  rcases this with rfl | rfl | rfl <;> decide
theorem tval_le (f : Fn) (y n : Nat) : tval f y n ≤ 2 := argT_le f y n _ _ (Nat.le_refl _)
/-! ## votes -/
/-- a formula of one node -/
def oneF (args : List Nat) (kind k : Nat) : Fn := ⟨args.length, [⟨kind, k, args⟩], args.length⟩
theorem oneF_val (args : List Nat) (kind k y n : Nat) (ha : ∀ a ∈ args, a < args.length) : tval (oneF args kind k) y n = cmbT kind k (args.map (evC y n)) := by
  have hi : 0 < (oneF args kind k).nodes.length := by show 0 < 1; omega
  have e := argT_node (f := oneF args kind k) (y := y) (n := n) hi
  have : tval (oneF args kind k) y n = argT (oneF args kind k).vars (tvals (oneF args kind k) y n) y n ((oneF args kind k).vars + 0) := rfl
  rw [this, e]
  show cmbT kind k (args.map _) = _
  congr 1
  refine List.map_congr_left fun a h => ?_
  unfold argT argE
  rw [if_pos (show a < (oneF args kind k).vars from ha a h)]
theorem vote_and (xs : List Nat) (h : ∀ x ∈ xs, x ≤ 2) (hn : 1 ≤ xs.length) : cmbT 2 0 xs = cmbT 4 xs.length xs := by
  have h1 := count3 xs h
  unfold cmbT decT
  rw [if_neg (by decide), if_neg (by decide), if_pos rfl, if_neg (by decide), if_neg (by decide), if_neg (by decide), if_neg (by decide), if_pos rfl]
  congr 1
  · rw [Bool.eq_iff_iff]; simp; omega
  · rw [Bool.eq_iff_iff]; simp
theorem vote_or (xs : List Nat) (h : ∀ x ∈ xs, x ≤ 2) (hn : 1 ≤ xs.length) : cmbT 3 0 xs = cmbT 4 1 xs := by
  have h1 := count3 xs h
  unfold cmbT decT
  rw [if_neg (by decide), if_neg (by decide), if_neg (by decide), if_pos rfl, if_neg (by decide), if_neg (by decide), if_neg (by decide), if_neg (by decide), if_pos rfl]
  congr 1
  rw [Bool.eq_iff_iff]; simp; omega
end Go.Proofs.Ytmkogcaafkobaaa.Fm
