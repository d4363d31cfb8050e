/-
  Rewritten formulas, pure: negations moved down. No statement of the program.
-/
import Derived.Test.YtmkogcaafkobaaaJp
namespace Go.Proofs.Ytmkogcaafkobaaa.Fm
set_option linter.unusedVariables false
set_option linter.unusedSimpArgs false
set_option maxRecDepth 100000
theorem cmb_and2 (x y : Bool) : cmbV 2 0 [x, y] = (x && y) := by cases x <;> cases y <;> decide
theorem cmb_or2 (x y : Bool) : cmbV 3 0 [x, y] = (x || y) := by cases x <;> cases y <;> decide
theorem cmb_or1 (x : Bool) : cmbV 3 0 [x] = x := by cases x <;> decide
/-- the nodes of one argument more of a xor -/
def px6 (q p n a b : Nat) : List Nn := [⟨2, 0, [p, b]⟩, ⟨2, 0, [n, a]⟩, ⟨3, 0, [q, q + 1]⟩, ⟨2, 0, [p, a]⟩, ⟨2, 0, [n, b]⟩, ⟨3, 0, [q + 3, q + 4]⟩]
/-- a xor after its first arguments: the nodes, its P and its N -/
def pxO (v : Nat) (a b : List Nat) (o : List Nn) : Nat → List Nn × Nat × Nat
  | 0 => (o ++ [⟨3, 0, [a.getD 0 0]⟩, ⟨3, 0, [b.getD 0 0]⟩], v + o.length, v + o.length + 1)
  | j + 1 => ((pxO v a b o j).1 ++ px6 (v + (pxO v a b o j).1.length) (pxO v a b o j).2.1 (pxO v a b o j).2.2 (a.getD (j + 1) 0) (b.getD (j + 1) 0), v + (pxO v a b o j).1.length + 2, v + (pxO v a b o j).1.length + 5)
def puY (x : Nn) (a b : List Nat) : Nn :=
  if x.kind = 0 then ⟨0, x.k, []⟩ else if x.kind = 1 then ⟨3, 0, b⟩ else if x.kind = 2 then ⟨2, 0, a⟩ else if x.kind = 3 then ⟨3, 0, a⟩ else ⟨4, x.k, a⟩
def puZ (x : Nn) (a b : List Nat) : Nn :=
  if x.kind = 0 then ⟨0, 1 - x.k, []⟩ else if x.kind = 1 then ⟨3, 0, a⟩ else if x.kind = 2 then ⟨3, 0, b⟩ else if x.kind = 3 then ⟨2, 0, b⟩ else ⟨4, a.length - x.k + 1, b⟩
def puN (v : Nat) (o : List Nn) (x : Nn) (a b : List Nat) : List Nn × Nat × Nat :=
  if x.kind = 5 then pxO v a b o (a.length - 1) else (o ++ [puY x a b, puZ x a b], v + o.length, v + o.length + 1)
/-- the nodes so far, and what arguments and their negations have become -/
structure PuS where
  o : List Nn
  y : List Nat
  n : List Nat
def puS (v : Nat) (st : PuS) (x : Nn) : PuS :=
  ⟨(puN v st.o x (ren st.y x.args) (ren st.n x.args)).1, st.y ++ [(puN v st.o x (ren st.y x.args) (ren st.n x.args)).2.1], st.n ++ [(puN v st.o x (ren st.y x.args) (ren st.n x.args)).2.2]⟩
def nots (v : Nat) : List Nn := (List.range v).map fun i => ⟨1, 0, [i]⟩
def puTo (f : Fn) : Nat → PuS
  | 0 => ⟨nots f.vars, List.range f.vars, (List.range f.vars).map fun i => f.vars + i⟩
  | i + 1 => puS f.vars (puTo f i) (f.nd i)
/-- before it is trimmed -/
def pushF (f : Fn) : Fn := ⟨f.vars, (puTo f f.nodes.length).o, (puTo f f.nodes.length).y.getD f.top 0⟩
def push (f : Fn) : Fn := trim (pushF f)
theorem px6_len (q p n a b : Nat) : (px6 q p n a b).length = 6 := rfl
theorem pxO_len (v : Nat) (a b : List Nat) (o : List Nn) (j : Nat) : (pxO v a b o j).1.length = o.length + 2 + 6 * j := by
  induction j with
  | zero => simp [pxO]
  | succ j ih =>
    show (_ ++ _ : List Nn).length = _
    rw [List.length_append, px6_len, ih]; omega
theorem puN_len {v : Nat} {o : List Nn} {x : Nn} {a b : List Nat} (h : a.length ≤ 16) : o.length + 2 ≤ (puN v o x a b).1.length ∧ (puN v o x a b).1.length ≤ o.length + 92 := by
  unfold puN
  by_cases k5 : x.kind = 5
  · rw [if_pos k5, pxO_len]; omega
  · rw [if_neg k5]; simp
theorem nots_len (v : Nat) : (nots v).length = v := by simp [nots]
theorem nots_nd {v i : Nat} (h : i < v) : ndL (nots v) i = ⟨1, 0, [i]⟩ := by simp [ndL, nots, h]
theorem nots_ok (v : Nat) : okL v (nots v) := fun i hi => by
  rw [nots_len] at hi
  rw [nots_nd hi]
  exact okN_neg rfl (fun a ha => by simp at ha; omega)
theorem ok6 {v : Nat} {o : List Nn} (h : okL v o) {p n a b : Nat} (hp : p < v + o.length) (hn : n < v + o.length) (ha : a < v + o.length) (hb : b < v + o.length) : okL v (o ++ px6 (v + o.length) p n a b) := by
  refine h.app fun j hj => ?_
  have hj6 : j < 6 := hj
  have h6 : j = 0 ∨ j = 1 ∨ j = 2 ∨ j = 3 ∨ j = 4 ∨ j = 5 := by omega
  rcases h6 with rfl | rfl | rfl | rfl | rfl | rfl
  all_goals
    refine okN_one (by simp) (by simp) (fun c hc => ?_) (by simp)
    simp at hc
    omega
theorem ok2 {v : Nat} {o : List Nn} (h : okL v o) {x y : Nn} (hx : okN (v + o.length) x) (hy : okN (v + o.length + 1) y) : okL v (o ++ [x, y]) := by
  refine h.app fun j hj => ?_
  have hj2 : j < 2 := hj
  have h2 : j = 0 ∨ j = 1 := by omega
  rcases h2 with rfl | rfl
  · exact hx
  · exact hy
/-- the value of a node that is appended, by the values of before where its arguments stood -/
theorem av_new {v s : Nat} {o m : List Nn} (h : okL v (o ++ m)) {j : Nat} (hj : j < m.length) : av v s (o ++ m) (v + o.length + j) = cmbV (ndL m j).kind (ndL m j).k ((ndL m j).args.map (av v s (o ++ m))) := by
  have := av_nodeL h (i := o.length + j) (by rw [List.length_append]; omega) s
  rw [ndL_add] at this
  rw [Nat.add_assoc]; exact this
theorem av6 {v s : Nat} {o : List Nn} (h : okL v o) {p n a b : Nat} (hp : p < v + o.length) (hn : n < v + o.length) (ha : a < v + o.length) (hb : b < v + o.length) :
    av v s (o ++ px6 (v + o.length) p n a b) (v + o.length + 2) = ((av v s o p && av v s o b) || (av v s o n && av v s o a)) ∧
    av v s (o ++ px6 (v + o.length) p n a b) (v + o.length + 5) = ((av v s o p && av v s o a) || (av v s o n && av v s o b)) := by
  have hk := ok6 h hp hn ha hb
  have h0 := av_new (s := s) hk (j := 0) (by simp [px6])
  have h1 := av_new (s := s) hk (j := 1) (by simp [px6])
  have h2 := av_new (s := s) hk (j := 2) (by simp [px6])
  have h3 := av_new (s := s) hk (j := 3) (by simp [px6])
  have h4 := av_new (s := s) hk (j := 4) (by simp [px6])
  have h5 := av_new (s := s) hk (j := 5) (by simp [px6])
  have e0 : ndL (px6 (v + o.length) p n a b) 0 = ⟨2, 0, [p, b]⟩ := rfl
  have e1 : ndL (px6 (v + o.length) p n a b) 1 = ⟨2, 0, [n, a]⟩ := rfl
  have e2 : ndL (px6 (v + o.length) p n a b) 2 = ⟨3, 0, [v + o.length, v + o.length + 1]⟩ := rfl
  have e3 : ndL (px6 (v + o.length) p n a b) 3 = ⟨2, 0, [p, a]⟩ := rfl
  have e4 : ndL (px6 (v + o.length) p n a b) 4 = ⟨2, 0, [n, b]⟩ := rfl
  have e5 : ndL (px6 (v + o.length) p n a b) 5 = ⟨3, 0, [v + o.length + 3, v + o.length + 4]⟩ := rfl
  rw [e0] at h0; rw [e1] at h1; rw [e2] at h2; rw [e3] at h3; rw [e4] at h4; rw [e5] at h5
  simp only [List.map_cons, List.map_nil, cmb_and2, cmb_or2] at h0 h1 h2 h3 h4 h5
  rw [Nat.add_zero] at h0
  rw [av_app hp, av_app hb] at h0
  rw [av_app hn, av_app ha] at h1
  rw [av_app hp, av_app ha] at h3
  rw [av_app hn, av_app hb] at h4
  exact ⟨by rw [h2, h0, h1], by rw [h5, h3, h4]⟩
theorem av2 {v s : Nat} {o : List Nn} {x y : Nn} (h : okL v (o ++ [x, y])) (hx : ∀ a ∈ x.args, a < v + o.length) (hy : ∀ a ∈ y.args, a < v + o.length) :
    av v s (o ++ [x, y]) (v + o.length) = cmbV x.kind x.k (x.args.map (av v s o)) ∧ av v s (o ++ [x, y]) (v + o.length + 1) = cmbV y.kind y.k (y.args.map (av v s o)) := by
  have h0 := av_new (s := s) h (j := 0) (by simp)
  have h1 := av_new (s := s) h (j := 1) (by simp)
  rw [Nat.add_zero] at h0
  refine ⟨h0.trans ?_, h1.trans ?_⟩
  · show cmbV x.kind x.k _ = _
    congr 1
    exact List.map_congr_left fun a ha => av_app (hx a ha) _
  · show cmbV y.kind y.k _ = _
    congr 1
    exact List.map_congr_left fun a ha => av_app (hy a ha) _
/-- true for an odd number of the first values -/
def parB (g : Nat → Bool) : Nat → Bool
  | 0 => g 0
  | j + 1 => (parB g j && !g (j + 1)) || (!parB g j && g (j + 1))
theorem parB_count (l : List Bool) : ∀ j, j < l.length → parB (fun t => l.getD t false) j = decide ((l.take (j + 1)).count true % 2 = 1) := by
  intro j
  induction j with
  | zero =>
    intro h
    cases l with
    | nil => simp at h
    | cons x l => cases x <;> simp [parB]
  | succ j ih =>
    intro h
    have e : l.take (j + 1 + 1) = l.take (j + 1) ++ [l.getD (j + 1) false] := by
      rw [List.take_add_one]; simp [h]
    rw [e, List.count_append]
    unfold parB
    rw [ih (by omega)]
    obtain ⟨c, hc⟩ : ∃ c, (l.take (j + 1)).count true = c := ⟨_, rfl⟩
    rw [hc]
    cases l.getD (j + 1) false
    · simp
    · by_cases hp : c % 2 = 1
      · have : ¬ (c + 1) % 2 = 1 := by omega
        simp [hp, this]
      · have : (c + 1) % 2 = 1 := by omega
        simp [hp, this]
/-- what a xor has become after its first arguments -/
theorem pxO_step {v : Nat} {a b : List Nat} {o : List Nn} (h : okL v o) (ha : ∀ c ∈ a, c < v + o.length) (hb : ∀ c ∈ b, c < v + o.length) (hl : b.length = a.length) : ∀ j, j < a.length →
    okL v (pxO v a b o j).1 ∧ (pxO v a b o j).2.1 < v + (pxO v a b o j).1.length ∧ (pxO v a b o j).2.2 < v + (pxO v a b o j).1.length ∧
    (∀ c, c < v + o.length → ∀ s, av v s (pxO v a b o j).1 c = av v s o c) ∧
    ∀ s, (∀ t, t < a.length → av v s o (b.getD t 0) = !av v s o (a.getD t 0)) → av v s (pxO v a b o j).1 (pxO v a b o j).2.1 = parB (fun t => av v s o (a.getD t 0)) j ∧ av v s (pxO v a b o j).1 (pxO v a b o j).2.2 = !parB (fun t => av v s o (a.getD t 0)) j := by
  have mem : ∀ (l : List Nat) (t : Nat), t < l.length → l.getD t 0 ∈ l := fun l t h => by
    have : l.getD t 0 = l[t] := by simp [h]
    rw [this]; exact List.getElem_mem h
  intro j
  induction j with
  | zero =>
    intro hj
    have a0 := ha _ (mem a 0 hj)
    have b0 := hb _ (mem b 0 (by omega))
    have hk : okL v (o ++ [⟨3, 0, [a.getD 0 0]⟩, ⟨3, 0, [b.getD 0 0]⟩]) := ok2 h (okN_one (by simp) (by simp) (fun c hc => by simp at hc; rw [hc]; simpa using a0) (by simp)) (okN_one (by simp) (by simp) (fun c hc => by simp at hc; rw [hc]; simp at b0 ⊢; omega) (by simp))
    refine ⟨hk, ?_, ?_, fun c hc s => av_app hc _, fun s hs => ?_⟩
    · show v + o.length < v + (_ ++ _ : List Nn).length
      rw [List.length_append]; simp
    · show v + o.length + 1 < v + (_ ++ _ : List Nn).length
      rw [List.length_append]; simp; omega
    · obtain ⟨h1, h2⟩ := av2 (s := s) hk (fun c hc => by simp at hc; rw [hc]; simpa using a0) (fun c hc => by simp at hc; rw [hc]; simpa using b0)
      simp only [List.map_cons, List.map_nil, cmb_or1] at h1 h2
      refine ⟨h1, ?_⟩
      rw [hs 0 hj] at h2
      exact h2
  | succ j ih =>
    intro hj
    obtain ⟨i1, i2, i3, i4, i5⟩ := ih (by omega)
    have hlen := pxO_len v a b o j
    have aj := ha _ (mem a (j + 1) hj)
    have bj := hb _ (mem b (j + 1) (by omega))
    have aj2 : a.getD (j + 1) 0 < v + (pxO v a b o j).1.length := by omega
    have bj2 : b.getD (j + 1) 0 < v + (pxO v a b o j).1.length := by omega
    refine ⟨ok6 i1 i2 i3 aj2 bj2, ?_, ?_, fun c hc s => ?_, fun s hs => ?_⟩
    · show _ < v + (_ ++ _ : List Nn).length
      rw [List.length_append, px6_len]
      show v + _ + 2 < _
      omega
    · show _ < v + (_ ++ _ : List Nn).length
      rw [List.length_append, px6_len]
      show v + _ + 5 < _
      omega
    · refine Eq.trans (av_app (by omega) _) (i4 c hc s)
    · obtain ⟨h1, h2⟩ := av6 (s := s) i1 i2 i3 aj2 bj2
      obtain ⟨c1, c2⟩ := i5 s hs
      rw [c1, c2, i4 _ bj, i4 _ aj, hs (j + 1) hj] at h1 h2
      refine ⟨h1, h2.trans ?_⟩
      have e : parB (fun t => av v s o (a.getD t 0)) (j + 1) = ((parB (fun t => av v s o (a.getD t 0)) j && !av v s o (a.getD (j + 1) 0)) || (!parB (fun t => av v s o (a.getD t 0)) j && av v s o (a.getD (j + 1) 0))) := rfl
      rw [e]
      cases parB (fun t => av v s o (a.getD t 0)) j <;> cases av v s o (a.getD (j + 1) 0) <;> rfl
theorem av_ren_not {f : Fn} {s i : Nat} {o : List Nn} {y n : List Nat} (hy : TrJV id f s s i o y) (hn : TrJV not f s s i o n) {l : List Nat} (hl : ∀ a ∈ l, a < f.vars + i) : ∀ t, t < (ren y l).length → av f.vars s o ((ren n l).getD t 0) = !av f.vars s o ((ren y l).getD t 0) := fun t ht => by
  rw [ren_len] at ht
  have hm : l[t] ∈ l := List.getElem_mem ht
  have e1 : (ren n l).getD t 0 = n.getD l[t] 0 := by simp [ren, ht]
  have e2 : (ren y l).getD t 0 = y.getD l[t] 0 := by simp [ren, ht]
  rw [e1, e2, hy _ (hl _ hm), hn _ (hl _ hm)]; rfl
/-- one step -/
theorem puN_step {N : Nat} {f : Fn} (hf : WFb N f) {i : Nat} (hi : i < f.nodes.length) {o : List Nn} {y n : List Nat} (h : TrJ f i o y) (h2 : TrJ f i o n) :
    okL f.vars (puN f.vars o (f.nd i) (ren y (f.nd i).args) (ren n (f.nd i).args)).1 ∧ (∃ m, (puN f.vars o (f.nd i) (ren y (f.nd i).args) (ren n (f.nd i).args)).1 = o ++ m) ∧
    (puN f.vars o (f.nd i) (ren y (f.nd i).args) (ren n (f.nd i).args)).2.1 < f.vars + (puN f.vars o (f.nd i) (ren y (f.nd i).args) (ren n (f.nd i).args)).1.length ∧
    (puN f.vars o (f.nd i) (ren y (f.nd i).args) (ren n (f.nd i).args)).2.2 < f.vars + (puN f.vars o (f.nd i) (ren y (f.nd i).args) (ren n (f.nd i).args)).1.length ∧
    ∀ s, TrJV id f s s i o y → TrJV not f s s i o n →
      av f.vars s (puN f.vars o (f.nd i) (ren y (f.nd i).args) (ren n (f.nd i).args)).1 (puN f.vars o (f.nd i) (ren y (f.nd i).args) (ren n (f.nd i).args)).2.1 = av f.vars s f.nodes (f.vars + i) ∧
      av f.vars s (puN f.vars o (f.nd i) (ren y (f.nd i).args) (ren n (f.nd i).args)).1 (puN f.vars o (f.nd i) (ren y (f.nd i).args) (ren n (f.nd i).args)).2.2 = !av f.vars s f.nodes (f.vars + i) := by
  obtain ⟨b0, b1, b2, b3, b4, b5, b6⟩ := hf.2.2.1 i hi
  have hn := av_node hf hi
  have hya := ren_lt h b4
  have hna := ren_lt h2 b4
  have hyl := ren_len y (f.nd i).args
  have hnl := ren_len n (f.nd i).args
  have hyv := fun s (hv : TrJV id f s s i o y) => ren_val hv b4
  have hnv := fun s (hv : TrJV not f s s i o n) => ren_val hv b4
  have hyn := fun s (hv : TrJV id f s s i o y) (hw : TrJV not f s s i o n) => av_ren_not hv hw b4
  obtain ⟨a, hae⟩ : ∃ a, ren y (f.nd i).args = a := ⟨_, rfl⟩
  obtain ⟨b, hbe⟩ : ∃ b, ren n (f.nd i).args = b := ⟨_, rfl⟩
  rw [hae] at hya hyl hyv ⊢
  rw [hbe] at hna hnl hnv ⊢
  rw [hae, hbe] at hyn
  obtain ⟨x, hx⟩ : ∃ x, f.nd i = x := ⟨_, rfl⟩
  rw [hx] at b0 b1 b2 b3 b4 b5 b6 hn hyl hnl hyv hnv ⊢
  unfold puN
  by_cases k5 : x.kind = 5
  · rw [if_pos k5]
    have b33 := b3 (by omega)
    obtain ⟨q1, q2, q3, q4, q5⟩ := pxO_step (j := a.length - 1) h.ok hya hna (by omega) (by omega)
    refine ⟨q1, ?_, q2, q3, fun s hv hw => ?_⟩
    · have : ∀ j, ∃ m, (pxO f.vars a b o j).1 = o ++ m := by
        intro j
        induction j with
        | zero => exact ⟨_, rfl⟩
        | succ j ih =>
          obtain ⟨m, hm⟩ := ih
          refine ⟨m ++ px6 (f.vars + (pxO f.vars a b o j).1.length) (pxO f.vars a b o j).2.1 (pxO f.vars a b o j).2.2 (a.getD (j + 1) 0) (b.getD (j + 1) 0), ?_⟩
          rw [← List.append_assoc, ← hm]; rfl
      exact this _
    · obtain ⟨r1, r2⟩ := q5 s (hyn s hv hw)
      have e2 : ∀ j, j < a.length → parB (fun t => av f.vars s o (a.getD t 0)) j = parB (fun t => (a.map (av f.vars s o)).getD t false) j := by
        intro j
        induction j with
        | zero => intro hj; simp [parB, hj]
        | succ j ih =>
          intro hj
          unfold parB
          rw [ih (by omega)]
          simp [hj]
      have e3 := parB_count (a.map (av f.vars s o)) (a.length - 1) (by rw [List.length_map]; omega)
      rw [show a.length - 1 + 1 = a.length by omega, List.take_of_length_le (by rw [List.length_map]; omega), ← e2 _ (by omega)] at e3
      have e4 : cmbV x.kind x.k (x.args.map (av f.vars s f.nodes)) = decide ((a.map (av f.vars s o)).count true % 2 = 1) := by
        rw [k5, hyv s hv]; simp [cmbV]
      rw [r1, r2, e3, hn, e4]
      exact ⟨rfl, rfl⟩
  · rw [if_neg k5]
    have hok : okN (f.vars + o.length) (puY x a b) ∧ okN (f.vars + o.length + 1) (puZ x a b) ∧ (∀ c ∈ (puY x a b).args, c < f.vars + o.length) ∧ (∀ c ∈ (puZ x a b).args, c < f.vars + o.length) ∧
        ∀ s, TrJV id f s s i o y → TrJV not f s s i o n → cmbV (puY x a b).kind (puY x a b).k ((puY x a b).args.map (av f.vars s o)) = av f.vars s f.nodes (f.vars + i) ∧ cmbV (puZ x a b).kind (puZ x a b).k ((puZ x a b).args.map (av f.vars s o)) = !av f.vars s f.nodes (f.vars + i) := by
      have hya2 : ∀ c ∈ a, c < f.vars + o.length + 1 := fun c hc => by have := hya c hc; omega
      have hna2 : ∀ c ∈ b, c < f.vars + o.length + 1 := fun c hc => by have := hna c hc; omega
      have hcy := fun s (hv : TrJV id f s s i o y) => show (a.map (av f.vars s o)).count true = (x.args.map (av f.vars s f.nodes)).count true from by rw [hyv s hv]; rfl
      have hcn := fun s (hv : TrJV not f s s i o n) => show (b.map (av f.vars s o)).count true + (x.args.map (av f.vars s f.nodes)).count true = x.args.length from by rw [hnv s hv]; exact count_not _ _
      have hcl := fun s => count_len x.args (av f.vars s f.nodes)
      unfold puY puZ
      by_cases k0 : x.kind = 0
      · obtain ⟨c1, c2⟩ := b1 k0
        simp only [if_pos k0]
        refine ⟨okN_const c2, okN_const (by omega), fun c hc => by simp at hc, fun c hc => by simp at hc, fun s hv hw => ?_⟩
        rw [hn, k0, cmb0, cmb0, cmb0]
        exact ⟨rfl, dec_not (by omega)⟩
      have b33 := b3 k0
      by_cases k1 : x.kind = 1
      · have b22 := b2 k1
        simp only [if_neg k0, if_pos k1]
        refine ⟨okN_one (by omega) (by omega) hna (by simp), okN_one (by omega) (by omega) hya2 (by simp), hna, hya, fun s hv hw => ?_⟩
        have d1 := hcy s hv
        have d2 := hcn s hw
        rw [hn, k1]
        have e1 : (a.map (av f.vars s o)).length = a.length := List.length_map _
        have e2 : (b.map (av f.vars s o)).length = b.length := List.length_map _
        have e3 : (x.args.map (av f.vars s f.nodes)).length = x.args.length := List.length_map _
        simp only [cmb1, cmb2, cmb3, cmb4]
        exact ⟨dec_eq (by omega), dec_not (by omega)⟩
      by_cases k2 : x.kind = 2
      · simp only [if_neg k0, if_neg k1, if_pos k2]
        refine ⟨okN_one (by omega) (by omega) hya (by simp), okN_one (by omega) (by omega) hna2 (by simp), hya, hna, fun s hv hw => ?_⟩
        have d1 := hcy s hv
        have d2 := hcn s hw
        have d3 := hcl s
        rw [hn, k2]
        have e1 : (a.map (av f.vars s o)).length = a.length := List.length_map _
        have e2 : (b.map (av f.vars s o)).length = b.length := List.length_map _
        have e3 : (x.args.map (av f.vars s f.nodes)).length = x.args.length := List.length_map _
        simp only [cmb1, cmb2, cmb3, cmb4]
        exact ⟨dec_eq (by omega), dec_not (by omega)⟩
      by_cases k3 : x.kind = 3
      · simp only [if_neg k0, if_neg k1, if_neg k2, if_pos k3]
        refine ⟨okN_one (by omega) (by omega) hya (by simp), okN_one (by omega) (by omega) hna2 (by simp), hya, hna, fun s hv hw => ?_⟩
        have d1 := hcy s hv
        have d2 := hcn s hw
        have d3 := hcl s
        rw [hn, k3]
        have e1 : (a.map (av f.vars s o)).length = a.length := List.length_map _
        have e2 : (b.map (av f.vars s o)).length = b.length := List.length_map _
        have e3 : (x.args.map (av f.vars s f.nodes)).length = x.args.length := List.length_map _
        simp only [cmb1, cmb2, cmb3, cmb4]
        exact ⟨dec_eq (by omega), dec_not (by omega)⟩
      have k4 : x.kind = 4 := by omega
      have b55 := b5 k4
      simp only [if_neg k0, if_neg k1, if_neg k2, if_neg k3]
      refine ⟨okN_vote (by omega) hya (by omega), okN_vote (by omega) hna2 (by omega), hya, hna, fun s hv hw => ?_⟩
      have d1 := hcy s hv
      have d2 := hcn s hw
      have d3 := hcl s
      rw [hn, k4]
      have e1 : (a.map (av f.vars s o)).length = a.length := List.length_map _
      have e2 : (b.map (av f.vars s o)).length = b.length := List.length_map _
      have e3 : (x.args.map (av f.vars s f.nodes)).length = x.args.length := List.length_map _
      simp only [cmb1, cmb2, cmb3, cmb4]
      exact ⟨dec_eq (by omega), dec_not (by omega)⟩
    obtain ⟨o1, o2, o3, o4, o5⟩ := hok
    have hk := ok2 h.ok o1 o2
    refine ⟨hk, ⟨_, rfl⟩, ?_, ?_, fun s hv hw => ?_⟩
    · show f.vars + o.length < f.vars + (_ ++ _ : List Nn).length
      rw [List.length_append]; simp
    · show f.vars + o.length + 1 < f.vars + (_ ++ _ : List Nn).length
      rw [List.length_append]; simp; omega
    · obtain ⟨r1, r2⟩ := av2 (s := s) hk o3 o4
      obtain ⟨p1, p2⟩ := o5 s hv hw
      exact ⟨r1.trans p1, r2.trans p2⟩
theorem puTo_zero_no {v a : Nat} (h : a < v) : ((List.range v).map fun i => v + i).getD a 0 = v + a := by simp [h]
theorem puTo_tr {N : Nat} {f : Fn} (hf : WFb N f) : ∀ i, i ≤ f.nodes.length → TrJ f i (puTo f i).o (puTo f i).y ∧ TrJ f i (puTo f i).o (puTo f i).n := by
  intro i
  induction i with
  | zero =>
    intro _
    refine ⟨TrJ.zero f _ (nots_ok _), ⟨by simp [puTo], nots_ok _, fun a ha => ?_⟩⟩
    show ((List.range f.vars).map fun i => f.vars + i).getD a 0 < f.vars + (nots f.vars).length
    rw [puTo_zero_no (by omega), nots_len]; omega
  | succ i ih =>
    intro hi
    obtain ⟨h1, h2⟩ := ih (by omega)
    obtain ⟨s1, ⟨m, hm⟩, s2, s3, _⟩ := puN_step hf (show i < f.nodes.length by omega) h1 h2
    rw [hm] at s1 s2 s3
    show TrJ f (i + 1) (puN f.vars _ _ _ _).1 _ ∧ TrJ f (i + 1) (puN f.vars _ _ _ _).1 _
    rw [hm]
    exact ⟨h1.next s1 s2, h2.next s1 s3⟩
theorem puTo_val {N : Nat} {f : Fn} (hf : WFb N f) (s : Nat) : ∀ i, i ≤ f.nodes.length → TrJV id f s s i (puTo f i).o (puTo f i).y ∧ TrJV not f s s i (puTo f i).o (puTo f i).n := by
  intro i
  induction i with
  | zero =>
    intro _
    refine ⟨fun a ha => ?_, fun a ha => ?_⟩
    · have e : (puTo f 0).y.getD a 0 = a := by
        show (List.range f.vars).getD a 0 = a
        simp [show a < f.vars by omega]
      rw [e, av_event (by omega), av_event (by omega)]; rfl
    · show av f.vars s (nots f.vars) (((List.range f.vars).map fun i => f.vars + i).getD a 0) = _
      rw [puTo_zero_no (by omega), av_nodeL (nots_ok _) (by rw [nots_len]; omega), nots_nd (by omega)]
      simp only [List.map_cons, List.map_nil, cmb_not1]
      rw [av_event (by omega), av_event (by omega)]
  | succ i ih =>
    intro hi
    obtain ⟨v1, v2⟩ := ih (by omega)
    obtain ⟨h1, h2⟩ := puTo_tr hf i (by omega)
    obtain ⟨s1, ⟨m, hm⟩, s2, s3, s4⟩ := puN_step hf (show i < f.nodes.length by omega) h1 h2
    obtain ⟨s5, s6⟩ := s4 s v1 v2
    rw [hm] at s5 s6
    show TrJV id f s s (i + 1) (puN f.vars _ _ _ _).1 _ ∧ TrJV not f s s (i + 1) (puN f.vars _ _ _ _).1 _
    rw [hm]
    exact ⟨v1.next h1 s5, v2.next h2 s6⟩
theorem puTo_len {N : Nat} {f : Fn} (hf : WFb N f) : ∀ i, i ≤ f.nodes.length → (puTo f i).o.length ≤ f.vars + 92 * i := by
  intro i
  induction i with
  | zero => intro _; show (nots f.vars).length ≤ _; rw [nots_len]; omega
  | succ i ih =>
    intro hi
    have h := ih (by omega)
    have := (puN_len (v := f.vars) (o := (puTo f i).o) (x := f.nd i) (a := ren (puTo f i).y (f.nd i).args) (b := ren (puTo f i).n (f.nd i).args) (by rw [ren_len]; exact hf.len (by omega))).2
    show (puN f.vars _ _ _ _).1.length ≤ _
    omega
theorem pushF_wf {f : Fn} (hf : WF f) : WFb 12000 (pushF f) := by
  have h := (puTo_tr hf f.nodes.length (Nat.le_refl _)).1
  have hl := puTo_len hf f.nodes.length (Nat.le_refl _)
  have hv := hf.1
  have hn : f.nodes.length ≤ 128 := hf.2.1
  exact h.ok.wf hv (by omega) (h.lt _ hf.2.2.2)
theorem pushF_val {f : Fn} (hf : WF f) (s : Nat) : val (pushF f) s = val f s := by
  rw [val_av, val_av]
  exact (puTo_val hf s f.nodes.length (Nat.le_refl _)).1 f.top hf.2.2.2
theorem push_wf {f : Fn} (hf : WF f) : WFb 12000 (push f) := trim_wf (pushF_wf hf)
theorem push_val {f : Fn} (hf : WF f) (s : Nat) : val (push f) s = val f s := (trim_val (pushF_wf hf) s).trans (pushF_val hf s)
/-- no xor, and no negation but of events -/
def flat (v : Nat) (x : Nn) : Prop := x.kind ≠ 5 ∧ (x.kind = 1 → ∀ a ∈ x.args, a < v)
theorem px6_flat (v q p n a b : Nat) : ∀ x ∈ px6 q p n a b, flat v x := by
  intro x hx
  simp [px6] at hx
  rcases hx with rfl | rfl | rfl | rfl | rfl | rfl <;> exact ⟨by simp, fun h => by simp at h⟩
theorem pxO_flat {v : Nat} {a b : List Nat} {o : List Nn} (h : ∀ x ∈ o, flat v x) : ∀ j, ∀ x ∈ (pxO v a b o j).1, flat v x := by
  intro j
  induction j with
  | zero =>
    intro x hx
    have hx2 : x ∈ o ++ [(⟨3, 0, [a.getD 0 0]⟩ : Nn), ⟨3, 0, [b.getD 0 0]⟩] := hx
    rcases List.mem_append.1 hx2 with h1 | h1
    · exact h x h1
    · simp at h1
      rcases h1 with rfl | rfl <;> exact ⟨by simp, fun h => by simp at h⟩
  | succ j ih =>
    intro x hx
    have hx2 : x ∈ (pxO v a b o j).1 ++ px6 (v + (pxO v a b o j).1.length) (pxO v a b o j).2.1 (pxO v a b o j).2.2 (a.getD (j + 1) 0) (b.getD (j + 1) 0) := hx
    rcases List.mem_append.1 hx2 with h1 | h1
    · exact ih x h1
    · exact px6_flat v _ _ _ _ _ x h1
theorem puTo_flat {N : Nat} {f : Fn} (hf : WFb N f) : ∀ i, i ≤ f.nodes.length → ∀ x ∈ (puTo f i).o, flat f.vars x := by
  intro i
  induction i with
  | zero =>
    intro _ x hx
    have hx2 : x ∈ nots f.vars := hx
    unfold nots at hx2
    obtain ⟨j, hj, rfl⟩ := List.mem_map.1 hx2
    rw [List.mem_range] at hj
    exact ⟨by simp, fun _ a ha => by simp at ha; omega⟩
  | succ i ih =>
    intro hi x hx
    have hx2 : x ∈ (puN f.vars (puTo f i).o (f.nd i) (ren (puTo f i).y (f.nd i).args) (ren (puTo f i).n (f.nd i).args)).1 := hx
    unfold puN at hx2
    by_cases k5 : (f.nd i).kind = 5
    · rw [if_pos k5] at hx2
      exact pxO_flat (ih (by omega)) _ x hx2
    · rw [if_neg k5] at hx2
      rcases List.mem_append.1 hx2 with h1 | h1
      · exact ih (by omega) x h1
      · simp at h1
        unfold puY puZ at h1
        rcases h1 with rfl | rfl
        all_goals
          repeat' split
          all_goals exact ⟨by simp, fun h => by simp at h⟩
theorem mem_ndL {l : List Nn} {i : Nat} (h : i < l.length) : ndL l i ∈ l := by
  have : ndL l i = l[i] := by simp [ndL, h]
  rw [this]; exact List.getElem_mem h
/-- trimmed nodes are those of before with other arguments, events stay -/
theorem trim_nodes {N : Nat} {f : Fn} (h : WFb N f) {r : Nat} (hr : r < (trim f).nodes.length) : ∃ i, i < f.nodes.length ∧ (trim f).nd r = ⟨(f.nd i).kind, (f.nd i).k, (f.nd i).args.map (nu f)⟩ := by
  rw [trim_len] at hr
  obtain ⟨i, hi, hm, rfl⟩ := rk_onto f _ r hr
  exact ⟨i, hi, trim_nd h hi hm⟩
theorem push_flat {f : Fn} (hf : WF f) {r : Nat} (hr : r < (push f).nodes.length) : flat f.vars ((push f).nd r) := by
  obtain ⟨i, hi, he⟩ := trim_nodes (pushF_wf hf) hr
  unfold push
  rw [he]
  have hfl := puTo_flat hf f.nodes.length (Nat.le_refl _) _ (mem_ndL (l := (pushF f).nodes) hi)
  refine ⟨hfl.1, fun hk a ha => ?_⟩
  obtain ⟨c, hc, rfl⟩ := List.mem_map.1 ha
  have hcv := hfl.2 hk c hc
  rw [nu_event (pushF f) hcv]
  exact hcv
end Go.Proofs.Ytmkogcaafkobaaa.Fm
