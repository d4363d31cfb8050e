/-
  Disjoint covers: what is left of a cube, step by step; their states. No statement of the program.
-/
import Derived.Test.YthamjboppnlpdaaCv
namespace Go.Proofs.Ythamjboppnlpdaa.Cu
open Go.Proofs.Ythamjboppnlpdaa.Sb
set_option linter.unusedVariables false
def stepL (ps : List Cb) (d : Cb) : List Cb := ps.flatMap fun p => minusL p d
/-- one more cube is taken away: none if too many are left -/
def outS (o : Option (List Cb)) (d : Cb) : Option (List Cb) := match o with
  | none => none
  | some ps => if 1024 < (stepL ps d).length then none else some (stepL ps d)
def outL (c : Cb) (ds : List Cb) : Option (List Cb) := ds.foldl outS (some [c])
theorem outL_snoc (c : Cb) (ds : List Cb) (d : Cb) : outL c (ds ++ [d]) = outS (outL c ds) d := by unfold outL; rw [List.foldl_append]; rfl
theorem take_snoc {l : List Cb} {j : Nat} (h : j < l.length) : l.take (j + 1) = l.take j ++ [l.getD j (0, 0)] := by
  have e : l.getD j (0, 0) = l[j] := by rw [List.getD_eq_getElem?_getD, List.getElem?_eq_getElem h]; rfl
  rw [e, List.take_add_one, List.getElem?_eq_getElem h]
  rfl
theorem outL_take {l : List Cb} {j : Nat} (c : Cb) (h : j < l.length) : outL c (l.take (j + 1)) = outS (outL c (l.take j)) (l.getD j (0, 0)) := by rw [take_snoc h, outL_snoc]
theorem foldl_none (ds : List Cb) : ds.foldl outS none = none := by
  induction ds with
  | nil => rfl
  | cons d ds ih => exact ih
theorem outL_none {l : List Cb} {j : Nat} {c : Cb} (h : outL c (l.take j) = none) : outL c l = none := by
  have e : l = l.take j ++ l.drop j := (List.take_append_drop j l).symm
  unfold outL at h ⊢
  rw [e, List.foldl_append, h]
  exact foldl_none _
theorem stepL_snoc (ps : List Cb) (p d : Cb) : stepL (ps ++ [p]) d = stepL ps d ++ minusL p d := by
  unfold stepL
  rw [List.flatMap_append]
  simp
theorem stepL_take {ps : List Cb} {t : Nat} (d : Cb) (h : t < ps.length) : stepL (ps.take (t + 1)) d = stepL (ps.take t) d ++ minusL (ps.getD t (0, 0)) d := by rw [take_snoc h, stepL_snoc]
theorem stepL_le (ps : List Cb) (d : Cb) : (stepL ps d).length ≤ ps.length * 24 := by
  induction ps with
  | nil => simp [stepL]
  | cons p ps ih =>
    have e : stepL (p :: ps) d = minusL p d ++ stepL ps d := rfl
    rw [e, List.length_append, List.length_cons]
    have := minusL_len p d
    omega
theorem stepL_ok {ps : List Cb} {d : Cb} (hp : ∀ p ∈ ps, OkC p) (hd : OkC d) : ∀ p ∈ stepL ps d, OkC p := by
  intro p h
  obtain ⟨a, ha, hm⟩ := List.mem_flatMap.1 h
  exact minusL_ok (hp a ha) hd p hm
theorem stepL_fit {ps : List Cb} {d : Cb} {v : Nat} (hp : ∀ p ∈ ps, evs p < 2 ^ v) (hd : evs d < 2 ^ v) : ∀ p ∈ stepL ps d, evs p < 2 ^ v := by
  intro p h
  obtain ⟨a, ha, hm⟩ := List.mem_flatMap.1 h
  exact minus_fit (hp a ha) hd hm
theorem outL_all {P : Cb → Prop} (hm : ∀ a d, P a → P d → ∀ p ∈ minusL a d, P p) {c : Cb} (hc : P c) : ∀ (ds : List Cb), (∀ d ∈ ds, P d) → ∀ ps, outL c ds = some ps → ∀ p ∈ ps, P p := by
  have key : ∀ (ds : List Cb), (∀ d ∈ ds, P d) → ∀ o, (∀ ps, o = some ps → ∀ p ∈ ps, P p) → ∀ ps, ds.foldl outS o = some ps → ∀ p ∈ ps, P p := by
    intro ds
    induction ds with
    | nil => intro _ o ho ps h; exact ho ps h
    | cons d ds ih =>
      intro hd o ho ps h
      refine ih (fun x hx => hd x (List.mem_cons_of_mem _ hx)) (outS o d) ?_ ps h
      intro qs hq
      cases o with
      | none => cases hq
      | some rs =>
        unfold outS at hq
        simp only at hq
        split at hq
        · cases hq
        · injection hq with hq
          subst hq
          intro p hp
          obtain ⟨a, ha, hmm⟩ := List.mem_flatMap.1 hp
          exact hm a d (ho rs rfl a ha) (hd d List.mem_cons_self) p hmm
  intro ds hd ps h
  exact key ds hd _ (fun qs hq => by injection hq with hq; subst hq; intro p hp; rw [List.mem_singleton] at hp; subst hp; exact hc) ps h
theorem outL_ok {c : Cb} {ds ps : List Cb} (hc : OkC c) (hd : ∀ d ∈ ds, OkC d) (h : outL c ds = some ps) : ∀ p ∈ ps, OkC p :=
  outL_all (P := OkC) (fun a d ha hd => minusL_ok ha hd) hc ds hd ps h
theorem outL_fit {c : Cb} {ds ps : List Cb} {v : Nat} (hc : evs c < 2 ^ v) (hd : ∀ d ∈ ds, evs d < 2 ^ v) (h : outL c ds = some ps) : ∀ p ∈ ps, evs p < 2 ^ v :=
  outL_all (P := fun p => evs p < 2 ^ v) (fun a d ha hd p hp => minus_fit ha hd hp) hc ds hd ps h
theorem outL_len {c : Cb} {ds ps : List Cb} (h : outL c ds = some ps) : ps.length ≤ 1024 := by
  have key : ∀ (ds : List Cb) o, (∀ ps, o = some ps → ps.length ≤ 1024) → ∀ ps, ds.foldl outS o = some ps → ps.length ≤ 1024 := by
    intro ds
    induction ds with
    | nil => intro o ho ps h; exact ho ps h
    | cons d ds ih =>
      intro o ho ps h
      refine ih (outS o d) ?_ ps h
      intro qs hq
      cases o with
      | none => cases hq
      | some rs =>
        unfold outS at hq
        simp only at hq
        split at hq
        · cases hq
        · injection hq with hq
          subst hq
          omega
  exact key ds _ (fun qs hq => by injection hq with hq; subst hq; simp) ps h
/-! ## states -/
theorem step_in {ps : List Cb} {d : Cb} (hd : OkC d) (s : Nat) : inL (stepL ps d) s = if holdsC d s then 0 else inL ps s := by
  induction ps with
  | nil => cases holdsC d s <;> rfl
  | cons p ps ih =>
    have e : stepL (p :: ps) d = minusL p d ++ stepL ps d := rfl
    have e2 : inL (p :: ps) s = (if holdsC p s then 1 else 0) + inL ps s := by
      show inL ([p] ++ ps) s = _
      rw [inL_append, inL_one]
    rw [e, inL_append, ih, minus_in hd, e2]
    cases holdsC p s <;> cases holdsC d s <;> simp
theorem unc_snoc (l : List Cb) (d : Cb) (s : Nat) : unc (l ++ [d]) s = (unc l s && !holdsC d s) := by
  unfold unc
  rw [List.all_append]
  simp
theorem out_in {c : Cb} {l : List Cb} (hl : ∀ d ∈ l, OkC d) (s : Nat) : ∀ j, j ≤ l.length → ∀ ps, outL c (l.take j) = some ps → inL ps s = if holdsC c s && unc (l.take j) s then 1 else 0 := by
  intro j
  induction j with
  | zero =>
    intro _ ps h
    rw [List.take_zero] at h ⊢
    have : ps = [c] := by unfold outL at h; injection h with h; exact h.symm
    subst this
    rw [inL_one]
    show _ = if holdsC c s && true then 1 else 0
    rw [Bool.and_true]
  | succ j ih =>
    intro hj ps h
    rw [outL_take c (by omega)] at h
    cases ho : outL c (l.take j) with
    | none => rw [ho] at h; cases h
    | some qs =>
      rw [ho] at h
      unfold outS at h
      simp only at h
      split at h
      · cases h
      · injection h with h
        subst h
        have hm : l.getD j (0, 0) ∈ l := by
          rw [List.getD_eq_getElem?_getD, List.getElem?_eq_getElem (by omega)]
          exact List.getElem_mem _
        rw [step_in (hl _ hm), ih (by omega) qs ho, take_snoc (by omega), unc_snoc]
        cases holdsC c s <;> cases unc (l.take j) s <;> cases holdsC (l.getD j (0, 0)) s <;> rfl
/-! ## the cover of a list -/
def covS (l : List Cb) (o : Option (List Cb)) (i : Nat) : Option (List Cb) := match o with
  | none => none
  | some cv => match outL (l.getD i (0, 0)) (l.take i) with
    | none => none
    | some ps => if 1024 < cv.length + ps.length then none else some (cv ++ ps)
def covTo (l : List Cb) : Nat → Option (List Cb)
  | 0 => some []
  | i + 1 => covS l (covTo l i) i
def coverL (l : List Cb) : Option (List Cb) := covTo l l.length
theorem covTo_none {l : List Cb} {i : Nat} (h : covTo l i = none) : ∀ d, covTo l (i + d) = none := by
  intro d
  induction d with
  | zero => exact h
  | succ d ih => show covS l (covTo l (i + d)) (i + d) = none; rw [ih]; rfl
theorem covTo_len {l : List Cb} : ∀ i cv, covTo l i = some cv → cv.length ≤ 1024 := by
  intro i
  induction i with
  | zero => intro cv h; injection h with h; subst h; simp
  | succ i ih =>
    intro cv h
    have h' : covS l (covTo l i) i = some cv := h
    cases ho : covTo l i with
    | none => rw [ho] at h'; cases h'
    | some qs =>
      rw [ho] at h'
      unfold covS at h'
      simp only at h'
      split at h'
      · cases h'
      · split at h'
        · cases h'
        · injection h' with h'
          subst h'
          rw [List.length_append]
          omega
theorem covTo_all {P : Cb → Prop} {l : List Cb} (hout : ∀ c ∈ l, ∀ ds, (∀ d ∈ ds, d ∈ l) → ∀ ps, outL c ds = some ps → ∀ p ∈ ps, P p) : ∀ i, i ≤ l.length → ∀ cv, covTo l i = some cv → ∀ p ∈ cv, P p := by
  intro i
  induction i with
  | zero => intro _ cv h p hp; injection h with h; subst h; cases hp
  | succ i ih =>
    intro hi cv h
    have h' : covS l (covTo l i) i = some cv := h
    cases ho : covTo l i with
    | none => rw [ho] at h'; cases h'
    | some qs =>
      rw [ho] at h'
      unfold covS at h'
      simp only at h'
      have hm : l.getD i (0, 0) ∈ l := by
        rw [List.getD_eq_getElem?_getD, List.getElem?_eq_getElem (by omega)]
        exact List.getElem_mem _
      split at h'
      · cases h'
      · rename_i ps hps
        split at h'
        · cases h'
        · injection h' with h'
          subst h'
          intro p hp
          rcases List.mem_append.1 hp with hp | hp
          · exact ih (by omega) qs ho p hp
          · exact hout _ hm _ (fun d hd => List.mem_of_mem_take hd) ps hps p hp
theorem cover_ok {l cv : List Cb} (hl : ∀ c ∈ l, OkC c) (h : coverL l = some cv) : ∀ p ∈ cv, OkC p :=
  covTo_all (P := OkC) (fun c hc ds hd ps hps => outL_ok (hl c hc) (fun d hdd => hl d (hd d hdd)) hps) l.length (Nat.le_refl _) cv h
theorem cover_fit {l cv : List Cb} {v : Nat} (hl : ∀ c ∈ l, evs c < 2 ^ v) (h : coverL l = some cv) : ∀ p ∈ cv, evs p < 2 ^ v :=
  covTo_all (P := fun p => evs p < 2 ^ v) (fun c hc ds hd ps hps => outL_fit (hl c hc) (fun d hdd => hl d (hd d hdd)) hps) l.length (Nat.le_refl _) cv h
theorem cov_in {l : List Cb} (hl : ∀ d ∈ l, OkC d) (s : Nat) : ∀ i, i ≤ l.length → ∀ cv, covTo l i = some cv → inL cv s = if unc (l.take i) s then 0 else 1 := by
  intro i
  induction i with
  | zero =>
    intro _ cv h
    injection h with h
    subst h
    rfl
  | succ i ih =>
    intro hi cv h
    have h' : covS l (covTo l i) i = some cv := h
    cases ho : covTo l i with
    | none => rw [ho] at h'; cases h'
    | some qs =>
      rw [ho] at h'
      unfold covS at h'
      simp only at h'
      split at h'
      · cases h'
      · rename_i ps hps
        split at h'
        · cases h'
        · injection h' with h'
          subst h'
          rw [inL_append, ih (by omega) qs ho, out_in hl s i (by omega) ps hps, take_snoc (by omega), unc_snoc]
          cases unc (l.take i) s <;> cases holdsC (l.getD i (0, 0)) s <;> rfl
theorem cover_in {l cv : List Cb} (hl : ∀ d ∈ l, OkC d) (h : coverL l = some cv) (s : Nat) : inL cv s = if unc l s then 0 else 1 := by
  have := cov_in hl s l.length (Nat.le_refl _) cv h
  rwa [List.take_length] at this
/-- how many states are in the cubes of a list -/
theorem cover_sum {l cv : List Cb} {v : Nat} (hv : v ≤ 24) (hl : ∀ d ∈ l, OkC d) (hf : ∀ d ∈ l, evs d < 2 ^ v) (h : coverL l = some cv) : (cv.map fun p => 2 ^ (v - pc (evs p))).sum = 2 ^ v - U v l (0, 0) := by
  have h1 := countP_split (List.range (2 ^ v)) cv (fun s => !unc l s) (fun _ => true) (fun s => by
    rw [cover_in hl h s]
    cases unc l s <;> rfl)
  have h2 : (cv.map fun p => (List.range (2 ^ v)).countP fun s => holdsC p s && true) = cv.map fun p => 2 ^ (v - pc (evs p)) := by
    refine List.map_congr_left fun p hp => ?_
    rw [← U_leaf hv (cover_ok hl h p hp) (cover_fit hf h p hp), U_nil]
    congr 1
    funext s
    rw [Bool.and_true]
  rw [h2] at h1
  have h3 : U v l (0, 0) = (List.range (2 ^ v)).countP fun s => unc l s := by
    unfold U
    congr 1
    funext s
    have : holdsC (0, 0) s = true := by rw [holdsC_iff]; simp
    rw [this, Bool.true_and]
  have h4 := List.length_eq_countP_add_countP (fun s => unc l s) (l := List.range (2 ^ v))
  rw [List.length_range] at h4
  rw [h3, ← h1]
  have h5 : (List.range (2 ^ v)).countP (fun s => !unc l s) = (List.range (2 ^ v)).countP (fun a => decide ¬ unc l a = true) := by
    congr 1
    funext s
    cases unc l s <;> rfl
  rw [h5]
  omega
/-- the number of events does not matter for whether everything is covered -/
theorem U_any {l : List Cb} {v : Nat} (hv : v ≤ 24) (hf : ∀ d ∈ l, evs d < 2 ^ v) : U 24 l (0, 0) = 0 ↔ U v l (0, 0) = 0 := by
  have h0 : ∀ s, holdsC (0, 0) s = true := fun s => by rw [holdsC_iff]; simp
  have key : ∀ v, U v l (0, 0) = 0 ↔ ∀ s, s < 2 ^ v → unc l s = false := by
    intro v
    unfold U
    rw [List.countP_eq_zero]
    constructor
    · intro h s hs
      have := h s (List.mem_range.2 hs)
      rw [h0, Bool.true_and] at this
      simpa using this
    · intro h s hs
      rw [h0, Bool.true_and, h s (List.mem_range.1 hs)]
      decide
  rw [key, key]
  constructor
  · intro h s hs
    exact h s (Nat.lt_of_lt_of_le hs (Nat.pow_le_pow_right (by decide) hv))
  · intro h s _
    have hm := h (s % 2 ^ v) (Nat.mod_lt _ (Nat.two_pow_pos v))
    rw [← hm]
    unfold unc
    rw [Bool.eq_iff_iff, List.all_eq_true, List.all_eq_true]
    have e : ∀ d ∈ l, holdsC d s = holdsC d (s % 2 ^ v) := by
      intro d hd
      have hfd := hf d hd
      rw [Bool.eq_iff_iff, holdsC_iff, holdsC_iff]
      have kk : ∀ i, d.1.testBit i = true ∨ d.2.testBit i = true → (s % 2 ^ v).testBit i = s.testBit i := by
        intro i hi
        have : (evs d).testBit i = true := by unfold evs; rw [Nat.testBit_or, Bool.or_eq_true]; exact hi
        have hiv := fit_tb hfd this
        rw [Nat.testBit_mod_two_pow, decide_eq_true hiv, Bool.true_and]
      exact ⟨fun h i => ⟨fun x => by rw [kk i (.inl x)]; exact (h i).1 x, fun x => by rw [kk i (.inr x)]; exact (h i).2 x⟩, fun h i => ⟨fun x => by rw [← kk i (.inl x)]; exact (h i).1 x, fun x => by rw [← kk i (.inr x)]; exact (h i).2 x⟩⟩
    exact ⟨fun h d hd => by rw [← e d hd]; exact h d hd, fun h d hd => by rw [e d hd]; exact h d hd⟩
end Go.Proofs.Ythamjboppnlpdaa.Cu
