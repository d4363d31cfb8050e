/-
  Rewritten formulas, pure: constants removed. No statement of the program.
-/
import Derived.Test.YtmkogcaafkobaaaJq
namespace Go.Proofs.Ytmkogcaafkobaaa.Fm
open Go.Proofs.Ytmkogcaafkobaaa.Sb
set_option linter.unusedVariables false
set_option linter.unusedSimpArgs false
set_option maxRecDepth 100000
/-- the arguments that are no constants -/
def foR (l : List Int) : List Nat := (l.filter fun c => decide (0 ≤ c)).map Int.toNat
/-- how many are true -/
def foT (l : List Int) : Nat := l.count (-2)
def foB (b : Bool) : Int := if b then -2 else -1
theorem foR_snoc (l : List Int) (c : Int) : foR (l ++ [c]) = foR l ++ (if 0 ≤ c then [c.toNat] else []) := by
  unfold foR
  by_cases h : 0 ≤ c
  · simp [List.filter_append, h]
  · simp [List.filter_append, h]
theorem foT_snoc (l : List Int) (c : Int) : foT (l ++ [c]) = foT l + (if c = -2 then 1 else 0) := by
  unfold foT
  rw [List.count_append]
  by_cases h : c = -2
  · simp [h]
  · simp [h]
/-- the constant that a node is, if it is one: n arguments, of which r are no constants and t are true -/
def foC (x : Nn) (n r t : Nat) : Option Bool :=
  if x.kind = 0 then some (decide (x.k = 1))
  else if x.kind = 1 then (if r = 0 then some (decide (t = 0)) else none)
  else if x.kind = 2 then (if 0 < n - r - t ∨ r = 0 then some (decide (n - r - t = 0)) else none)
  else if x.kind = 3 then (if 0 < t ∨ r = 0 then some (decide (0 < t)) else none)
  else if x.kind = 4 then (if x.k ≤ t ∨ r < x.k - t then some (decide (x.k ≤ t)) else none)
  else (if r = 0 then some (decide (t % 2 = 1)) else none)
/-- the node of what is left, if it is more than one argument -/
def foM1 (x : Nn) (t : Nat) (r : List Nat) : List Nn := if 1 < r.length then [⟨x.kind, if x.kind = 4 then x.k - t else 0, r⟩] else []
def foA1 (q : Nat) (r : List Nat) : Nat := if 1 < r.length then q else r.getD 0 0
/-- the nodes that a node becomes, and the argument that stands for it -/
def foM (q : Nat) (x : Nn) (t : Nat) (r : List Nat) : List Nn × Nat :=
  if x.kind = 1 then ([⟨1, 0, [r.getD 0 0]⟩], q)
  else if x.kind = 5 ∧ t % 2 = 1 then (foM1 x t r ++ [⟨1, 0, [foA1 q r]⟩], q + (foM1 x t r).length) else (foM1 x t r, foA1 q r)
def foN (q : Nat) (x : Nn) (l : List Int) : List Nn × Int :=
  match foC x l.length (foR l).length (foT l) with
  | some b => ([], foB b)
  | none => ((foM q x (foT l) (foR l)).1, ((foM q x (foT l) (foR l)).2 : Int))
def renZ (now : List Int) (l : List Nat) : List Int := l.map fun a => now.getD a 0
def foS (v : Nat) (st : List Nn × List Int) (x : Nn) : List Nn × List Int :=
  (st.1 ++ (foN (v + st.1.length) x (renZ st.2 x.args)).1, st.2 ++ [(foN (v + st.1.length) x (renZ st.2 x.args)).2])
def foTo (f : Fn) : Nat → List Nn × List Int
  | 0 => ([], ints (List.range f.vars))
  | i + 1 => foS f.vars (foTo f i) (f.nd i)
def constF (v : Nat) (b : Bool) : Fn := ⟨v, [⟨0, if b then 1 else 0, []⟩], v⟩
/-- before it is trimmed -/
def foldF (f : Fn) (c : Nat) : Fn := ⟨f.vars, (foTo f f.nodes.length).1, c⟩
def topC (f : Fn) : Int := (foTo f f.nodes.length).2.getD f.top 0
def fold (f : Fn) : Fn := if topC f = -2 then constF f.vars true else if topC f = -1 then constF f.vars false else trim (foldF f (topC f).toNat)
/-- what arguments have become -/
structure TrF (f : Fn) (i : Nat) (o : List Nn) (now : List Int) : Prop where
  len : now.length = f.vars + i
  ok : okL f.vars o
  cod : ∀ a, a < f.vars + i → now.getD a 0 = -1 ∨ now.getD a 0 = -2 ∨ ∃ m : Nat, now.getD a 0 = (m : Int) ∧ m < f.vars + o.length
/-- a code stands for a value -/
def Cod (v s : Nat) (o : List Nn) (c : Int) (b : Bool) : Prop := (c = -1 ∧ b = false) ∨ (c = -2 ∧ b = true) ∨ ∃ m : Nat, c = (m : Int) ∧ av v s o m = b
def TrG (f : Fn) (s i : Nat) (o : List Nn) (now : List Int) : Prop := ∀ a, a < f.vars + i → Cod f.vars s o (now.getD a 0) (av f.vars s f.nodes a)
theorem foB_cod (v s : Nat) (o : List Nn) (b : Bool) : Cod v s o (foB b) b := by
  cases b
  · exact .inl ⟨rfl, rfl⟩
  · exact .inr (.inl ⟨rfl, rfl⟩)
theorem fo_count {v s : Nat} {o : List Nn} {g : Nat → Bool} {now : List Int} : ∀ l : List Nat, (∀ a ∈ l, Cod v s o (now.getD a 0) (g a)) →
    (l.map g).count true = foT (renZ now l) + ((foR (renZ now l)).map (av v s o)).count true ∧ foT (renZ now l) + (foR (renZ now l)).length ≤ l.length := by
  intro l
  induction l with
  | nil => intro _; simp [renZ, foR, foT]
  | cons a l ih =>
    intro h
    obtain ⟨h1, h2⟩ := ih (fun b hb => h b (List.mem_cons_of_mem _ hb))
    have hc := h a List.mem_cons_self
    have e : renZ now (a :: l) = now.getD a 0 :: renZ now l := rfl
    rw [e, List.map_cons, List.count_cons, List.length_cons, h1]
    obtain ⟨c, hce⟩ : ∃ c, now.getD a 0 = c := ⟨_, rfl⟩
    rw [hce] at hc ⊢
    unfold foR foT at h2 ⊢
    rw [List.count_cons]
    rcases hc with ⟨rfl, hg⟩ | ⟨rfl, hg⟩ | ⟨m, rfl, hm⟩
    · rw [hg, List.filter_cons_of_neg (by simp)]
      exact ⟨by simp <;> omega, by simp at h2 ⊢ <;> omega⟩
    · rw [hg, List.filter_cons_of_neg (by simp)]
      exact ⟨by simp <;> omega, by simp at h2 ⊢; omega⟩
    · have hne : ((m : Int) == -2) = false := by simp <;> omega
      rw [List.filter_cons_of_pos (by simp), List.map_cons, List.map_cons, List.count_cons, List.length_cons]
      simp only [Int.toNat_natCast, hne, hm]
      obtain ⟨k1, hk1⟩ : ∃ k, List.count (-2) (renZ now l) = k := ⟨_, rfl⟩
      rw [hk1] at h2 ⊢
      refine ⟨?_, ?_⟩
      · cases g a <;> simp <;> omega
      · simp at h2 ⊢; omega
theorem foR_lt {m : Nat} {now : List Int} {l : List Nat} (h : ∀ a ∈ l, now.getD a 0 = -1 ∨ now.getD a 0 = -2 ∨ ∃ j : Nat, now.getD a 0 = (j : Int) ∧ j < m) : ∀ b ∈ foR (renZ now l), b < m := by
  intro b hb
  unfold foR renZ at hb
  obtain ⟨c, hc, rfl⟩ := List.mem_map.1 hb
  obtain ⟨hc1, hc2⟩ := List.mem_filter.1 hc
  obtain ⟨a, ha, rfl⟩ := List.mem_map.1 hc1
  rcases h a ha with e | e | ⟨j, e, hj⟩
  · rw [e] at hc2; simp at hc2
  · rw [e] at hc2; simp at hc2
  · rw [e]; simpa using hj
theorem foM1_len (x : Nn) (t : Nat) (r : List Nat) : (foM1 x t r).length ≤ 1 := by
  unfold foM1; split <;> simp
theorem foN_len (q : Nat) (x : Nn) (l : List Int) : (foN q x l).1.length ≤ 2 := by
  unfold foN
  split
  · simp
  · unfold foM
    have := foM1_len x (foT l) (foR l)
    split
    · simp
    · split
      · rw [List.length_append]; simp; omega
      · simp only; omega
/-- one step -/
theorem foN_step {N : Nat} {f : Fn} (hf : WFb N f) {i : Nat} (hi : i < f.nodes.length) {o : List Nn} {now : List Int} (h : TrF f i o now) :
    okL f.vars (o ++ (foN (f.vars + o.length) (f.nd i) (renZ now (f.nd i).args)).1) ∧
    ((foN (f.vars + o.length) (f.nd i) (renZ now (f.nd i).args)).2 = -1 ∨ (foN (f.vars + o.length) (f.nd i) (renZ now (f.nd i).args)).2 = -2 ∨ ∃ m : Nat, (foN (f.vars + o.length) (f.nd i) (renZ now (f.nd i).args)).2 = (m : Int) ∧ m < f.vars + (o ++ (foN (f.vars + o.length) (f.nd i) (renZ now (f.nd i).args)).1).length) ∧
    ∀ s, TrG f s i o now → Cod f.vars s (o ++ (foN (f.vars + o.length) (f.nd i) (renZ now (f.nd i).args)).1) (foN (f.vars + o.length) (f.nd i) (renZ now (f.nd i).args)).2 (av f.vars s f.nodes (f.vars + i)) := by
  obtain ⟨b0, b1, b2, b3, b4, b5, b6⟩ := hf.2.2.1 i hi
  have hn := av_node hf hi
  have hll : (renZ now (f.nd i).args).length = (f.nd i).args.length := by simp [renZ]
  have hrl := foR_lt (m := f.vars + o.length) (l := (f.nd i).args) (fun a ha => h.cod a (b4 a ha))
  have hct := fun s (hg : TrG f s i o now) => fo_count (f.nd i).args (fun a ha => hg a (b4 a ha))
  have hle : foT (renZ now (f.nd i).args) + (foR (renZ now (f.nd i).args)).length ≤ (f.nd i).args.length := by
    -- the bound needs no values: take the codes' own
    have : ∀ l : List Int, foT l + (foR l).length ≤ l.length := by
      intro l
      induction l with
      | nil => simp [foT, foR]
      | cons c l ih =>
        unfold foT foR at ih ⊢
        rw [List.count_cons, List.length_cons]
        by_cases hc : 0 ≤ c
        · have hne : (c == -2) = false := by simp; omega
          rw [List.filter_cons_of_pos (by simpa using hc), hne]
          simp at ih ⊢; omega
        · rw [List.filter_cons_of_neg (by simpa using hc)]
          simp at ih ⊢
          split <;> omega
    have h2 := this (renZ now (f.nd i).args)
    rwa [hll] at h2
  obtain ⟨l, hl⟩ : ∃ l, renZ now (f.nd i).args = l := ⟨_, rfl⟩
  rw [hl] at hll hrl hct hle ⊢
  obtain ⟨x, hx⟩ : ∃ x, f.nd i = x := ⟨_, rfl⟩
  rw [hx] at b0 b1 b2 b3 b4 b5 b6 hn hll hct hle ⊢
  obtain ⟨r, hr⟩ : ∃ r, foR l = r := ⟨_, rfl⟩
  obtain ⟨t, ht⟩ : ∃ t, foT l = t := ⟨_, rfl⟩
  rw [hr] at hrl hct hle
  rw [ht] at hct hle
  have hcr := fun s => count_len r (av f.vars s o)
  have hlg : ∀ s, (x.args.map (av f.vars s f.nodes)).length = x.args.length := fun s => List.length_map _
  unfold foN
  rw [hr, ht, hll]
  cases hC : foC x x.args.length r.length t with
  | some b =>
    simp only
    refine ⟨by rw [List.append_nil]; exact h.ok, ?_, fun s hg => ?_⟩
    · cases b
      · exact .inl rfl
      · exact .inr (.inl rfl)
    · obtain ⟨c1, c2⟩ := hct s hg
      have c3 := hcr s
      rw [hn s]
      have e : cmbV x.kind x.k (x.args.map (av f.vars s f.nodes)) = b := by
        unfold foC at hC
        by_cases k0 : x.kind = 0
        · rw [if_pos k0] at hC
          injection hC with hC
          rw [k0, cmb0]; exact hC
        rw [if_neg k0] at hC
        have b33 := b3 k0
        by_cases k1 : x.kind = 1
        · rw [if_pos k1] at hC
          by_cases hr0 : r.length = 0
          · rw [if_pos hr0] at hC
            injection hC with hC
            rw [k1, cmb1, ← hC]; exact dec_eq (by omega)
          · rw [if_neg hr0] at hC; cases hC
        rw [if_neg k1] at hC
        by_cases k2 : x.kind = 2
        · rw [if_pos k2] at hC
          by_cases hr0 : 0 < x.args.length - r.length - t ∨ r.length = 0
          · rw [if_pos hr0] at hC
            injection hC with hC
            rw [k2, cmb2, hlg, ← hC]; exact dec_eq (by omega)
          · rw [if_neg hr0] at hC; cases hC
        rw [if_neg k2] at hC
        by_cases k3 : x.kind = 3
        · rw [if_pos k3] at hC
          by_cases hr0 : 0 < t ∨ r.length = 0
          · rw [if_pos hr0] at hC
            injection hC with hC
            rw [k3, cmb3, ← hC]; exact dec_eq (by omega)
          · rw [if_neg hr0] at hC; cases hC
        rw [if_neg k3] at hC
        by_cases k4 : x.kind = 4
        · rw [if_pos k4] at hC
          by_cases hr0 : x.k ≤ t ∨ r.length < x.k - t
          · rw [if_pos hr0] at hC
            injection hC with hC
            rw [k4, cmb4, ← hC]; exact dec_eq (by omega)
          · rw [if_neg hr0] at hC; cases hC
        rw [if_neg k4] at hC
        have k5 : x.kind = 5 := by omega
        by_cases hr0 : r.length = 0
        · rw [if_pos hr0] at hC
          injection hC with hC
          rw [k5, cmb5, ← hC]; exact dec_eq (by omega)
        · rw [if_neg hr0] at hC; cases hC
      rw [e]
      exact foB_cod _ _ _ b
  | none =>
    simp only
    have k0 : ¬ x.kind = 0 := fun k0 => by unfold foC at hC; rw [if_pos k0] at hC; cases hC
    have b33 := b3 k0
    have hr1 : 1 ≤ r.length := by
      by_cases hr0 : r.length = 0
      · exfalso
        unfold foC at hC
        rw [if_neg k0] at hC
        by_cases k1 : x.kind = 1
        · rw [if_pos k1, if_pos hr0] at hC; cases hC
        rw [if_neg k1] at hC
        by_cases k2 : x.kind = 2
        · rw [if_pos k2, if_pos (.inr hr0)] at hC; cases hC
        rw [if_neg k2] at hC
        by_cases k3 : x.kind = 3
        · rw [if_pos k3, if_pos (.inr hr0)] at hC; cases hC
        rw [if_neg k3] at hC
        by_cases k4 : x.kind = 4
        · have b55 := b5 k4
          rw [if_pos k4, if_pos (by omega)] at hC; cases hC
        rw [if_neg k4, if_pos hr0] at hC; cases hC
      · omega
    have hx0 : r.getD 0 0 < f.vars + o.length := hrl _ (by
      have : r.getD 0 0 = r[0] := by simp [show 0 < r.length by omega]
      rw [this]; exact List.getElem_mem _)
    have h1r : r.length = 1 → ∀ s, (r.map (av f.vars s o)).count true = if av f.vars s o (r.getD 0 0) = true then 1 else 0 := fun e s => by
      obtain ⟨y, rfl⟩ := List.length_eq_one_iff.1 e
      cases hb : av f.vars s o y <;> simp [hb]
    unfold foM
    by_cases k1 : x.kind = 1
    · rw [if_pos k1]
      have b22 := b2 k1
      simp only
      have hk : okL f.vars (o ++ [(⟨1, 0, [r.getD 0 0]⟩ : Nn)]) := h.ok.snoc (okN_neg rfl (fun a ha => by simp only [List.mem_singleton] at ha; rw [ha]; exact hx0))
      refine ⟨hk, .inr (.inr ⟨_, rfl, by rw [List.length_append]; simp⟩), fun s hg => .inr (.inr ⟨_, rfl, ?_⟩)⟩
      obtain ⟨c1, c2⟩ := hct s hg
      rw [av_last, hn, k1]
      simp only [List.map_cons, List.map_nil, cmb_not1]
      have c4 := h1r (by omega) s
      rw [cmb1]
      cases hb : av f.vars s o (r.getD 0 0)
      · rw [hb] at c4; simp at c4; rw [decide_eq_true (by omega)]; rfl
      · rw [hb] at c4; simp at c4; rw [decide_eq_false (by omega)]; rfl
    · rw [if_neg k1]
      -- the node of what is left
      have base : okL f.vars (o ++ foM1 x t r) ∧ foA1 (f.vars + o.length) r < f.vars + (o ++ foM1 x t r).length ∧ ∀ s, TrG f s i o now → av f.vars s (o ++ foM1 x t r) (foA1 (f.vars + o.length) r) = (if x.kind = 5 then decide ((r.map (av f.vars s o)).count true % 2 = 1) else av f.vars s f.nodes (f.vars + i)) := by
        unfold foM1 foA1
        unfold foC at hC
        rw [if_neg k0, if_neg k1] at hC
        by_cases h1 : 1 < r.length
        · rw [if_pos h1, if_pos h1]
          have hokn : okN (f.vars + o.length) ⟨x.kind, if x.kind = 4 then x.k - t else 0, r⟩ := by
            by_cases k4 : x.kind = 4
            · rw [if_neg (by omega), if_neg (by omega), if_pos k4] at hC
              by_cases hr0 : x.k ≤ t ∨ r.length < x.k - t
              · rw [if_pos hr0] at hC; cases hC
              · rw [if_pos k4, k4]; exact okN_vote (by omega) hrl (by omega)
            · rw [if_neg k4]; exact okN_one (by omega) (by omega) hrl (by omega)
          refine ⟨h.ok.snoc hokn, by rw [List.length_append]; simp, fun s hg => ?_⟩
          obtain ⟨c1, c2⟩ := hct s hg
          have c3 := hcr s
          have e2 : (r.map (av f.vars s o)).length = r.length := List.length_map _
          rw [av_last, hn]
          simp only
          by_cases k2 : x.kind = 2
          · rw [if_pos k2] at hC
            by_cases hr0 : 0 < x.args.length - r.length - t ∨ r.length = 0
            · rw [if_pos hr0] at hC; cases hC
            · rw [if_neg (show ¬ x.kind = 5 by omega), k2, cmb2, cmb2, hlg]; exact dec_eq (by omega)
          rw [if_neg k2] at hC
          by_cases k3 : x.kind = 3
          · rw [if_pos k3] at hC
            by_cases hr0 : 0 < t ∨ r.length = 0
            · rw [if_pos hr0] at hC; cases hC
            · rw [if_neg (show ¬ x.kind = 5 by omega), k3, cmb3, cmb3]; exact dec_eq (by omega)
          rw [if_neg k3] at hC
          by_cases k4 : x.kind = 4
          · rw [if_pos k4] at hC
            by_cases hr0 : x.k ≤ t ∨ r.length < x.k - t
            · rw [if_pos hr0] at hC; cases hC
            · rw [if_neg (show ¬ x.kind = 5 by omega), if_pos k4, k4, cmb4, cmb4]; exact dec_eq (by omega)
          have k5 : x.kind = 5 := by omega
          rw [if_pos k5, k5, cmb5]
        · rw [if_neg h1, if_neg h1]
          have he1 : r.length = 1 := by omega
          rw [List.append_nil]
          refine ⟨h.ok, hx0, fun s hg => ?_⟩
          obtain ⟨c1, c2⟩ := hct s hg
          have c4 := h1r he1 s
          have fin : ∀ (p : Prop) [Decidable p], (p ↔ (r.map (av f.vars s o)).count true = 1) → av f.vars s o (r.getD 0 0) = decide p := fun p _ hp => by
            cases hb : av f.vars s o (r.getD 0 0)
            · rw [hb] at c4; simp only [Bool.false_eq_true, if_false] at c4
              rw [decide_eq_false (fun h => by have := hp.1 h; omega)]
            · rw [hb] at c4; simp only [if_true] at c4
              rw [decide_eq_true (hp.2 c4)]
          have hle1 : (r.map (av f.vars s o)).count true ≤ 1 := by have := hcr s; omega
          rw [hn]
          by_cases k2 : x.kind = 2
          · rw [if_pos k2] at hC
            by_cases hr0 : 0 < x.args.length - r.length - t ∨ r.length = 0
            · rw [if_pos hr0] at hC; cases hC
            · rw [if_neg (show ¬ x.kind = 5 by omega), k2, cmb2, hlg]; exact fin _ (by omega)
          rw [if_neg k2] at hC
          by_cases k3 : x.kind = 3
          · rw [if_pos k3] at hC
            by_cases hr0 : 0 < t ∨ r.length = 0
            · rw [if_pos hr0] at hC; cases hC
            · rw [if_neg (show ¬ x.kind = 5 by omega), k3, cmb3]; exact fin _ (by omega)
          rw [if_neg k3] at hC
          by_cases k4 : x.kind = 4
          · rw [if_pos k4] at hC
            by_cases hr0 : x.k ≤ t ∨ r.length < x.k - t
            · rw [if_pos hr0] at hC; cases hC
            · rw [if_neg (show ¬ x.kind = 5 by omega), k4, cmb4]; exact fin _ (by omega)
          have k5 : x.kind = 5 := by omega
          rw [if_pos k5]; exact fin _ (by omega)
      obtain ⟨g1, g2, g3⟩ := base
      by_cases k5 : x.kind = 5 ∧ t % 2 = 1
      · rw [if_pos k5]
        simp only
        rw [← List.append_assoc]
        have hk : okL f.vars ((o ++ foM1 x t r) ++ [(⟨1, 0, [foA1 (f.vars + o.length) r]⟩ : Nn)]) := g1.snoc (okN_neg rfl (fun a ha => by simp only [List.mem_singleton] at ha; rw [ha]; exact g2))
        have hlen : f.vars + o.length + (foM1 x t r).length = f.vars + (o ++ foM1 x t r).length := by rw [List.length_append]; omega
        refine ⟨hk, .inr (.inr ⟨f.vars + o.length + (foM1 x t r).length, by simp, by rw [List.length_append (bs := [_]), hlen]; simp⟩), fun s hg => .inr (.inr ⟨f.vars + o.length + (foM1 x t r).length, by simp, ?_⟩)⟩
        rw [hlen, av_last, hn]
        simp only [List.map_cons, List.map_nil, cmb_not1]
        rw [g3 s hg, if_pos k5.1, k5.1, cmb5]
        obtain ⟨c1, c2⟩ := hct s hg
        exact (dec_not (by omega)).symm
      · rw [if_neg k5]
        simp only
        refine ⟨g1, .inr (.inr ⟨_, rfl, g2⟩), fun s hg => .inr (.inr ⟨_, rfl, ?_⟩)⟩
        rw [g3 s hg]
        by_cases k : x.kind = 5
        · obtain ⟨c1, c2⟩ := hct s hg
          rw [if_pos k, hn, k, cmb5]
          exact dec_eq (by omega)
        · rw [if_neg k]
theorem TrF.next {f : Fn} {i : Nat} {o m : List Nn} {now : List Int} (h : TrF f i o now) {c : Int} (hm : okL f.vars (o ++ m)) (hc : c = -1 ∨ c = -2 ∨ ∃ j : Nat, c = (j : Int) ∧ j < f.vars + (o ++ m).length) : TrF f (i + 1) (o ++ m) (now ++ [c]) := by
  refine ⟨by rw [List.length_append, h.len]; rfl, hm, fun a ha => ?_⟩
  by_cases e : a < f.vars + i
  · rw [getD_app _ _ _ (by rw [h.len]; exact e)]
    rcases h.cod a e with h1 | h1 | ⟨j, h1, h2⟩
    · exact .inl h1
    · exact .inr (.inl h1)
    · exact .inr (.inr ⟨j, h1, by rw [List.length_append]; omega⟩)
  · obtain rfl : a = now.length := by rw [h.len]; omega
    rw [getD_snoc_r]; exact hc
theorem TrG.next {f : Fn} {s i : Nat} {o m : List Nn} {now : List Int} (hv : TrG f s i o now) (h : TrF f i o now) {c : Int} (hc : Cod f.vars s (o ++ m) c (av f.vars s f.nodes (f.vars + i))) : TrG f s (i + 1) (o ++ m) (now ++ [c]) := fun a ha => by
  by_cases e : a < f.vars + i
  · rw [getD_app _ _ _ (by rw [h.len]; exact e)]
    have hl := h.cod a e
    rcases hv a e with h1 | h1 | ⟨j, h1, h2⟩
    · exact .inl h1
    · exact .inr (.inl h1)
    · refine .inr (.inr ⟨j, h1, ?_⟩)
      rw [av_app ?_]
      · exact h2
      · rcases hl with h3 | h3 | ⟨j2, h3, h4⟩ <;> omega
  · obtain rfl : a = now.length := by rw [h.len]; omega
    rw [getD_snoc_r, h.len]; exact hc
theorem foTo_ev {v a : Nat} (h : a < v) : (ints (List.range v)).getD a 0 = (a : Int) := by simp [ints, h]
theorem foTo_tr {N : Nat} {f : Fn} (hf : WFb N f) : ∀ i, i ≤ f.nodes.length → TrF f i (foTo f i).1 (foTo f i).2 := by
  intro i
  induction i with
  | zero =>
    intro _
    refine ⟨by simp [foTo, ints], okL.nil _, fun a ha => .inr (.inr ⟨a, foTo_ev (by omega), ?_⟩)⟩
    show a < f.vars + ([] : List Nn).length
    simp; omega
  | succ i ih =>
    intro hi
    have h := ih (by omega)
    obtain ⟨s1, s2, _⟩ := foN_step hf (show i < f.nodes.length by omega) h
    exact h.next s1 s2
theorem foTo_val {N : Nat} {f : Fn} (hf : WFb N f) (s : Nat) : ∀ i, i ≤ f.nodes.length → TrG f s i (foTo f i).1 (foTo f i).2 := by
  intro i
  induction i with
  | zero =>
    intro _ a ha
    refine .inr (.inr ⟨a, foTo_ev (by omega), ?_⟩)
    rw [av_event (by omega), av_event (by omega)]
  | succ i ih =>
    intro hi
    have h := foTo_tr hf i (by omega)
    exact (ih (by omega)).next h ((foN_step hf (show i < f.nodes.length by omega) h).2.2 s (ih (by omega)))
theorem foTo_len (f : Fn) : ∀ i, (foTo f i).1.length ≤ 2 * i := by
  intro i
  induction i with
  | zero => simp [foTo]
  | succ i ih =>
    have := foN_len (f.vars + (foTo f i).1.length) (f.nd i) (renZ (foTo f i).2 (f.nd i).args)
    show (_ ++ _ : List Nn).length ≤ _
    rw [List.length_append]; omega
theorem foldF_wf {N : Nat} {f : Fn} (hf : WFb N f) {c : Nat} (hc : topC f = (c : Int)) : WFb (2 * f.nodes.length) (foldF f c) := by
  have h := foTo_tr hf f.nodes.length (Nat.le_refl _)
  refine h.ok.wf hf.1 (foTo_len f _) ?_
  rcases h.cod f.top hf.2.2.2 with h1 | h1 | ⟨j, h1, h2⟩
  · unfold topC at hc; omega
  · unfold topC at hc; omega
  · unfold topC at hc; omega
theorem topC_cases {N : Nat} {f : Fn} (hf : WFb N f) : topC f = -1 ∨ topC f = -2 ∨ ∃ c : Nat, topC f = (c : Int) := by
  rcases (foTo_tr hf f.nodes.length (Nat.le_refl _)).cod f.top hf.2.2.2 with h1 | h1 | ⟨j, h1, _⟩
  · exact .inl h1
  · exact .inr (.inl h1)
  · exact .inr (.inr ⟨j, h1⟩)
theorem constF_wf {v : Nat} (hv : v ≤ 24) (b : Bool) : WFb 1 (constF v b) := by
  have h : okL v [(⟨0, if b then 1 else 0, []⟩ : Nn)] := (okL.nil v).snoc (okN_const (by cases b <;> simp))
  exact h.wf hv (by simp) (by simp)
theorem constF_val (v : Nat) (b : Bool) (s : Nat) : val (constF v b) s = b := by
  rw [val_av]
  have := av_last (v := v) (s := s) (l := []) (x := ⟨0, if b then 1 else 0, []⟩)
  refine Eq.trans this ?_
  cases b <;> rfl
theorem fold_wf {N : Nat} {f : Fn} (hf : WFb N f) : WFb (2 * f.nodes.length + 1) (fold f) := by
  have hv := hf.1
  unfold fold
  rcases topC_cases hf with h | h | ⟨c, h⟩
  · rw [if_neg (by omega), if_pos h]
    have := constF_wf hv false
    exact ⟨this.1, by have := this.2.1; omega, this.2.2⟩
  · rw [if_pos h]
    have := constF_wf hv true
    exact ⟨this.1, by have := this.2.1; omega, this.2.2⟩
  · rw [if_neg (by omega), if_neg (by omega), h, Int.toNat_natCast]
    have := trim_wf (foldF_wf hf h)
    exact ⟨this.1, by have := this.2.1; omega, this.2.2⟩
theorem fold_val {N : Nat} {f : Fn} (hf : WFb N f) (s : Nat) : val (fold f) s = val f s := by
  have hg := foTo_val hf s f.nodes.length (Nat.le_refl _) f.top hf.2.2.2
  have e : val f s = av f.vars s f.nodes f.top := val_av f s
  rw [e]
  unfold fold
  rcases topC_cases hf with h | h | ⟨c, h⟩
  · rw [if_neg (by omega), if_pos h, constF_val]
    unfold topC at h
    rcases hg with ⟨_, h2⟩ | ⟨h1, _⟩ | ⟨m, h1, _⟩
    · exact h2.symm
    · omega
    · omega
  · rw [if_pos h, constF_val]
    unfold topC at h
    rcases hg with ⟨h1, _⟩ | ⟨_, h2⟩ | ⟨m, h1, _⟩
    · omega
    · exact h2.symm
    · omega
  · rw [if_neg (by omega), if_neg (by omega), h, Int.toNat_natCast, trim_val (foldF_wf hf h), val_av]
    unfold topC at h
    rcases hg with ⟨h1, _⟩ | ⟨h1, _⟩ | ⟨m, h1, h2⟩
    · omega
    · omega
    · have : m = c := by omega
      subst this
      exact h2
/-- no constants are left -/
theorem foTo_nc {N : Nat} {f : Fn} (hf : WFb N f) : ∀ i, i ≤ f.nodes.length → ∀ x ∈ (foTo f i).1, x.kind ≠ 0 := by
  intro i
  induction i with
  | zero => intro _ x hx; simp [foTo] at hx
  | succ i ih =>
    intro hi x hx
    have hx2 : x ∈ (foTo f i).1 ++ (foN (f.vars + (foTo f i).1.length) (f.nd i) (renZ (foTo f i).2 (f.nd i).args)).1 := hx
    rcases List.mem_append.1 hx2 with h1 | h1
    · exact ih (by omega) x h1
    · unfold foN at h1
      obtain ⟨y, hy⟩ : ∃ y, f.nd i = y := ⟨_, rfl⟩
      rw [hy] at h1
      split at h1
      · simp at h1
      · rename_i hC
        have k0 : ¬ y.kind = 0 := fun k0 => by unfold foC at hC; rw [if_pos k0] at hC; cases hC
        simp only at h1
        have hm1 : ∀ z ∈ foM1 y (foT (renZ (foTo f i).2 y.args)) (foR (renZ (foTo f i).2 y.args)), z.kind ≠ 0 := fun z hz => by
          unfold foM1 at hz
          split at hz
          · simp at hz; rw [hz]; exact k0
          · simp at hz
        unfold foM at h1
        split at h1
        · simp at h1; rw [h1]; simp
        · split at h1
          · rcases List.mem_append.1 h1 with h2 | h2
            · exact hm1 x h2
            · simp at h2; rw [h2]; simp
          · exact hm1 x h1
theorem fold_nc {N : Nat} {f : Fn} (hf : WFb N f) (hl : 1 < (fold f).nodes.length) {r : Nat} (hr : r < (fold f).nodes.length) : ((fold f).nd r).kind ≠ 0 := by
  unfold fold at hl hr ⊢
  rcases topC_cases hf with h | h | ⟨c, h⟩
  · rw [if_neg (by omega), if_pos h] at hl; simp [constF] at hl
  · rw [if_pos h] at hl; simp [constF] at hl
  · rw [if_neg (by omega), if_neg (by omega), h, Int.toNat_natCast] at hr ⊢
    obtain ⟨i, hi, he⟩ := trim_nodes (foldF_wf hf h) hr
    rw [he]
    exact foTo_nc hf f.nodes.length (Nat.le_refl _) ((foldF f c).nd i) (mem_ndL (l := (foldF f c).nodes) hi)
end Go.Proofs.Ytmkogcaafkobaaa.Fm
