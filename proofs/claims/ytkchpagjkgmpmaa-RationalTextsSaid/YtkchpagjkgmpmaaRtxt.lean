/-
  RationalBack, walked: Parse undoes Text, what is parsed has its text.
-/
import Derived.Test.YtkchpagjkgmpmaaRpa
namespace Go.Proofs.Ytkchpagjkgmpmaa
open Go.RowKit
set_option linter.unusedVariables false
namespace Num
theorem rlens1 {w : World} {g t : Nat} (b0 : Bool) (A0 D0 : Option Addr) (n0 c0 m0 e0 : Nat) (x0 y0 : List Nat) (R0 : Rd w A0 n0 c0 x0) (S0 : Rd w D0 m0 e0 y0) (h : Own w g t #[.bool b0, .slice A0 n0 c0, .slice D0 m0 e0]) : RLens w g [(n0, m0)] := by
  refine ⟨h.lt, fun i p hp => ?_⟩
  rcases i with _ | i
  · simp at hp; subst hp
    exact ⟨b0, A0, c0, D0, e0, h.cell 0, h.cell 1, h.cell 2, R0.max, R0.cap, S0.max, S0.cap⟩
  · simp at hp
theorem pre_yes (l : List UInt8) : Lib.hasPrefix (45 :: l) [45] = true ∧ Lib.trimPrefix (45 :: l) [45] = l := by
  have h : Lib.hasPrefix (45 :: l) [45] = true := by simp [Lib.hasPrefix, List.isPrefixOf]
  exact ⟨h, by unfold Lib.trimPrefix; rw [if_pos h]; rfl⟩
theorem pre_no (l : List UInt8) (hl : ∀ x t, l = x :: t → x ≠ 45) : Lib.hasPrefix l [45] = false ∧ Lib.trimPrefix l [45] = l := by
  have h : Lib.hasPrefix l [45] = false := by
    cases l with
    | nil => rfl
    | cons x t => have := hl x t rfl; simp [Lib.hasPrefix, List.isPrefixOf]; exact fun e => this e.symm
  exact ⟨h, by unfold Lib.trimPrefix; rw [if_neg (by rw [h]; decide)]⟩
theorem pre_back (l : List UInt8) : l = if Lib.hasPrefix l [45] = true then 45 :: Lib.trimPrefix l [45] else Lib.trimPrefix l [45] := by
  cases l with
  | nil => rfl
  | cons x t =>
    by_cases hx : x = 45
    · subst hx
      rw [(pre_yes t).1, (pre_yes t).2]; rfl
    · have := pre_no (x :: t) (fun y u e => by injection e with e1 e2; rw [← e1]; exact hx)
      rw [this.1, this.2]; rfl
/-- numbers as bytes -/
def ub (l : List Nat) : List UInt8 := l.map UInt8.ofNat
theorem str_data (l : List Nat) : (str l).data.toList = ub l := by unfold str ub; simp
theorem nl_ub (l : List Nat) (h : ∀ b ∈ l, b < 256) : nl (ub l) = l := by
  unfold nl ub
  rw [List.map_map]
  conv => rhs; rw [← List.map_id l]
  apply List.map_congr_left
  intro b hb
  have := h b hb
  simp [Nat.mod_eq_of_lt this]
theorem dig_lt {l : List Nat} (h : IsDig l) : ∀ b ∈ l, b < 256 := fun b hb => by have := h b hb; omega
theorem dig_not {l : List Nat} (h : IsDig l) (c : UInt8) (hc : c.toNat < 48) : c ∉ ub l := by
  intro hm
  obtain ⟨x, hx, e⟩ := List.mem_map.1 hm
  have h1 := h x hx
  have h2 : (UInt8.ofNat x).toNat = x := by simp; omega
  rw [e] at h2
  omega
theorem text_head {v : Nat} {b : List Nat} (h : IsText v b) : ∃ x t, b = x :: t ∧ 48 ≤ x ∧ x ≤ 57 := by
  have hd := h.digs
  cases b with
  | nil => rcases h with ⟨_, h⟩ | ⟨ds, h, _, _, h3, _⟩
           · cases h
           · have := congrArg List.length h; simp at this; omega
  | cons x t => exact ⟨x, t, rfl, hd x (by simp)⟩
theorem frs (r : Rat) : fr (decide (r < 0)) r.num.natAbs r.den = r := fr_self r
/-- Parse of the text of r -/
theorem parse_text (w : World) (hx : MX w) (r : Rat) (bs : List Nat) (h : RTx r bs) (hl : bs.length ≤ 300) :
    Calls Try.prog 10 #[.string (str bs)] w (RatPost2 w r 200 .nilIface) := by
  have hsz : (str bs).size ≤ 300 := by rw [str_len]; exact hl
  obtain ⟨b1, b2, t1, t2, hb⟩ := h
  have d1 := t1.digs
  have d2 := t2.digs
  obtain ⟨x, tl1, hx1, hx2, hx3⟩ := text_head t1
  -- what stands behind the sign
  have hD : ∃ neg, neg = decide (r < 0) ∧ Lib.trimPrefix (str bs).data.toList [45] = ub (b1 ++ (if r.den = 1 then [] else 47 :: b2)) ∧ Lib.hasPrefix (str bs).data.toList [45] = neg := by
    refine ⟨_, rfl, ?_⟩
    by_cases hr : r < 0
    · have e : (str bs).data.toList = 45 :: ub (b1 ++ (if r.den = 1 then [] else 47 :: b2)) := by
        rw [str_data, hb]; unfold sgt; rw [if_pos hr]; rfl
      rw [e, decide_eq_true hr]
      exact ⟨(pre_yes _).2, (pre_yes _).1⟩
    · have e : (str bs).data.toList = ub (b1 ++ (if r.den = 1 then [] else 47 :: b2)) := by
        rw [str_data, hb]; unfold sgt; rw [if_neg hr]; rfl
      rw [e, decide_eq_false hr]
      have := pre_no (ub (b1 ++ (if r.den = 1 then [] else 47 :: b2))) (fun y u e2 => by
        rw [hx1] at e2
        have e3 : UInt8.ofNat x = y := by injection e2
        intro e4
        rw [e4] at e3
        have h2 : (UInt8.ofNat x).toNat = x := by simp; omega
        rw [e3] at h2
        have : (45 : UInt8).toNat = 45 := rfl
        omega)
      exact ⟨this.2, this.1⟩
  obtain ⟨neg, hn, hD, hN⟩ := hD
  have n46 : (46 : UInt8) ∉ ub b1 := dig_not d1 46 (by decide)
  have n47 : (47 : UInt8) ∉ ub b1 := dig_not d1 47 (by decide)
  have n46b : (46 : UInt8) ∉ ub b2 := dig_not d2 46 (by decide)
  by_cases hd : r.den = 1
  · rw [if_pos hd, List.append_nil] at hD
    have := parse_plain w hx (str bs) hsz _ neg hD hN n46 n47
    have ho : WholeR neg (nl (ub b1)) = some r := by
      rw [nl_ub _ (dig_lt d1)]
      unfold WholeR
      have hc : TextOk b1 ∧ ¬ (neg = true ∧ dv b1 = 0) := by
        refine ⟨t1.ok.1, ?_⟩
        rintro ⟨e1, e2⟩
        rw [t1.ok.2] at e2
        rw [hn, decide_eq_true_iff] at e1
        have := (rat_zero_iff r).1 e2
        rw [this] at e1
        exact absurd e1 (by decide)
      have hfr := frs r
      rw [hd] at hfr
      rw [if_pos hc, t1.ok.2, hn, hfr]
    rw [ho] at this
    exact this
  · rw [if_neg hd] at hD
    have e : ub (b1 ++ 47 :: b2) = ub b1 ++ 47 :: ub b2 := by unfold ub; rw [List.map_append]; rfl
    rw [e] at hD
    have n46' : (46 : UInt8) ∉ ub b1 ++ 47 :: ub b2 := by
      intro hm
      rcases List.mem_append.1 hm with h | h
      · exact n46 h
      · rcases List.mem_cons.1 h with h | h
        · exact absurd h (by decide)
        · exact n46b h
    have := parse_slash w hx (str bs) hsz _ neg hD hN n46' _ _ rfl n47
    have hr0 : r ≠ 0 := fun e => hd (by rw [e]; rfl)
    have ho : BrokenR neg (nl (ub b1)) (nl (ub b2)) = some r := by
      rw [nl_ub _ (dig_lt d1), nl_ub _ (dig_lt d2)]
      unfold BrokenR
      have hdp := r.den_pos
      rw [if_pos ⟨t1.ok.1, t2.ok.1, by rw [t2.ok.2]; omega, by rw [t1.ok.2]; have := num_pos_of_ne hr0; omega, by rw [t1.ok.2, t2.ok.2]; exact r.reduced⟩, t1.ok.2, t2.ok.2, hn, frs]
    rw [ho] at this
    exact this
theorem nl_bl (s : ByteArray) : bl s = nl s.data.toList := rfl
/-- what is read as a whole number or a fraction has this text -/
theorem whole_text {neg : Bool} {l : List Nat} {r : Rat} (h : WholeR neg l = some r) : RTx r ((if neg = true then [45] else []) ++ l) := by
  unfold WholeR at h
  split at h
  · rename_i hc
    injection h with h
    have hnum : r.num.natAbs = dv l := by rw [← h, fr_abs neg _ 1 (by decide)]; simp
    have hden : r.den = 1 := by rw [← h, fr_den neg _ 1 (by decide)]; simp
    obtain ⟨t2, ht2⟩ := exists_text r.den
    refine ⟨l, t2, by rw [hnum]; exact hc.1.text, ht2, ?_⟩
    rw [if_pos hden, List.append_nil]
    congr 1
    unfold sgt
    rcases Nat.eq_zero_or_pos (dv l) with h0 | h0
    · have hn : neg = false := by cases neg; rfl; exact absurd ⟨rfl, h0⟩ hc.2
      have hr : r = 0 := (rat_zero_iff r).1 (by rw [hnum, h0])
      rw [hn, hr]; rfl
    · have := fr_sign neg (dv l) 1 (by decide) h0
      rw [h] at this
      cases neg
      · rw [if_neg (of_decide_eq_false this)]; rfl
      · rw [if_pos (of_decide_eq_true this)]; rfl
  · cases h
theorem broken_text {neg : Bool} {a b : List Nat} {r : Rat} (h : BrokenR neg a b = some r) : RTx r ((if neg = true then [45] else []) ++ (a ++ 47 :: b)) := by
  unfold BrokenR at h
  split at h
  · rename_i hc
    obtain ⟨c1, c2, c3, c4, c5⟩ := hc
    injection h with h
    have hnum : r.num.natAbs = dv a := by rw [← h, fr_abs neg _ _ (by omega), c5, Nat.div_one]
    have hden : r.den = dv b := by rw [← h, fr_den neg _ _ (by omega), c5, Nat.div_one]
    refine ⟨a, b, by rw [hnum]; exact c1.text, by rw [hden]; exact c2.text, ?_⟩
    have hsg : sgt r = if neg = true then [45] else [] := by
      unfold sgt
      have := fr_sign neg (dv a) (dv b) (by omega) (by omega)
      rw [h] at this
      cases neg
      · rw [if_neg (of_decide_eq_false this)]; rfl
      · rw [if_pos (of_decide_eq_true this)]; rfl
    rw [if_neg (show ¬ r.den = 1 by omega), hsg, List.append_assoc]
  · cases h
/-- the three ends of Parse: no number; a number with a point; a number without, with its text -/
def Kind (s : ByteArray) (o : Option Rat) : Prop := o = none ∨ (∃ r, o = some r ∧ ∃ a b : List UInt8, s.data.toList = a ++ 46 :: b ∧ 46 ∉ a) ∨ (∃ r, o = some r ∧ 46 ∉ s.data.toList ∧ RTx r (bl s))
theorem parse_kind (s : ByteArray) (hs : s.size ≤ 300) : ∃ o, Kind s o ∧ ∀ w, MX w → Calls Try.prog 10 #[.string s] w (OptPost w o 200) := by
  obtain ⟨D, hD⟩ : ∃ D, Lib.trimPrefix s.data.toList [45] = D := ⟨_, rfl⟩
  obtain ⟨neg, hN⟩ : ∃ x, Lib.hasPrefix s.data.toList [45] = x := ⟨_, rfl⟩
  have hb := pre_back s.data.toList
  rw [hD, hN] at hb
  have hbl : bl s = (if neg = true then [45] else []) ++ nl D := by
    rw [nl_bl, hb]
    cases neg <;> rfl
  rcases split_at 46 D with h46 | ⟨a, b, hab, ha⟩
  · have hs46 : (46 : UInt8) ∉ s.data.toList := by
      rw [hb]
      cases neg
      · exact h46
      · intro hm
        rcases List.mem_cons.1 hm with h | h
        · exact absurd h (by decide)
        · exact h46 h
    rcases split_at 47 D with h47 | ⟨a, b, hab, ha⟩
    · refine ⟨WholeR neg (nl D), ?_, fun w hx => parse_plain w hx s hs D neg hD hN h46 h47⟩
      cases ho : WholeR neg (nl D) with
      | none => exact .inl rfl
      | some r => exact .inr (.inr ⟨r, rfl, hs46, by rw [hbl]; exact whole_text ho⟩)
    · refine ⟨BrokenR neg (nl a) (nl b), ?_, fun w hx => parse_slash w hx s hs D neg hD hN h46 a b hab ha⟩
      cases ho : BrokenR neg (nl a) (nl b) with
      | none => exact .inl rfl
      | some r =>
        refine .inr (.inr ⟨r, rfl, hs46, ?_⟩)
        have e : nl D = nl a ++ 47 :: nl b := by rw [hab]; unfold nl; rw [List.map_append]; rfl
        rw [hbl, e]; exact broken_text ho
  · refine ⟨_, ?_, fun w hx => parse_point w hx s hs D neg hD hN a b hab ha⟩
    cases ho : (if s.size ≤ 64 then DecR neg a b else none) with
    | none => exact .inl rfl
    | some r =>
      refine .inr (.inl ⟨r, rfl, ?_⟩)
      cases neg
      · exact ⟨a, b, by rw [hb]; exact hab, ha⟩
      · refine ⟨45 :: a, b, by rw [hb, hab]; rfl, ?_⟩
        intro hm
        rcases List.mem_cons.1 hm with h | h
        · exact absurd h (by decide)
        · exact ha h
theorem str_bl' (s : ByteArray) : str (bl s) = s := str_bl s
theorem fld_text (w : World) (v : Value) (r : Rat) (L : Nat) (h : Fld w v r L) (hL1 : 1 ≤ L) (hL : L ≤ 5000) : Calls Try.prog 12 #[v] w (TextR w r) := by
  obtain ⟨s, A, n, c, A', n', c', xs, ys, rfl, h1, h2, h3, h4, rfl⟩ := h
  exact textr_any w s A A' n c n' c' L xs ys h1 h2 h3 h4 hL1 hL
theorem rtx_len {w : World} {v : Value} {r : Rat} {bs : List Nat} (h : Fld w v r 12) (k : RTx r bs) : bs.length ≤ 300 := by
  obtain ⟨s, A, n, c, A', n', c', xs, ys, rfl, h1, h2, h3, h4, h5⟩ := h
  obtain ⟨b1, b2, t1, t2, rfl⟩ := k
  have hb : r.num.natAbs < BB ^ 12 ∧ r.den < BB ^ 12 := by
    have p1 := val_lt h1.ok
    have p2 := val_lt h2.ok
    rw [h1.len] at p1
    rw [h2.len] at p2
    have q1 : BB ^ n ≤ BB ^ 12 := Nat.pow_le_pow_right BB_pos h3
    have q2 : BB ^ n' ≤ BB ^ 12 := Nat.pow_le_pow_right BB_pos h4
    by_cases hf : fitB s xs ys = true ∧ 0 < xs.length
    · obtain ⟨_, _, e1, e2, e3⟩ := fit_parts hf.1 hf.2
      rw [raw_fit hf.1 hf.2] at h5
      rw [← h5, fr_abs s _ _ e2, fr_den s _ _ e2, e3, Nat.div_one, Nat.div_one]
      exact ⟨Nat.lt_of_lt_of_le p1 q1, Nat.lt_of_lt_of_le p2 q2⟩
    · have hr : r = 0 := by
        rw [← h5]
        cases hq : fitB s xs ys
        · exact raw_no hq
        · have : xs = [] := List.eq_nil_of_length_eq_zero (by
            rcases Nat.eq_zero_or_pos xs.length with h | h
            · exact h
            · exact absurd ⟨hq, h⟩ hf)
          rw [this]; exact raw_nil _ _
      rw [hr]
      have hp : 1 < BB ^ 12 := by decide
      exact ⟨by show 0 < _; omega, by show 1 < _; exact hp⟩
  have l1 := text_size t1 (by decide : 0 < 12) hb.1
  have l2 := text_size t2 (by decide : 0 < 12) hb.2
  have l3 : (sgt r).length ≤ 1 := by unfold sgt; split <;> simp
  rw [List.length_append, List.length_append]
  split
  · simp; omega
  · simp; omega
end Num
end Go.Proofs.Ytkchpagjkgmpmaa
