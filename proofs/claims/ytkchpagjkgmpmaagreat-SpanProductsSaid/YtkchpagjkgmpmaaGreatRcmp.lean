/-
  compare: the order of two fractions.
-/
import Derived.Test.YtkchpagjkgmpmaaGreatRown
namespace Go.Proofs.YtkchpagjkgmpmaaGreat
open Go.RowKit
set_option linter.unusedVariables false
namespace Num
theorem Own.at_ (w : World) (g : Nat) (hg : g = w.heap.size) (t : TypeId) (cur : Array Value) : Own (w.alloc (.cells cur t)) g t cur := by
  subst hg; exact Own.new w t cur
theorem rsg_cases (r : Rat) : rsg r = -1 ∨ rsg r = 0 ∨ rsg r = 1 := by
  unfold rsg
  by_cases h0 : r = 0
  · simp [h0]
  · by_cases h1 : r < 0
    · simp [h0, h1]
    · simp [h0, h1]
theorem cmpI_cases (a b : Nat) : cmpI a b = -1 ∨ cmpI a b = 0 ∨ cmpI a b = 1 := by
  rcases Nat.lt_trichotomy a b with h | h | h
  · exact .inl (cmpI_lt h)
  · exact .inr (.inl (cmpI_eq h))
  · exact .inr (.inr (cmpI_gt h))
theorem rsg_num (r : Rat) : rsg r = if r.num < 0 then -1 else if r.num = 0 then 0 else 1 := by
  unfold rsg
  have h1 := rat_neg_iff r
  have h2 : r = 0 ↔ r.num = 0 := Rat.num_eq_zero.symm
  by_cases h0 : r = 0
  · have := h2.1 h0
    rw [if_pos h0, if_neg (by omega), if_pos this]
  · have hn := fun e => h0 (h2.2 e)
    rw [if_neg h0]
    by_cases h : r < 0
    · rw [if_pos h, if_pos (h1.1 h)]
    · rw [if_neg h, if_neg (fun e => h (h1.2 e)), if_neg hn]
theorem rsg_sub (r q : Rat) : rsg (r - q) = if r < q then -1 else if r = q then 0 else 1 := by
  unfold rsg
  have h1 : r - q = 0 ↔ r = q := by constructor <;> intro h <;> grind
  have h2 : r - q < 0 ↔ r < q := by constructor <;> intro h <;> grind
  by_cases h : r = q
  · subst h; simp [h1]
  · have : ¬ r - q = 0 := fun e => h (h1.1 e)
    rw [if_neg this]
    by_cases hl : r < q
    · rw [if_pos (h2.2 hl), if_pos hl]
    · rw [if_neg (fun e => hl (h2.1 e)), if_neg hl, if_neg h]
/-- the signs differ -/
theorem cmp_signs {r q : Rat} (h : rsg r ≠ rsg q) : Lib.compareInt (rsg r) (rsg q) = rsg (r - q) := by
  rw [rsg_sub]
  unfold rsg Lib.compareInt at *
  grind
theorem cmp_prods {r q : Rat} (h : rsg r = rsg q) : rsg r * cmpI (r.num.natAbs * dn q) (q.num.natAbs * dn r) = rsg (r - q) := by
  by_cases h0 : r = 0
  · subst h0
    have hq : q = 0 := by unfold rsg at h; grind
    subst hq
    have e : rsg (0 : Rat) = 0 := by unfold rsg; simp
    have e2 : (0 : Rat) - 0 = 0 := by grind
    rw [e2, e]; simp
  have hq0 : q ≠ 0 := fun e => by unfold rsg at h; grind
  rw [dn_ne h0, dn_ne hq0, rsg_sub]
  have hl := Rat.lt_iff r q
  have hl2 := Rat.lt_iff q r
  have he : r < q ∨ r = q ∨ q < r := by grind
  have hirr : ∀ x : Rat, ¬ x < x := by grind
  have hasym : r < q → ¬ q < r := by grind
  have n1 := rat_neg_iff r
  have n2 := rat_neg_iff q
  have z1 : r.num ≠ 0 := fun e => h0 (Rat.num_eq_zero.1 e)
  have z2 : q.num ≠ 0 := fun e => hq0 (Rat.num_eq_zero.1 e)
  have hX : ((r.num.natAbs * q.den : Nat) : Int) = (r.num.natAbs : Int) * (q.den : Int) := Int.natCast_mul _ _
  have hY : ((q.num.natAbs * r.den : Nat) : Int) = (q.num.natAbs : Int) * (r.den : Int) := Int.natCast_mul _ _
  unfold cmpI
  by_cases hn : r < 0
  · have hm : q < 0 := by unfold rsg at h; grind
    have e1 : ((r.num.natAbs : Nat) : Int) = -r.num := by have := n1.1 hn; omega
    have e2 : ((q.num.natAbs : Nat) : Int) = -q.num := by have := n2.1 hm; omega
    rw [e1, Int.neg_mul] at hX
    rw [e2, Int.neg_mul] at hY
    have hr : rsg r = -1 := by unfold rsg; rw [if_neg h0, if_pos hn]
    rw [hr]
    generalize r.num.natAbs * q.den = X at *
    generalize q.num.natAbs * r.den = Y at *
    generalize r.num * (q.den : Int) = x at *
    generalize q.num * (r.den : Int) = y at *
    rcases he with c | c | c
    · have := hl.1 c
      rw [if_pos c, if_neg (by omega), if_neg (by omega)]; rfl
    · have h1 : ¬ x < y := fun e => by have := hl.2 e; rw [c] at this; exact hirr _ this
      have h2 : ¬ y < x := fun e => by have := hl2.2 e; rw [c] at this; exact hirr _ this
      rw [if_neg (show ¬ r < q from fun e => by rw [c] at e; exact hirr _ e), if_pos c, if_neg (by omega), if_pos (by omega)]; rfl
    · have := hl2.1 c
      rw [if_neg (show ¬ r < q from fun e => hasym e c), if_neg (show ¬ r = q from fun e => by rw [e] at c; exact hirr _ c), if_pos (by omega)]; rfl
  · have hm : ¬ q < 0 := by unfold rsg at h; grind
    have e1 : ((r.num.natAbs : Nat) : Int) = r.num := by have : ¬ r.num < 0 := fun e => hn (n1.2 e); omega
    have e2 : ((q.num.natAbs : Nat) : Int) = q.num := by have : ¬ q.num < 0 := fun e => hm (n2.2 e); omega
    rw [e1] at hX
    rw [e2] at hY
    have hr : rsg r = 1 := by unfold rsg; rw [if_neg h0, if_neg hn]
    rw [hr]
    generalize r.num.natAbs * q.den = X at *
    generalize q.num.natAbs * r.den = Y at *
    generalize r.num * (q.den : Int) = x at *
    generalize q.num * (r.den : Int) = y at *
    rcases he with c | c | c
    · have := hl.1 c
      rw [if_pos c, if_pos (by omega)]; rfl
    · have h1 : ¬ x < y := fun e => by have := hl.2 e; rw [c] at this; exact hirr _ this
      have h2 : ¬ y < x := fun e => by have := hl2.2 e; rw [c] at this; exact hirr _ this
      rw [if_neg (show ¬ r < q from fun e => by rw [c] at e; exact hirr _ e), if_pos c, if_neg (by omega), if_pos (by omega)]; rfl
    · have := hl2.1 c
      rw [if_neg (show ¬ r < q from fun e => hasym e c), if_neg (show ¬ r = q from fun e => by rw [e] at c; exact hirr _ c), if_neg (by omega), if_neg (by omega)]; rfl
set_option maxRecDepth 100000 in
set_option maxHeartbeats 1600000 in
theorem compare_ne (w : World) (v v' : Value) (r q : Rat) (L : Nat) (h : IsR w v r L) (k : IsR w v' q L) (hL : L ≤ 100000000) (hs : rsg r ≠ rsg q) :
    Calls Tryz.prog 73 #[v, v'] w fun e w' => e = .returned (.int .i64 (rsg (r - q))) ∧ On w w' := by
  obtain ⟨A, n, c, xs, A', n', c', ys, rfl, R, R', C, C', h1, h2, h3, h4⟩ := id h
  obtain ⟨E, m, o, us, E', m', o', vs, rfl, U, U', D, D', k1, k2, k3, k4⟩ := id k
  obtain ⟨b, hb⟩ : ∃ x, decide (r < 0) = x := ⟨_, rfl⟩
  obtain ⟨d, hd⟩ : ∃ x, decide (q < 0) = x := ⟨_, rfl⟩
  rw [hb] at h
  rw [hd] at k
  rw [hb, hd]
  obtain ⟨s, es⟩ : ∃ x, rsg r = x := ⟨_, rfl⟩
  obtain ⟨t, et⟩ : ∃ x, rsg q = x := ⟨_, rfl⟩
  obtain ⟨z, ez⟩ : ∃ x, rsg (r - q) = x := ⟨_, rfl⟩
  have HS := Lib.hid es
  have HT := Lib.hid et
  have HZ : Hid (Lib.compareInt s t = z) := Lib.hid (by rw [← es, ← et, ← ez]; exact cmp_signs hs)
  have HN : Hid ((s != t) = true) := Lib.hid (by rw [bne_iff_ne, ← es, ← et]; exact hs)
  rw [ez]
  clear hb hd es et ez hs h3 h4 k3 k4
  have B : On w ((w.alloc (.cells #[.bool b, .slice A n c, .slice A' n' c'] 24)).alloc (.cells #[.bool d, .slice E m o, .slice E' m' o'] 24)) := On.alloc (On.alloc (On.refl w) _) _
  have OB2 : w.heap.size ≤ w.heap.size ∧ Own ((w.alloc (.cells #[.bool b, .slice A n c, .slice A' n' c'] 24)).alloc (.cells #[.bool d, .slice E m o, .slice E' m' o'] 24)) (w.heap.size) 24 #[.bool b, .slice A n c, .slice A' n' c'] := ⟨by omega, ((Own.at_ w (w.heap.size) (by simp) 24 #[.bool b, .slice A n c, .slice A' n' c']).alloc (.cells #[.bool d, .slice E m o, .slice E' m' o'] 24))⟩
  have OB3 : w.heap.size ≤ w.heap.size + 1 ∧ Own ((w.alloc (.cells #[.bool b, .slice A n c, .slice A' n' c'] 24)).alloc (.cells #[.bool d, .slice E m o, .slice E' m' o'] 24)) (w.heap.size + 1) 24 #[.bool d, .slice E m o, .slice E' m' o'] := ⟨by omega, (Own.at_ (w.alloc (.cells #[.bool b, .slice A n c, .slice A' n' c'] 24)) (w.heap.size + 1) (by simp) 24 #[.bool d, .slice E m o, .slice E' m' o'])⟩
  go_enter Tryz.func73, Tryz.ntmps73
  go_wp2
  refine wp_region_facts (by kernel_rfl) w [Fact.eq (.agg #[.bool b, .slice A n c, .slice A' n' c']), Fact.eq (.int .i64 s), Fact.eq (.agg #[.bool d, .slice E m o, .slice E' m' o']), Fact.eq (.int .i64 t), Fact.eq (.bool true)] [Fact.any, Fact.any] [⟨5, 2, 24, 5, #[.bool b, .slice A n c, .slice A' n' c']⟩, ⟨5, 3, 24, 5, #[.bool d, .slice E m o, .slice E' m' o']⟩] [w.heap.size, w.heap.size + 1] [none, none, none, none, none, some 5, some 6, some 7, some 8, some 9, none, none, none, none, none, none, none, none, none, none, none, none, none, none, none, none, none, none, none] (by kernel_rfl) (by kernel_rfl) (by kernel_rfl) rfl B ?_ ?_ ?_ ?_ ?_
  · exact ⟨fun _ => ⟨by simp, rfl, OB2⟩, fun _ => ⟨by simp, rfl, OB3⟩, trivial⟩
  · exact .inl ⟨Nat.le_refl _, Nat.le_refl _, trivial⟩
  · exact ⟨⟨noWords_R _ _ _ _ _ _ _, (.inl (Nat.le_refl _)), (.inl (Nat.le_refl _))⟩, ⟨noWords_R _ _ _ _ _ _ _, (.inl (Nat.le_refl _)), (.inl (Nat.le_refl _))⟩, trivial⟩
  · refine ⟨?_, ?_, ?_, ?_, ?_, trivial⟩
    · exact .inr fun a w hp => ob_yes rfl (ob_loadR (hp.box (k := 0) rfl (Nat.le_refl _) (.inl (Nat.le_refl _)) (by kernel_rfl) rfl).1 (hp.box (k := 0) rfl (Nat.le_refl _) (.inl (Nat.le_refl _)) (by kernel_rfl) rfl).2 rfl)
    · refine .inr fun a w hp => ob_yes rfl ?_
      have h5 : a.tmps.getD 5 undef = .agg #[.bool b, .slice A n c, .slice A' n' c'] := (hp.fact 0 5 (by kernel_rfl) rfl)
      unfold Does
      go_simp
      refine (sign_any _ _ _ _ (h.on hp.on)).mono ?_
      rintro e w' ⟨rfl, P8⟩
      exact ⟨_, rfl, P8, by rw [HS.out]; rfl⟩
    · exact .inr fun a w hp => ob_yes rfl (ob_loadR (hp.box (k := 1) rfl (Nat.le_refl _) (.inl (Nat.le_refl _)) (by kernel_rfl) rfl).1 (hp.box (k := 1) rfl (Nat.le_refl _) (.inl (Nat.le_refl _)) (by kernel_rfl) rfl).2 rfl)
    · refine .inr fun a w hp => ob_yes rfl ?_
      have h7 : a.tmps.getD 7 undef = .agg #[.bool d, .slice E m o, .slice E' m' o'] := (hp.fact 2 7 (by kernel_rfl) rfl)
      unfold Does
      go_simp
      refine (sign_any _ _ _ _ (k.on hp.on)).mono ?_
      rintro e w' ⟨rfl, P8⟩
      exact ⟨_, rfl, P8, by rw [HT.out]; rfl⟩
    · refine .inr fun a w hp => ob_yes rfl ?_
      have h6 : a.tmps.getD 6 undef = .int .i64 s := (hp.fact 1 6 (by kernel_rfl) rfl)
      have h8 : a.tmps.getD 8 undef = .int .i64 t := (hp.fact 3 8 (by kernel_rfl) rfl)
      unfold Does
      go_simp
      exact ⟨_, rfl, On.refl _, by show Value.bool _ = _; rw [HN.out]⟩
  · intro f wr hon hk hf hb hap
    obtain ⟨q0, q1, qz⟩ := hb
    clear qz
    have O2 : Own wr (w.heap.size) 24 #[.bool b, .slice A n c, .slice A' n' c'] := q0
    have c2_0 : wr.cell? ⟨w.heap.size, 0, none⟩ = some (.bool b) := O2.cell 0
    have z2_0 := O2.frozen 0
    have c2_1 : wr.cell? ⟨w.heap.size, 1, none⟩ = some (.slice A n c) := O2.cell 1
    have z2_1 := O2.frozen 1
    have c2_2 : wr.cell? ⟨w.heap.size, 2, none⟩ = some (.slice A' n' c') := O2.cell 2
    have z2_2 := O2.frozen 2
    clear q0
    have O3 : Own wr (w.heap.size + 1) 24 #[.bool d, .slice E m o, .slice E' m' o'] := q1
    have c3_0 : wr.cell? ⟨w.heap.size + 1, 0, none⟩ = some (.bool d) := O3.cell 0
    have z3_0 := O3.frozen 0
    have c3_1 : wr.cell? ⟨w.heap.size + 1, 1, none⟩ = some (.slice E m o) := O3.cell 1
    have z3_1 := O3.frozen 1
    have c3_2 : wr.cell? ⟨w.heap.size + 1, 2, none⟩ = some (.slice E' m' o') := O3.cell 2
    have z3_2 := O3.frozen 2
    clear q1
    have e9 : f 9 = .bool true := hf 4 9 rfl
    clear hf hap
    simp only [fillL, e9]
    clear e9
    have OB2 : w.heap.size ≤ w.heap.size ∧ Own wr (w.heap.size) 24 #[.bool b, .slice A n c, .slice A' n' c'] := ⟨by omega, O2⟩
    clear c2_0 z2_0 c2_1 z2_1 c2_2 z2_2 O2
    have OB3 : w.heap.size ≤ w.heap.size + 1 ∧ Own wr (w.heap.size + 1) 24 #[.bool d, .slice E m o, .slice E' m' o'] := ⟨by omega, O3⟩
    clear c3_0 z3_0 c3_1 z3_1 c3_2 z3_2 O3
    clear B
    have B := hon
    clear hon
    go_wp2
    refine wp_region_facts (by kernel_rfl) w [Fact.eq (.agg #[.bool b, .slice A n c, .slice A' n' c']), Fact.eq (.int .i64 s), Fact.eq (.agg #[.bool d, .slice E m o, .slice E' m' o']), Fact.eq (.int .i64 t), Fact.eq (.int .i64 z), Fact.eq (.int .i64 z)] [Fact.any, Fact.any] [⟨6, 2, 24, 6, #[.bool b, .slice A n c, .slice A' n' c']⟩, ⟨6, 3, 24, 6, #[.bool d, .slice E m o, .slice E' m' o']⟩] [w.heap.size, w.heap.size + 1] [none, none, none, none, some 4, none, none, none, none, none, some 10, some 11, some 12, some 13, some 14, none, none, none, none, none, none, none, none, none, none, none, none, none, none] (by kernel_rfl) (by kernel_rfl) (by kernel_rfl) rfl B ?_ ?_ ?_ ?_ ?_
    · exact ⟨fun _ => ⟨by simp, rfl, OB2⟩, fun _ => ⟨by simp, rfl, OB3⟩, trivial⟩
    · exact .inl ⟨Nat.le_refl _, Nat.le_refl _, trivial⟩
    · exact ⟨⟨noWords_R _ _ _ _ _ _ _, (.inl (Nat.le_refl _)), (.inl (Nat.le_refl _))⟩, ⟨noWords_R _ _ _ _ _ _ _, (.inl (Nat.le_refl _)), (.inl (Nat.le_refl _))⟩, trivial⟩
    · refine ⟨?_, ?_, ?_, ?_, ?_, ?_, trivial⟩
      · exact .inr fun a w hp => ob_yes rfl (ob_loadR (hp.box (k := 0) rfl (Nat.le_refl _) (.inl (Nat.le_refl _)) (by kernel_rfl) rfl).1 (hp.box (k := 0) rfl (Nat.le_refl _) (.inl (Nat.le_refl _)) (by kernel_rfl) rfl).2 rfl)
      · refine .inr fun a w hp => ob_yes rfl ?_
        have h10 : a.tmps.getD 10 undef = .agg #[.bool b, .slice A n c, .slice A' n' c'] := (hp.fact 0 10 (by kernel_rfl) rfl)
        unfold Does
        go_simp
        refine (sign_any _ _ _ _ (h.on hp.on)).mono ?_
        rintro e w' ⟨rfl, P8⟩
        exact ⟨_, rfl, P8, by rw [HS.out]; rfl⟩
      · exact .inr fun a w hp => ob_yes rfl (ob_loadR (hp.box (k := 1) rfl (Nat.le_refl _) (.inl (Nat.le_refl _)) (by kernel_rfl) rfl).1 (hp.box (k := 1) rfl (Nat.le_refl _) (.inl (Nat.le_refl _)) (by kernel_rfl) rfl).2 rfl)
      · refine .inr fun a w hp => ob_yes rfl ?_
        have h12 : a.tmps.getD 12 undef = .agg #[.bool d, .slice E m o, .slice E' m' o'] := (hp.fact 2 12 (by kernel_rfl) rfl)
        unfold Does
        go_simp
        refine (sign_any _ _ _ _ (k.on hp.on)).mono ?_
        rintro e w' ⟨rfl, P8⟩
        exact ⟨_, rfl, P8, by rw [HT.out]; rfl⟩
      · refine .inr fun a w hp => ob_yes rfl ?_
        have h11 : a.tmps.getD 11 undef = .int .i64 s := (hp.fact 1 11 (by kernel_rfl) rfl)
        have h13 : a.tmps.getD 13 undef = .int .i64 t := (hp.fact 3 13 (by kernel_rfl) rfl)
        unfold Does
        go_simp
        refine (Tryz.cmp_Compare_int _ _ _).mono ?_
        rintro e w' ⟨rfl, rfl⟩
        exact ⟨_, rfl, On.refl _, by show Value.int _ _ = _; rw [HZ.out]⟩
      · exact .inr fun a w hp => ob_yes rfl (ob_assign (hp.fact 4 14 (by kernel_rfl) rfl))
    · intro f wq hon hk hf hb hap
      obtain ⟨q0, q1, qz⟩ := hb
      clear qz
      have O2 : Own wq (w.heap.size) 24 #[.bool b, .slice A n c, .slice A' n' c'] := q0
      have c2_0 : wq.cell? ⟨w.heap.size, 0, none⟩ = some (.bool b) := O2.cell 0
      have z2_0 := O2.frozen 0
      have c2_1 : wq.cell? ⟨w.heap.size, 1, none⟩ = some (.slice A n c) := O2.cell 1
      have z2_1 := O2.frozen 1
      have c2_2 : wq.cell? ⟨w.heap.size, 2, none⟩ = some (.slice A' n' c') := O2.cell 2
      have z2_2 := O2.frozen 2
      clear q0
      have O3 : Own wq (w.heap.size + 1) 24 #[.bool d, .slice E m o, .slice E' m' o'] := q1
      have c3_0 : wq.cell? ⟨w.heap.size + 1, 0, none⟩ = some (.bool d) := O3.cell 0
      have z3_0 := O3.frozen 0
      have c3_1 : wq.cell? ⟨w.heap.size + 1, 1, none⟩ = some (.slice E m o) := O3.cell 1
      have z3_1 := O3.frozen 1
      have c3_2 : wq.cell? ⟨w.heap.size + 1, 2, none⟩ = some (.slice E' m' o') := O3.cell 2
      have z3_2 := O3.frozen 2
      clear q1
      have e4 : f 4 = .int .i64 z := hf 5 4 rfl
      clear hf hap
      simp only [fillL, e4]
      clear e4
      go_wp2
      go_ret
      exact ⟨rfl, hon⟩
set_option maxRecDepth 100000 in
set_option maxHeartbeats 1600000 in
theorem compare_eq (w : World) (v v' : Value) (r q : Rat) (L : Nat) (h : IsR w v r L) (k : IsR w v' q L) (hL : L ≤ 100000000) (hs : rsg r = rsg q) :
    Calls Tryz.prog 73 #[v, v'] w fun e w' => e = .returned (.int .i64 (rsg (r - q))) ∧ On w w' := by
  obtain ⟨A, n, c, xs, A', n', c', ys, rfl, R, R', C, C', h1, h2, h3, h4⟩ := id h
  obtain ⟨E, m, o, us, E', m', o', vs, rfl, U, U', D, D', k1, k2, k3, k4⟩ := id k
  obtain ⟨b, hb⟩ : ∃ x, decide (r < 0) = x := ⟨_, rfl⟩
  obtain ⟨d, hd⟩ : ∃ x, decide (q < 0) = x := ⟨_, rfl⟩
  rw [hb] at h
  rw [hd] at k
  rw [hb, hd]
  obtain ⟨s, es⟩ : ∃ x, rsg r = x := ⟨_, rfl⟩
  obtain ⟨t, et⟩ : ∃ x, rsg q = x := ⟨_, rfl⟩
  obtain ⟨z, ez⟩ : ∃ x, rsg (r - q) = x := ⟨_, rfl⟩
  have HS := Lib.hid es
  have HT := Lib.hid et
  obtain ⟨c2, ec⟩ : ∃ x, cmpI (val xs * val vs) (val us * val ys) = x := ⟨_, rfl⟩
  have HC := Lib.hid ec
  have HZ : Hid (s * c2 = z) := Lib.hid (by rw [← es, ← ez, ← ec, h3, k4, k3, h4]; exact cmp_prods hs)
  have hs3 : s = -1 ∨ s = 0 ∨ s = 1 := by rw [← es]; exact rsg_cases r
  have hc3 : c2 = -1 ∨ c2 = 0 ∨ c2 = 1 := by rw [← ec]; exact cmpI_cases _ _
  have HN : Hid ((s != t) = false) := Lib.hid (by rw [← es, ← et, hs]; simp)
  have tx : tl xs ≤ L := Nat.le_trans (tl_le _) (by rw [R.len]; exact h1)
  have ty : tl ys ≤ L := Nat.le_trans (tl_le _) (by rw [R'.len]; exact h2)
  have tu : tl us ≤ L := Nat.le_trans (tl_le _) (by rw [U.len]; exact k1)
  have tv : tl vs ≤ L := Nat.le_trans (tl_le _) (by rw [U'.len]; exact k2)
  rw [ez]
  clear hb hd es et ez hs h3 h4 k3 k4 ec
  have B : On w ((w.alloc (.cells #[.bool b, .slice A n c, .slice A' n' c'] 24)).alloc (.cells #[.bool d, .slice E m o, .slice E' m' o'] 24)) := On.alloc (On.alloc (On.refl w) _) _
  have OB2 : w.heap.size ≤ w.heap.size ∧ Own ((w.alloc (.cells #[.bool b, .slice A n c, .slice A' n' c'] 24)).alloc (.cells #[.bool d, .slice E m o, .slice E' m' o'] 24)) (w.heap.size) 24 #[.bool b, .slice A n c, .slice A' n' c'] := ⟨by omega, ((Own.at_ w (w.heap.size) (by simp) 24 #[.bool b, .slice A n c, .slice A' n' c']).alloc (.cells #[.bool d, .slice E m o, .slice E' m' o'] 24))⟩
  have OB3 : w.heap.size ≤ w.heap.size + 1 ∧ Own ((w.alloc (.cells #[.bool b, .slice A n c, .slice A' n' c'] 24)).alloc (.cells #[.bool d, .slice E m o, .slice E' m' o'] 24)) (w.heap.size + 1) 24 #[.bool d, .slice E m o, .slice E' m' o'] := ⟨by omega, (Own.at_ (w.alloc (.cells #[.bool b, .slice A n c, .slice A' n' c'] 24)) (w.heap.size + 1) (by simp) 24 #[.bool d, .slice E m o, .slice E' m' o'])⟩
  go_enter Tryz.func73, Tryz.ntmps73
  go_wp2
  refine wp_region_facts (by kernel_rfl) w [Fact.eq (.agg #[.bool b, .slice A n c, .slice A' n' c']), Fact.eq (.int .i64 s), Fact.eq (.agg #[.bool d, .slice E m o, .slice E' m' o']), Fact.eq (.int .i64 t), Fact.eq (.bool false)] [Fact.any, Fact.any] [⟨5, 2, 24, 5, #[.bool b, .slice A n c, .slice A' n' c']⟩, ⟨5, 3, 24, 5, #[.bool d, .slice E m o, .slice E' m' o']⟩] [w.heap.size, w.heap.size + 1] [none, none, none, none, none, some 5, some 6, some 7, some 8, some 9, none, none, none, none, none, none, none, none, none, none, none, none, none, none, none, none, none, none, none] (by kernel_rfl) (by kernel_rfl) (by kernel_rfl) rfl B ?_ ?_ ?_ ?_ ?_
  · exact ⟨fun _ => ⟨by simp, rfl, OB2⟩, fun _ => ⟨by simp, rfl, OB3⟩, trivial⟩
  · exact .inl ⟨Nat.le_refl _, Nat.le_refl _, trivial⟩
  · exact ⟨⟨noWords_R _ _ _ _ _ _ _, (.inl (Nat.le_refl _)), (.inl (Nat.le_refl _))⟩, ⟨noWords_R _ _ _ _ _ _ _, (.inl (Nat.le_refl _)), (.inl (Nat.le_refl _))⟩, trivial⟩
  · refine ⟨?_, ?_, ?_, ?_, ?_, trivial⟩
    · exact .inr fun a w hp => ob_yes rfl (ob_loadR (hp.box (k := 0) rfl (Nat.le_refl _) (.inl (Nat.le_refl _)) (by kernel_rfl) rfl).1 (hp.box (k := 0) rfl (Nat.le_refl _) (.inl (Nat.le_refl _)) (by kernel_rfl) rfl).2 rfl)
    · refine .inr fun a w hp => ob_yes rfl ?_
      have h5 : a.tmps.getD 5 undef = .agg #[.bool b, .slice A n c, .slice A' n' c'] := (hp.fact 0 5 (by kernel_rfl) rfl)
      unfold Does
      go_simp
      refine (sign_any _ _ _ _ (h.on hp.on)).mono ?_
      rintro e w' ⟨rfl, P8⟩
      exact ⟨_, rfl, P8, by rw [HS.out]; rfl⟩
    · exact .inr fun a w hp => ob_yes rfl (ob_loadR (hp.box (k := 1) rfl (Nat.le_refl _) (.inl (Nat.le_refl _)) (by kernel_rfl) rfl).1 (hp.box (k := 1) rfl (Nat.le_refl _) (.inl (Nat.le_refl _)) (by kernel_rfl) rfl).2 rfl)
    · refine .inr fun a w hp => ob_yes rfl ?_
      have h7 : a.tmps.getD 7 undef = .agg #[.bool d, .slice E m o, .slice E' m' o'] := (hp.fact 2 7 (by kernel_rfl) rfl)
      unfold Does
      go_simp
      refine (sign_any _ _ _ _ (k.on hp.on)).mono ?_
      rintro e w' ⟨rfl, P8⟩
      exact ⟨_, rfl, P8, by rw [HT.out]; rfl⟩
    · refine .inr fun a w hp => ob_yes rfl ?_
      have h6 : a.tmps.getD 6 undef = .int .i64 s := (hp.fact 1 6 (by kernel_rfl) rfl)
      have h8 : a.tmps.getD 8 undef = .int .i64 t := (hp.fact 3 8 (by kernel_rfl) rfl)
      unfold Does
      go_simp
      exact ⟨_, rfl, On.refl _, by show Value.bool _ = _; rw [HN.out]⟩
  · intro f wr hon hk hf hb hap
    obtain ⟨q0, q1, qz⟩ := hb
    clear qz
    have O2 : Own wr (w.heap.size) 24 #[.bool b, .slice A n c, .slice A' n' c'] := q0
    have c2_0 : wr.cell? ⟨w.heap.size, 0, none⟩ = some (.bool b) := O2.cell 0
    have z2_0 := O2.frozen 0
    have c2_1 : wr.cell? ⟨w.heap.size, 1, none⟩ = some (.slice A n c) := O2.cell 1
    have z2_1 := O2.frozen 1
    have c2_2 : wr.cell? ⟨w.heap.size, 2, none⟩ = some (.slice A' n' c') := O2.cell 2
    have z2_2 := O2.frozen 2
    clear q0
    have O3 : Own wr (w.heap.size + 1) 24 #[.bool d, .slice E m o, .slice E' m' o'] := q1
    have c3_0 : wr.cell? ⟨w.heap.size + 1, 0, none⟩ = some (.bool d) := O3.cell 0
    have z3_0 := O3.frozen 0
    have c3_1 : wr.cell? ⟨w.heap.size + 1, 1, none⟩ = some (.slice E m o) := O3.cell 1
    have z3_1 := O3.frozen 1
    have c3_2 : wr.cell? ⟨w.heap.size + 1, 2, none⟩ = some (.slice E' m' o') := O3.cell 2
    have z3_2 := O3.frozen 2
    clear q1
    have e9 : f 9 = .bool false := hf 4 9 rfl
    clear hf hap
    simp only [fillL, e9]
    clear e9
    have OB2 : w.heap.size ≤ w.heap.size ∧ Own wr (w.heap.size) 24 #[.bool b, .slice A n c, .slice A' n' c'] := ⟨by omega, O2⟩
    clear c2_0 z2_0 c2_1 z2_1 c2_2 z2_2 O2
    have OB3 : w.heap.size ≤ w.heap.size + 1 ∧ Own wr (w.heap.size + 1) 24 #[.bool d, .slice E m o, .slice E' m' o'] := ⟨by omega, O3⟩
    clear c3_0 z3_0 c3_1 z3_1 c3_2 z3_2 O3
    clear B
    have B := hon
    clear hon
    go_wp2
    refine wp_region_facts (by kernel_rfl) w [Fact.eq (.agg #[.bool b, .slice A n c, .slice A' n' c']), Fact.eq (.int .i64 s), Fact.eq (.pointer (some ⟨w.heap.size, 1, none⟩)), Fact.eq (.slice A n c), Fact.eq (.pointer (some ⟨w.heap.size + 1, 2, none⟩)), Fact.eq (.slice E' m' o'), Fact.nm (val xs * val vs) (L + L), Fact.eq (.pointer (some ⟨w.heap.size + 1, 1, none⟩)), Fact.eq (.slice E m o), Fact.eq (.pointer (some ⟨w.heap.size, 2, none⟩)), Fact.eq (.slice A' n' c'), Fact.nm (val us * val ys) (L + L), Fact.eq (.int .i64 c2), Fact.eq (.int .i64 z), Fact.eq (.int .i64 z)] [Fact.any, Fact.any] [⟨15, 2, 24, 15, #[.bool b, .slice A n c, .slice A' n' c']⟩, ⟨15, 3, 24, 15, #[.bool d, .slice E m o, .slice E' m' o']⟩] [w.heap.size, w.heap.size + 1] [none, none, none, none, some 4, none, none, none, none, none, none, none, none, none, none, some 15, some 16, some 17, some 18, some 19, some 20, some 21, some 22, some 23, some 24, some 25, some 26, some 27, some 28] (by kernel_rfl) (by kernel_rfl) (by kernel_rfl) rfl B ?_ ?_ ?_ ?_ ?_
    · exact ⟨fun _ => ⟨by simp, rfl, OB2⟩, fun _ => ⟨by simp, rfl, OB3⟩, trivial⟩
    · exact .inl ⟨Nat.le_refl _, Nat.le_refl _, trivial⟩
    · exact ⟨⟨noWords_R _ _ _ _ _ _ _, (.inl (Nat.le_refl _)), (.inl (Nat.le_refl _))⟩, ⟨noWords_R _ _ _ _ _ _ _, (.inl (Nat.le_refl _)), (.inl (Nat.le_refl _))⟩, trivial⟩
    · refine ⟨?_, ?_, ?_, ?_, ?_, ?_, ?_, ?_, ?_, ?_, ?_, ?_, ?_, ?_, ?_, trivial⟩
      · exact .inr fun a w hp => ob_yes rfl (ob_loadR (hp.box (k := 0) rfl (Nat.le_refl _) (.inl (Nat.le_refl _)) (by kernel_rfl) rfl).1 (hp.box (k := 0) rfl (Nat.le_refl _) (.inl (Nat.le_refl _)) (by kernel_rfl) rfl).2 rfl)
      · refine .inr fun a w hp => ob_yes rfl ?_
        have h15 : a.tmps.getD 15 undef = .agg #[.bool b, .slice A n c, .slice A' n' c'] := (hp.fact 0 15 (by kernel_rfl) rfl)
        unfold Does
        go_simp
        refine (sign_any _ _ _ _ (h.on hp.on)).mono ?_
        rintro e w' ⟨rfl, P8⟩
        exact ⟨_, rfl, P8, by rw [HS.out]; rfl⟩
      · exact .inr fun a w hp => ob_yes rfl (ob_fieldR (hp.box (k := 0) rfl (Nat.le_refl _) (.inl (Nat.le_refl _)) (by kernel_rfl) rfl).1 (by decide) rfl)
      · exact .inr fun a w hp => ob_yes rfl (ob_loadS (hp.fact 2 17 (by kernel_rfl) rfl) (hp.box (k := 0) rfl (Nat.le_refl _) (.inl (Nat.le_refl _)) (by kernel_rfl) rfl).2 rfl rfl)
      · exact .inr fun a w hp => ob_yes rfl (ob_fieldR (hp.box (k := 1) rfl (Nat.le_refl _) (.inl (Nat.le_refl _)) (by kernel_rfl) rfl).1 (by decide) rfl)
      · exact .inr fun a w hp => ob_yes rfl (ob_loadS (hp.fact 4 19 (by kernel_rfl) rfl) (hp.box (k := 1) rfl (Nat.le_refl _) (.inl (Nat.le_refl _)) (by kernel_rfl) rfl).2 rfl rfl)
      · refine .inr fun a w hp => ob_yes rfl ?_
        have h18 : a.tmps.getD 18 undef = .slice A n c := (hp.fact 3 18 (by kernel_rfl) rfl)
        have h20 : a.tmps.getD 20 undef = .slice E' m' o' := (hp.fact 5 20 (by kernel_rfl) rfl)
        unfold Does
        go_simp
        refine (mul_any _ _ _ _ _ _ _ L L _ _ (R.on hp.on) (U'.on hp.on) tx tv hL hL).mono ?_
        rintro e w' ⟨A8, n8, c8, rfl, N8, P8⟩
        exact ⟨_, rfl, P8, A8, n8, c8, rfl, N8⟩
      · exact .inr fun a w hp => ob_yes rfl (ob_fieldR (hp.box (k := 1) rfl (Nat.le_refl _) (.inl (Nat.le_refl _)) (by kernel_rfl) rfl).1 (by decide) rfl)
      · exact .inr fun a w hp => ob_yes rfl (ob_loadS (hp.fact 7 22 (by kernel_rfl) rfl) (hp.box (k := 1) rfl (Nat.le_refl _) (.inl (Nat.le_refl _)) (by kernel_rfl) rfl).2 rfl rfl)
      · exact .inr fun a w hp => ob_yes rfl (ob_fieldR (hp.box (k := 0) rfl (Nat.le_refl _) (.inl (Nat.le_refl _)) (by kernel_rfl) rfl).1 (by decide) rfl)
      · exact .inr fun a w hp => ob_yes rfl (ob_loadS (hp.fact 9 24 (by kernel_rfl) rfl) (hp.box (k := 0) rfl (Nat.le_refl _) (.inl (Nat.le_refl _)) (by kernel_rfl) rfl).2 rfl rfl)
      · refine .inr fun a w hp => ob_yes rfl ?_
        have h23 : a.tmps.getD 23 undef = .slice E m o := (hp.fact 8 23 (by kernel_rfl) rfl)
        have h25 : a.tmps.getD 25 undef = .slice A' n' c' := (hp.fact 10 25 (by kernel_rfl) rfl)
        unfold Does
        go_simp
        refine (mul_any _ _ _ _ _ _ _ L L _ _ (U.on hp.on) (R'.on hp.on) tu ty hL hL).mono ?_
        rintro e w' ⟨A8, n8, c8, rfl, N8, P8⟩
        exact ⟨_, rfl, P8, A8, n8, c8, rfl, N8⟩
      · refine .inr fun a w hp => ob_yes rfl ?_
        obtain ⟨A21, n21, c21, e21, h21⟩ : ∃ A n c, a.tmps.getD 21 undef = .slice A n c ∧ Nm w A n c (val xs * val vs) (L + L) := (hp.fact 6 21 (by kernel_rfl) rfl)
        obtain ⟨A26, n26, c26, e26, h26⟩ : ∃ A n c, a.tmps.getD 26 undef = .slice A n c ∧ Nm w A n c (val us * val ys) (L + L) := (hp.fact 11 26 (by kernel_rfl) rfl)
        unfold Does
        go_simp
        obtain ⟨x1, RX, _, VX, _⟩ := h21
        obtain ⟨x2, RY, _, VY, _⟩ := h26
        refine (cmp_any _ _ _ _ _ _ _ _ _ RX RY).mono ?_
        rintro e w' ⟨rfl, P8⟩
        exact ⟨_, rfl, P8, by rw [VX, VY, HC.out]; rfl⟩
      · refine .inr fun a w hp => ob_yes rfl ?_
        have h16 : a.tmps.getD 16 undef = .int .i64 s := (hp.fact 1 16 (by kernel_rfl) rfl)
        have h27 : a.tmps.getD 27 undef = .int .i64 c2 := (hp.fact 12 27 (by kernel_rfl) rfl)
        rcases hs3 with rfl | rfl | rfl <;> rcases hc3 with rfl | rfl | rfl <;> (unfold Does; go_simp; exact ⟨_, rfl, On.refl _, by show Value.int _ _ = _; rw [← HZ.out]; rfl⟩)
      · exact .inr fun a w hp => ob_yes rfl (ob_assign (hp.fact 13 28 (by kernel_rfl) rfl))
    · intro f wq hon hk hf hb hap
      obtain ⟨q0, q1, qz⟩ := hb
      clear qz
      have O2 : Own wq (w.heap.size) 24 #[.bool b, .slice A n c, .slice A' n' c'] := q0
      have c2_0 : wq.cell? ⟨w.heap.size, 0, none⟩ = some (.bool b) := O2.cell 0
      have z2_0 := O2.frozen 0
      have c2_1 : wq.cell? ⟨w.heap.size, 1, none⟩ = some (.slice A n c) := O2.cell 1
      have z2_1 := O2.frozen 1
      have c2_2 : wq.cell? ⟨w.heap.size, 2, none⟩ = some (.slice A' n' c') := O2.cell 2
      have z2_2 := O2.frozen 2
      clear q0
      have O3 : Own wq (w.heap.size + 1) 24 #[.bool d, .slice E m o, .slice E' m' o'] := q1
      have c3_0 : wq.cell? ⟨w.heap.size + 1, 0, none⟩ = some (.bool d) := O3.cell 0
      have z3_0 := O3.frozen 0
      have c3_1 : wq.cell? ⟨w.heap.size + 1, 1, none⟩ = some (.slice E m o) := O3.cell 1
      have z3_1 := O3.frozen 1
      have c3_2 : wq.cell? ⟨w.heap.size + 1, 2, none⟩ = some (.slice E' m' o') := O3.cell 2
      have z3_2 := O3.frozen 2
      clear q1
      have e4 : f 4 = .int .i64 z := hf 14 4 rfl
      clear hf hap
      simp only [fillL, e4]
      clear e4
      go_wp2
      go_ret
      exact ⟨rfl, hon⟩
end Num
end Go.Proofs.YtkchpagjkgmpmaaGreat
