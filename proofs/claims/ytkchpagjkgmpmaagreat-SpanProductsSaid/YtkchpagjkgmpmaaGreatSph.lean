/-
  Contains, Inside, Width, Text, Meet of spans.
-/
import Derived.Test.YtkchpagjkgmpmaaGreatSpf
import Derived.Test.YtkchpagjkgmpmaaGreatRst
namespace Go.Proofs.YtkchpagjkgmpmaaGreat
open Go.RowKit
set_option linter.unusedVariables false
namespace Num
set_option maxRecDepth 100000 in
set_option maxHeartbeats 1600000 in
theorem spcont_any (w : World) (v v' : Value) (lo hi x : Rat) (L : Nat) (h : Sp w v lo hi L) (k : Fld w v' x L) (hL2 : 2 ≤ L) (hL : L ≤ 400) :
    Calls Tryz.prog 40 #[v, v'] w fun e w' => e = .returned (.bool (decide (lo ≤ x) && decide (x ≤ hi))) ∧ On w w' := by
  obtain ⟨q, hq⟩ : ∃ q, (decide (lo ≤ x) && decide (x ≤ hi)) = q := ⟨_, rfl⟩
  rw [hq]
  have HQ := Lib.hid hq
  clear hq
  obtain ⟨ba0, Aa0, na0, ca0, Ba0, ma0, oa0, bb0, Ab0, nb0, cb0, Bb0, mb0, ob0, rfl⟩ := h.form
  obtain ⟨b1, A1, n1, c1, D1, m1, e1, rfl⟩ := fld_form k
  have B : On w ((w.alloc (.cells #[.bool ba0, .slice Aa0 na0 ca0, .slice Ba0 ma0 oa0, .bool bb0, .slice Ab0 nb0 cb0, .slice Bb0 mb0 ob0] 26)).alloc (.cells #[.bool b1, .slice A1 n1 c1, .slice D1 m1 e1] 24)) := On.alloc (On.alloc (On.refl w) _) _
  have OB2 : w.heap.size ≤ w.heap.size ∧ Own ((w.alloc (.cells #[.bool ba0, .slice Aa0 na0 ca0, .slice Ba0 ma0 oa0, .bool bb0, .slice Ab0 nb0 cb0, .slice Bb0 mb0 ob0] 26)).alloc (.cells #[.bool b1, .slice A1 n1 c1, .slice D1 m1 e1] 24)) (w.heap.size) 26 #[.bool ba0, .slice Aa0 na0 ca0, .slice Ba0 ma0 oa0, .bool bb0, .slice Ab0 nb0 cb0, .slice Bb0 mb0 ob0] := ⟨by omega, ((Own.at_ w (w.heap.size) (by simp) 26 #[.bool ba0, .slice Aa0 na0 ca0, .slice Ba0 ma0 oa0, .bool bb0, .slice Ab0 nb0 cb0, .slice Bb0 mb0 ob0]).alloc (.cells #[.bool b1, .slice A1 n1 c1, .slice D1 m1 e1] 24))⟩
  have OB3 : w.heap.size ≤ w.heap.size + 1 ∧ Own ((w.alloc (.cells #[.bool ba0, .slice Aa0 na0 ca0, .slice Ba0 ma0 oa0, .bool bb0, .slice Ab0 nb0 cb0, .slice Bb0 mb0 ob0] 26)).alloc (.cells #[.bool b1, .slice A1 n1 c1, .slice D1 m1 e1] 24)) (w.heap.size + 1) 24 #[.bool b1, .slice A1 n1 c1, .slice D1 m1 e1] := ⟨by omega, (Own.at_ (w.alloc (.cells #[.bool ba0, .slice Aa0 na0 ca0, .slice Ba0 ma0 oa0, .bool bb0, .slice Ab0 nb0 cb0, .slice Bb0 mb0 ob0] 26)) (w.heap.size + 1) (by simp) 24 #[.bool b1, .slice A1 n1 c1, .slice D1 m1 e1])⟩
  go_enter Tryz.func40, Tryz.ntmps40
  go_wp2
  refine wp_region_facts (by kernel_rfl) w [Fact.eq (.agg #[.bool ba0, .slice Aa0 na0 ca0, .slice Ba0 ma0 oa0, .bool bb0, .slice Ab0 nb0 cb0, .slice Bb0 mb0 ob0]), Fact.sp (lo) (hi) (L), Fact.eq (.agg #[.bool b1, .slice A1 n1 c1, .slice D1 m1 e1]), Fact.eq (.bool q), Fact.eq (.bool q)] [Fact.any, Fact.any] [⟨5, 2, 26, 5, #[.bool ba0, .slice Aa0 na0 ca0, .slice Ba0 ma0 oa0, .bool bb0, .slice Ab0 nb0 cb0, .slice Bb0 mb0 ob0]⟩, ⟨5, 3, 24, 5, #[.bool b1, .slice A1 n1 c1, .slice D1 m1 e1]⟩] [w.heap.size, w.heap.size + 1] [none, none, none, none, some 4, some 5, some 6, some 7, some 8] (by kernel_rfl) (by kernel_rfl) (by kernel_rfl) rfl B ?_ ?_ ?_ ?_ ?_
  · exact ⟨fun _ => ⟨by simp, rfl, OB2⟩, fun _ => ⟨by simp, rfl, OB3⟩, trivial⟩
  · exact .inl ⟨Nat.le_refl _, Nat.le_refl _, trivial⟩
  · exact ⟨⟨noWords_S _ _ _ _ _ _ _ _ _ _ _ _ _ _, (.inl (Nat.le_refl _)), (.inl (Nat.le_refl _))⟩, ⟨noWords_R _ _ _ _ _ _ _, (.inl (Nat.le_refl _)), (.inl (Nat.le_refl _))⟩, trivial⟩
  · refine ⟨?_, ?_, ?_, ?_, ?_, trivial⟩
    · exact .inr fun a w hp => ob_yes rfl (ob_loadSp (hp.box (k := 0) rfl (Nat.le_refl _) (.inl (Nat.le_refl _)) (by kernel_rfl) rfl).1 (hp.box (k := 0) rfl (Nat.le_refl _) (.inl (Nat.le_refl _)) (by kernel_rfl) rfl).2 rfl)
    · refine .inr fun a w hp => ob_yes rfl ?_
      have h5 : a.tmps.getD 5 undef = .agg #[.bool ba0, .slice Aa0 na0 ca0, .slice Ba0 ma0 oa0, .bool bb0, .slice Ab0 nb0 cb0, .slice Bb0 mb0 ob0] := (hp.fact 0 5 (by kernel_rfl) rfl)
      unfold Does
      go_simp
      refine (svalue_any _ _ _ _ L (h.on hp.on) (by omega)).mono ?_
      rintro e w' ⟨u, rfl, I8, P8⟩
      exact ⟨_, rfl, P8, I8⟩
    · exact .inr fun a w hp => ob_yes rfl (ob_loadR (hp.box (k := 1) rfl (Nat.le_refl _) (.inl (Nat.le_refl _)) (by kernel_rfl) rfl).1 (hp.box (k := 1) rfl (Nat.le_refl _) (.inl (Nat.le_refl _)) (by kernel_rfl) rfl).2 rfl)
    · refine .inr fun a w hp => ob_yes rfl ?_
      have h6 : IsS w (a.tmps.getD 6 undef) (lo) (hi) (L) := (hp.fact 1 6 (by kernel_rfl) rfl)
      obtain ⟨v6, e6⟩ : ∃ v, a.tmps.getD 6 undef = v := ⟨_, rfl⟩
      rw [e6] at h6
      have h7 : a.tmps.getD 7 undef = .agg #[.bool b1, .slice A1 n1 c1, .slice D1 m1 e1] := (hp.fact 2 7 (by kernel_rfl) rfl)
      unfold Does
      go_simp
      refine (scont_any _ _ _ lo hi x L h6 (k.on hp.on) (by omega)).mono ?_
      rintro e w' ⟨rfl, P8⟩
      rw [HQ.out]
      exact ⟨_, rfl, P8, rfl⟩
    · exact .inr fun a w hp => ob_yes rfl (ob_assign (hp.fact 3 8 (by kernel_rfl) rfl))
  · intro f wr hon hk hf hb hap
    obtain ⟨q0, q1, qz⟩ := hb
    clear qz
    have O2 : Own wr (w.heap.size) 26 #[.bool ba0, .slice Aa0 na0 ca0, .slice Ba0 ma0 oa0, .bool bb0, .slice Ab0 nb0 cb0, .slice Bb0 mb0 ob0] := q0
    have c2_0 : wr.cell? ⟨w.heap.size, 0, none⟩ = some (.bool ba0) := O2.cell 0
    have z2_0 := O2.frozen 0
    have c2_1 : wr.cell? ⟨w.heap.size, 1, none⟩ = some (.slice Aa0 na0 ca0) := O2.cell 1
    have z2_1 := O2.frozen 1
    have c2_2 : wr.cell? ⟨w.heap.size, 2, none⟩ = some (.slice Ba0 ma0 oa0) := O2.cell 2
    have z2_2 := O2.frozen 2
    have c2_3 : wr.cell? ⟨w.heap.size, 3, none⟩ = some (.bool bb0) := O2.cell 3
    have z2_3 := O2.frozen 3
    have c2_4 : wr.cell? ⟨w.heap.size, 4, none⟩ = some (.slice Ab0 nb0 cb0) := O2.cell 4
    have z2_4 := O2.frozen 4
    have c2_5 : wr.cell? ⟨w.heap.size, 5, none⟩ = some (.slice Bb0 mb0 ob0) := O2.cell 5
    have z2_5 := O2.frozen 5
    clear q0
    have O3 : Own wr (w.heap.size + 1) 24 #[.bool b1, .slice A1 n1 c1, .slice D1 m1 e1] := q1
    have c3_0 : wr.cell? ⟨w.heap.size + 1, 0, none⟩ = some (.bool b1) := O3.cell 0
    have z3_0 := O3.frozen 0
    have c3_1 : wr.cell? ⟨w.heap.size + 1, 1, none⟩ = some (.slice A1 n1 c1) := O3.cell 1
    have z3_1 := O3.frozen 1
    have c3_2 : wr.cell? ⟨w.heap.size + 1, 2, none⟩ = some (.slice D1 m1 e1) := O3.cell 2
    have z3_2 := O3.frozen 2
    clear q1
    have e4 : f 4 = .bool q := hf 4 4 rfl
    clear hf hap
    simp only [fillL, e4]
    clear e4
    go_wp2
    go_ret
    exact ⟨rfl, hon⟩
theorem inside_eq {lo hi lo' hi' : Rat} (h : lo ≤ hi) (k : lo' ≤ hi') : ((decide (lo' ≤ lo) && decide (lo ≤ hi')) && (decide (lo' ≤ hi) && decide (hi ≤ hi'))) = (decide (lo' ≤ lo) && decide (hi ≤ hi')) := by
  rw [Bool.eq_iff_iff]
  simp only [Bool.and_eq_true, decide_eq_true_eq]
  constructor
  · rintro ⟨⟨h1, _⟩, _, h2⟩; exact ⟨h1, h2⟩
  · rintro ⟨h1, h2⟩; exact ⟨⟨h1, Rat.le_trans h h2⟩, Rat.le_trans h1 h, h2⟩
set_option maxRecDepth 100000 in
set_option maxHeartbeats 1600000 in
theorem spins_any (w : World) (v v' : Value) (lo hi lo' hi' : Rat) (L : Nat) (h : Sp w v lo hi L) (k : Sp w v' lo' hi' L) (hL2 : 2 ≤ L) (hL : L ≤ 400) :
    Calls Tryz.prog 42 #[v, v'] w fun e w' => e = .returned (.bool (decide (lo' ≤ lo) && decide (hi ≤ hi'))) ∧ On w w' := by
  rw [← inside_eq h.le k.le]
  obtain ⟨q1, hq1⟩ : ∃ q, (decide (lo' ≤ lo) && decide (lo ≤ hi')) = q := ⟨_, rfl⟩
  obtain ⟨q2, hq2⟩ : ∃ q, (decide (lo' ≤ hi) && decide (hi ≤ hi')) = q := ⟨_, rfl⟩
  rw [hq1, hq2]
  have HQ1 := Lib.hid hq1
  have HQ2 := Lib.hid hq2
  clear hq1 hq2
  obtain ⟨ba0, Aa0, na0, ca0, Ba0, ma0, oa0, bb0, Ab0, nb0, cb0, Bb0, mb0, ob0, rfl⟩ := h.form
  obtain ⟨ba1, Aa1, na1, ca1, Ba1, ma1, oa1, bb1, Ab1, nb1, cb1, Bb1, mb1, ob1, rfl⟩ := k.form
  have B : On w ((w.alloc (.cells #[.bool ba0, .slice Aa0 na0 ca0, .slice Ba0 ma0 oa0, .bool bb0, .slice Ab0 nb0 cb0, .slice Bb0 mb0 ob0] 26)).alloc (.cells #[.bool ba1, .slice Aa1 na1 ca1, .slice Ba1 ma1 oa1, .bool bb1, .slice Ab1 nb1 cb1, .slice Bb1 mb1 ob1] 26)) := On.alloc (On.alloc (On.refl w) _) _
  have OB2 : w.heap.size ≤ w.heap.size ∧ Own ((w.alloc (.cells #[.bool ba0, .slice Aa0 na0 ca0, .slice Ba0 ma0 oa0, .bool bb0, .slice Ab0 nb0 cb0, .slice Bb0 mb0 ob0] 26)).alloc (.cells #[.bool ba1, .slice Aa1 na1 ca1, .slice Ba1 ma1 oa1, .bool bb1, .slice Ab1 nb1 cb1, .slice Bb1 mb1 ob1] 26)) (w.heap.size) 26 #[.bool ba0, .slice Aa0 na0 ca0, .slice Ba0 ma0 oa0, .bool bb0, .slice Ab0 nb0 cb0, .slice Bb0 mb0 ob0] := ⟨by omega, ((Own.at_ w (w.heap.size) (by simp) 26 #[.bool ba0, .slice Aa0 na0 ca0, .slice Ba0 ma0 oa0, .bool bb0, .slice Ab0 nb0 cb0, .slice Bb0 mb0 ob0]).alloc (.cells #[.bool ba1, .slice Aa1 na1 ca1, .slice Ba1 ma1 oa1, .bool bb1, .slice Ab1 nb1 cb1, .slice Bb1 mb1 ob1] 26))⟩
  have OB3 : w.heap.size ≤ w.heap.size + 1 ∧ Own ((w.alloc (.cells #[.bool ba0, .slice Aa0 na0 ca0, .slice Ba0 ma0 oa0, .bool bb0, .slice Ab0 nb0 cb0, .slice Bb0 mb0 ob0] 26)).alloc (.cells #[.bool ba1, .slice Aa1 na1 ca1, .slice Ba1 ma1 oa1, .bool bb1, .slice Ab1 nb1 cb1, .slice Bb1 mb1 ob1] 26)) (w.heap.size + 1) 26 #[.bool ba1, .slice Aa1 na1 ca1, .slice Ba1 ma1 oa1, .bool bb1, .slice Ab1 nb1 cb1, .slice Bb1 mb1 ob1] := ⟨by omega, (Own.at_ (w.alloc (.cells #[.bool ba0, .slice Aa0 na0 ca0, .slice Ba0 ma0 oa0, .bool bb0, .slice Ab0 nb0 cb0, .slice Bb0 mb0 ob0] 26)) (w.heap.size + 1) (by simp) 26 #[.bool ba1, .slice Aa1 na1 ca1, .slice Ba1 ma1 oa1, .bool bb1, .slice Ab1 nb1 cb1, .slice Bb1 mb1 ob1])⟩
  go_enter Tryz.func42, Tryz.ntmps42
  go_wp2
  refine wp_region_facts (by kernel_rfl) w [Fact.eq (.agg #[.bool ba0, .slice Aa0 na0 ca0, .slice Ba0 ma0 oa0, .bool bb0, .slice Ab0 nb0 cb0, .slice Bb0 mb0 ob0]), Fact.sp (lo) (hi) (L), Fact.eq (.agg #[.bool ba1, .slice Aa1 na1 ca1, .slice Ba1 ma1 oa1, .bool bb1, .slice Ab1 nb1 cb1, .slice Bb1 mb1 ob1]), Fact.sp (lo') (hi') (L), Fact.any, Fact.any] [Fact.sp (lo) (hi) (L), Fact.sp (lo') (hi') (L)] [⟨6, 2, 26, 4, #[.bool ba0, .slice Aa0 na0 ca0, .slice Ba0 ma0 oa0, .bool bb0, .slice Ab0 nb0 cb0, .slice Bb0 mb0 ob0]⟩, ⟨6, 3, 26, 5, #[.bool ba1, .slice Aa1 na1 ca1, .slice Ba1 ma1 oa1, .bool bb1, .slice Ab1 nb1 cb1, .slice Bb1 mb1 ob1]⟩] [w.heap.size, w.heap.size + 1] [none, none, none, none, none, some 5, some 6, some 7, some 8, none, none, none, none, none, none, none, none, none, none] (by kernel_rfl) (by kernel_rfl) (by kernel_rfl) rfl B ?_ ?_ ?_ ?_ ?_
  · exact ⟨fun _ => ⟨by simp, rfl, OB2⟩, fun _ => ⟨by simp, rfl, OB3⟩, trivial⟩
  · exact .inr (by simp <;> omega)
  · exact ⟨⟨noWords_S _ _ _ _ _ _ _ _ _ _ _ _ _ _, (.inl (Nat.le_refl _)), (.inr (store_obS (j := 1) (noWords_S _ _ _ _ _ _ _ _ _ _ _ _ _ _) rfl rfl rfl (by kernel_rfl) rfl rfl rfl))⟩, ⟨noWords_S _ _ _ _ _ _ _ _ _ _ _ _ _ _, (.inl (Nat.le_refl _)), (.inr (store_obS (j := 3) (noWords_S _ _ _ _ _ _ _ _ _ _ _ _ _ _) rfl rfl rfl (by kernel_rfl) rfl rfl rfl))⟩, trivial⟩
  · refine ⟨?_, ?_, ?_, ?_, ?_, ?_, trivial⟩
    · exact .inr fun a w hp => ob_yes rfl (ob_loadSp (hp.box (k := 0) rfl (Nat.le_refl _) (.inr (.inl (by kernel_rfl))) (by kernel_rfl) rfl).1 (hp.box (k := 0) rfl (Nat.le_refl _) (.inr (.inl (by kernel_rfl))) (by kernel_rfl) rfl).2 rfl)
    · refine .inr fun a w hp => ob_yes rfl ?_
      have h5 : a.tmps.getD 5 undef = .agg #[.bool ba0, .slice Aa0 na0 ca0, .slice Ba0 ma0 oa0, .bool bb0, .slice Ab0 nb0 cb0, .slice Bb0 mb0 ob0] := (hp.fact 0 5 (by kernel_rfl) rfl)
      unfold Does
      go_simp
      refine (svalue_any _ _ _ _ L (h.on hp.on) (by omega)).mono ?_
      rintro e w' ⟨u, rfl, I8, P8⟩
      exact ⟨_, rfl, P8, I8⟩
    · exact .inr fun a w hp => ob_yes rfl (ob_loadSp (hp.box (k := 1) rfl (Nat.le_refl _) (.inr (.inl (by kernel_rfl))) (by kernel_rfl) rfl).1 (hp.box (k := 1) rfl (Nat.le_refl _) (.inr (.inl (by kernel_rfl))) (by kernel_rfl) rfl).2 rfl)
    · refine .inr fun a w hp => ob_yes rfl ?_
      have h7 : a.tmps.getD 7 undef = .agg #[.bool ba1, .slice Aa1 na1 ca1, .slice Ba1 ma1 oa1, .bool bb1, .slice Ab1 nb1 cb1, .slice Bb1 mb1 ob1] := (hp.fact 2 7 (by kernel_rfl) rfl)
      unfold Does
      go_simp
      refine (svalue_any _ _ _ _ L (k.on hp.on) (by omega)).mono ?_
      rintro e w' ⟨u, rfl, I8, P8⟩
      exact ⟨_, rfl, P8, I8⟩
    · exact .inl rfl
    · exact .inl rfl
  · intro f wr hon hk hf hb hap
    obtain ⟨q0, q1, qz⟩ := hb
    clear qz
    obtain ⟨cur2, O2, I2⟩ : ∃ cur, Own wr (w.heap.size) 26 cur ∧ IsS wr (.agg cur) (lo) (hi) (L) := q0
    obtain ⟨sl2, P2, Pn2, Pc2, R2, Rn2, Rc2, sh2, U2, Un2, Uc2, V2, Vn2, Vc2, hz2, IL2, IH2⟩ := id I2
    injection hz2 with hz2
    subst hz2
    have c2_0 : wr.cell? ⟨w.heap.size, 0, none⟩ = some (.bool sl2) := O2.cell 0
    have z2_0 := O2.frozen 0
    have c2_1 : wr.cell? ⟨w.heap.size, 1, none⟩ = some (.slice P2 Pn2 Pc2) := O2.cell 1
    have z2_1 := O2.frozen 1
    have c2_2 : wr.cell? ⟨w.heap.size, 2, none⟩ = some (.slice R2 Rn2 Rc2) := O2.cell 2
    have z2_2 := O2.frozen 2
    have c2_3 : wr.cell? ⟨w.heap.size, 3, none⟩ = some (.bool sh2) := O2.cell 3
    have z2_3 := O2.frozen 3
    have c2_4 : wr.cell? ⟨w.heap.size, 4, none⟩ = some (.slice U2 Un2 Uc2) := O2.cell 4
    have z2_4 := O2.frozen 4
    have c2_5 : wr.cell? ⟨w.heap.size, 5, none⟩ = some (.slice V2 Vn2 Vc2) := O2.cell 5
    have z2_5 := O2.frozen 5
    obtain ⟨cur3, O3, I3⟩ : ∃ cur, Own wr (w.heap.size + 1) 26 cur ∧ IsS wr (.agg cur) (lo') (hi') (L) := q1
    obtain ⟨sl3, P3, Pn3, Pc3, R3, Rn3, Rc3, sh3, U3, Un3, Uc3, V3, Vn3, Vc3, hz3, IL3, IH3⟩ := id I3
    injection hz3 with hz3
    subst hz3
    have c3_0 : wr.cell? ⟨w.heap.size + 1, 0, none⟩ = some (.bool sl3) := O3.cell 0
    have z3_0 := O3.frozen 0
    have c3_1 : wr.cell? ⟨w.heap.size + 1, 1, none⟩ = some (.slice P3 Pn3 Pc3) := O3.cell 1
    have z3_1 := O3.frozen 1
    have c3_2 : wr.cell? ⟨w.heap.size + 1, 2, none⟩ = some (.slice R3 Rn3 Rc3) := O3.cell 2
    have z3_2 := O3.frozen 2
    have c3_3 : wr.cell? ⟨w.heap.size + 1, 3, none⟩ = some (.bool sh3) := O3.cell 3
    have z3_3 := O3.frozen 3
    have c3_4 : wr.cell? ⟨w.heap.size + 1, 4, none⟩ = some (.slice U3 Un3 Uc3) := O3.cell 4
    have z3_4 := O3.frozen 4
    have c3_5 : wr.cell? ⟨w.heap.size + 1, 5, none⟩ = some (.slice V3 Vn3 Vc3) := O3.cell 5
    have z3_5 := O3.frozen 5
    clear hf hap
    simp only [fillL]
    have OB2 : w.heap.size ≤ w.heap.size ∧ Own wr (w.heap.size) 26 #[.bool sl2, .slice P2 Pn2 Pc2, .slice R2 Rn2 Rc2, .bool sh2, .slice U2 Un2 Uc2, .slice V2 Vn2 Vc2] := ⟨by omega, O2⟩
    clear c2_0 z2_0 c2_1 z2_1 c2_2 z2_2 c2_3 z2_3 c2_4 z2_4 c2_5 z2_5 O2
    have OB3 : w.heap.size ≤ w.heap.size + 1 ∧ Own wr (w.heap.size + 1) 26 #[.bool sl3, .slice P3 Pn3 Pc3, .slice R3 Rn3 Rc3, .bool sh3, .slice U3 Un3 Uc3, .slice V3 Vn3 Vc3] := ⟨by omega, O3⟩
    clear c3_0 z3_0 c3_1 z3_1 c3_2 z3_2 c3_3 z3_3 c3_4 z3_4 c3_5 z3_5 O3
    clear B
    have B := hon
    clear hon hk h k
    have y2_0 : wr.cell? ⟨w.heap.size, 0, none⟩ = some (.bool sl2) := OB2.2.cell 0
    have y2_1 : wr.cell? ⟨w.heap.size, 1, none⟩ = some (.slice P2 Pn2 Pc2) := OB2.2.cell 1
    have y2_2 : wr.cell? ⟨w.heap.size, 2, none⟩ = some (.slice R2 Rn2 Rc2) := OB2.2.cell 2
    have y2_3 : wr.cell? ⟨w.heap.size, 3, none⟩ = some (.bool sh2) := OB2.2.cell 3
    have y2_4 : wr.cell? ⟨w.heap.size, 4, none⟩ = some (.slice U2 Un2 Uc2) := OB2.2.cell 4
    have y2_5 : wr.cell? ⟨w.heap.size, 5, none⟩ = some (.slice V2 Vn2 Vc2) := OB2.2.cell 5
    have y2_f0 := OB2.2.frozen 0
    have y2_f1 := OB2.2.frozen 1
    have y2_f2 := OB2.2.frozen 2
    have y2_f3 := OB2.2.frozen 3
    have y2_f4 := OB2.2.frozen 4
    have y2_f5 := OB2.2.frozen 5
    have y3_0 : wr.cell? ⟨w.heap.size + 1, 0, none⟩ = some (.bool sl3) := OB3.2.cell 0
    have y3_1 : wr.cell? ⟨w.heap.size + 1, 1, none⟩ = some (.slice P3 Pn3 Pc3) := OB3.2.cell 1
    have y3_2 : wr.cell? ⟨w.heap.size + 1, 2, none⟩ = some (.slice R3 Rn3 Rc3) := OB3.2.cell 2
    have y3_3 : wr.cell? ⟨w.heap.size + 1, 3, none⟩ = some (.bool sh3) := OB3.2.cell 3
    have y3_4 : wr.cell? ⟨w.heap.size + 1, 4, none⟩ = some (.slice U3 Un3 Uc3) := OB3.2.cell 4
    have y3_5 : wr.cell? ⟨w.heap.size + 1, 5, none⟩ = some (.slice V3 Vn3 Vc3) := OB3.2.cell 5
    have y3_f0 := OB3.2.frozen 0
    have y3_f1 := OB3.2.frozen 1
    have y3_f2 := OB3.2.frozen 2
    have y3_f3 := OB3.2.frozen 3
    have y3_f4 := OB3.2.frozen 4
    have y3_f5 := OB3.2.frozen 5
    go_wp2_with fail
    refine (scont_any _ _ _ lo' hi' lo L I3 (IsR.fld IL2) (by omega)).mono ?_
    rintro e w1 ⟨rfl, P1⟩
    rw [HQ1.out]
    clear y2_0 y2_f0 y2_1 y2_f1 y2_2 y2_f2 y2_3 y2_f3 y2_4 y2_f4 y2_5 y2_f5
    clear y3_0 y3_f0 y3_1 y3_f1 y3_2 y3_f2 y3_3 y3_f3 y3_4 y3_f4 y3_5 y3_f5
    replace OB2 := And.intro OB2.1 (OB2.2.on P1)
    replace OB3 := And.intro OB3.1 (OB3.2.on P1)
    replace B := B.trans P1
    have y2_0 : w1.cell? ⟨w.heap.size, 0, none⟩ = some (.bool sl2) := OB2.2.cell 0
    have y2_1 : w1.cell? ⟨w.heap.size, 1, none⟩ = some (.slice P2 Pn2 Pc2) := OB2.2.cell 1
    have y2_2 : w1.cell? ⟨w.heap.size, 2, none⟩ = some (.slice R2 Rn2 Rc2) := OB2.2.cell 2
    have y2_3 : w1.cell? ⟨w.heap.size, 3, none⟩ = some (.bool sh2) := OB2.2.cell 3
    have y2_4 : w1.cell? ⟨w.heap.size, 4, none⟩ = some (.slice U2 Un2 Uc2) := OB2.2.cell 4
    have y2_5 : w1.cell? ⟨w.heap.size, 5, none⟩ = some (.slice V2 Vn2 Vc2) := OB2.2.cell 5
    have y2_f0 := OB2.2.frozen 0
    have y2_f1 := OB2.2.frozen 1
    have y2_f2 := OB2.2.frozen 2
    have y2_f3 := OB2.2.frozen 3
    have y2_f4 := OB2.2.frozen 4
    have y2_f5 := OB2.2.frozen 5
    have y3_0 : w1.cell? ⟨w.heap.size + 1, 0, none⟩ = some (.bool sl3) := OB3.2.cell 0
    have y3_1 : w1.cell? ⟨w.heap.size + 1, 1, none⟩ = some (.slice P3 Pn3 Pc3) := OB3.2.cell 1
    have y3_2 : w1.cell? ⟨w.heap.size + 1, 2, none⟩ = some (.slice R3 Rn3 Rc3) := OB3.2.cell 2
    have y3_3 : w1.cell? ⟨w.heap.size + 1, 3, none⟩ = some (.bool sh3) := OB3.2.cell 3
    have y3_4 : w1.cell? ⟨w.heap.size + 1, 4, none⟩ = some (.slice U3 Un3 Uc3) := OB3.2.cell 4
    have y3_5 : w1.cell? ⟨w.heap.size + 1, 5, none⟩ = some (.slice V3 Vn3 Vc3) := OB3.2.cell 5
    have y3_f0 := OB3.2.frozen 0
    have y3_f1 := OB3.2.frozen 1
    have y3_f2 := OB3.2.frozen 2
    have y3_f3 := OB3.2.frozen 3
    have y3_f4 := OB3.2.frozen 4
    have y3_f5 := OB3.2.frozen 5
    cases q1
    · go_wp2
      go_ret
      exact ⟨rfl, B⟩
    · go_wp2_with fail
      refine (scont_any _ _ _ lo' hi' hi L (I3.on P1) (IsR.fld (IH2.on P1)) (by omega)).mono ?_
      rintro e w2 ⟨rfl, P2⟩
      rw [HQ2.out]
      go_wp2
      go_ret
      exact ⟨by simp, B.trans P2⟩
set_option maxRecDepth 100000 in
set_option maxHeartbeats 1600000 in
theorem spwidth_any (w : World) (v : Value) (lo hi : Rat) (L : Nat) (h : Sp w v lo hi L) (hL2 : 2 ≤ L) (hL : L ≤ 400) :
    Calls Tryz.prog 18 #[v] w (RatPost w (hi - lo) (L + L + 1)) := by
  obtain ⟨ba0, Aa0, na0, ca0, Ba0, ma0, oa0, bb0, Ab0, nb0, cb0, Bb0, mb0, ob0, rfl⟩ := h.form
  have B : On w ((w.alloc (.cells #[.bool ba0, .slice Aa0 na0 ca0, .slice Ba0 ma0 oa0, .bool bb0, .slice Ab0 nb0 cb0, .slice Bb0 mb0 ob0] 26)).alloc (.cells #[.bool false, .slice none 0 0, .slice none 0 0] 24)) := On.alloc (On.alloc (On.refl w) _) _
  have OB1 : w.heap.size ≤ w.heap.size ∧ Own ((w.alloc (.cells #[.bool ba0, .slice Aa0 na0 ca0, .slice Ba0 ma0 oa0, .bool bb0, .slice Ab0 nb0 cb0, .slice Bb0 mb0 ob0] 26)).alloc (.cells #[.bool false, .slice none 0 0, .slice none 0 0] 24)) (w.heap.size) 26 #[.bool ba0, .slice Aa0 na0 ca0, .slice Ba0 ma0 oa0, .bool bb0, .slice Ab0 nb0 cb0, .slice Bb0 mb0 ob0] := ⟨by omega, ((Own.at_ w (w.heap.size) (by simp) 26 #[.bool ba0, .slice Aa0 na0 ca0, .slice Ba0 ma0 oa0, .bool bb0, .slice Ab0 nb0 cb0, .slice Bb0 mb0 ob0]).alloc (.cells #[.bool false, .slice none 0 0, .slice none 0 0] 24))⟩
  have OB2 : w.heap.size ≤ w.heap.size + 1 ∧ Own ((w.alloc (.cells #[.bool ba0, .slice Aa0 na0 ca0, .slice Ba0 ma0 oa0, .bool bb0, .slice Ab0 nb0 cb0, .slice Bb0 mb0 ob0] 26)).alloc (.cells #[.bool false, .slice none 0 0, .slice none 0 0] 24)) (w.heap.size + 1) 24 #[.bool false, .slice none 0 0, .slice none 0 0] := ⟨by omega, (Own.at_ (w.alloc (.cells #[.bool ba0, .slice Aa0 na0 ca0, .slice Ba0 ma0 oa0, .bool bb0, .slice Ab0 nb0 cb0, .slice Bb0 mb0 ob0] 26)) (w.heap.size + 1) (by simp) 24 #[.bool false, .slice none 0 0, .slice none 0 0])⟩
  go_enter Tryz.func18, Tryz.ntmps18
  go_wp2_with fail
  refine (svalue_any _ _ _ _ L (h.on B) (by omega)).mono ?_
  rintro e w1 ⟨u, rfl, I, P1⟩
  clear h
  obtain ⟨sl1, P1_, Pn1, Pc1, R1_, Rn1, Rc1, sh1, U1, Un1, Uc1, V1, Vn1, Vc1, rfl, IL, IH⟩ := id I
  replace OB1 := And.intro OB1.1 (OB1.2.on P1)
  replace OB2 := And.intro OB2.1 (OB2.2.on P1)
  replace B := B.trans P1
  have y1_0 : w1.cell? ⟨w.heap.size, 0, none⟩ = some (.bool ba0) := OB1.2.cell 0
  have y1_1 : w1.cell? ⟨w.heap.size, 1, none⟩ = some (.slice Aa0 na0 ca0) := OB1.2.cell 1
  have y1_2 : w1.cell? ⟨w.heap.size, 2, none⟩ = some (.slice Ba0 ma0 oa0) := OB1.2.cell 2
  have y1_3 : w1.cell? ⟨w.heap.size, 3, none⟩ = some (.bool bb0) := OB1.2.cell 3
  have y1_4 : w1.cell? ⟨w.heap.size, 4, none⟩ = some (.slice Ab0 nb0 cb0) := OB1.2.cell 4
  have y1_5 : w1.cell? ⟨w.heap.size, 5, none⟩ = some (.slice Bb0 mb0 ob0) := OB1.2.cell 5
  have y1_f0 := OB1.2.frozen 0
  have y1_f1 := OB1.2.frozen 1
  have y1_f2 := OB1.2.frozen 2
  have y1_f3 := OB1.2.frozen 3
  have y1_f4 := OB1.2.frozen 4
  have y1_f5 := OB1.2.frozen 5
  have oo := only6 (w := w1) (g := w.heap.size) (.bool sl1) (.slice P1_ Pn1 Pc1) (.slice R1_ Rn1 Rc1) (.bool sh1) (.slice U1 Un1 Uc1) (.slice V1 Vn1 Vc1)
  have hk1 := Kept.only oo OB1.2 (noWords_S _ _ _ _ _ _ _ _ _ _ _ _ _ _)
  replace IL := IL.kept hk1
  replace IH := IH.kept hk1
  clear I hk1
  have hon1 := on6 (g := w.heap.size) B (by omega) (.bool sl1) (.slice P1_ Pn1 Pc1) (.slice R1_ Rn1 Rc1) (.bool sh1) (.slice U1 Un1 Uc1) (.slice V1 Vn1 Vc1)
  have ON1 := (((((OB1.2.set_ 0 (.bool sl1)).set_ 1 (.slice P1_ Pn1 Pc1)).set_ 2 (.slice R1_ Rn1 Rc1)).set_ 3 (.bool sh1)).set_ 4 (.slice U1 Un1 Uc1)).set_ 5 (.slice V1 Vn1 Vc1)
  have ON2 := OB2.2.only oo (by omega)
  go_wp2_with fail
  obtain ⟨W, hW⟩ : ∃ W, (((((((w1.setCell ⟨w.heap.size, 0, none⟩ (.bool sl1)).setCell ⟨w.heap.size, 1, none⟩ (.slice P1_ Pn1 Pc1)).setCell ⟨w.heap.size, 2, none⟩ (.slice R1_ Rn1 Rc1)).setCell ⟨w.heap.size, 3, none⟩ (.bool sh1)).setCell ⟨w.heap.size, 4, none⟩ (.slice U1 Un1 Uc1)).setCell ⟨w.heap.size, 5, none⟩ (.slice V1 Vn1 Vc1))) = W := ⟨_, rfl⟩
  rw [hW] at hon1 IL IH ON1 ON2 ⊢
  have OB1' : w.heap.size ≤ w.heap.size ∧ Own W w.heap.size 26 #[.bool sl1, .slice P1_ Pn1 Pc1, .slice R1_ Rn1 Rc1, .bool sh1, .slice U1 Un1 Uc1, .slice V1 Vn1 Vc1] := ⟨Nat.le_refl _, ON1⟩
  have OB2' : w.heap.size ≤ w.heap.size + 1 ∧ Own W (w.heap.size + 1) 24 #[.bool false, .slice none 0 0, .slice none 0 0] := ⟨by omega, ON2⟩
  clear y1_0 y1_f0 y1_1 y1_f1 y1_2 y1_f2 y1_3 y1_f3 y1_4 y1_f4 y1_5 y1_f5
  clear oo B OB1 OB2 ON1 ON2 hW P1
  have OB1 := OB1'
  have OB2 := OB2'
  have B := hon1
  clear OB1' OB2' hon1
  refine (subr_any _ _ _ hi lo L (IsR.fld IH) (IsR.fld IL) hL2 (by omega)).mono ?_
  rintro e w3 ⟨u3, rfl, J, P3⟩
  obtain ⟨s2, P2, Pn2, Pc2, R2, Rn2, Rc2, rfl⟩ := isR_form J
  replace OB2 := And.intro OB2.1 (OB2.2.on P3)
  replace B := B.trans P3
  have c2_0 : w3.cell? ⟨w.heap.size + 1, 0, none⟩ = some (.bool false) := OB2.2.cell 0
  have c2_1 : w3.cell? ⟨w.heap.size + 1, 1, none⟩ = some (.slice none 0 0) := OB2.2.cell 1
  have c2_2 : w3.cell? ⟨w.heap.size + 1, 2, none⟩ = some (.slice none 0 0) := OB2.2.cell 2
  have c2_f0 := OB2.2.frozen 0
  have c2_f1 := OB2.2.frozen 1
  have c2_f2 := OB2.2.frozen 2
  have J2 := J.kept (Kept.only (only3 (w := w3) (g := w.heap.size + 1) (.bool s2) (.slice P2 Pn2 Pc2) (.slice R2 Rn2 Rc2)) OB2.2 (noWords_R _ _ _ _ _ _ _))
  have hon := on3 (g := w.heap.size + 1) B (by omega) (.bool s2) (.slice P2 Pn2 Pc2) (.slice R2 Rn2 Rc2)
  go_wp2
  exact bodyPost_ret (v := .agg #[.bool s2, .slice P2 Pn2 Pc2, .slice R2 Rn2 Rc2]) (by simp [results, Tryz.results18, go_sem, c2_0, c2_1, c2_2]) rfl ⟨_, rfl, J2, hon⟩
/-- the text of the span lo .. hi -/
def STx (lo hi : Rat) (bs : List Nat) : Prop := ∃ a b, RTx lo a ∧ RTx hi b ∧ bs = a ++ [46, 46] ++ b
theorem STx.unique {lo hi : Rat} {a b : List Nat} (h : STx lo hi a) (k : STx lo hi b) : a = b := by
  obtain ⟨a1, a2, h1, h2, rfl⟩ := h
  obtain ⟨c1, c2, k1, k2, rfl⟩ := k
  rw [h1.unique k1, h2.unique k2]
theorem rtx_lenL {w : World} {v : Value} {r : Rat} {L : Nat} {bs : List Nat} (h : Fld w v r L) (k : RTx r bs) (hL1 : 1 ≤ L) (hL : L ≤ 400) : bs.length ≤ 9000 := by
  obtain ⟨s, A, n, c, A', n', c', xs, ys, rfl, h1, h2, h3, h4, h5⟩ := h
  obtain ⟨b1, b2, t1, t2, rfl⟩ := k
  have hb : r.num.natAbs < BB ^ L ∧ r.den < BB ^ L := by
    have p1 := val_lt h1.ok
    have p2 := val_lt h2.ok
    rw [h1.len] at p1
    rw [h2.len] at p2
    have q1 : BB ^ n ≤ BB ^ L := Nat.pow_le_pow_right BB_pos h3
    have q2 : BB ^ n' ≤ BB ^ L := Nat.pow_le_pow_right BB_pos h4
    by_cases hf : fitB s xs ys = true ∧ 0 < xs.length
    · obtain ⟨_, _, e1, e2, e3⟩ := fit_parts hf.1 hf.2
      rw [raw_fit hf.1 hf.2] at h5
      rw [← h5, fr_abs s _ _ e2, fr_den s _ _ e2, e3, Nat.div_one, Nat.div_one]
      exact ⟨Nat.lt_of_lt_of_le p1 q1, Nat.lt_of_lt_of_le p2 q2⟩
    · have hr : r = 0 := by
        rw [← h5]
        cases hq : fitB s xs ys
        · exact raw_no hq
        · have : xs = [] := List.eq_nil_of_length_eq_zero (by
            rcases Nat.eq_zero_or_pos xs.length with h | h
            · exact h
            · exact absurd ⟨hq, h⟩ hf)
          rw [this]; exact raw_nil _ _
      rw [hr]
      have hp : BB ^ 1 ≤ BB ^ L := Nat.pow_le_pow_right BB_pos hL1
      have hp2 : 1 < BB ^ 1 := by decide
      exact ⟨by show 0 < _; omega, by show 1 < _; omega⟩
  have l1 := text_size t1 (by omega) hb.1
  have l2 := text_size t2 (by omega) hb.2
  have l3 : (sgt r).length ≤ 1 := by unfold sgt; split <;> simp
  rw [List.length_append, List.length_append]
  split
  · simp; omega
  · simp; omega
theorem fld_text2 (w : World) (v : Value) (r : Rat) (L : Nat) (h : Fld w v r L) (hL1 : 1 ≤ L) (hL : L ≤ 5000) : Calls Tryz.prog 57 #[v] w (TextR w r) := by
  obtain ⟨s, A, n, c, A', n', c', xs, ys, rfl, h1, h2, h3, h4, rfl⟩ := h
  exact textr_any w s A A' n c n' c' L xs ys h1 h2 h3 h4 hL1 hL
theorem rtx_exists (r : Rat) : ∃ bs, RTx r bs := by
  obtain ⟨b1, h1⟩ := exists_text r.num.natAbs
  obtain ⟨b2, h2⟩ := exists_text r.den
  exact ⟨_, b1, b2, h1, h2, rfl⟩
set_option maxRecDepth 100000 in
set_option maxHeartbeats 1600000 in
theorem sptext_any (w : World) (v : Value) (lo hi : Rat) (L : Nat) (h : Sp w v lo hi L) (hL2 : 2 ≤ L) (hL : L ≤ 400) :
    Calls Tryz.prog 20 #[v] w fun e w' => ∃ bs, e = .returned (.string (str bs)) ∧ STx lo hi bs ∧ On w w' := by
  obtain ⟨ba0, Aa0, na0, ca0, Ba0, ma0, oa0, bb0, Ab0, nb0, cb0, Bb0, mb0, ob0, rfl⟩ := h.form
  have B : On w (w.alloc (.cells #[.bool ba0, .slice Aa0 na0 ca0, .slice Ba0 ma0 oa0, .bool bb0, .slice Ab0 nb0 cb0, .slice Bb0 mb0 ob0] 26)) := On.alloc (On.refl w) _
  have OB1 : w.heap.size ≤ w.heap.size ∧ Own (w.alloc (.cells #[.bool ba0, .slice Aa0 na0 ca0, .slice Ba0 ma0 oa0, .bool bb0, .slice Ab0 nb0 cb0, .slice Bb0 mb0 ob0] 26)) (w.heap.size) 26 #[.bool ba0, .slice Aa0 na0 ca0, .slice Ba0 ma0 oa0, .bool bb0, .slice Ab0 nb0 cb0, .slice Bb0 mb0 ob0] := ⟨by omega, (Own.at_ w (w.heap.size) (by simp) 26 #[.bool ba0, .slice Aa0 na0 ca0, .slice Ba0 ma0 oa0, .bool bb0, .slice Ab0 nb0 cb0, .slice Bb0 mb0 ob0])⟩
  go_enter Tryz.func20, Tryz.ntmps20
  go_wp2_with fail
  refine (svalue_any _ _ _ _ L (h.on B) (by omega)).mono ?_
  rintro e w1 ⟨u, rfl, I, P1⟩
  clear h
  obtain ⟨sl1, P1_, Pn1, Pc1, R1_, Rn1, Rc1, sh1, U1, Un1, Uc1, V1, Vn1, Vc1, rfl, IL, IH⟩ := id I
  replace OB1 := And.intro OB1.1 (OB1.2.on P1)
  replace B := B.trans P1
  have y1_0 : w1.cell? ⟨w.heap.size, 0, none⟩ = some (.bool ba0) := OB1.2.cell 0
  have y1_1 : w1.cell? ⟨w.heap.size, 1, none⟩ = some (.slice Aa0 na0 ca0) := OB1.2.cell 1
  have y1_2 : w1.cell? ⟨w.heap.size, 2, none⟩ = some (.slice Ba0 ma0 oa0) := OB1.2.cell 2
  have y1_3 : w1.cell? ⟨w.heap.size, 3, none⟩ = some (.bool bb0) := OB1.2.cell 3
  have y1_4 : w1.cell? ⟨w.heap.size, 4, none⟩ = some (.slice Ab0 nb0 cb0) := OB1.2.cell 4
  have y1_5 : w1.cell? ⟨w.heap.size, 5, none⟩ = some (.slice Bb0 mb0 ob0) := OB1.2.cell 5
  have y1_f0 := OB1.2.frozen 0
  have y1_f1 := OB1.2.frozen 1
  have y1_f2 := OB1.2.frozen 2
  have y1_f3 := OB1.2.frozen 3
  have y1_f4 := OB1.2.frozen 4
  have y1_f5 := OB1.2.frozen 5
  have oo := only6 (w := w1) (g := w.heap.size) (.bool sl1) (.slice P1_ Pn1 Pc1) (.slice R1_ Rn1 Rc1) (.bool sh1) (.slice U1 Un1 Uc1) (.slice V1 Vn1 Vc1)
  have hk1 := Kept.only oo OB1.2 (noWords_S _ _ _ _ _ _ _ _ _ _ _ _ _ _)
  replace IL := IL.kept hk1
  replace IH := IH.kept hk1
  clear I hk1
  have hon1 := on6 (g := w.heap.size) B (by omega) (.bool sl1) (.slice P1_ Pn1 Pc1) (.slice R1_ Rn1 Rc1) (.bool sh1) (.slice U1 Un1 Uc1) (.slice V1 Vn1 Vc1)
  have ON1 := (((((OB1.2.set_ 0 (.bool sl1)).set_ 1 (.slice P1_ Pn1 Pc1)).set_ 2 (.slice R1_ Rn1 Rc1)).set_ 3 (.bool sh1)).set_ 4 (.slice U1 Un1 Uc1)).set_ 5 (.slice V1 Vn1 Vc1)
  go_wp2_with fail
  obtain ⟨W, hW⟩ : ∃ W, (((((((w1.setCell ⟨w.heap.size, 0, none⟩ (.bool sl1)).setCell ⟨w.heap.size, 1, none⟩ (.slice P1_ Pn1 Pc1)).setCell ⟨w.heap.size, 2, none⟩ (.slice R1_ Rn1 Rc1)).setCell ⟨w.heap.size, 3, none⟩ (.bool sh1)).setCell ⟨w.heap.size, 4, none⟩ (.slice U1 Un1 Uc1)).setCell ⟨w.heap.size, 5, none⟩ (.slice V1 Vn1 Vc1))) = W := ⟨_, rfl⟩
  rw [hW] at hon1 IL IH ON1 ⊢
  have OB1' : w.heap.size ≤ w.heap.size ∧ Own W w.heap.size 26 #[.bool sl1, .slice P1_ Pn1 Pc1, .slice R1_ Rn1 Rc1, .bool sh1, .slice U1 Un1 Uc1, .slice V1 Vn1 Vc1] := ⟨Nat.le_refl _, ON1⟩
  clear y1_0 y1_f0 y1_1 y1_f1 y1_2 y1_f2 y1_3 y1_f3 y1_4 y1_f4 y1_5 y1_f5
  clear oo B OB1 ON1 hW P1
  have OB1 := OB1'
  have B := hon1
  clear OB1' hon1
  refine wp_region_facts (by kernel_rfl) w [Fact.eq (.pointer (some ⟨w.heap.size, 0, none⟩)), Fact.eq (.agg #[.bool sl1, .slice P1_ Pn1 Pc1, .slice R1_ Rn1 Rc1]), Fact.strP (fun BS => RTx lo BS ∧ BS.length ≤ 9000), Fact.strP (fun BS => ∃ a, RTx lo a ∧ a.length ≤ 9000 ∧ BS = a ++ [46, 46]), Fact.eq (.pointer (some ⟨w.heap.size, 3, none⟩)), Fact.eq (.agg #[.bool sh1, .slice U1 Un1 Uc1, .slice V1 Vn1 Vc1]), Fact.strP (fun BS => RTx hi BS ∧ BS.length ≤ 9000), Fact.strP (fun BS => STx lo hi BS), Fact.strP (fun BS => STx lo hi BS)] [Fact.any] [⟨9, 1, 26, 9, #[.bool sl1, .slice P1_ Pn1 Pc1, .slice R1_ Rn1 Rc1, .bool sh1, .slice U1 Un1 Uc1, .slice V1 Vn1 Vc1]⟩] [w.heap.size] [none, none, some 2, none, none, some 5, some 6, some 7, some 8, some 9, some 10, some 11, some 12] (by kernel_rfl) (by kernel_rfl) (by kernel_rfl) rfl B ?_ ?_ ?_ ?_ ?_
  · exact ⟨fun _ => ⟨by simp, rfl, OB1⟩, trivial⟩
  · exact .inl ⟨Nat.le_refl _, trivial⟩
  · exact ⟨⟨noWords_S _ _ _ _ _ _ _ _ _ _ _ _ _ _, (.inl (Nat.le_refl _)), (.inl (Nat.le_refl _))⟩, trivial⟩
  · refine ⟨?_, ?_, ?_, ?_, ?_, ?_, ?_, ?_, ?_, trivial⟩
    · exact .inr fun a w hp => ob_yes rfl (ob_fieldS0 (hp.box (k := 0) rfl (Nat.le_refl _) (.inl (Nat.le_refl _)) (by kernel_rfl) rfl).1 rfl)
    · exact .inr fun a w hp => ob_yes rfl (ob_loadLo (hp.fact 0 5 (by kernel_rfl) rfl) (hp.box (k := 0) rfl (Nat.le_refl _) (.inl (Nat.le_refl _)) (by kernel_rfl) rfl).2 rfl)
    · refine .inr fun a w hp => ob_yes rfl ?_
      have h6 : a.tmps.getD 6 undef = .agg #[.bool sl1, .slice P1_ Pn1 Pc1, .slice R1_ Rn1 Rc1] := (hp.fact 1 6 (by kernel_rfl) rfl)
      unfold Does
      go_simp
      refine (fld_text2 _ _ lo L (IsR.fld (IL.kept hp.kept)) (by omega) (by omega)).mono ?_
      rintro e w' ⟨bs, rfl, HT, P8⟩
      exact ⟨_, rfl, P8, bs, rfl, HT, rtx_lenL (IsR.fld IL) HT (by omega) (by omega)⟩
    · refine .inr fun a w hp => ob_yes rfl ?_
      obtain ⟨bs7, e7, h7⟩ : ∃ bs, a.tmps.getD 7 undef = .string (str bs) ∧ RTx lo bs ∧ bs.length ≤ 9000 := (hp.fact 2 7 (by kernel_rfl) rfl)
      have hs7 : (str bs7).size ≤ 9000 := by rw [str_len]; exact h7.2
      have hns : ¬ 9223372036854775807 < (str bs7).size + 2 := by omega
      clear hs7
      unfold Does
      go_simp
      exact ⟨_, rfl, On.refl _, bs7 ++ [46, 46], by rw [← str_app]; rfl, bs7, h7.1, h7.2, rfl⟩
    · exact .inr fun a w hp => ob_yes rfl (ob_fieldS1 (hp.box (k := 0) rfl (Nat.le_refl _) (.inl (Nat.le_refl _)) (by kernel_rfl) rfl).1 rfl)
    · exact .inr fun a w hp => ob_yes rfl (ob_loadHi (hp.fact 4 9 (by kernel_rfl) rfl) (hp.box (k := 0) rfl (Nat.le_refl _) (.inl (Nat.le_refl _)) (by kernel_rfl) rfl).2 rfl)
    · refine .inr fun a w hp => ob_yes rfl ?_
      have h10 : a.tmps.getD 10 undef = .agg #[.bool sh1, .slice U1 Un1 Uc1, .slice V1 Vn1 Vc1] := (hp.fact 5 10 (by kernel_rfl) rfl)
      unfold Does
      go_simp
      refine (fld_text2 _ _ hi L (IsR.fld (IH.kept hp.kept)) (by omega) (by omega)).mono ?_
      rintro e w' ⟨bs, rfl, HT, P8⟩
      exact ⟨_, rfl, P8, bs, rfl, HT, rtx_lenL (IsR.fld IH) HT (by omega) (by omega)⟩
    · refine .inr fun a w hp => ob_yes rfl ?_
      obtain ⟨bs8, e8, h8⟩ : ∃ bs, a.tmps.getD 8 undef = .string (str bs) ∧ ∃ a, RTx lo a ∧ a.length ≤ 9000 ∧ bs = a ++ [46, 46] := (hp.fact 3 8 (by kernel_rfl) rfl)
      obtain ⟨bs11, e11, h11⟩ : ∃ bs, a.tmps.getD 11 undef = .string (str bs) ∧ RTx hi bs ∧ bs.length ≤ 9000 := (hp.fact 6 11 (by kernel_rfl) rfl)
      obtain ⟨a8, q1, q2, q3⟩ := h8
      subst q3
      have hs8 : (str (a8 ++ [46, 46])).size ≤ 9002 := by rw [str_len]; simp; omega
      have hs11 : (str bs11).size ≤ 9000 := by rw [str_len]; exact h11.2
      have hns : ¬ 9223372036854775807 < (str (a8 ++ [46, 46])).size + (str bs11).size := by omega
      clear hs8 hs11
      unfold Does
      go_simp
      exact ⟨_, rfl, On.refl _, a8 ++ [46, 46] ++ bs11, by rw [← str_app (a8 ++ [46, 46]) bs11], a8, bs11, q1, h11.1, rfl⟩
    · exact .inr fun a w hp => ob_yes rfl (ob_assign (hp.fact 7 12 (by kernel_rfl) rfl))
  · intro f wr hon hk hf hb hap
    obtain ⟨q0, qz⟩ := hb
    clear qz
    have O1 : Own wr (w.heap.size) 26 #[.bool sl1, .slice P1_ Pn1 Pc1, .slice R1_ Rn1 Rc1, .bool sh1, .slice U1 Un1 Uc1, .slice V1 Vn1 Vc1] := q0
    have c1_0 : wr.cell? ⟨w.heap.size, 0, none⟩ = some (.bool sl1) := O1.cell 0
    have z1_0 := O1.frozen 0
    have c1_1 : wr.cell? ⟨w.heap.size, 1, none⟩ = some (.slice P1_ Pn1 Pc1) := O1.cell 1
    have z1_1 := O1.frozen 1
    have c1_2 : wr.cell? ⟨w.heap.size, 2, none⟩ = some (.slice R1_ Rn1 Rc1) := O1.cell 2
    have z1_2 := O1.frozen 2
    have c1_3 : wr.cell? ⟨w.heap.size, 3, none⟩ = some (.bool sh1) := O1.cell 3
    have z1_3 := O1.frozen 3
    have c1_4 : wr.cell? ⟨w.heap.size, 4, none⟩ = some (.slice U1 Un1 Uc1) := O1.cell 4
    have z1_4 := O1.frozen 4
    have c1_5 : wr.cell? ⟨w.heap.size, 5, none⟩ = some (.slice V1 Vn1 Vc1) := O1.cell 5
    have z1_5 := O1.frozen 5
    clear q0
    obtain ⟨bs2, e2, h2⟩ : ∃ bs, f 2 = .string (str bs) ∧ STx lo hi bs := hf 8 2 rfl
    clear hf hap
    simp only [fillL, e2]
    clear e2
    go_wp2
    go_ret
    exact ⟨_, rfl, h2, hon⟩
set_option maxRecDepth 100000 in
set_option maxHeartbeats 1600000 in
theorem spmeet_no (w : World) (v v' : Value) (lo hi lo' hi' : Rat) (L : Nat) (h : Sp w v lo hi L) (k : Sp w v' lo' hi' L) (hL2 : 2 ≤ L) (hL : L ≤ 400) (hc : rmin hi hi' < rmax lo lo') :
    Calls Tryz.prog 36 #[v, v'] w (SpPost2 w 0 0 2 (.iface 51 (.int .i64 17))) := by
  have hz := (rsg_pos_iff (rmax lo lo') (rmin hi hi')).2 hc
  obtain ⟨z, ez⟩ : ∃ x, rsg (rmax lo lo' - rmin hi hi') = x := ⟨_, rfl⟩
  rw [ez] at hz
  have HZ := Lib.hid ez
  clear ez hc
  obtain ⟨ba0, Aa0, na0, ca0, Ba0, ma0, oa0, bb0, Ab0, nb0, cb0, Bb0, mb0, ob0, rfl⟩ := h.form
  obtain ⟨ba1, Aa1, na1, ca1, Ba1, ma1, oa1, bb1, Ab1, nb1, cb1, Bb1, mb1, ob1, rfl⟩ := k.form
  have B : On w (((w.alloc (.cells #[.bool ba0, .slice Aa0 na0 ca0, .slice Ba0 ma0 oa0, .bool bb0, .slice Ab0 nb0 cb0, .slice Bb0 mb0 ob0] 26)).alloc (.cells #[.bool ba1, .slice Aa1 na1 ca1, .slice Ba1 ma1 oa1, .bool bb1, .slice Ab1 nb1 cb1, .slice Bb1 mb1 ob1] 26)).alloc (.cells #[.bool false, .slice none 0 0, .slice none 0 0, .bool false, .slice none 0 0, .slice none 0 0] 26)) := On.alloc (On.alloc (On.alloc (On.refl w) _) _) _
  have OB2 : w.heap.size ≤ w.heap.size ∧ Own (((w.alloc (.cells #[.bool ba0, .slice Aa0 na0 ca0, .slice Ba0 ma0 oa0, .bool bb0, .slice Ab0 nb0 cb0, .slice Bb0 mb0 ob0] 26)).alloc (.cells #[.bool ba1, .slice Aa1 na1 ca1, .slice Ba1 ma1 oa1, .bool bb1, .slice Ab1 nb1 cb1, .slice Bb1 mb1 ob1] 26)).alloc (.cells #[.bool false, .slice none 0 0, .slice none 0 0, .bool false, .slice none 0 0, .slice none 0 0] 26)) (w.heap.size) 26 #[.bool ba0, .slice Aa0 na0 ca0, .slice Ba0 ma0 oa0, .bool bb0, .slice Ab0 nb0 cb0, .slice Bb0 mb0 ob0] := ⟨by omega, (((Own.at_ w (w.heap.size) (by simp) 26 #[.bool ba0, .slice Aa0 na0 ca0, .slice Ba0 ma0 oa0, .bool bb0, .slice Ab0 nb0 cb0, .slice Bb0 mb0 ob0]).alloc (.cells #[.bool ba1, .slice Aa1 na1 ca1, .slice Ba1 ma1 oa1, .bool bb1, .slice Ab1 nb1 cb1, .slice Bb1 mb1 ob1] 26)).alloc (.cells #[.bool false, .slice none 0 0, .slice none 0 0, .bool false, .slice none 0 0, .slice none 0 0] 26))⟩
  have OB3 : w.heap.size ≤ w.heap.size + 1 ∧ Own (((w.alloc (.cells #[.bool ba0, .slice Aa0 na0 ca0, .slice Ba0 ma0 oa0, .bool bb0, .slice Ab0 nb0 cb0, .slice Bb0 mb0 ob0] 26)).alloc (.cells #[.bool ba1, .slice Aa1 na1 ca1, .slice Ba1 ma1 oa1, .bool bb1, .slice Ab1 nb1 cb1, .slice Bb1 mb1 ob1] 26)).alloc (.cells #[.bool false, .slice none 0 0, .slice none 0 0, .bool false, .slice none 0 0, .slice none 0 0] 26)) (w.heap.size + 1) 26 #[.bool ba1, .slice Aa1 na1 ca1, .slice Ba1 ma1 oa1, .bool bb1, .slice Ab1 nb1 cb1, .slice Bb1 mb1 ob1] := ⟨by omega, ((Own.at_ (w.alloc (.cells #[.bool ba0, .slice Aa0 na0 ca0, .slice Ba0 ma0 oa0, .bool bb0, .slice Ab0 nb0 cb0, .slice Bb0 mb0 ob0] 26)) (w.heap.size + 1) (by simp) 26 #[.bool ba1, .slice Aa1 na1 ca1, .slice Ba1 ma1 oa1, .bool bb1, .slice Ab1 nb1 cb1, .slice Bb1 mb1 ob1]).alloc (.cells #[.bool false, .slice none 0 0, .slice none 0 0, .bool false, .slice none 0 0, .slice none 0 0] 26))⟩
  have OB4 : w.heap.size ≤ w.heap.size + 2 ∧ Own (((w.alloc (.cells #[.bool ba0, .slice Aa0 na0 ca0, .slice Ba0 ma0 oa0, .bool bb0, .slice Ab0 nb0 cb0, .slice Bb0 mb0 ob0] 26)).alloc (.cells #[.bool ba1, .slice Aa1 na1 ca1, .slice Ba1 ma1 oa1, .bool bb1, .slice Ab1 nb1 cb1, .slice Bb1 mb1 ob1] 26)).alloc (.cells #[.bool false, .slice none 0 0, .slice none 0 0, .bool false, .slice none 0 0, .slice none 0 0] 26)) (w.heap.size + 2) 26 #[.bool false, .slice none 0 0, .slice none 0 0, .bool false, .slice none 0 0, .slice none 0 0] := ⟨by omega, (Own.at_ ((w.alloc (.cells #[.bool ba0, .slice Aa0 na0 ca0, .slice Ba0 ma0 oa0, .bool bb0, .slice Ab0 nb0 cb0, .slice Bb0 mb0 ob0] 26)).alloc (.cells #[.bool ba1, .slice Aa1 na1 ca1, .slice Ba1 ma1 oa1, .bool bb1, .slice Ab1 nb1 cb1, .slice Bb1 mb1 ob1] 26)) (w.heap.size + 2) (by simp) 26 #[.bool false, .slice none 0 0, .slice none 0 0, .bool false, .slice none 0 0, .slice none 0 0])⟩
  go_enter Tryz.func36, Tryz.ntmps36
  go_wp2
  refine wp_region_facts (by kernel_rfl) w [Fact.eq (.agg #[.bool ba0, .slice Aa0 na0 ca0, .slice Ba0 ma0 oa0, .bool bb0, .slice Ab0 nb0 cb0, .slice Bb0 mb0 ob0]), Fact.sp (lo) (hi) (L), Fact.eq (.agg #[.bool ba1, .slice Aa1 na1 ca1, .slice Ba1 ma1 oa1, .bool bb1, .slice Ab1 nb1 cb1, .slice Bb1 mb1 ob1]), Fact.sp (lo') (hi') (L), Fact.any, Fact.any] [Fact.sp (lo) (hi) (L), Fact.sp (lo') (hi') (L), Fact.any] [⟨6, 2, 26, 4, #[.bool ba0, .slice Aa0 na0 ca0, .slice Ba0 ma0 oa0, .bool bb0, .slice Ab0 nb0 cb0, .slice Bb0 mb0 ob0]⟩, ⟨6, 3, 26, 5, #[.bool ba1, .slice Aa1 na1 ca1, .slice Ba1 ma1 oa1, .bool bb1, .slice Ab1 nb1 cb1, .slice Bb1 mb1 ob1]⟩, ⟨6, 4, 26, 6, #[.bool false, .slice none 0 0, .slice none 0 0, .bool false, .slice none 0 0, .slice none 0 0]⟩] [w.heap.size, w.heap.size + 1, w.heap.size + 2] [none, none, none, none, none, none, none, some 7, some 8, some 9, some 10, none, none, none, none, none, none, none, none, none, none, none, none, none, none, none, none, none, none, none, none] (by kernel_rfl) (by kernel_rfl) (by kernel_rfl) rfl B ?_ ?_ ?_ ?_ ?_
  · exact ⟨fun _ => ⟨by simp, rfl, OB2⟩, fun _ => ⟨by simp, rfl, OB3⟩, fun _ => ⟨by simp, rfl, OB4⟩, trivial⟩
  · exact .inr (by simp <;> omega)
  · exact ⟨⟨noWords_S _ _ _ _ _ _ _ _ _ _ _ _ _ _, (.inl (Nat.le_refl _)), (.inr (store_obS (j := 1) (noWords_S _ _ _ _ _ _ _ _ _ _ _ _ _ _) rfl rfl rfl (by kernel_rfl) rfl rfl rfl))⟩, ⟨noWords_S _ _ _ _ _ _ _ _ _ _ _ _ _ _, (.inl (Nat.le_refl _)), (.inr (store_obS (j := 3) (noWords_S _ _ _ _ _ _ _ _ _ _ _ _ _ _) rfl rfl rfl (by kernel_rfl) rfl rfl rfl))⟩, ⟨noWords_S _ _ _ _ _ _ _ _ _ _ _ _ _ _, (.inl (Nat.le_refl _)), (.inl (Nat.le_refl _))⟩, trivial⟩
  · refine ⟨?_, ?_, ?_, ?_, ?_, ?_, trivial⟩
    · exact .inr fun a w hp => ob_yes rfl (ob_loadSp (hp.box (k := 0) rfl (Nat.le_refl _) (.inr (.inl (by kernel_rfl))) (by kernel_rfl) rfl).1 (hp.box (k := 0) rfl (Nat.le_refl _) (.inr (.inl (by kernel_rfl))) (by kernel_rfl) rfl).2 rfl)
    · refine .inr fun a w hp => ob_yes rfl ?_
      have h7 : a.tmps.getD 7 undef = .agg #[.bool ba0, .slice Aa0 na0 ca0, .slice Ba0 ma0 oa0, .bool bb0, .slice Ab0 nb0 cb0, .slice Bb0 mb0 ob0] := (hp.fact 0 7 (by kernel_rfl) rfl)
      unfold Does
      go_simp
      refine (svalue_any _ _ _ _ L (h.on hp.on) (by omega)).mono ?_
      rintro e w' ⟨u, rfl, I8, P8⟩
      exact ⟨_, rfl, P8, I8⟩
    · exact .inr fun a w hp => ob_yes rfl (ob_loadSp (hp.box (k := 1) rfl (Nat.le_refl _) (.inr (.inl (by kernel_rfl))) (by kernel_rfl) rfl).1 (hp.box (k := 1) rfl (Nat.le_refl _) (.inr (.inl (by kernel_rfl))) (by kernel_rfl) rfl).2 rfl)
    · refine .inr fun a w hp => ob_yes rfl ?_
      have h9 : a.tmps.getD 9 undef = .agg #[.bool ba1, .slice Aa1 na1 ca1, .slice Ba1 ma1 oa1, .bool bb1, .slice Ab1 nb1 cb1, .slice Bb1 mb1 ob1] := (hp.fact 2 9 (by kernel_rfl) rfl)
      unfold Does
      go_simp
      refine (svalue_any _ _ _ _ L (k.on hp.on) (by omega)).mono ?_
      rintro e w' ⟨u, rfl, I8, P8⟩
      exact ⟨_, rfl, P8, I8⟩
    · exact .inl rfl
    · exact .inl rfl
  · intro f wr hon hk hf hb hap
    obtain ⟨q0, q1, q2, qz⟩ := hb
    clear qz
    obtain ⟨cur2, O2, I2⟩ : ∃ cur, Own wr (w.heap.size) 26 cur ∧ IsS wr (.agg cur) (lo) (hi) (L) := q0
    obtain ⟨sl2, P2, Pn2, Pc2, R2, Rn2, Rc2, sh2, U2, Un2, Uc2, V2, Vn2, Vc2, hz2, IL2, IH2⟩ := id I2
    injection hz2 with hz2
    subst hz2
    have c2_0 : wr.cell? ⟨w.heap.size, 0, none⟩ = some (.bool sl2) := O2.cell 0
    have z2_0 := O2.frozen 0
    have c2_1 : wr.cell? ⟨w.heap.size, 1, none⟩ = some (.slice P2 Pn2 Pc2) := O2.cell 1
    have z2_1 := O2.frozen 1
    have c2_2 : wr.cell? ⟨w.heap.size, 2, none⟩ = some (.slice R2 Rn2 Rc2) := O2.cell 2
    have z2_2 := O2.frozen 2
    have c2_3 : wr.cell? ⟨w.heap.size, 3, none⟩ = some (.bool sh2) := O2.cell 3
    have z2_3 := O2.frozen 3
    have c2_4 : wr.cell? ⟨w.heap.size, 4, none⟩ = some (.slice U2 Un2 Uc2) := O2.cell 4
    have z2_4 := O2.frozen 4
    have c2_5 : wr.cell? ⟨w.heap.size, 5, none⟩ = some (.slice V2 Vn2 Vc2) := O2.cell 5
    have z2_5 := O2.frozen 5
    obtain ⟨cur3, O3, I3⟩ : ∃ cur, Own wr (w.heap.size + 1) 26 cur ∧ IsS wr (.agg cur) (lo') (hi') (L) := q1
    obtain ⟨sl3, P3, Pn3, Pc3, R3, Rn3, Rc3, sh3, U3, Un3, Uc3, V3, Vn3, Vc3, hz3, IL3, IH3⟩ := id I3
    injection hz3 with hz3
    subst hz3
    have c3_0 : wr.cell? ⟨w.heap.size + 1, 0, none⟩ = some (.bool sl3) := O3.cell 0
    have z3_0 := O3.frozen 0
    have c3_1 : wr.cell? ⟨w.heap.size + 1, 1, none⟩ = some (.slice P3 Pn3 Pc3) := O3.cell 1
    have z3_1 := O3.frozen 1
    have c3_2 : wr.cell? ⟨w.heap.size + 1, 2, none⟩ = some (.slice R3 Rn3 Rc3) := O3.cell 2
    have z3_2 := O3.frozen 2
    have c3_3 : wr.cell? ⟨w.heap.size + 1, 3, none⟩ = some (.bool sh3) := O3.cell 3
    have z3_3 := O3.frozen 3
    have c3_4 : wr.cell? ⟨w.heap.size + 1, 4, none⟩ = some (.slice U3 Un3 Uc3) := O3.cell 4
    have z3_4 := O3.frozen 4
    have c3_5 : wr.cell? ⟨w.heap.size + 1, 5, none⟩ = some (.slice V3 Vn3 Vc3) := O3.cell 5
    have z3_5 := O3.frozen 5
    have O4 : Own wr (w.heap.size + 2) 26 #[.bool false, .slice none 0 0, .slice none 0 0, .bool false, .slice none 0 0, .slice none 0 0] := q2
    have c4_0 : wr.cell? ⟨w.heap.size + 2, 0, none⟩ = some (.bool false) := O4.cell 0
    have z4_0 := O4.frozen 0
    have c4_1 : wr.cell? ⟨w.heap.size + 2, 1, none⟩ = some (.slice none 0 0) := O4.cell 1
    have z4_1 := O4.frozen 1
    have c4_2 : wr.cell? ⟨w.heap.size + 2, 2, none⟩ = some (.slice none 0 0) := O4.cell 2
    have z4_2 := O4.frozen 2
    have c4_3 : wr.cell? ⟨w.heap.size + 2, 3, none⟩ = some (.bool false) := O4.cell 3
    have z4_3 := O4.frozen 3
    have c4_4 : wr.cell? ⟨w.heap.size + 2, 4, none⟩ = some (.slice none 0 0) := O4.cell 4
    have z4_4 := O4.frozen 4
    have c4_5 : wr.cell? ⟨w.heap.size + 2, 5, none⟩ = some (.slice none 0 0) := O4.cell 5
    have z4_5 := O4.frozen 5
    clear q2
    clear hf hap
    simp only [fillL]
    have OB2 : w.heap.size ≤ w.heap.size ∧ Own wr (w.heap.size) 26 #[.bool sl2, .slice P2 Pn2 Pc2, .slice R2 Rn2 Rc2, .bool sh2, .slice U2 Un2 Uc2, .slice V2 Vn2 Vc2] := ⟨by omega, O2⟩
    clear c2_0 z2_0 c2_1 z2_1 c2_2 z2_2 c2_3 z2_3 c2_4 z2_4 c2_5 z2_5 O2
    have OB3 : w.heap.size ≤ w.heap.size + 1 ∧ Own wr (w.heap.size + 1) 26 #[.bool sl3, .slice P3 Pn3 Pc3, .slice R3 Rn3 Rc3, .bool sh3, .slice U3 Un3 Uc3, .slice V3 Vn3 Vc3] := ⟨by omega, O3⟩
    clear c3_0 z3_0 c3_1 z3_1 c3_2 z3_2 c3_3 z3_3 c3_4 z3_4 c3_5 z3_5 O3
    have OB4 : w.heap.size ≤ w.heap.size + 2 ∧ Own wr (w.heap.size + 2) 26 #[.bool false, .slice none 0 0, .slice none 0 0, .bool false, .slice none 0 0, .slice none 0 0] := ⟨by omega, O4⟩
    clear c4_0 z4_0 c4_1 z4_1 c4_2 z4_2 c4_3 z4_3 c4_4 z4_4 c4_5 z4_5 O4
    clear B
    have B := hon
    clear hon hk h k
    go_wp2
    refine wp_region_facts (by kernel_rfl) w [Fact.eq (.pointer (some ⟨w.heap.size, 0, none⟩)), Fact.eq (.agg #[.bool sl2, .slice P2 Pn2 Pc2, .slice R2 Rn2 Rc2]), Fact.eq (.pointer (some ⟨w.heap.size + 1, 0, none⟩)), Fact.eq (.agg #[.bool sl3, .slice P3 Pn3 Pc3, .slice R3 Rn3 Rc3]), Fact.rat (rmax lo lo') (L), Fact.eq (.pointer (some ⟨w.heap.size, 3, none⟩)), Fact.eq (.agg #[.bool sh2, .slice U2 Un2 Uc2, .slice V2 Vn2 Vc2]), Fact.eq (.pointer (some ⟨w.heap.size + 1, 3, none⟩)), Fact.eq (.agg #[.bool sh3, .slice U3 Un3 Uc3, .slice V3 Vn3 Vc3]), Fact.rat (rmin hi hi') (L), Fact.sp (rmax lo lo') (rmin hi hi') (L), Fact.any, Fact.any] [Fact.any, Fact.any, Fact.any, Fact.sp (rmax lo lo') (rmin hi hi') (L)] [⟨13, 2, 26, 13, #[.bool sl2, .slice P2 Pn2 Pc2, .slice R2 Rn2 Rc2, .bool sh2, .slice U2 Un2 Uc2, .slice V2 Vn2 Vc2]⟩, ⟨13, 3, 26, 13, #[.bool sl3, .slice P3 Pn3 Pc3, .slice R3 Rn3 Rc3, .bool sh3, .slice U3 Un3 Uc3, .slice V3 Vn3 Vc3]⟩, ⟨13, 4, 26, 13, #[.bool false, .slice none 0 0, .slice none 0 0, .bool false, .slice none 0 0, .slice none 0 0]⟩, ⟨11, 6, 26, 12, #[.bool false, .slice none 0 0, .slice none 0 0, .bool false, .slice none 0 0, .slice none 0 0]⟩] [w.heap.size, w.heap.size + 1, w.heap.size + 2] [none, none, none, none, none, none, some 6, none, none, none, none, some 11, some 12, some 13, some 14, some 15, some 16, some 17, some 18, some 19, some 20, some 21, none, none, none, none, none, none, none, none, none] (by kernel_rfl) (by kernel_rfl) (by kernel_rfl) rfl B ?_ ?_ ?_ ?_ ?_
    · exact ⟨fun _ => ⟨by simp, rfl, OB2⟩, fun _ => ⟨by simp, rfl, OB3⟩, fun _ => ⟨by simp, rfl, OB4⟩, fun h => absurd h (by decide), trivial⟩
    · exact .inr (by simp <;> omega)
    · exact ⟨⟨noWords_S _ _ _ _ _ _ _ _ _ _ _ _ _ _, (.inl (Nat.le_refl _)), (.inl (Nat.le_refl _))⟩, ⟨noWords_S _ _ _ _ _ _ _ _ _ _ _ _ _ _, (.inl (Nat.le_refl _)), (.inl (Nat.le_refl _))⟩, ⟨noWords_S _ _ _ _ _ _ _ _ _ _ _ _ _ _, (.inl (Nat.le_refl _)), (.inl (Nat.le_refl _))⟩, ⟨noWords_S _ _ _ _ _ _ _ _ _ _ _ _ _ _, (.inr ⟨fun _ _ => trivial, _, rfl, fun a w => ⟨rfl, do_value run_allocS⟩⟩), (.inr (store_obS (j := 10) (noWords_S _ _ _ _ _ _ _ _ _ _ _ _ _ _) rfl rfl rfl (by kernel_rfl) rfl rfl rfl))⟩, trivial⟩
    · refine ⟨?_, ?_, ?_, ?_, ?_, ?_, ?_, ?_, ?_, ?_, ?_, ?_, ?_, trivial⟩
      · exact .inr fun a w hp => ob_yes rfl (ob_fieldS0 (hp.box (k := 0) rfl (Nat.le_refl _) (.inl (Nat.le_refl _)) (by kernel_rfl) rfl).1 rfl)
      · exact .inr fun a w hp => ob_yes rfl (ob_loadLo (hp.fact 0 11 (by kernel_rfl) rfl) (hp.box (k := 0) rfl (Nat.le_refl _) (.inl (Nat.le_refl _)) (by kernel_rfl) rfl).2 rfl)
      · exact .inr fun a w hp => ob_yes rfl (ob_fieldS0 (hp.box (k := 1) rfl (Nat.le_refl _) (.inl (Nat.le_refl _)) (by kernel_rfl) rfl).1 rfl)
      · exact .inr fun a w hp => ob_yes rfl (ob_loadLo (hp.fact 2 13 (by kernel_rfl) rfl) (hp.box (k := 1) rfl (Nat.le_refl _) (.inl (Nat.le_refl _)) (by kernel_rfl) rfl).2 rfl)
      · refine .inr fun a w hp => ob_yes rfl ?_
        have h12 : a.tmps.getD 12 undef = .agg #[.bool sl2, .slice P2 Pn2 Pc2, .slice R2 Rn2 Rc2] := (hp.fact 1 12 (by kernel_rfl) rfl)
        have h14 : a.tmps.getD 14 undef = .agg #[.bool sl3, .slice P3 Pn3 Pc3, .slice R3 Rn3 Rc3] := (hp.fact 3 14 (by kernel_rfl) rfl)
        unfold Does
        go_simp
        refine (maxr_any _ _ _ _ _ L (IsR.fld (IL2.kept hp.kept)) (IsR.fld (IL3.kept hp.kept)) (by omega)).mono ?_
        rintro e w' ⟨u, rfl, I8, P8⟩
        exact ⟨_, rfl, P8, I8⟩
      · exact .inr fun a w hp => ob_yes rfl (ob_fieldS1 (hp.box (k := 0) rfl (Nat.le_refl _) (.inl (Nat.le_refl _)) (by kernel_rfl) rfl).1 rfl)
      · exact .inr fun a w hp => ob_yes rfl (ob_loadHi (hp.fact 5 16 (by kernel_rfl) rfl) (hp.box (k := 0) rfl (Nat.le_refl _) (.inl (Nat.le_refl _)) (by kernel_rfl) rfl).2 rfl)
      · exact .inr fun a w hp => ob_yes rfl (ob_fieldS1 (hp.box (k := 1) rfl (Nat.le_refl _) (.inl (Nat.le_refl _)) (by kernel_rfl) rfl).1 rfl)
      · exact .inr fun a w hp => ob_yes rfl (ob_loadHi (hp.fact 7 18 (by kernel_rfl) rfl) (hp.box (k := 1) rfl (Nat.le_refl _) (.inl (Nat.le_refl _)) (by kernel_rfl) rfl).2 rfl)
      · refine .inr fun a w hp => ob_yes rfl ?_
        have h17 : a.tmps.getD 17 undef = .agg #[.bool sh2, .slice U2 Un2 Uc2, .slice V2 Vn2 Vc2] := (hp.fact 6 17 (by kernel_rfl) rfl)
        have h19 : a.tmps.getD 19 undef = .agg #[.bool sh3, .slice U3 Un3 Uc3, .slice V3 Vn3 Vc3] := (hp.fact 8 19 (by kernel_rfl) rfl)
        unfold Does
        go_simp
        refine (minr_any _ _ _ _ _ L (IsR.fld (IH2.kept hp.kept)) (IsR.fld (IH3.kept hp.kept)) (by omega)).mono ?_
        rintro e w' ⟨u, rfl, I8, P8⟩
        exact ⟨_, rfl, P8, I8⟩
      · refine .inr fun a w hp => ob_yes rfl ?_
        have h15 : IsR w (a.tmps.getD 15 undef) (rmax lo lo') (L) := (hp.fact 4 15 (by kernel_rfl) rfl)
        obtain ⟨v15, e15⟩ : ∃ v, a.tmps.getD 15 undef = v := ⟨_, rfl⟩
        rw [e15] at h15
        have h20 : IsR w (a.tmps.getD 20 undef) (rmin hi hi') (L) := (hp.fact 9 20 (by kernel_rfl) rfl)
        obtain ⟨v20, e20⟩ : ∃ v, a.tmps.getD 20 undef = v := ⟨_, rfl⟩
        rw [e20] at h20
        exact ob_buildS e15 e20 h15 h20 (fun x hx => hx)
      · exact .inl rfl
      · exact .inl rfl
    · intro f wd hon hk hf hb hap
      obtain ⟨q0, q1, q2, q3, qz⟩ := hb
      clear qz
      have O2 : Own wd (w.heap.size) 26 #[.bool sl2, .slice P2 Pn2 Pc2, .slice R2 Rn2 Rc2, .bool sh2, .slice U2 Un2 Uc2, .slice V2 Vn2 Vc2] := q0
      have c2_0 : wd.cell? ⟨w.heap.size, 0, none⟩ = some (.bool sl2) := O2.cell 0
      have z2_0 := O2.frozen 0
      have c2_1 : wd.cell? ⟨w.heap.size, 1, none⟩ = some (.slice P2 Pn2 Pc2) := O2.cell 1
      have z2_1 := O2.frozen 1
      have c2_2 : wd.cell? ⟨w.heap.size, 2, none⟩ = some (.slice R2 Rn2 Rc2) := O2.cell 2
      have z2_2 := O2.frozen 2
      have c2_3 : wd.cell? ⟨w.heap.size, 3, none⟩ = some (.bool sh2) := O2.cell 3
      have z2_3 := O2.frozen 3
      have c2_4 : wd.cell? ⟨w.heap.size, 4, none⟩ = some (.slice U2 Un2 Uc2) := O2.cell 4
      have z2_4 := O2.frozen 4
      have c2_5 : wd.cell? ⟨w.heap.size, 5, none⟩ = some (.slice V2 Vn2 Vc2) := O2.cell 5
      have z2_5 := O2.frozen 5
      clear q0
      have O3 : Own wd (w.heap.size + 1) 26 #[.bool sl3, .slice P3 Pn3 Pc3, .slice R3 Rn3 Rc3, .bool sh3, .slice U3 Un3 Uc3, .slice V3 Vn3 Vc3] := q1
      have c3_0 : wd.cell? ⟨w.heap.size + 1, 0, none⟩ = some (.bool sl3) := O3.cell 0
      have z3_0 := O3.frozen 0
      have c3_1 : wd.cell? ⟨w.heap.size + 1, 1, none⟩ = some (.slice P3 Pn3 Pc3) := O3.cell 1
      have z3_1 := O3.frozen 1
      have c3_2 : wd.cell? ⟨w.heap.size + 1, 2, none⟩ = some (.slice R3 Rn3 Rc3) := O3.cell 2
      have z3_2 := O3.frozen 2
      have c3_3 : wd.cell? ⟨w.heap.size + 1, 3, none⟩ = some (.bool sh3) := O3.cell 3
      have z3_3 := O3.frozen 3
      have c3_4 : wd.cell? ⟨w.heap.size + 1, 4, none⟩ = some (.slice U3 Un3 Uc3) := O3.cell 4
      have z3_4 := O3.frozen 4
      have c3_5 : wd.cell? ⟨w.heap.size + 1, 5, none⟩ = some (.slice V3 Vn3 Vc3) := O3.cell 5
      have z3_5 := O3.frozen 5
      clear q1
      have O4 : Own wd (w.heap.size + 2) 26 #[.bool false, .slice none 0 0, .slice none 0 0, .bool false, .slice none 0 0, .slice none 0 0] := q2
      have c4_0 : wd.cell? ⟨w.heap.size + 2, 0, none⟩ = some (.bool false) := O4.cell 0
      have z4_0 := O4.frozen 0
      have c4_1 : wd.cell? ⟨w.heap.size + 2, 1, none⟩ = some (.slice none 0 0) := O4.cell 1
      have z4_1 := O4.frozen 1
      have c4_2 : wd.cell? ⟨w.heap.size + 2, 2, none⟩ = some (.slice none 0 0) := O4.cell 2
      have z4_2 := O4.frozen 2
      have c4_3 : wd.cell? ⟨w.heap.size + 2, 3, none⟩ = some (.bool false) := O4.cell 3
      have z4_3 := O4.frozen 3
      have c4_4 : wd.cell? ⟨w.heap.size + 2, 4, none⟩ = some (.slice none 0 0) := O4.cell 4
      have z4_4 := O4.frozen 4
      have c4_5 : wd.cell? ⟨w.heap.size + 2, 5, none⟩ = some (.slice none 0 0) := O4.cell 5
      have z4_5 := O4.frozen 5
      clear q2
      obtain ⟨g6, e6, G6, q3⟩ := q3
      change f 6 = _ at e6
      obtain ⟨cur6, O6, I6⟩ : ∃ cur, Own wd (g6) 26 cur ∧ IsS wd (.agg cur) (rmax lo lo') (rmin hi hi') (L) := q3
      obtain ⟨sl6, P6, Pn6, Pc6, R6, Rn6, Rc6, sh6, U6, Un6, Uc6, V6, Vn6, Vc6, hz6, IL6, IH6⟩ := id I6
      injection hz6 with hz6
      subst hz6
      have c6_0 : wd.cell? ⟨g6, 0, none⟩ = some (.bool sl6) := O6.cell 0
      have z6_0 := O6.frozen 0
      have c6_1 : wd.cell? ⟨g6, 1, none⟩ = some (.slice P6 Pn6 Pc6) := O6.cell 1
      have z6_1 := O6.frozen 1
      have c6_2 : wd.cell? ⟨g6, 2, none⟩ = some (.slice R6 Rn6 Rc6) := O6.cell 2
      have z6_2 := O6.frozen 2
      have c6_3 : wd.cell? ⟨g6, 3, none⟩ = some (.bool sh6) := O6.cell 3
      have z6_3 := O6.frozen 3
      have c6_4 : wd.cell? ⟨g6, 4, none⟩ = some (.slice U6 Un6 Uc6) := O6.cell 4
      have z6_4 := O6.frozen 4
      have c6_5 : wd.cell? ⟨g6, 5, none⟩ = some (.slice V6 Vn6 Vc6) := O6.cell 5
      have z6_5 := O6.frozen 5
      clear hf hap
      simp only [fillL]; simp only [e6]
      clear e6
      have OB6 : w.heap.size ≤ g6 ∧ Own wd g6 26 #[.bool sl6, .slice P6 Pn6 Pc6, .slice R6 Rn6 Rc6, .bool sh6, .slice U6 Un6 Uc6, .slice V6 Vn6 Vc6] := ⟨G6, O6⟩
      have OB4 : w.heap.size ≤ w.heap.size + 2 ∧ Own wd (w.heap.size + 2) 26 #[.bool false, .slice none 0 0, .slice none 0 0, .bool false, .slice none 0 0, .slice none 0 0] := ⟨by omega, O4⟩
      clear c4_0 z4_0 c4_1 z4_1 c4_2 z4_2 c4_3 z4_3 c4_4 z4_4 c4_5 z4_5
      clear c6_0 z6_0 c6_1 z6_1 c6_2 z6_2 c6_3 z6_3 c6_4 z6_4 c6_5 z6_5
      clear B
      have B := hon
      have y6_0 : wd.cell? ⟨g6, 0, none⟩ = some (.bool sl6) := OB6.2.cell 0
      have y6_1 : wd.cell? ⟨g6, 1, none⟩ = some (.slice P6 Pn6 Pc6) := OB6.2.cell 1
      have y6_2 : wd.cell? ⟨g6, 2, none⟩ = some (.slice R6 Rn6 Rc6) := OB6.2.cell 2
      have y6_3 : wd.cell? ⟨g6, 3, none⟩ = some (.bool sh6) := OB6.2.cell 3
      have y6_4 : wd.cell? ⟨g6, 4, none⟩ = some (.slice U6 Un6 Uc6) := OB6.2.cell 4
      have y6_5 : wd.cell? ⟨g6, 5, none⟩ = some (.slice V6 Vn6 Vc6) := OB6.2.cell 5
      have y6_f0 := OB6.2.frozen 0
      have y6_f1 := OB6.2.frozen 1
      have y6_f2 := OB6.2.frozen 2
      have y6_f3 := OB6.2.frozen 3
      have y6_f4 := OB6.2.frozen 4
      have y6_f5 := OB6.2.frozen 5
      go_wp2_with fail
      refine (cmpr_any _ _ _ (rmax lo lo') (rmin hi hi') L (IsR.fld IL6) (IsR.fld IH6) (by omega)).mono ?_
      rintro e w3 ⟨rfl, P3⟩
      rw [HZ.out]
      clear y6_0 y6_f0 y6_1 y6_f1 y6_2 y6_f2 y6_3 y6_f3 y6_4 y6_f4 y6_5 y6_f5
      replace OB4 := And.intro OB4.1 (OB4.2.on P3)
      replace OB6 := And.intro OB6.1 (OB6.2.on P3)
      replace B := B.trans P3
      have c4_0 : w3.cell? ⟨w.heap.size + 2, 0, none⟩ = some (.bool false) := OB4.2.cell 0
      have c4_1 : w3.cell? ⟨w.heap.size + 2, 1, none⟩ = some (.slice none 0 0) := OB4.2.cell 1
      have c4_2 : w3.cell? ⟨w.heap.size + 2, 2, none⟩ = some (.slice none 0 0) := OB4.2.cell 2
      have c4_3 : w3.cell? ⟨w.heap.size + 2, 3, none⟩ = some (.bool false) := OB4.2.cell 3
      have c4_4 : w3.cell? ⟨w.heap.size + 2, 4, none⟩ = some (.slice none 0 0) := OB4.2.cell 4
      have c4_5 : w3.cell? ⟨w.heap.size + 2, 5, none⟩ = some (.slice none 0 0) := OB4.2.cell 5
      have c4_f0 := OB4.2.frozen 0
      have c4_f1 := OB4.2.frozen 1
      have c4_f2 := OB4.2.frozen 2
      have c4_f3 := OB4.2.frozen 3
      have c4_f4 := OB4.2.frozen 4
      have c4_f5 := OB4.2.frozen 5
      have hon6 := on6 (g := w.heap.size + 2) B (by omega) (.bool false) (.slice none 0 0) (.slice none 0 0) (.bool false) (.slice none 0 0) (.slice none 0 0)
      go_wp2
      exact bodyPost_ret (v := .tuple #[.agg #[.bool false, .slice none 0 0, .slice none 0 0, .bool false, .slice none 0 0, .slice none 0 0], .iface 51 (.int .i64 17)]) (by simp [results, Tryz.results36, go_sem, c4_0, c4_1, c4_2, c4_3, c4_4, c4_5]) rfl ⟨_, rfl, isS_zero _ _, by first | exact hon6 | exact B⟩
set_option maxRecDepth 100000 in
set_option maxHeartbeats 1600000 in
theorem spmeet_ok (w : World) (v v' : Value) (lo hi lo' hi' : Rat) (L : Nat) (h : Sp w v lo hi L) (k : Sp w v' lo' hi' L) (hL2 : 2 ≤ L) (hL : L ≤ 400) (hc : rmax lo lo' ≤ rmin hi hi') :
    Calls Tryz.prog 36 #[v, v'] w (SpPost2 w (rmax lo lo') (rmin hi hi') L .nilIface) := by
  have hz := (rsg_le_iff (rmax lo lo') (rmin hi hi')).2 hc
  obtain ⟨z, ez⟩ : ∃ x, rsg (rmax lo lo' - rmin hi hi') = x := ⟨_, rfl⟩
  rw [ez] at hz
  have HZ := Lib.hid ez
  clear ez hc
  obtain ⟨ba0, Aa0, na0, ca0, Ba0, ma0, oa0, bb0, Ab0, nb0, cb0, Bb0, mb0, ob0, rfl⟩ := h.form
  obtain ⟨ba1, Aa1, na1, ca1, Ba1, ma1, oa1, bb1, Ab1, nb1, cb1, Bb1, mb1, ob1, rfl⟩ := k.form
  have B : On w (((w.alloc (.cells #[.bool ba0, .slice Aa0 na0 ca0, .slice Ba0 ma0 oa0, .bool bb0, .slice Ab0 nb0 cb0, .slice Bb0 mb0 ob0] 26)).alloc (.cells #[.bool ba1, .slice Aa1 na1 ca1, .slice Ba1 ma1 oa1, .bool bb1, .slice Ab1 nb1 cb1, .slice Bb1 mb1 ob1] 26)).alloc (.cells #[.bool false, .slice none 0 0, .slice none 0 0, .bool false, .slice none 0 0, .slice none 0 0] 26)) := On.alloc (On.alloc (On.alloc (On.refl w) _) _) _
  have OB2 : w.heap.size ≤ w.heap.size ∧ Own (((w.alloc (.cells #[.bool ba0, .slice Aa0 na0 ca0, .slice Ba0 ma0 oa0, .bool bb0, .slice Ab0 nb0 cb0, .slice Bb0 mb0 ob0] 26)).alloc (.cells #[.bool ba1, .slice Aa1 na1 ca1, .slice Ba1 ma1 oa1, .bool bb1, .slice Ab1 nb1 cb1, .slice Bb1 mb1 ob1] 26)).alloc (.cells #[.bool false, .slice none 0 0, .slice none 0 0, .bool false, .slice none 0 0, .slice none 0 0] 26)) (w.heap.size) 26 #[.bool ba0, .slice Aa0 na0 ca0, .slice Ba0 ma0 oa0, .bool bb0, .slice Ab0 nb0 cb0, .slice Bb0 mb0 ob0] := ⟨by omega, (((Own.at_ w (w.heap.size) (by simp) 26 #[.bool ba0, .slice Aa0 na0 ca0, .slice Ba0 ma0 oa0, .bool bb0, .slice Ab0 nb0 cb0, .slice Bb0 mb0 ob0]).alloc (.cells #[.bool ba1, .slice Aa1 na1 ca1, .slice Ba1 ma1 oa1, .bool bb1, .slice Ab1 nb1 cb1, .slice Bb1 mb1 ob1] 26)).alloc (.cells #[.bool false, .slice none 0 0, .slice none 0 0, .bool false, .slice none 0 0, .slice none 0 0] 26))⟩
  have OB3 : w.heap.size ≤ w.heap.size + 1 ∧ Own (((w.alloc (.cells #[.bool ba0, .slice Aa0 na0 ca0, .slice Ba0 ma0 oa0, .bool bb0, .slice Ab0 nb0 cb0, .slice Bb0 mb0 ob0] 26)).alloc (.cells #[.bool ba1, .slice Aa1 na1 ca1, .slice Ba1 ma1 oa1, .bool bb1, .slice Ab1 nb1 cb1, .slice Bb1 mb1 ob1] 26)).alloc (.cells #[.bool false, .slice none 0 0, .slice none 0 0, .bool false, .slice none 0 0, .slice none 0 0] 26)) (w.heap.size + 1) 26 #[.bool ba1, .slice Aa1 na1 ca1, .slice Ba1 ma1 oa1, .bool bb1, .slice Ab1 nb1 cb1, .slice Bb1 mb1 ob1] := ⟨by omega, ((Own.at_ (w.alloc (.cells #[.bool ba0, .slice Aa0 na0 ca0, .slice Ba0 ma0 oa0, .bool bb0, .slice Ab0 nb0 cb0, .slice Bb0 mb0 ob0] 26)) (w.heap.size + 1) (by simp) 26 #[.bool ba1, .slice Aa1 na1 ca1, .slice Ba1 ma1 oa1, .bool bb1, .slice Ab1 nb1 cb1, .slice Bb1 mb1 ob1]).alloc (.cells #[.bool false, .slice none 0 0, .slice none 0 0, .bool false, .slice none 0 0, .slice none 0 0] 26))⟩
  have OB4 : w.heap.size ≤ w.heap.size + 2 ∧ Own (((w.alloc (.cells #[.bool ba0, .slice Aa0 na0 ca0, .slice Ba0 ma0 oa0, .bool bb0, .slice Ab0 nb0 cb0, .slice Bb0 mb0 ob0] 26)).alloc (.cells #[.bool ba1, .slice Aa1 na1 ca1, .slice Ba1 ma1 oa1, .bool bb1, .slice Ab1 nb1 cb1, .slice Bb1 mb1 ob1] 26)).alloc (.cells #[.bool false, .slice none 0 0, .slice none 0 0, .bool false, .slice none 0 0, .slice none 0 0] 26)) (w.heap.size + 2) 26 #[.bool false, .slice none 0 0, .slice none 0 0, .bool false, .slice none 0 0, .slice none 0 0] := ⟨by omega, (Own.at_ ((w.alloc (.cells #[.bool ba0, .slice Aa0 na0 ca0, .slice Ba0 ma0 oa0, .bool bb0, .slice Ab0 nb0 cb0, .slice Bb0 mb0 ob0] 26)).alloc (.cells #[.bool ba1, .slice Aa1 na1 ca1, .slice Ba1 ma1 oa1, .bool bb1, .slice Ab1 nb1 cb1, .slice Bb1 mb1 ob1] 26)) (w.heap.size + 2) (by simp) 26 #[.bool false, .slice none 0 0, .slice none 0 0, .bool false, .slice none 0 0, .slice none 0 0])⟩
  go_enter Tryz.func36, Tryz.ntmps36
  go_wp2
  refine wp_region_facts (by kernel_rfl) w [Fact.eq (.agg #[.bool ba0, .slice Aa0 na0 ca0, .slice Ba0 ma0 oa0, .bool bb0, .slice Ab0 nb0 cb0, .slice Bb0 mb0 ob0]), Fact.sp (lo) (hi) (L), Fact.eq (.agg #[.bool ba1, .slice Aa1 na1 ca1, .slice Ba1 ma1 oa1, .bool bb1, .slice Ab1 nb1 cb1, .slice Bb1 mb1 ob1]), Fact.sp (lo') (hi') (L), Fact.any, Fact.any] [Fact.sp (lo) (hi) (L), Fact.sp (lo') (hi') (L), Fact.any] [⟨6, 2, 26, 4, #[.bool ba0, .slice Aa0 na0 ca0, .slice Ba0 ma0 oa0, .bool bb0, .slice Ab0 nb0 cb0, .slice Bb0 mb0 ob0]⟩, ⟨6, 3, 26, 5, #[.bool ba1, .slice Aa1 na1 ca1, .slice Ba1 ma1 oa1, .bool bb1, .slice Ab1 nb1 cb1, .slice Bb1 mb1 ob1]⟩, ⟨6, 4, 26, 6, #[.bool false, .slice none 0 0, .slice none 0 0, .bool false, .slice none 0 0, .slice none 0 0]⟩] [w.heap.size, w.heap.size + 1, w.heap.size + 2] [none, none, none, none, none, none, none, some 7, some 8, some 9, some 10, none, none, none, none, none, none, none, none, none, none, none, none, none, none, none, none, none, none, none, none] (by kernel_rfl) (by kernel_rfl) (by kernel_rfl) rfl B ?_ ?_ ?_ ?_ ?_
  · exact ⟨fun _ => ⟨by simp, rfl, OB2⟩, fun _ => ⟨by simp, rfl, OB3⟩, fun _ => ⟨by simp, rfl, OB4⟩, trivial⟩
  · exact .inr (by simp <;> omega)
  · exact ⟨⟨noWords_S _ _ _ _ _ _ _ _ _ _ _ _ _ _, (.inl (Nat.le_refl _)), (.inr (store_obS (j := 1) (noWords_S _ _ _ _ _ _ _ _ _ _ _ _ _ _) rfl rfl rfl (by kernel_rfl) rfl rfl rfl))⟩, ⟨noWords_S _ _ _ _ _ _ _ _ _ _ _ _ _ _, (.inl (Nat.le_refl _)), (.inr (store_obS (j := 3) (noWords_S _ _ _ _ _ _ _ _ _ _ _ _ _ _) rfl rfl rfl (by kernel_rfl) rfl rfl rfl))⟩, ⟨noWords_S _ _ _ _ _ _ _ _ _ _ _ _ _ _, (.inl (Nat.le_refl _)), (.inl (Nat.le_refl _))⟩, trivial⟩
  · refine ⟨?_, ?_, ?_, ?_, ?_, ?_, trivial⟩
    · exact .inr fun a w hp => ob_yes rfl (ob_loadSp (hp.box (k := 0) rfl (Nat.le_refl _) (.inr (.inl (by kernel_rfl))) (by kernel_rfl) rfl).1 (hp.box (k := 0) rfl (Nat.le_refl _) (.inr (.inl (by kernel_rfl))) (by kernel_rfl) rfl).2 rfl)
    · refine .inr fun a w hp => ob_yes rfl ?_
      have h7 : a.tmps.getD 7 undef = .agg #[.bool ba0, .slice Aa0 na0 ca0, .slice Ba0 ma0 oa0, .bool bb0, .slice Ab0 nb0 cb0, .slice Bb0 mb0 ob0] := (hp.fact 0 7 (by kernel_rfl) rfl)
      unfold Does
      go_simp
      refine (svalue_any _ _ _ _ L (h.on hp.on) (by omega)).mono ?_
      rintro e w' ⟨u, rfl, I8, P8⟩
      exact ⟨_, rfl, P8, I8⟩
    · exact .inr fun a w hp => ob_yes rfl (ob_loadSp (hp.box (k := 1) rfl (Nat.le_refl _) (.inr (.inl (by kernel_rfl))) (by kernel_rfl) rfl).1 (hp.box (k := 1) rfl (Nat.le_refl _) (.inr (.inl (by kernel_rfl))) (by kernel_rfl) rfl).2 rfl)
    · refine .inr fun a w hp => ob_yes rfl ?_
      have h9 : a.tmps.getD 9 undef = .agg #[.bool ba1, .slice Aa1 na1 ca1, .slice Ba1 ma1 oa1, .bool bb1, .slice Ab1 nb1 cb1, .slice Bb1 mb1 ob1] := (hp.fact 2 9 (by kernel_rfl) rfl)
      unfold Does
      go_simp
      refine (svalue_any _ _ _ _ L (k.on hp.on) (by omega)).mono ?_
      rintro e w' ⟨u, rfl, I8, P8⟩
      exact ⟨_, rfl, P8, I8⟩
    · exact .inl rfl
    · exact .inl rfl
  · intro f wr hon hk hf hb hap
    obtain ⟨q0, q1, q2, qz⟩ := hb
    clear qz
    obtain ⟨cur2, O2, I2⟩ : ∃ cur, Own wr (w.heap.size) 26 cur ∧ IsS wr (.agg cur) (lo) (hi) (L) := q0
    obtain ⟨sl2, P2, Pn2, Pc2, R2, Rn2, Rc2, sh2, U2, Un2, Uc2, V2, Vn2, Vc2, hz2, IL2, IH2⟩ := id I2
    injection hz2 with hz2
    subst hz2
    have c2_0 : wr.cell? ⟨w.heap.size, 0, none⟩ = some (.bool sl2) := O2.cell 0
    have z2_0 := O2.frozen 0
    have c2_1 : wr.cell? ⟨w.heap.size, 1, none⟩ = some (.slice P2 Pn2 Pc2) := O2.cell 1
    have z2_1 := O2.frozen 1
    have c2_2 : wr.cell? ⟨w.heap.size, 2, none⟩ = some (.slice R2 Rn2 Rc2) := O2.cell 2
    have z2_2 := O2.frozen 2
    have c2_3 : wr.cell? ⟨w.heap.size, 3, none⟩ = some (.bool sh2) := O2.cell 3
    have z2_3 := O2.frozen 3
    have c2_4 : wr.cell? ⟨w.heap.size, 4, none⟩ = some (.slice U2 Un2 Uc2) := O2.cell 4
    have z2_4 := O2.frozen 4
    have c2_5 : wr.cell? ⟨w.heap.size, 5, none⟩ = some (.slice V2 Vn2 Vc2) := O2.cell 5
    have z2_5 := O2.frozen 5
    obtain ⟨cur3, O3, I3⟩ : ∃ cur, Own wr (w.heap.size + 1) 26 cur ∧ IsS wr (.agg cur) (lo') (hi') (L) := q1
    obtain ⟨sl3, P3, Pn3, Pc3, R3, Rn3, Rc3, sh3, U3, Un3, Uc3, V3, Vn3, Vc3, hz3, IL3, IH3⟩ := id I3
    injection hz3 with hz3
    subst hz3
    have c3_0 : wr.cell? ⟨w.heap.size + 1, 0, none⟩ = some (.bool sl3) := O3.cell 0
    have z3_0 := O3.frozen 0
    have c3_1 : wr.cell? ⟨w.heap.size + 1, 1, none⟩ = some (.slice P3 Pn3 Pc3) := O3.cell 1
    have z3_1 := O3.frozen 1
    have c3_2 : wr.cell? ⟨w.heap.size + 1, 2, none⟩ = some (.slice R3 Rn3 Rc3) := O3.cell 2
    have z3_2 := O3.frozen 2
    have c3_3 : wr.cell? ⟨w.heap.size + 1, 3, none⟩ = some (.bool sh3) := O3.cell 3
    have z3_3 := O3.frozen 3
    have c3_4 : wr.cell? ⟨w.heap.size + 1, 4, none⟩ = some (.slice U3 Un3 Uc3) := O3.cell 4
    have z3_4 := O3.frozen 4
    have c3_5 : wr.cell? ⟨w.heap.size + 1, 5, none⟩ = some (.slice V3 Vn3 Vc3) := O3.cell 5
    have z3_5 := O3.frozen 5
    have O4 : Own wr (w.heap.size + 2) 26 #[.bool false, .slice none 0 0, .slice none 0 0, .bool false, .slice none 0 0, .slice none 0 0] := q2
    have c4_0 : wr.cell? ⟨w.heap.size + 2, 0, none⟩ = some (.bool false) := O4.cell 0
    have z4_0 := O4.frozen 0
    have c4_1 : wr.cell? ⟨w.heap.size + 2, 1, none⟩ = some (.slice none 0 0) := O4.cell 1
    have z4_1 := O4.frozen 1
    have c4_2 : wr.cell? ⟨w.heap.size + 2, 2, none⟩ = some (.slice none 0 0) := O4.cell 2
    have z4_2 := O4.frozen 2
    have c4_3 : wr.cell? ⟨w.heap.size + 2, 3, none⟩ = some (.bool false) := O4.cell 3
    have z4_3 := O4.frozen 3
    have c4_4 : wr.cell? ⟨w.heap.size + 2, 4, none⟩ = some (.slice none 0 0) := O4.cell 4
    have z4_4 := O4.frozen 4
    have c4_5 : wr.cell? ⟨w.heap.size + 2, 5, none⟩ = some (.slice none 0 0) := O4.cell 5
    have z4_5 := O4.frozen 5
    clear q2
    clear hf hap
    simp only [fillL]
    have OB2 : w.heap.size ≤ w.heap.size ∧ Own wr (w.heap.size) 26 #[.bool sl2, .slice P2 Pn2 Pc2, .slice R2 Rn2 Rc2, .bool sh2, .slice U2 Un2 Uc2, .slice V2 Vn2 Vc2] := ⟨by omega, O2⟩
    clear c2_0 z2_0 c2_1 z2_1 c2_2 z2_2 c2_3 z2_3 c2_4 z2_4 c2_5 z2_5 O2
    have OB3 : w.heap.size ≤ w.heap.size + 1 ∧ Own wr (w.heap.size + 1) 26 #[.bool sl3, .slice P3 Pn3 Pc3, .slice R3 Rn3 Rc3, .bool sh3, .slice U3 Un3 Uc3, .slice V3 Vn3 Vc3] := ⟨by omega, O3⟩
    clear c3_0 z3_0 c3_1 z3_1 c3_2 z3_2 c3_3 z3_3 c3_4 z3_4 c3_5 z3_5 O3
    have OB4 : w.heap.size ≤ w.heap.size + 2 ∧ Own wr (w.heap.size + 2) 26 #[.bool false, .slice none 0 0, .slice none 0 0, .bool false, .slice none 0 0, .slice none 0 0] := ⟨by omega, O4⟩
    clear c4_0 z4_0 c4_1 z4_1 c4_2 z4_2 c4_3 z4_3 c4_4 z4_4 c4_5 z4_5 O4
    clear B
    have B := hon
    clear hon hk h k
    go_wp2
    refine wp_region_facts (by kernel_rfl) w [Fact.eq (.pointer (some ⟨w.heap.size, 0, none⟩)), Fact.eq (.agg #[.bool sl2, .slice P2 Pn2 Pc2, .slice R2 Rn2 Rc2]), Fact.eq (.pointer (some ⟨w.heap.size + 1, 0, none⟩)), Fact.eq (.agg #[.bool sl3, .slice P3 Pn3 Pc3, .slice R3 Rn3 Rc3]), Fact.rat (rmax lo lo') (L), Fact.eq (.pointer (some ⟨w.heap.size, 3, none⟩)), Fact.eq (.agg #[.bool sh2, .slice U2 Un2 Uc2, .slice V2 Vn2 Vc2]), Fact.eq (.pointer (some ⟨w.heap.size + 1, 3, none⟩)), Fact.eq (.agg #[.bool sh3, .slice U3 Un3 Uc3, .slice V3 Vn3 Vc3]), Fact.rat (rmin hi hi') (L), Fact.sp (rmax lo lo') (rmin hi hi') (L), Fact.any, Fact.any] [Fact.any, Fact.any, Fact.any, Fact.sp (rmax lo lo') (rmin hi hi') (L)] [⟨13, 2, 26, 13, #[.bool sl2, .slice P2 Pn2 Pc2, .slice R2 Rn2 Rc2, .bool sh2, .slice U2 Un2 Uc2, .slice V2 Vn2 Vc2]⟩, ⟨13, 3, 26, 13, #[.bool sl3, .slice P3 Pn3 Pc3, .slice R3 Rn3 Rc3, .bool sh3, .slice U3 Un3 Uc3, .slice V3 Vn3 Vc3]⟩, ⟨13, 4, 26, 13, #[.bool false, .slice none 0 0, .slice none 0 0, .bool false, .slice none 0 0, .slice none 0 0]⟩, ⟨11, 6, 26, 12, #[.bool false, .slice none 0 0, .slice none 0 0, .bool false, .slice none 0 0, .slice none 0 0]⟩] [w.heap.size, w.heap.size + 1, w.heap.size + 2] [none, none, none, none, none, none, some 6, none, none, none, none, some 11, some 12, some 13, some 14, some 15, some 16, some 17, some 18, some 19, some 20, some 21, none, none, none, none, none, none, none, none, none] (by kernel_rfl) (by kernel_rfl) (by kernel_rfl) rfl B ?_ ?_ ?_ ?_ ?_
    · exact ⟨fun _ => ⟨by simp, rfl, OB2⟩, fun _ => ⟨by simp, rfl, OB3⟩, fun _ => ⟨by simp, rfl, OB4⟩, fun h => absurd h (by decide), trivial⟩
    · exact .inr (by simp <;> omega)
    · exact ⟨⟨noWords_S _ _ _ _ _ _ _ _ _ _ _ _ _ _, (.inl (Nat.le_refl _)), (.inl (Nat.le_refl _))⟩, ⟨noWords_S _ _ _ _ _ _ _ _ _ _ _ _ _ _, (.inl (Nat.le_refl _)), (.inl (Nat.le_refl _))⟩, ⟨noWords_S _ _ _ _ _ _ _ _ _ _ _ _ _ _, (.inl (Nat.le_refl _)), (.inl (Nat.le_refl _))⟩, ⟨noWords_S _ _ _ _ _ _ _ _ _ _ _ _ _ _, (.inr ⟨fun _ _ => trivial, _, rfl, fun a w => ⟨rfl, do_value run_allocS⟩⟩), (.inr (store_obS (j := 10) (noWords_S _ _ _ _ _ _ _ _ _ _ _ _ _ _) rfl rfl rfl (by kernel_rfl) rfl rfl rfl))⟩, trivial⟩
    · refine ⟨?_, ?_, ?_, ?_, ?_, ?_, ?_, ?_, ?_, ?_, ?_, ?_, ?_, trivial⟩
      · exact .inr fun a w hp => ob_yes rfl (ob_fieldS0 (hp.box (k := 0) rfl (Nat.le_refl _) (.inl (Nat.le_refl _)) (by kernel_rfl) rfl).1 rfl)
      · exact .inr fun a w hp => ob_yes rfl (ob_loadLo (hp.fact 0 11 (by kernel_rfl) rfl) (hp.box (k := 0) rfl (Nat.le_refl _) (.inl (Nat.le_refl _)) (by kernel_rfl) rfl).2 rfl)
      · exact .inr fun a w hp => ob_yes rfl (ob_fieldS0 (hp.box (k := 1) rfl (Nat.le_refl _) (.inl (Nat.le_refl _)) (by kernel_rfl) rfl).1 rfl)
      · exact .inr fun a w hp => ob_yes rfl (ob_loadLo (hp.fact 2 13 (by kernel_rfl) rfl) (hp.box (k := 1) rfl (Nat.le_refl _) (.inl (Nat.le_refl _)) (by kernel_rfl) rfl).2 rfl)
      · refine .inr fun a w hp => ob_yes rfl ?_
        have h12 : a.tmps.getD 12 undef = .agg #[.bool sl2, .slice P2 Pn2 Pc2, .slice R2 Rn2 Rc2] := (hp.fact 1 12 (by kernel_rfl) rfl)
        have h14 : a.tmps.getD 14 undef = .agg #[.bool sl3, .slice P3 Pn3 Pc3, .slice R3 Rn3 Rc3] := (hp.fact 3 14 (by kernel_rfl) rfl)
        unfold Does
        go_simp
        refine (maxr_any _ _ _ _ _ L (IsR.fld (IL2.kept hp.kept)) (IsR.fld (IL3.kept hp.kept)) (by omega)).mono ?_
        rintro e w' ⟨u, rfl, I8, P8⟩
        exact ⟨_, rfl, P8, I8⟩
      · exact .inr fun a w hp => ob_yes rfl (ob_fieldS1 (hp.box (k := 0) rfl (Nat.le_refl _) (.inl (Nat.le_refl _)) (by kernel_rfl) rfl).1 rfl)
      · exact .inr fun a w hp => ob_yes rfl (ob_loadHi (hp.fact 5 16 (by kernel_rfl) rfl) (hp.box (k := 0) rfl (Nat.le_refl _) (.inl (Nat.le_refl _)) (by kernel_rfl) rfl).2 rfl)
      · exact .inr fun a w hp => ob_yes rfl (ob_fieldS1 (hp.box (k := 1) rfl (Nat.le_refl _) (.inl (Nat.le_refl _)) (by kernel_rfl) rfl).1 rfl)
      · exact .inr fun a w hp => ob_yes rfl (ob_loadHi (hp.fact 7 18 (by kernel_rfl) rfl) (hp.box (k := 1) rfl (Nat.le_refl _) (.inl (Nat.le_refl _)) (by kernel_rfl) rfl).2 rfl)
      · refine .inr fun a w hp => ob_yes rfl ?_
        have h17 : a.tmps.getD 17 undef = .agg #[.bool sh2, .slice U2 Un2 Uc2, .slice V2 Vn2 Vc2] := (hp.fact 6 17 (by kernel_rfl) rfl)
        have h19 : a.tmps.getD 19 undef = .agg #[.bool sh3, .slice U3 Un3 Uc3, .slice V3 Vn3 Vc3] := (hp.fact 8 19 (by kernel_rfl) rfl)
        unfold Does
        go_simp
        refine (minr_any _ _ _ _ _ L (IsR.fld (IH2.kept hp.kept)) (IsR.fld (IH3.kept hp.kept)) (by omega)).mono ?_
        rintro e w' ⟨u, rfl, I8, P8⟩
        exact ⟨_, rfl, P8, I8⟩
      · refine .inr fun a w hp => ob_yes rfl ?_
        have h15 : IsR w (a.tmps.getD 15 undef) (rmax lo lo') (L) := (hp.fact 4 15 (by kernel_rfl) rfl)
        obtain ⟨v15, e15⟩ : ∃ v, a.tmps.getD 15 undef = v := ⟨_, rfl⟩
        rw [e15] at h15
        have h20 : IsR w (a.tmps.getD 20 undef) (rmin hi hi') (L) := (hp.fact 9 20 (by kernel_rfl) rfl)
        obtain ⟨v20, e20⟩ : ∃ v, a.tmps.getD 20 undef = v := ⟨_, rfl⟩
        rw [e20] at h20
        exact ob_buildS e15 e20 h15 h20 (fun x hx => hx)
      · exact .inl rfl
      · exact .inl rfl
    · intro f wd hon hk hf hb hap
      obtain ⟨q0, q1, q2, q3, qz⟩ := hb
      clear qz
      have O2 : Own wd (w.heap.size) 26 #[.bool sl2, .slice P2 Pn2 Pc2, .slice R2 Rn2 Rc2, .bool sh2, .slice U2 Un2 Uc2, .slice V2 Vn2 Vc2] := q0
      have c2_0 : wd.cell? ⟨w.heap.size, 0, none⟩ = some (.bool sl2) := O2.cell 0
      have z2_0 := O2.frozen 0
      have c2_1 : wd.cell? ⟨w.heap.size, 1, none⟩ = some (.slice P2 Pn2 Pc2) := O2.cell 1
      have z2_1 := O2.frozen 1
      have c2_2 : wd.cell? ⟨w.heap.size, 2, none⟩ = some (.slice R2 Rn2 Rc2) := O2.cell 2
      have z2_2 := O2.frozen 2
      have c2_3 : wd.cell? ⟨w.heap.size, 3, none⟩ = some (.bool sh2) := O2.cell 3
      have z2_3 := O2.frozen 3
      have c2_4 : wd.cell? ⟨w.heap.size, 4, none⟩ = some (.slice U2 Un2 Uc2) := O2.cell 4
      have z2_4 := O2.frozen 4
      have c2_5 : wd.cell? ⟨w.heap.size, 5, none⟩ = some (.slice V2 Vn2 Vc2) := O2.cell 5
      have z2_5 := O2.frozen 5
      clear q0
      have O3 : Own wd (w.heap.size + 1) 26 #[.bool sl3, .slice P3 Pn3 Pc3, .slice R3 Rn3 Rc3, .bool sh3, .slice U3 Un3 Uc3, .slice V3 Vn3 Vc3] := q1
      have c3_0 : wd.cell? ⟨w.heap.size + 1, 0, none⟩ = some (.bool sl3) := O3.cell 0
      have z3_0 := O3.frozen 0
      have c3_1 : wd.cell? ⟨w.heap.size + 1, 1, none⟩ = some (.slice P3 Pn3 Pc3) := O3.cell 1
      have z3_1 := O3.frozen 1
      have c3_2 : wd.cell? ⟨w.heap.size + 1, 2, none⟩ = some (.slice R3 Rn3 Rc3) := O3.cell 2
      have z3_2 := O3.frozen 2
      have c3_3 : wd.cell? ⟨w.heap.size + 1, 3, none⟩ = some (.bool sh3) := O3.cell 3
      have z3_3 := O3.frozen 3
      have c3_4 : wd.cell? ⟨w.heap.size + 1, 4, none⟩ = some (.slice U3 Un3 Uc3) := O3.cell 4
      have z3_4 := O3.frozen 4
      have c3_5 : wd.cell? ⟨w.heap.size + 1, 5, none⟩ = some (.slice V3 Vn3 Vc3) := O3.cell 5
      have z3_5 := O3.frozen 5
      clear q1
      have O4 : Own wd (w.heap.size + 2) 26 #[.bool false, .slice none 0 0, .slice none 0 0, .bool false, .slice none 0 0, .slice none 0 0] := q2
      have c4_0 : wd.cell? ⟨w.heap.size + 2, 0, none⟩ = some (.bool false) := O4.cell 0
      have z4_0 := O4.frozen 0
      have c4_1 : wd.cell? ⟨w.heap.size + 2, 1, none⟩ = some (.slice none 0 0) := O4.cell 1
      have z4_1 := O4.frozen 1
      have c4_2 : wd.cell? ⟨w.heap.size + 2, 2, none⟩ = some (.slice none 0 0) := O4.cell 2
      have z4_2 := O4.frozen 2
      have c4_3 : wd.cell? ⟨w.heap.size + 2, 3, none⟩ = some (.bool false) := O4.cell 3
      have z4_3 := O4.frozen 3
      have c4_4 : wd.cell? ⟨w.heap.size + 2, 4, none⟩ = some (.slice none 0 0) := O4.cell 4
      have z4_4 := O4.frozen 4
      have c4_5 : wd.cell? ⟨w.heap.size + 2, 5, none⟩ = some (.slice none 0 0) := O4.cell 5
      have z4_5 := O4.frozen 5
      clear q2
      obtain ⟨g6, e6, G6, q3⟩ := q3
      change f 6 = _ at e6
      obtain ⟨cur6, O6, I6⟩ : ∃ cur, Own wd (g6) 26 cur ∧ IsS wd (.agg cur) (rmax lo lo') (rmin hi hi') (L) := q3
      obtain ⟨sl6, P6, Pn6, Pc6, R6, Rn6, Rc6, sh6, U6, Un6, Uc6, V6, Vn6, Vc6, hz6, IL6, IH6⟩ := id I6
      injection hz6 with hz6
      subst hz6
      have c6_0 : wd.cell? ⟨g6, 0, none⟩ = some (.bool sl6) := O6.cell 0
      have z6_0 := O6.frozen 0
      have c6_1 : wd.cell? ⟨g6, 1, none⟩ = some (.slice P6 Pn6 Pc6) := O6.cell 1
      have z6_1 := O6.frozen 1
      have c6_2 : wd.cell? ⟨g6, 2, none⟩ = some (.slice R6 Rn6 Rc6) := O6.cell 2
      have z6_2 := O6.frozen 2
      have c6_3 : wd.cell? ⟨g6, 3, none⟩ = some (.bool sh6) := O6.cell 3
      have z6_3 := O6.frozen 3
      have c6_4 : wd.cell? ⟨g6, 4, none⟩ = some (.slice U6 Un6 Uc6) := O6.cell 4
      have z6_4 := O6.frozen 4
      have c6_5 : wd.cell? ⟨g6, 5, none⟩ = some (.slice V6 Vn6 Vc6) := O6.cell 5
      have z6_5 := O6.frozen 5
      clear hf hap
      simp only [fillL]; simp only [e6]
      clear e6
      have OB6 : w.heap.size ≤ g6 ∧ Own wd g6 26 #[.bool sl6, .slice P6 Pn6 Pc6, .slice R6 Rn6 Rc6, .bool sh6, .slice U6 Un6 Uc6, .slice V6 Vn6 Vc6] := ⟨G6, O6⟩
      have OB4 : w.heap.size ≤ w.heap.size + 2 ∧ Own wd (w.heap.size + 2) 26 #[.bool false, .slice none 0 0, .slice none 0 0, .bool false, .slice none 0 0, .slice none 0 0] := ⟨by omega, O4⟩
      clear c4_0 z4_0 c4_1 z4_1 c4_2 z4_2 c4_3 z4_3 c4_4 z4_4 c4_5 z4_5
      clear c6_0 z6_0 c6_1 z6_1 c6_2 z6_2 c6_3 z6_3 c6_4 z6_4 c6_5 z6_5
      clear B
      have B := hon
      have y6_0 : wd.cell? ⟨g6, 0, none⟩ = some (.bool sl6) := OB6.2.cell 0
      have y6_1 : wd.cell? ⟨g6, 1, none⟩ = some (.slice P6 Pn6 Pc6) := OB6.2.cell 1
      have y6_2 : wd.cell? ⟨g6, 2, none⟩ = some (.slice R6 Rn6 Rc6) := OB6.2.cell 2
      have y6_3 : wd.cell? ⟨g6, 3, none⟩ = some (.bool sh6) := OB6.2.cell 3
      have y6_4 : wd.cell? ⟨g6, 4, none⟩ = some (.slice U6 Un6 Uc6) := OB6.2.cell 4
      have y6_5 : wd.cell? ⟨g6, 5, none⟩ = some (.slice V6 Vn6 Vc6) := OB6.2.cell 5
      have y6_f0 := OB6.2.frozen 0
      have y6_f1 := OB6.2.frozen 1
      have y6_f2 := OB6.2.frozen 2
      have y6_f3 := OB6.2.frozen 3
      have y6_f4 := OB6.2.frozen 4
      have y6_f5 := OB6.2.frozen 5
      go_wp2_with fail
      refine (cmpr_any _ _ _ (rmax lo lo') (rmin hi hi') L (IsR.fld IL6) (IsR.fld IH6) (by omega)).mono ?_
      rintro e w3 ⟨rfl, P3⟩
      rw [HZ.out]
      have hz2 : ¬ 0 < z := by omega
      clear y6_0 y6_f0 y6_1 y6_f1 y6_2 y6_f2 y6_3 y6_f3 y6_4 y6_f4 y6_5 y6_f5
      replace OB4 := And.intro OB4.1 (OB4.2.on P3)
      replace OB6 := And.intro OB6.1 (OB6.2.on P3)
      replace B := B.trans P3
      have c4_0 : w3.cell? ⟨w.heap.size + 2, 0, none⟩ = some (.bool false) := OB4.2.cell 0
      have c4_1 : w3.cell? ⟨w.heap.size + 2, 1, none⟩ = some (.slice none 0 0) := OB4.2.cell 1
      have c4_2 : w3.cell? ⟨w.heap.size + 2, 2, none⟩ = some (.slice none 0 0) := OB4.2.cell 2
      have c4_3 : w3.cell? ⟨w.heap.size + 2, 3, none⟩ = some (.bool false) := OB4.2.cell 3
      have c4_4 : w3.cell? ⟨w.heap.size + 2, 4, none⟩ = some (.slice none 0 0) := OB4.2.cell 4
      have c4_5 : w3.cell? ⟨w.heap.size + 2, 5, none⟩ = some (.slice none 0 0) := OB4.2.cell 5
      have c4_f0 := OB4.2.frozen 0
      have c4_f1 := OB4.2.frozen 1
      have c4_f2 := OB4.2.frozen 2
      have c4_f3 := OB4.2.frozen 3
      have c4_f4 := OB4.2.frozen 4
      have c4_f5 := OB4.2.frozen 5
      have y6_0 : w3.cell? ⟨g6, 0, none⟩ = some (.bool sl6) := OB6.2.cell 0
      have y6_1 : w3.cell? ⟨g6, 1, none⟩ = some (.slice P6 Pn6 Pc6) := OB6.2.cell 1
      have y6_2 : w3.cell? ⟨g6, 2, none⟩ = some (.slice R6 Rn6 Rc6) := OB6.2.cell 2
      have y6_3 : w3.cell? ⟨g6, 3, none⟩ = some (.bool sh6) := OB6.2.cell 3
      have y6_4 : w3.cell? ⟨g6, 4, none⟩ = some (.slice U6 Un6 Uc6) := OB6.2.cell 4
      have y6_5 : w3.cell? ⟨g6, 5, none⟩ = some (.slice V6 Vn6 Vc6) := OB6.2.cell 5
      have y6_f0 := OB6.2.frozen 0
      have y6_f1 := OB6.2.frozen 1
      have y6_f2 := OB6.2.frozen 2
      have y6_f3 := OB6.2.frozen 3
      have y6_f4 := OB6.2.frozen 4
      have y6_f5 := OB6.2.frozen 5
      have IS2 := (I6.on P3).kept (Kept.only (only6 (w := w3) (g := w.heap.size + 2) (.bool sl6) (.slice P6 Pn6 Pc6) (.slice R6 Rn6 Rc6) (.bool sh6) (.slice U6 Un6 Uc6) (.slice V6 Vn6 Vc6)) OB4.2 (noWords_S _ _ _ _ _ _ _ _ _ _ _ _ _ _))
      have hon6 := on6 (g := w.heap.size + 2) B (by omega) (.bool sl6) (.slice P6 Pn6 Pc6) (.slice R6 Rn6 Rc6) (.bool sh6) (.slice U6 Un6 Uc6) (.slice V6 Vn6 Vc6)
      go_wp2
      exact bodyPost_ret (v := .tuple #[.agg #[.bool sl6, .slice P6 Pn6 Pc6, .slice R6 Rn6 Rc6, .bool sh6, .slice U6 Un6 Uc6, .slice V6 Vn6 Vc6], .nilIface]) (by simp [results, Tryz.results36, go_sem, c4_0, c4_1, c4_2, c4_3, c4_4, c4_5]) rfl ⟨_, rfl, IS2, hon6⟩
end Num
end Go.Proofs.YtkchpagjkgmpmaaGreat
