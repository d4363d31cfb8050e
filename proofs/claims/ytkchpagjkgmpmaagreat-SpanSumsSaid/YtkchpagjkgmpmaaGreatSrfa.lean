/-
  The specification's sums and complements of spans.
-/
import Derived.Test.YtkchpagjkgmpmaaGreatSrf
namespace Go.Proofs.YtkchpagjkgmpmaaGreat
open Go.RowKit
set_option linter.unusedVariables false
namespace Num
set_option maxRecDepth 100000 in
set_option maxHeartbeats 1600000 in
theorem radd3_any (w : World) (v v' : Value) (lo hi lo' hi' : Rat) (L : Nat) (h : Sp w v lo hi L) (k : Sp w v' lo' hi' L) (hL2 : 2 ≤ L) (hL : L ≤ 1000) :
    Calls Tryz.prog 23 #[v, v'] w (SpPost w (lo + lo') (hi + hi') (L + L + 1)) := by
  obtain ⟨ba0, Aa0, na0, ca0, Ba0, ma0, oa0, bb0, Ab0, nb0, cb0, Bb0, mb0, ob0, rfl⟩ := h.form
  obtain ⟨ba1, Aa1, na1, ca1, Ba1, ma1, oa1, bb1, Ab1, nb1, cb1, Bb1, mb1, ob1, rfl⟩ := k.form
  have B : On w (((w.alloc (.cells #[.bool ba0, .slice Aa0 na0 ca0, .slice Ba0 ma0 oa0, .bool bb0, .slice Ab0 nb0 cb0, .slice Bb0 mb0 ob0] 26)).alloc (.cells #[.bool ba1, .slice Aa1 na1 ca1, .slice Ba1 ma1 oa1, .bool bb1, .slice Ab1 nb1 cb1, .slice Bb1 mb1 ob1] 26)).alloc (.cells #[.bool false, .slice none 0 0, .slice none 0 0, .bool false, .slice none 0 0, .slice none 0 0] 26)) := On.alloc (On.alloc (On.alloc (On.refl w) _) _) _
  have OB2 : w.heap.size ≤ w.heap.size ∧ Own (((w.alloc (.cells #[.bool ba0, .slice Aa0 na0 ca0, .slice Ba0 ma0 oa0, .bool bb0, .slice Ab0 nb0 cb0, .slice Bb0 mb0 ob0] 26)).alloc (.cells #[.bool ba1, .slice Aa1 na1 ca1, .slice Ba1 ma1 oa1, .bool bb1, .slice Ab1 nb1 cb1, .slice Bb1 mb1 ob1] 26)).alloc (.cells #[.bool false, .slice none 0 0, .slice none 0 0, .bool false, .slice none 0 0, .slice none 0 0] 26)) (w.heap.size) 26 #[.bool ba0, .slice Aa0 na0 ca0, .slice Ba0 ma0 oa0, .bool bb0, .slice Ab0 nb0 cb0, .slice Bb0 mb0 ob0] := ⟨by omega, (((Own.at_ w (w.heap.size) (by simp) 26 #[.bool ba0, .slice Aa0 na0 ca0, .slice Ba0 ma0 oa0, .bool bb0, .slice Ab0 nb0 cb0, .slice Bb0 mb0 ob0]).alloc (.cells #[.bool ba1, .slice Aa1 na1 ca1, .slice Ba1 ma1 oa1, .bool bb1, .slice Ab1 nb1 cb1, .slice Bb1 mb1 ob1] 26)).alloc (.cells #[.bool false, .slice none 0 0, .slice none 0 0, .bool false, .slice none 0 0, .slice none 0 0] 26))⟩
  have OB3 : w.heap.size ≤ w.heap.size + 1 ∧ Own (((w.alloc (.cells #[.bool ba0, .slice Aa0 na0 ca0, .slice Ba0 ma0 oa0, .bool bb0, .slice Ab0 nb0 cb0, .slice Bb0 mb0 ob0] 26)).alloc (.cells #[.bool ba1, .slice Aa1 na1 ca1, .slice Ba1 ma1 oa1, .bool bb1, .slice Ab1 nb1 cb1, .slice Bb1 mb1 ob1] 26)).alloc (.cells #[.bool false, .slice none 0 0, .slice none 0 0, .bool false, .slice none 0 0, .slice none 0 0] 26)) (w.heap.size + 1) 26 #[.bool ba1, .slice Aa1 na1 ca1, .slice Ba1 ma1 oa1, .bool bb1, .slice Ab1 nb1 cb1, .slice Bb1 mb1 ob1] := ⟨by omega, ((Own.at_ (w.alloc (.cells #[.bool ba0, .slice Aa0 na0 ca0, .slice Ba0 ma0 oa0, .bool bb0, .slice Ab0 nb0 cb0, .slice Bb0 mb0 ob0] 26)) (w.heap.size + 1) (by simp) 26 #[.bool ba1, .slice Aa1 na1 ca1, .slice Ba1 ma1 oa1, .bool bb1, .slice Ab1 nb1 cb1, .slice Bb1 mb1 ob1]).alloc (.cells #[.bool false, .slice none 0 0, .slice none 0 0, .bool false, .slice none 0 0, .slice none 0 0] 26))⟩
  have OB4 : w.heap.size ≤ w.heap.size + 2 ∧ Own (((w.alloc (.cells #[.bool ba0, .slice Aa0 na0 ca0, .slice Ba0 ma0 oa0, .bool bb0, .slice Ab0 nb0 cb0, .slice Bb0 mb0 ob0] 26)).alloc (.cells #[.bool ba1, .slice Aa1 na1 ca1, .slice Ba1 ma1 oa1, .bool bb1, .slice Ab1 nb1 cb1, .slice Bb1 mb1 ob1] 26)).alloc (.cells #[.bool false, .slice none 0 0, .slice none 0 0, .bool false, .slice none 0 0, .slice none 0 0] 26)) (w.heap.size + 2) 26 #[.bool false, .slice none 0 0, .slice none 0 0, .bool false, .slice none 0 0, .slice none 0 0] := ⟨by omega, (Own.at_ ((w.alloc (.cells #[.bool ba0, .slice Aa0 na0 ca0, .slice Ba0 ma0 oa0, .bool bb0, .slice Ab0 nb0 cb0, .slice Bb0 mb0 ob0] 26)).alloc (.cells #[.bool ba1, .slice Aa1 na1 ca1, .slice Ba1 ma1 oa1, .bool bb1, .slice Ab1 nb1 cb1, .slice Bb1 mb1 ob1] 26)) (w.heap.size + 2) (by simp) 26 #[.bool false, .slice none 0 0, .slice none 0 0, .bool false, .slice none 0 0, .slice none 0 0])⟩
  go_enter Tryz.func23, Tryz.ntmps23
  go_wp2
  refine wp_region_facts (by kernel_rfl) w [Fact.eq (.agg #[.bool ba0, .slice Aa0 na0 ca0, .slice Ba0 ma0 oa0, .bool bb0, .slice Ab0 nb0 cb0, .slice Bb0 mb0 ob0]), Fact.sp (lo) (hi) (L), Fact.eq (.agg #[.bool ba1, .slice Aa1 na1 ca1, .slice Ba1 ma1 oa1, .bool bb1, .slice Ab1 nb1 cb1, .slice Bb1 mb1 ob1]), Fact.sp (lo') (hi') (L), Fact.any, Fact.any] [Fact.sp (lo) (hi) (L), Fact.sp (lo') (hi') (L), Fact.any] [⟨6, 2, 26, 4, #[.bool ba0, .slice Aa0 na0 ca0, .slice Ba0 ma0 oa0, .bool bb0, .slice Ab0 nb0 cb0, .slice Bb0 mb0 ob0]⟩, ⟨6, 3, 26, 5, #[.bool ba1, .slice Aa1 na1 ca1, .slice Ba1 ma1 oa1, .bool bb1, .slice Ab1 nb1 cb1, .slice Bb1 mb1 ob1]⟩, ⟨6, 4, 26, 6, #[.bool false, .slice none 0 0, .slice none 0 0, .bool false, .slice none 0 0, .slice none 0 0]⟩] [w.heap.size, w.heap.size + 1, w.heap.size + 2] [none, none, none, none, none, some 5, some 6, some 7, some 8, none, none, none, none, none, none, none, none, none, none, none] (by kernel_rfl) (by kernel_rfl) (by kernel_rfl) rfl B ?_ ?_ ?_ ?_ ?_
  · exact ⟨fun _ => ⟨by simp, rfl, OB2⟩, fun _ => ⟨by simp, rfl, OB3⟩, fun _ => ⟨by simp, rfl, OB4⟩, trivial⟩
  · exact .inr (by simp <;> omega)
  · exact ⟨⟨noWords_S _ _ _ _ _ _ _ _ _ _ _ _ _ _, (.inl (Nat.le_refl _)), (.inr (store_obS (j := 1) (noWords_S _ _ _ _ _ _ _ _ _ _ _ _ _ _) rfl rfl rfl (by kernel_rfl) rfl rfl rfl))⟩, ⟨noWords_S _ _ _ _ _ _ _ _ _ _ _ _ _ _, (.inl (Nat.le_refl _)), (.inr (store_obS (j := 3) (noWords_S _ _ _ _ _ _ _ _ _ _ _ _ _ _) rfl rfl rfl (by kernel_rfl) rfl rfl rfl))⟩, ⟨noWords_S _ _ _ _ _ _ _ _ _ _ _ _ _ _, (.inl (Nat.le_refl _)), (.inl (Nat.le_refl _))⟩, trivial⟩
  · refine ⟨?_, ?_, ?_, ?_, ?_, ?_, trivial⟩
    · exact .inr fun a w hp => ob_yes rfl (ob_loadSp (hp.box (k := 0) rfl (Nat.le_refl _) (.inr (.inl (by kernel_rfl))) (by kernel_rfl) rfl).1 (hp.box (k := 0) rfl (Nat.le_refl _) (.inr (.inl (by kernel_rfl))) (by kernel_rfl) rfl).2 rfl)
    · refine .inr fun a w hp => ob_yes rfl ?_
      have h5 : a.tmps.getD 5 undef = .agg #[.bool ba0, .slice Aa0 na0 ca0, .slice Ba0 ma0 oa0, .bool bb0, .slice Ab0 nb0 cb0, .slice Bb0 mb0 ob0] := (hp.fact 0 5 (by kernel_rfl) rfl)
      unfold Does
      go_simp
      refine (rarg_any _ _ _ _ L (h.on hp.on) hL2 (by omega)).mono ?_
      rintro e w' ⟨u, rfl, I8, P8⟩
      exact ⟨_, rfl, P8, I8⟩
    · exact .inr fun a w hp => ob_yes rfl (ob_loadSp (hp.box (k := 1) rfl (Nat.le_refl _) (.inr (.inl (by kernel_rfl))) (by kernel_rfl) rfl).1 (hp.box (k := 1) rfl (Nat.le_refl _) (.inr (.inl (by kernel_rfl))) (by kernel_rfl) rfl).2 rfl)
    · refine .inr fun a w hp => ob_yes rfl ?_
      have h7 : a.tmps.getD 7 undef = .agg #[.bool ba1, .slice Aa1 na1 ca1, .slice Ba1 ma1 oa1, .bool bb1, .slice Ab1 nb1 cb1, .slice Bb1 mb1 ob1] := (hp.fact 2 7 (by kernel_rfl) rfl)
      unfold Does
      go_simp
      refine (rarg_any _ _ _ _ L (k.on hp.on) hL2 (by omega)).mono ?_
      rintro e w' ⟨u, rfl, I8, P8⟩
      exact ⟨_, rfl, P8, I8⟩
    · exact .inl rfl
    · exact .inl rfl
  · intro f wr hon hk hf hb hap
    obtain ⟨q0, q1, q2, qz⟩ := hb
    clear qz
    obtain ⟨cur2, O2, I2⟩ : ∃ cur, Own wr (w.heap.size) 26 cur ∧ IsS wr (.agg cur) (lo) (hi) (L) := q0
    obtain ⟨sl2, P2, Pn2, Pc2, R2, Rn2, Rc2, sh2, U2, Un2, Uc2, V2, Vn2, Vc2, hz2, IL2, IH2⟩ := id I2
    injection hz2 with hz2
    subst hz2
    have c2_0 : wr.cell? ⟨w.heap.size, 0, none⟩ = some (.bool sl2) := O2.cell 0
    have z2_0 := O2.frozen 0
    have c2_1 : wr.cell? ⟨w.heap.size, 1, none⟩ = some (.slice P2 Pn2 Pc2) := O2.cell 1
    have z2_1 := O2.frozen 1
    have c2_2 : wr.cell? ⟨w.heap.size, 2, none⟩ = some (.slice R2 Rn2 Rc2) := O2.cell 2
    have z2_2 := O2.frozen 2
    have c2_3 : wr.cell? ⟨w.heap.size, 3, none⟩ = some (.bool sh2) := O2.cell 3
    have z2_3 := O2.frozen 3
    have c2_4 : wr.cell? ⟨w.heap.size, 4, none⟩ = some (.slice U2 Un2 Uc2) := O2.cell 4
    have z2_4 := O2.frozen 4
    have c2_5 : wr.cell? ⟨w.heap.size, 5, none⟩ = some (.slice V2 Vn2 Vc2) := O2.cell 5
    have z2_5 := O2.frozen 5
    obtain ⟨cur3, O3, I3⟩ : ∃ cur, Own wr (w.heap.size + 1) 26 cur ∧ IsS wr (.agg cur) (lo') (hi') (L) := q1
    obtain ⟨sl3, P3, Pn3, Pc3, R3, Rn3, Rc3, sh3, U3, Un3, Uc3, V3, Vn3, Vc3, hz3, IL3, IH3⟩ := id I3
    injection hz3 with hz3
    subst hz3
    have c3_0 : wr.cell? ⟨w.heap.size + 1, 0, none⟩ = some (.bool sl3) := O3.cell 0
    have z3_0 := O3.frozen 0
    have c3_1 : wr.cell? ⟨w.heap.size + 1, 1, none⟩ = some (.slice P3 Pn3 Pc3) := O3.cell 1
    have z3_1 := O3.frozen 1
    have c3_2 : wr.cell? ⟨w.heap.size + 1, 2, none⟩ = some (.slice R3 Rn3 Rc3) := O3.cell 2
    have z3_2 := O3.frozen 2
    have c3_3 : wr.cell? ⟨w.heap.size + 1, 3, none⟩ = some (.bool sh3) := O3.cell 3
    have z3_3 := O3.frozen 3
    have c3_4 : wr.cell? ⟨w.heap.size + 1, 4, none⟩ = some (.slice U3 Un3 Uc3) := O3.cell 4
    have z3_4 := O3.frozen 4
    have c3_5 : wr.cell? ⟨w.heap.size + 1, 5, none⟩ = some (.slice V3 Vn3 Vc3) := O3.cell 5
    have z3_5 := O3.frozen 5
    have O4 : Own wr (w.heap.size + 2) 26 #[.bool false, .slice none 0 0, .slice none 0 0, .bool false, .slice none 0 0, .slice none 0 0] := q2
    have c4_0 : wr.cell? ⟨w.heap.size + 2, 0, none⟩ = some (.bool false) := O4.cell 0
    have z4_0 := O4.frozen 0
    have c4_1 : wr.cell? ⟨w.heap.size + 2, 1, none⟩ = some (.slice none 0 0) := O4.cell 1
    have z4_1 := O4.frozen 1
    have c4_2 : wr.cell? ⟨w.heap.size + 2, 2, none⟩ = some (.slice none 0 0) := O4.cell 2
    have z4_2 := O4.frozen 2
    have c4_3 : wr.cell? ⟨w.heap.size + 2, 3, none⟩ = some (.bool false) := O4.cell 3
    have z4_3 := O4.frozen 3
    have c4_4 : wr.cell? ⟨w.heap.size + 2, 4, none⟩ = some (.slice none 0 0) := O4.cell 4
    have z4_4 := O4.frozen 4
    have c4_5 : wr.cell? ⟨w.heap.size + 2, 5, none⟩ = some (.slice none 0 0) := O4.cell 5
    have z4_5 := O4.frozen 5
    clear q2
    clear hf hap
    simp only [fillL]
    have OB2 : w.heap.size ≤ w.heap.size ∧ Own wr (w.heap.size) 26 #[.bool sl2, .slice P2 Pn2 Pc2, .slice R2 Rn2 Rc2, .bool sh2, .slice U2 Un2 Uc2, .slice V2 Vn2 Vc2] := ⟨by omega, O2⟩
    clear c2_0 z2_0 c2_1 z2_1 c2_2 z2_2 c2_3 z2_3 c2_4 z2_4 c2_5 z2_5 O2
    have OB3 : w.heap.size ≤ w.heap.size + 1 ∧ Own wr (w.heap.size + 1) 26 #[.bool sl3, .slice P3 Pn3 Pc3, .slice R3 Rn3 Rc3, .bool sh3, .slice U3 Un3 Uc3, .slice V3 Vn3 Vc3] := ⟨by omega, O3⟩
    clear c3_0 z3_0 c3_1 z3_1 c3_2 z3_2 c3_3 z3_3 c3_4 z3_4 c3_5 z3_5 O3
    have OB4 : w.heap.size ≤ w.heap.size + 2 ∧ Own wr (w.heap.size + 2) 26 #[.bool false, .slice none 0 0, .slice none 0 0, .bool false, .slice none 0 0, .slice none 0 0] := ⟨by omega, O4⟩
    clear c4_0 z4_0 c4_1 z4_1 c4_2 z4_2 c4_3 z4_3 c4_4 z4_4 c4_5 z4_5 O4
    clear B
    have B := hon
    clear hon hk h k
    go_wp2
    refine wp_region_facts (by kernel_rfl) w [Fact.eq (.pointer (some ⟨w.heap.size, 0, none⟩)), Fact.eq (.agg #[.bool sl2, .slice P2 Pn2 Pc2, .slice R2 Rn2 Rc2]), Fact.eq (.pointer (some ⟨w.heap.size + 1, 0, none⟩)), Fact.eq (.agg #[.bool sl3, .slice P3 Pn3 Pc3, .slice R3 Rn3 Rc3]), Fact.rat (lo + lo') (L + L + 1), Fact.eq (.pointer (some ⟨w.heap.size, 3, none⟩)), Fact.eq (.agg #[.bool sh2, .slice U2 Un2 Uc2, .slice V2 Vn2 Vc2]), Fact.eq (.pointer (some ⟨w.heap.size + 1, 3, none⟩)), Fact.eq (.agg #[.bool sh3, .slice U3 Un3 Uc3, .slice V3 Vn3 Vc3]), Fact.rat (hi + hi') (L + L + 1), Fact.sp (lo + lo') (hi + hi') (L + L + 1), Fact.any] [Fact.any, Fact.any, Fact.sp (lo + lo') (hi + hi') (L + L + 1)] [⟨12, 2, 26, 12, #[.bool sl2, .slice P2 Pn2 Pc2, .slice R2 Rn2 Rc2, .bool sh2, .slice U2 Un2 Uc2, .slice V2 Vn2 Vc2]⟩, ⟨12, 3, 26, 12, #[.bool sl3, .slice P3 Pn3 Pc3, .slice R3 Rn3 Rc3, .bool sh3, .slice U3 Un3 Uc3, .slice V3 Vn3 Vc3]⟩, ⟨12, 4, 26, 11, #[.bool false, .slice none 0 0, .slice none 0 0, .bool false, .slice none 0 0, .slice none 0 0]⟩] [w.heap.size, w.heap.size + 1, w.heap.size + 2] [none, none, none, none, none, none, none, none, none, some 9, some 10, some 11, some 12, some 13, some 14, some 15, some 16, some 17, some 18, some 19] (by kernel_rfl) (by kernel_rfl) (by kernel_rfl) rfl B ?_ ?_ ?_ ?_ ?_
    · exact ⟨fun _ => ⟨by simp, rfl, OB2⟩, fun _ => ⟨by simp, rfl, OB3⟩, fun _ => ⟨by simp, rfl, OB4⟩, trivial⟩
    · exact .inr (by simp <;> omega)
    · exact ⟨⟨noWords_S _ _ _ _ _ _ _ _ _ _ _ _ _ _, (.inl (Nat.le_refl _)), (.inl (Nat.le_refl _))⟩, ⟨noWords_S _ _ _ _ _ _ _ _ _ _ _ _ _ _, (.inl (Nat.le_refl _)), (.inl (Nat.le_refl _))⟩, ⟨noWords_S _ _ _ _ _ _ _ _ _ _ _ _ _ _, (.inl (Nat.le_refl _)), (.inr (store_obS (j := 10) (noWords_S _ _ _ _ _ _ _ _ _ _ _ _ _ _) rfl rfl rfl (by kernel_rfl) rfl rfl rfl))⟩, trivial⟩
    · refine ⟨?_, ?_, ?_, ?_, ?_, ?_, ?_, ?_, ?_, ?_, ?_, ?_, trivial⟩
      · exact .inr fun a w hp => ob_yes rfl (ob_fieldS0 (hp.box (k := 0) rfl (Nat.le_refl _) (.inl (Nat.le_refl _)) (by kernel_rfl) rfl).1 rfl)
      · exact .inr fun a w hp => ob_yes rfl (ob_loadLo (hp.fact 0 9 (by kernel_rfl) rfl) (hp.box (k := 0) rfl (Nat.le_refl _) (.inl (Nat.le_refl _)) (by kernel_rfl) rfl).2 rfl)
      · exact .inr fun a w hp => ob_yes rfl (ob_fieldS0 (hp.box (k := 1) rfl (Nat.le_refl _) (.inl (Nat.le_refl _)) (by kernel_rfl) rfl).1 rfl)
      · exact .inr fun a w hp => ob_yes rfl (ob_loadLo (hp.fact 2 11 (by kernel_rfl) rfl) (hp.box (k := 1) rfl (Nat.le_refl _) (.inl (Nat.le_refl _)) (by kernel_rfl) rfl).2 rfl)
      · refine .inr fun a w hp => ob_yes rfl ?_
        have h10 : a.tmps.getD 10 undef = .agg #[.bool sl2, .slice P2 Pn2 Pc2, .slice R2 Rn2 Rc2] := (hp.fact 1 10 (by kernel_rfl) rfl)
        have h12 : a.tmps.getD 12 undef = .agg #[.bool sl3, .slice P3 Pn3 Pc3, .slice R3 Rn3 Rc3] := (hp.fact 3 12 (by kernel_rfl) rfl)
        unfold Does
        go_simp
        refine (sadd_any _ _ _ _ _ L (IsR.fld (IL2.kept hp.kept)) (IsR.fld (IL3.kept hp.kept)) hL2 (by omega)).mono ?_
        rintro e w' ⟨u, rfl, I8, P8⟩
        exact ⟨_, rfl, P8, I8⟩
      · exact .inr fun a w hp => ob_yes rfl (ob_fieldS1 (hp.box (k := 0) rfl (Nat.le_refl _) (.inl (Nat.le_refl _)) (by kernel_rfl) rfl).1 rfl)
      · exact .inr fun a w hp => ob_yes rfl (ob_loadHi (hp.fact 5 14 (by kernel_rfl) rfl) (hp.box (k := 0) rfl (Nat.le_refl _) (.inl (Nat.le_refl _)) (by kernel_rfl) rfl).2 rfl)
      · exact .inr fun a w hp => ob_yes rfl (ob_fieldS1 (hp.box (k := 1) rfl (Nat.le_refl _) (.inl (Nat.le_refl _)) (by kernel_rfl) rfl).1 rfl)
      · exact .inr fun a w hp => ob_yes rfl (ob_loadHi (hp.fact 7 16 (by kernel_rfl) rfl) (hp.box (k := 1) rfl (Nat.le_refl _) (.inl (Nat.le_refl _)) (by kernel_rfl) rfl).2 rfl)
      · refine .inr fun a w hp => ob_yes rfl ?_
        have h15 : a.tmps.getD 15 undef = .agg #[.bool sh2, .slice U2 Un2 Uc2, .slice V2 Vn2 Vc2] := (hp.fact 6 15 (by kernel_rfl) rfl)
        have h17 : a.tmps.getD 17 undef = .agg #[.bool sh3, .slice U3 Un3 Uc3, .slice V3 Vn3 Vc3] := (hp.fact 8 17 (by kernel_rfl) rfl)
        unfold Does
        go_simp
        refine (sadd_any _ _ _ _ _ L (IsR.fld (IH2.kept hp.kept)) (IsR.fld (IH3.kept hp.kept)) hL2 (by omega)).mono ?_
        rintro e w' ⟨u, rfl, I8, P8⟩
        exact ⟨_, rfl, P8, I8⟩
      · refine .inr fun a w hp => ob_yes rfl ?_
        have h13 : IsR w (a.tmps.getD 13 undef) (lo + lo') (L + L + 1) := (hp.fact 4 13 (by kernel_rfl) rfl)
        obtain ⟨v13, e13⟩ : ∃ v, a.tmps.getD 13 undef = v := ⟨_, rfl⟩
        rw [e13] at h13
        have h18 : IsR w (a.tmps.getD 18 undef) (hi + hi') (L + L + 1) := (hp.fact 9 18 (by kernel_rfl) rfl)
        obtain ⟨v18, e18⟩ : ∃ v, a.tmps.getD 18 undef = v := ⟨_, rfl⟩
        rw [e18] at h18
        exact ob_buildS e13 e18 h13 h18 (fun x hx => hx)
      · exact .inl rfl
    · intro f wd hon hk hf hb hap
      obtain ⟨q0, q1, q2, qz⟩ := hb
      clear qz
      have O2 : Own wd (w.heap.size) 26 #[.bool sl2, .slice P2 Pn2 Pc2, .slice R2 Rn2 Rc2, .bool sh2, .slice U2 Un2 Uc2, .slice V2 Vn2 Vc2] := q0
      have c2_0 : wd.cell? ⟨w.heap.size, 0, none⟩ = some (.bool sl2) := O2.cell 0
      have z2_0 := O2.frozen 0
      have c2_1 : wd.cell? ⟨w.heap.size, 1, none⟩ = some (.slice P2 Pn2 Pc2) := O2.cell 1
      have z2_1 := O2.frozen 1
      have c2_2 : wd.cell? ⟨w.heap.size, 2, none⟩ = some (.slice R2 Rn2 Rc2) := O2.cell 2
      have z2_2 := O2.frozen 2
      have c2_3 : wd.cell? ⟨w.heap.size, 3, none⟩ = some (.bool sh2) := O2.cell 3
      have z2_3 := O2.frozen 3
      have c2_4 : wd.cell? ⟨w.heap.size, 4, none⟩ = some (.slice U2 Un2 Uc2) := O2.cell 4
      have z2_4 := O2.frozen 4
      have c2_5 : wd.cell? ⟨w.heap.size, 5, none⟩ = some (.slice V2 Vn2 Vc2) := O2.cell 5
      have z2_5 := O2.frozen 5
      clear q0
      have O3 : Own wd (w.heap.size + 1) 26 #[.bool sl3, .slice P3 Pn3 Pc3, .slice R3 Rn3 Rc3, .bool sh3, .slice U3 Un3 Uc3, .slice V3 Vn3 Vc3] := q1
      have c3_0 : wd.cell? ⟨w.heap.size + 1, 0, none⟩ = some (.bool sl3) := O3.cell 0
      have z3_0 := O3.frozen 0
      have c3_1 : wd.cell? ⟨w.heap.size + 1, 1, none⟩ = some (.slice P3 Pn3 Pc3) := O3.cell 1
      have z3_1 := O3.frozen 1
      have c3_2 : wd.cell? ⟨w.heap.size + 1, 2, none⟩ = some (.slice R3 Rn3 Rc3) := O3.cell 2
      have z3_2 := O3.frozen 2
      have c3_3 : wd.cell? ⟨w.heap.size + 1, 3, none⟩ = some (.bool sh3) := O3.cell 3
      have z3_3 := O3.frozen 3
      have c3_4 : wd.cell? ⟨w.heap.size + 1, 4, none⟩ = some (.slice U3 Un3 Uc3) := O3.cell 4
      have z3_4 := O3.frozen 4
      have c3_5 : wd.cell? ⟨w.heap.size + 1, 5, none⟩ = some (.slice V3 Vn3 Vc3) := O3.cell 5
      have z3_5 := O3.frozen 5
      clear q1
      obtain ⟨cur4, O4, I4⟩ : ∃ cur, Own wd (w.heap.size + 2) 26 cur ∧ IsS wd (.agg cur) (lo + lo') (hi + hi') (L + L + 1) := q2
      obtain ⟨sl4, P4, Pn4, Pc4, R4, Rn4, Rc4, sh4, U4, Un4, Uc4, V4, Vn4, Vc4, hz4, IL4, IH4⟩ := id I4
      injection hz4 with hz4
      subst hz4
      have c4_0 : wd.cell? ⟨w.heap.size + 2, 0, none⟩ = some (.bool sl4) := O4.cell 0
      have z4_0 := O4.frozen 0
      have c4_1 : wd.cell? ⟨w.heap.size + 2, 1, none⟩ = some (.slice P4 Pn4 Pc4) := O4.cell 1
      have z4_1 := O4.frozen 1
      have c4_2 : wd.cell? ⟨w.heap.size + 2, 2, none⟩ = some (.slice R4 Rn4 Rc4) := O4.cell 2
      have z4_2 := O4.frozen 2
      have c4_3 : wd.cell? ⟨w.heap.size + 2, 3, none⟩ = some (.bool sh4) := O4.cell 3
      have z4_3 := O4.frozen 3
      have c4_4 : wd.cell? ⟨w.heap.size + 2, 4, none⟩ = some (.slice U4 Un4 Uc4) := O4.cell 4
      have z4_4 := O4.frozen 4
      have c4_5 : wd.cell? ⟨w.heap.size + 2, 5, none⟩ = some (.slice V4 Vn4 Vc4) := O4.cell 5
      have z4_5 := O4.frozen 5
      clear hf hap
      simp only [fillL]
      go_wp2
      exact bodyPost_ret (v := .agg #[.bool sl4, .slice P4 Pn4 Pc4, .slice R4 Rn4 Rc4, .bool sh4, .slice U4 Un4 Uc4, .slice V4 Vn4 Vc4]) (by simp [results, Tryz.results23, go_sem, c4_0, c4_1, c4_2, c4_3, c4_4, c4_5]) rfl ⟨_, rfl, I4, hon⟩
set_option maxRecDepth 100000 in
set_option maxHeartbeats 1600000 in
theorem rsub3_any (w : World) (v v' : Value) (lo hi lo' hi' : Rat) (L : Nat) (h : Sp w v lo hi L) (k : Sp w v' lo' hi' L) (hL2 : 2 ≤ L) (hL : L ≤ 1000) :
    Calls Tryz.prog 25 #[v, v'] w (SpPost w (lo - hi') (hi - lo') (L + L + 1)) := by
  obtain ⟨ba0, Aa0, na0, ca0, Ba0, ma0, oa0, bb0, Ab0, nb0, cb0, Bb0, mb0, ob0, rfl⟩ := h.form
  obtain ⟨ba1, Aa1, na1, ca1, Ba1, ma1, oa1, bb1, Ab1, nb1, cb1, Bb1, mb1, ob1, rfl⟩ := k.form
  have B : On w (((w.alloc (.cells #[.bool ba0, .slice Aa0 na0 ca0, .slice Ba0 ma0 oa0, .bool bb0, .slice Ab0 nb0 cb0, .slice Bb0 mb0 ob0] 26)).alloc (.cells #[.bool ba1, .slice Aa1 na1 ca1, .slice Ba1 ma1 oa1, .bool bb1, .slice Ab1 nb1 cb1, .slice Bb1 mb1 ob1] 26)).alloc (.cells #[.bool false, .slice none 0 0, .slice none 0 0, .bool false, .slice none 0 0, .slice none 0 0] 26)) := On.alloc (On.alloc (On.alloc (On.refl w) _) _) _
  have OB2 : w.heap.size ≤ w.heap.size ∧ Own (((w.alloc (.cells #[.bool ba0, .slice Aa0 na0 ca0, .slice Ba0 ma0 oa0, .bool bb0, .slice Ab0 nb0 cb0, .slice Bb0 mb0 ob0] 26)).alloc (.cells #[.bool ba1, .slice Aa1 na1 ca1, .slice Ba1 ma1 oa1, .bool bb1, .slice Ab1 nb1 cb1, .slice Bb1 mb1 ob1] 26)).alloc (.cells #[.bool false, .slice none 0 0, .slice none 0 0, .bool false, .slice none 0 0, .slice none 0 0] 26)) (w.heap.size) 26 #[.bool ba0, .slice Aa0 na0 ca0, .slice Ba0 ma0 oa0, .bool bb0, .slice Ab0 nb0 cb0, .slice Bb0 mb0 ob0] := ⟨by omega, (((Own.at_ w (w.heap.size) (by simp) 26 #[.bool ba0, .slice Aa0 na0 ca0, .slice Ba0 ma0 oa0, .bool bb0, .slice Ab0 nb0 cb0, .slice Bb0 mb0 ob0]).alloc (.cells #[.bool ba1, .slice Aa1 na1 ca1, .slice Ba1 ma1 oa1, .bool bb1, .slice Ab1 nb1 cb1, .slice Bb1 mb1 ob1] 26)).alloc (.cells #[.bool false, .slice none 0 0, .slice none 0 0, .bool false, .slice none 0 0, .slice none 0 0] 26))⟩
  have OB3 : w.heap.size ≤ w.heap.size + 1 ∧ Own (((w.alloc (.cells #[.bool ba0, .slice Aa0 na0 ca0, .slice Ba0 ma0 oa0, .bool bb0, .slice Ab0 nb0 cb0, .slice Bb0 mb0 ob0] 26)).alloc (.cells #[.bool ba1, .slice Aa1 na1 ca1, .slice Ba1 ma1 oa1, .bool bb1, .slice Ab1 nb1 cb1, .slice Bb1 mb1 ob1] 26)).alloc (.cells #[.bool false, .slice none 0 0, .slice none 0 0, .bool false, .slice none 0 0, .slice none 0 0] 26)) (w.heap.size + 1) 26 #[.bool ba1, .slice Aa1 na1 ca1, .slice Ba1 ma1 oa1, .bool bb1, .slice Ab1 nb1 cb1, .slice Bb1 mb1 ob1] := ⟨by omega, ((Own.at_ (w.alloc (.cells #[.bool ba0, .slice Aa0 na0 ca0, .slice Ba0 ma0 oa0, .bool bb0, .slice Ab0 nb0 cb0, .slice Bb0 mb0 ob0] 26)) (w.heap.size + 1) (by simp) 26 #[.bool ba1, .slice Aa1 na1 ca1, .slice Ba1 ma1 oa1, .bool bb1, .slice Ab1 nb1 cb1, .slice Bb1 mb1 ob1]).alloc (.cells #[.bool false, .slice none 0 0, .slice none 0 0, .bool false, .slice none 0 0, .slice none 0 0] 26))⟩
  have OB4 : w.heap.size ≤ w.heap.size + 2 ∧ Own (((w.alloc (.cells #[.bool ba0, .slice Aa0 na0 ca0, .slice Ba0 ma0 oa0, .bool bb0, .slice Ab0 nb0 cb0, .slice Bb0 mb0 ob0] 26)).alloc (.cells #[.bool ba1, .slice Aa1 na1 ca1, .slice Ba1 ma1 oa1, .bool bb1, .slice Ab1 nb1 cb1, .slice Bb1 mb1 ob1] 26)).alloc (.cells #[.bool false, .slice none 0 0, .slice none 0 0, .bool false, .slice none 0 0, .slice none 0 0] 26)) (w.heap.size + 2) 26 #[.bool false, .slice none 0 0, .slice none 0 0, .bool false, .slice none 0 0, .slice none 0 0] := ⟨by omega, (Own.at_ ((w.alloc (.cells #[.bool ba0, .slice Aa0 na0 ca0, .slice Ba0 ma0 oa0, .bool bb0, .slice Ab0 nb0 cb0, .slice Bb0 mb0 ob0] 26)).alloc (.cells #[.bool ba1, .slice Aa1 na1 ca1, .slice Ba1 ma1 oa1, .bool bb1, .slice Ab1 nb1 cb1, .slice Bb1 mb1 ob1] 26)) (w.heap.size + 2) (by simp) 26 #[.bool false, .slice none 0 0, .slice none 0 0, .bool false, .slice none 0 0, .slice none 0 0])⟩
  go_enter Tryz.func25, Tryz.ntmps25
  go_wp2
  refine wp_region_facts (by kernel_rfl) w [Fact.eq (.agg #[.bool ba0, .slice Aa0 na0 ca0, .slice Ba0 ma0 oa0, .bool bb0, .slice Ab0 nb0 cb0, .slice Bb0 mb0 ob0]), Fact.sp (lo) (hi) (L), Fact.eq (.agg #[.bool ba1, .slice Aa1 na1 ca1, .slice Ba1 ma1 oa1, .bool bb1, .slice Ab1 nb1 cb1, .slice Bb1 mb1 ob1]), Fact.sp (lo') (hi') (L), Fact.any, Fact.any] [Fact.sp (lo) (hi) (L), Fact.sp (lo') (hi') (L), Fact.any] [⟨6, 2, 26, 4, #[.bool ba0, .slice Aa0 na0 ca0, .slice Ba0 ma0 oa0, .bool bb0, .slice Ab0 nb0 cb0, .slice Bb0 mb0 ob0]⟩, ⟨6, 3, 26, 5, #[.bool ba1, .slice Aa1 na1 ca1, .slice Ba1 ma1 oa1, .bool bb1, .slice Ab1 nb1 cb1, .slice Bb1 mb1 ob1]⟩, ⟨6, 4, 26, 6, #[.bool false, .slice none 0 0, .slice none 0 0, .bool false, .slice none 0 0, .slice none 0 0]⟩] [w.heap.size, w.heap.size + 1, w.heap.size + 2] [none, none, none, none, none, some 5, some 6, some 7, some 8, none, none, none, none, none, none, none, none, none, none, none] (by kernel_rfl) (by kernel_rfl) (by kernel_rfl) rfl B ?_ ?_ ?_ ?_ ?_
  · exact ⟨fun _ => ⟨by simp, rfl, OB2⟩, fun _ => ⟨by simp, rfl, OB3⟩, fun _ => ⟨by simp, rfl, OB4⟩, trivial⟩
  · exact .inr (by simp <;> omega)
  · exact ⟨⟨noWords_S _ _ _ _ _ _ _ _ _ _ _ _ _ _, (.inl (Nat.le_refl _)), (.inr (store_obS (j := 1) (noWords_S _ _ _ _ _ _ _ _ _ _ _ _ _ _) rfl rfl rfl (by kernel_rfl) rfl rfl rfl))⟩, ⟨noWords_S _ _ _ _ _ _ _ _ _ _ _ _ _ _, (.inl (Nat.le_refl _)), (.inr (store_obS (j := 3) (noWords_S _ _ _ _ _ _ _ _ _ _ _ _ _ _) rfl rfl rfl (by kernel_rfl) rfl rfl rfl))⟩, ⟨noWords_S _ _ _ _ _ _ _ _ _ _ _ _ _ _, (.inl (Nat.le_refl _)), (.inl (Nat.le_refl _))⟩, trivial⟩
  · refine ⟨?_, ?_, ?_, ?_, ?_, ?_, trivial⟩
    · exact .inr fun a w hp => ob_yes rfl (ob_loadSp (hp.box (k := 0) rfl (Nat.le_refl _) (.inr (.inl (by kernel_rfl))) (by kernel_rfl) rfl).1 (hp.box (k := 0) rfl (Nat.le_refl _) (.inr (.inl (by kernel_rfl))) (by kernel_rfl) rfl).2 rfl)
    · refine .inr fun a w hp => ob_yes rfl ?_
      have h5 : a.tmps.getD 5 undef = .agg #[.bool ba0, .slice Aa0 na0 ca0, .slice Ba0 ma0 oa0, .bool bb0, .slice Ab0 nb0 cb0, .slice Bb0 mb0 ob0] := (hp.fact 0 5 (by kernel_rfl) rfl)
      unfold Does
      go_simp
      refine (rarg_any _ _ _ _ L (h.on hp.on) hL2 (by omega)).mono ?_
      rintro e w' ⟨u, rfl, I8, P8⟩
      exact ⟨_, rfl, P8, I8⟩
    · exact .inr fun a w hp => ob_yes rfl (ob_loadSp (hp.box (k := 1) rfl (Nat.le_refl _) (.inr (.inl (by kernel_rfl))) (by kernel_rfl) rfl).1 (hp.box (k := 1) rfl (Nat.le_refl _) (.inr (.inl (by kernel_rfl))) (by kernel_rfl) rfl).2 rfl)
    · refine .inr fun a w hp => ob_yes rfl ?_
      have h7 : a.tmps.getD 7 undef = .agg #[.bool ba1, .slice Aa1 na1 ca1, .slice Ba1 ma1 oa1, .bool bb1, .slice Ab1 nb1 cb1, .slice Bb1 mb1 ob1] := (hp.fact 2 7 (by kernel_rfl) rfl)
      unfold Does
      go_simp
      refine (rarg_any _ _ _ _ L (k.on hp.on) hL2 (by omega)).mono ?_
      rintro e w' ⟨u, rfl, I8, P8⟩
      exact ⟨_, rfl, P8, I8⟩
    · exact .inl rfl
    · exact .inl rfl
  · intro f wr hon hk hf hb hap
    obtain ⟨q0, q1, q2, qz⟩ := hb
    clear qz
    obtain ⟨cur2, O2, I2⟩ : ∃ cur, Own wr (w.heap.size) 26 cur ∧ IsS wr (.agg cur) (lo) (hi) (L) := q0
    obtain ⟨sl2, P2, Pn2, Pc2, R2, Rn2, Rc2, sh2, U2, Un2, Uc2, V2, Vn2, Vc2, hz2, IL2, IH2⟩ := id I2
    injection hz2 with hz2
    subst hz2
    have c2_0 : wr.cell? ⟨w.heap.size, 0, none⟩ = some (.bool sl2) := O2.cell 0
    have z2_0 := O2.frozen 0
    have c2_1 : wr.cell? ⟨w.heap.size, 1, none⟩ = some (.slice P2 Pn2 Pc2) := O2.cell 1
    have z2_1 := O2.frozen 1
    have c2_2 : wr.cell? ⟨w.heap.size, 2, none⟩ = some (.slice R2 Rn2 Rc2) := O2.cell 2
    have z2_2 := O2.frozen 2
    have c2_3 : wr.cell? ⟨w.heap.size, 3, none⟩ = some (.bool sh2) := O2.cell 3
    have z2_3 := O2.frozen 3
    have c2_4 : wr.cell? ⟨w.heap.size, 4, none⟩ = some (.slice U2 Un2 Uc2) := O2.cell 4
    have z2_4 := O2.frozen 4
    have c2_5 : wr.cell? ⟨w.heap.size, 5, none⟩ = some (.slice V2 Vn2 Vc2) := O2.cell 5
    have z2_5 := O2.frozen 5
    obtain ⟨cur3, O3, I3⟩ : ∃ cur, Own wr (w.heap.size + 1) 26 cur ∧ IsS wr (.agg cur) (lo') (hi') (L) := q1
    obtain ⟨sl3, P3, Pn3, Pc3, R3, Rn3, Rc3, sh3, U3, Un3, Uc3, V3, Vn3, Vc3, hz3, IL3, IH3⟩ := id I3
    injection hz3 with hz3
    subst hz3
    have c3_0 : wr.cell? ⟨w.heap.size + 1, 0, none⟩ = some (.bool sl3) := O3.cell 0
    have z3_0 := O3.frozen 0
    have c3_1 : wr.cell? ⟨w.heap.size + 1, 1, none⟩ = some (.slice P3 Pn3 Pc3) := O3.cell 1
    have z3_1 := O3.frozen 1
    have c3_2 : wr.cell? ⟨w.heap.size + 1, 2, none⟩ = some (.slice R3 Rn3 Rc3) := O3.cell 2
    have z3_2 := O3.frozen 2
    have c3_3 : wr.cell? ⟨w.heap.size + 1, 3, none⟩ = some (.bool sh3) := O3.cell 3
    have z3_3 := O3.frozen 3
    have c3_4 : wr.cell? ⟨w.heap.size + 1, 4, none⟩ = some (.slice U3 Un3 Uc3) := O3.cell 4
    have z3_4 := O3.frozen 4
    have c3_5 : wr.cell? ⟨w.heap.size + 1, 5, none⟩ = some (.slice V3 Vn3 Vc3) := O3.cell 5
    have z3_5 := O3.frozen 5
    have O4 : Own wr (w.heap.size + 2) 26 #[.bool false, .slice none 0 0, .slice none 0 0, .bool false, .slice none 0 0, .slice none 0 0] := q2
    have c4_0 : wr.cell? ⟨w.heap.size + 2, 0, none⟩ = some (.bool false) := O4.cell 0
    have z4_0 := O4.frozen 0
    have c4_1 : wr.cell? ⟨w.heap.size + 2, 1, none⟩ = some (.slice none 0 0) := O4.cell 1
    have z4_1 := O4.frozen 1
    have c4_2 : wr.cell? ⟨w.heap.size + 2, 2, none⟩ = some (.slice none 0 0) := O4.cell 2
    have z4_2 := O4.frozen 2
    have c4_3 : wr.cell? ⟨w.heap.size + 2, 3, none⟩ = some (.bool false) := O4.cell 3
    have z4_3 := O4.frozen 3
    have c4_4 : wr.cell? ⟨w.heap.size + 2, 4, none⟩ = some (.slice none 0 0) := O4.cell 4
    have z4_4 := O4.frozen 4
    have c4_5 : wr.cell? ⟨w.heap.size + 2, 5, none⟩ = some (.slice none 0 0) := O4.cell 5
    have z4_5 := O4.frozen 5
    clear q2
    clear hf hap
    simp only [fillL]
    have OB2 : w.heap.size ≤ w.heap.size ∧ Own wr (w.heap.size) 26 #[.bool sl2, .slice P2 Pn2 Pc2, .slice R2 Rn2 Rc2, .bool sh2, .slice U2 Un2 Uc2, .slice V2 Vn2 Vc2] := ⟨by omega, O2⟩
    clear c2_0 z2_0 c2_1 z2_1 c2_2 z2_2 c2_3 z2_3 c2_4 z2_4 c2_5 z2_5 O2
    have OB3 : w.heap.size ≤ w.heap.size + 1 ∧ Own wr (w.heap.size + 1) 26 #[.bool sl3, .slice P3 Pn3 Pc3, .slice R3 Rn3 Rc3, .bool sh3, .slice U3 Un3 Uc3, .slice V3 Vn3 Vc3] := ⟨by omega, O3⟩
    clear c3_0 z3_0 c3_1 z3_1 c3_2 z3_2 c3_3 z3_3 c3_4 z3_4 c3_5 z3_5 O3
    have OB4 : w.heap.size ≤ w.heap.size + 2 ∧ Own wr (w.heap.size + 2) 26 #[.bool false, .slice none 0 0, .slice none 0 0, .bool false, .slice none 0 0, .slice none 0 0] := ⟨by omega, O4⟩
    clear c4_0 z4_0 c4_1 z4_1 c4_2 z4_2 c4_3 z4_3 c4_4 z4_4 c4_5 z4_5 O4
    clear B
    have B := hon
    clear hon hk h k
    go_wp2
    refine wp_region_facts (by kernel_rfl) w [Fact.eq (.pointer (some ⟨w.heap.size, 0, none⟩)), Fact.eq (.agg #[.bool sl2, .slice P2 Pn2 Pc2, .slice R2 Rn2 Rc2]), Fact.eq (.pointer (some ⟨w.heap.size + 1, 3, none⟩)), Fact.eq (.agg #[.bool sh3, .slice U3 Un3 Uc3, .slice V3 Vn3 Vc3]), Fact.rat (lo - hi') (L + L + 1), Fact.eq (.pointer (some ⟨w.heap.size, 3, none⟩)), Fact.eq (.agg #[.bool sh2, .slice U2 Un2 Uc2, .slice V2 Vn2 Vc2]), Fact.eq (.pointer (some ⟨w.heap.size + 1, 0, none⟩)), Fact.eq (.agg #[.bool sl3, .slice P3 Pn3 Pc3, .slice R3 Rn3 Rc3]), Fact.rat (hi - lo') (L + L + 1), Fact.sp (lo - hi') (hi - lo') (L + L + 1), Fact.any] [Fact.any, Fact.any, Fact.sp (lo - hi') (hi - lo') (L + L + 1)] [⟨12, 2, 26, 12, #[.bool sl2, .slice P2 Pn2 Pc2, .slice R2 Rn2 Rc2, .bool sh2, .slice U2 Un2 Uc2, .slice V2 Vn2 Vc2]⟩, ⟨12, 3, 26, 12, #[.bool sl3, .slice P3 Pn3 Pc3, .slice R3 Rn3 Rc3, .bool sh3, .slice U3 Un3 Uc3, .slice V3 Vn3 Vc3]⟩, ⟨12, 4, 26, 11, #[.bool false, .slice none 0 0, .slice none 0 0, .bool false, .slice none 0 0, .slice none 0 0]⟩] [w.heap.size, w.heap.size + 1, w.heap.size + 2] [none, none, none, none, none, none, none, none, none, some 9, some 10, some 11, some 12, some 13, some 14, some 15, some 16, some 17, some 18, some 19] (by kernel_rfl) (by kernel_rfl) (by kernel_rfl) rfl B ?_ ?_ ?_ ?_ ?_
    · exact ⟨fun _ => ⟨by simp, rfl, OB2⟩, fun _ => ⟨by simp, rfl, OB3⟩, fun _ => ⟨by simp, rfl, OB4⟩, trivial⟩
    · exact .inr (by simp <;> omega)
    · exact ⟨⟨noWords_S _ _ _ _ _ _ _ _ _ _ _ _ _ _, (.inl (Nat.le_refl _)), (.inl (Nat.le_refl _))⟩, ⟨noWords_S _ _ _ _ _ _ _ _ _ _ _ _ _ _, (.inl (Nat.le_refl _)), (.inl (Nat.le_refl _))⟩, ⟨noWords_S _ _ _ _ _ _ _ _ _ _ _ _ _ _, (.inl (Nat.le_refl _)), (.inr (store_obS (j := 10) (noWords_S _ _ _ _ _ _ _ _ _ _ _ _ _ _) rfl rfl rfl (by kernel_rfl) rfl rfl rfl))⟩, trivial⟩
    · refine ⟨?_, ?_, ?_, ?_, ?_, ?_, ?_, ?_, ?_, ?_, ?_, ?_, trivial⟩
      · exact .inr fun a w hp => ob_yes rfl (ob_fieldS0 (hp.box (k := 0) rfl (Nat.le_refl _) (.inl (Nat.le_refl _)) (by kernel_rfl) rfl).1 rfl)
      · exact .inr fun a w hp => ob_yes rfl (ob_loadLo (hp.fact 0 9 (by kernel_rfl) rfl) (hp.box (k := 0) rfl (Nat.le_refl _) (.inl (Nat.le_refl _)) (by kernel_rfl) rfl).2 rfl)
      · exact .inr fun a w hp => ob_yes rfl (ob_fieldS1 (hp.box (k := 1) rfl (Nat.le_refl _) (.inl (Nat.le_refl _)) (by kernel_rfl) rfl).1 rfl)
      · exact .inr fun a w hp => ob_yes rfl (ob_loadHi (hp.fact 2 11 (by kernel_rfl) rfl) (hp.box (k := 1) rfl (Nat.le_refl _) (.inl (Nat.le_refl _)) (by kernel_rfl) rfl).2 rfl)
      · refine .inr fun a w hp => ob_yes rfl ?_
        have h10 : a.tmps.getD 10 undef = .agg #[.bool sl2, .slice P2 Pn2 Pc2, .slice R2 Rn2 Rc2] := (hp.fact 1 10 (by kernel_rfl) rfl)
        have h12 : a.tmps.getD 12 undef = .agg #[.bool sh3, .slice U3 Un3 Uc3, .slice V3 Vn3 Vc3] := (hp.fact 3 12 (by kernel_rfl) rfl)
        unfold Does
        go_simp
        refine (ssub_any _ _ _ _ _ L (IsR.fld (IL2.kept hp.kept)) (IsR.fld (IH3.kept hp.kept)) hL2 (by omega)).mono ?_
        rintro e w' ⟨u, rfl, I8, P8⟩
        exact ⟨_, rfl, P8, I8⟩
      · exact .inr fun a w hp => ob_yes rfl (ob_fieldS1 (hp.box (k := 0) rfl (Nat.le_refl _) (.inl (Nat.le_refl _)) (by kernel_rfl) rfl).1 rfl)
      · exact .inr fun a w hp => ob_yes rfl (ob_loadHi (hp.fact 5 14 (by kernel_rfl) rfl) (hp.box (k := 0) rfl (Nat.le_refl _) (.inl (Nat.le_refl _)) (by kernel_rfl) rfl).2 rfl)
      · exact .inr fun a w hp => ob_yes rfl (ob_fieldS0 (hp.box (k := 1) rfl (Nat.le_refl _) (.inl (Nat.le_refl _)) (by kernel_rfl) rfl).1 rfl)
      · exact .inr fun a w hp => ob_yes rfl (ob_loadLo (hp.fact 7 16 (by kernel_rfl) rfl) (hp.box (k := 1) rfl (Nat.le_refl _) (.inl (Nat.le_refl _)) (by kernel_rfl) rfl).2 rfl)
      · refine .inr fun a w hp => ob_yes rfl ?_
        have h15 : a.tmps.getD 15 undef = .agg #[.bool sh2, .slice U2 Un2 Uc2, .slice V2 Vn2 Vc2] := (hp.fact 6 15 (by kernel_rfl) rfl)
        have h17 : a.tmps.getD 17 undef = .agg #[.bool sl3, .slice P3 Pn3 Pc3, .slice R3 Rn3 Rc3] := (hp.fact 8 17 (by kernel_rfl) rfl)
        unfold Does
        go_simp
        refine (ssub_any _ _ _ _ _ L (IsR.fld (IH2.kept hp.kept)) (IsR.fld (IL3.kept hp.kept)) hL2 (by omega)).mono ?_
        rintro e w' ⟨u, rfl, I8, P8⟩
        exact ⟨_, rfl, P8, I8⟩
      · refine .inr fun a w hp => ob_yes rfl ?_
        have h13 : IsR w (a.tmps.getD 13 undef) (lo - hi') (L + L + 1) := (hp.fact 4 13 (by kernel_rfl) rfl)
        obtain ⟨v13, e13⟩ : ∃ v, a.tmps.getD 13 undef = v := ⟨_, rfl⟩
        rw [e13] at h13
        have h18 : IsR w (a.tmps.getD 18 undef) (hi - lo') (L + L + 1) := (hp.fact 9 18 (by kernel_rfl) rfl)
        obtain ⟨v18, e18⟩ : ∃ v, a.tmps.getD 18 undef = v := ⟨_, rfl⟩
        rw [e18] at h18
        exact ob_buildS e13 e18 h13 h18 (fun x hx => hx)
      · exact .inl rfl
    · intro f wd hon hk hf hb hap
      obtain ⟨q0, q1, q2, qz⟩ := hb
      clear qz
      have O2 : Own wd (w.heap.size) 26 #[.bool sl2, .slice P2 Pn2 Pc2, .slice R2 Rn2 Rc2, .bool sh2, .slice U2 Un2 Uc2, .slice V2 Vn2 Vc2] := q0
      have c2_0 : wd.cell? ⟨w.heap.size, 0, none⟩ = some (.bool sl2) := O2.cell 0
      have z2_0 := O2.frozen 0
      have c2_1 : wd.cell? ⟨w.heap.size, 1, none⟩ = some (.slice P2 Pn2 Pc2) := O2.cell 1
      have z2_1 := O2.frozen 1
      have c2_2 : wd.cell? ⟨w.heap.size, 2, none⟩ = some (.slice R2 Rn2 Rc2) := O2.cell 2
      have z2_2 := O2.frozen 2
      have c2_3 : wd.cell? ⟨w.heap.size, 3, none⟩ = some (.bool sh2) := O2.cell 3
      have z2_3 := O2.frozen 3
      have c2_4 : wd.cell? ⟨w.heap.size, 4, none⟩ = some (.slice U2 Un2 Uc2) := O2.cell 4
      have z2_4 := O2.frozen 4
      have c2_5 : wd.cell? ⟨w.heap.size, 5, none⟩ = some (.slice V2 Vn2 Vc2) := O2.cell 5
      have z2_5 := O2.frozen 5
      clear q0
      have O3 : Own wd (w.heap.size + 1) 26 #[.bool sl3, .slice P3 Pn3 Pc3, .slice R3 Rn3 Rc3, .bool sh3, .slice U3 Un3 Uc3, .slice V3 Vn3 Vc3] := q1
      have c3_0 : wd.cell? ⟨w.heap.size + 1, 0, none⟩ = some (.bool sl3) := O3.cell 0
      have z3_0 := O3.frozen 0
      have c3_1 : wd.cell? ⟨w.heap.size + 1, 1, none⟩ = some (.slice P3 Pn3 Pc3) := O3.cell 1
      have z3_1 := O3.frozen 1
      have c3_2 : wd.cell? ⟨w.heap.size + 1, 2, none⟩ = some (.slice R3 Rn3 Rc3) := O3.cell 2
      have z3_2 := O3.frozen 2
      have c3_3 : wd.cell? ⟨w.heap.size + 1, 3, none⟩ = some (.bool sh3) := O3.cell 3
      have z3_3 := O3.frozen 3
      have c3_4 : wd.cell? ⟨w.heap.size + 1, 4, none⟩ = some (.slice U3 Un3 Uc3) := O3.cell 4
      have z3_4 := O3.frozen 4
      have c3_5 : wd.cell? ⟨w.heap.size + 1, 5, none⟩ = some (.slice V3 Vn3 Vc3) := O3.cell 5
      have z3_5 := O3.frozen 5
      clear q1
      obtain ⟨cur4, O4, I4⟩ : ∃ cur, Own wd (w.heap.size + 2) 26 cur ∧ IsS wd (.agg cur) (lo - hi') (hi - lo') (L + L + 1) := q2
      obtain ⟨sl4, P4, Pn4, Pc4, R4, Rn4, Rc4, sh4, U4, Un4, Uc4, V4, Vn4, Vc4, hz4, IL4, IH4⟩ := id I4
      injection hz4 with hz4
      subst hz4
      have c4_0 : wd.cell? ⟨w.heap.size + 2, 0, none⟩ = some (.bool sl4) := O4.cell 0
      have z4_0 := O4.frozen 0
      have c4_1 : wd.cell? ⟨w.heap.size + 2, 1, none⟩ = some (.slice P4 Pn4 Pc4) := O4.cell 1
      have z4_1 := O4.frozen 1
      have c4_2 : wd.cell? ⟨w.heap.size + 2, 2, none⟩ = some (.slice R4 Rn4 Rc4) := O4.cell 2
      have z4_2 := O4.frozen 2
      have c4_3 : wd.cell? ⟨w.heap.size + 2, 3, none⟩ = some (.bool sh4) := O4.cell 3
      have z4_3 := O4.frozen 3
      have c4_4 : wd.cell? ⟨w.heap.size + 2, 4, none⟩ = some (.slice U4 Un4 Uc4) := O4.cell 4
      have z4_4 := O4.frozen 4
      have c4_5 : wd.cell? ⟨w.heap.size + 2, 5, none⟩ = some (.slice V4 Vn4 Vc4) := O4.cell 5
      have z4_5 := O4.frozen 5
      clear hf hap
      simp only [fillL]
      go_wp2
      exact bodyPost_ret (v := .agg #[.bool sl4, .slice P4 Pn4 Pc4, .slice R4 Rn4 Rc4, .bool sh4, .slice U4 Un4 Uc4, .slice V4 Vn4 Vc4]) (by simp [results, Tryz.results25, go_sem, c4_0, c4_1, c4_2, c4_3, c4_4, c4_5]) rfl ⟨_, rfl, I4, hon⟩
set_option maxRecDepth 100000 in
set_option maxHeartbeats 1600000 in
theorem rneg3_any (w : World) (v : Value) (lo hi : Rat) (L : Nat) (h : Sp w v lo hi L) (hL2 : 2 ≤ L) (hL : L ≤ 400) :
    Calls Tryz.prog 27 #[v] w (SpPost w (-hi) (-lo) (L + L + 1)) := by
  obtain ⟨ba0, Aa0, na0, ca0, Ba0, ma0, oa0, bb0, Ab0, nb0, cb0, Bb0, mb0, ob0, rfl⟩ := h.form
  have B : On w ((w.alloc (.cells #[.bool ba0, .slice Aa0 na0 ca0, .slice Ba0 ma0 oa0, .bool bb0, .slice Ab0 nb0 cb0, .slice Bb0 mb0 ob0] 26)).alloc (.cells #[.bool false, .slice none 0 0, .slice none 0 0, .bool false, .slice none 0 0, .slice none 0 0] 26)) := On.alloc (On.alloc (On.refl w) _) _
  have OB1 : w.heap.size ≤ w.heap.size ∧ Own ((w.alloc (.cells #[.bool ba0, .slice Aa0 na0 ca0, .slice Ba0 ma0 oa0, .bool bb0, .slice Ab0 nb0 cb0, .slice Bb0 mb0 ob0] 26)).alloc (.cells #[.bool false, .slice none 0 0, .slice none 0 0, .bool false, .slice none 0 0, .slice none 0 0] 26)) (w.heap.size) 26 #[.bool ba0, .slice Aa0 na0 ca0, .slice Ba0 ma0 oa0, .bool bb0, .slice Ab0 nb0 cb0, .slice Bb0 mb0 ob0] := ⟨by omega, ((Own.at_ w (w.heap.size) (by simp) 26 #[.bool ba0, .slice Aa0 na0 ca0, .slice Ba0 ma0 oa0, .bool bb0, .slice Ab0 nb0 cb0, .slice Bb0 mb0 ob0]).alloc (.cells #[.bool false, .slice none 0 0, .slice none 0 0, .bool false, .slice none 0 0, .slice none 0 0] 26))⟩
  have OB2 : w.heap.size ≤ w.heap.size + 1 ∧ Own ((w.alloc (.cells #[.bool ba0, .slice Aa0 na0 ca0, .slice Ba0 ma0 oa0, .bool bb0, .slice Ab0 nb0 cb0, .slice Bb0 mb0 ob0] 26)).alloc (.cells #[.bool false, .slice none 0 0, .slice none 0 0, .bool false, .slice none 0 0, .slice none 0 0] 26)) (w.heap.size + 1) 26 #[.bool false, .slice none 0 0, .slice none 0 0, .bool false, .slice none 0 0, .slice none 0 0] := ⟨by omega, (Own.at_ (w.alloc (.cells #[.bool ba0, .slice Aa0 na0 ca0, .slice Ba0 ma0 oa0, .bool bb0, .slice Ab0 nb0 cb0, .slice Bb0 mb0 ob0] 26)) (w.heap.size + 1) (by simp) 26 #[.bool false, .slice none 0 0, .slice none 0 0, .bool false, .slice none 0 0, .slice none 0 0])⟩
  go_enter Tryz.func27, Tryz.ntmps27
  go_wp2_with fail
  refine (rsub3_any _ _ _ 0 0 lo hi L ((isS_zero _ _).sp Rat.le_refl) (h.on B) hL2 (by omega)).mono ?_
  rintro e w1 ⟨u, rfl, I, P1_⟩
  rw [show 0 - hi = -hi from by grind, show 0 - lo = -lo from by grind] at I
  obtain ⟨sl2, P2, Pn2, Pc2, R2, Rn2, Rc2, sh2, U2, Un2, Uc2, V2, Vn2, Vc2, rfl, IL2, IH2⟩ := id I
  replace OB1 := And.intro OB1.1 (OB1.2.on P1_)
  replace OB2 := And.intro OB2.1 (OB2.2.on P1_)
  replace B := B.trans P1_
  have c2_0 : w1.cell? ⟨w.heap.size + 1, 0, none⟩ = some (.bool false) := OB2.2.cell 0
  have c2_1 : w1.cell? ⟨w.heap.size + 1, 1, none⟩ = some (.slice none 0 0) := OB2.2.cell 1
  have c2_2 : w1.cell? ⟨w.heap.size + 1, 2, none⟩ = some (.slice none 0 0) := OB2.2.cell 2
  have c2_3 : w1.cell? ⟨w.heap.size + 1, 3, none⟩ = some (.bool false) := OB2.2.cell 3
  have c2_4 : w1.cell? ⟨w.heap.size + 1, 4, none⟩ = some (.slice none 0 0) := OB2.2.cell 4
  have c2_5 : w1.cell? ⟨w.heap.size + 1, 5, none⟩ = some (.slice none 0 0) := OB2.2.cell 5
  have c2_f0 := OB2.2.frozen 0
  have c2_f1 := OB2.2.frozen 1
  have c2_f2 := OB2.2.frozen 2
  have c2_f3 := OB2.2.frozen 3
  have c2_f4 := OB2.2.frozen 4
  have c2_f5 := OB2.2.frozen 5
  have I2s := I.kept (Kept.only (only6 (w := w1) (g := w.heap.size + 1) (.bool sl2) (.slice P2 Pn2 Pc2) (.slice R2 Rn2 Rc2) (.bool sh2) (.slice U2 Un2 Uc2) (.slice V2 Vn2 Vc2)) OB2.2 (noWords_S _ _ _ _ _ _ _ _ _ _ _ _ _ _))
  have hon := on6 (g := w.heap.size + 1) B (by omega) (.bool sl2) (.slice P2 Pn2 Pc2) (.slice R2 Rn2 Rc2) (.bool sh2) (.slice U2 Un2 Uc2) (.slice V2 Vn2 Vc2)
  go_wp2
  exact bodyPost_ret (v := .agg #[.bool sl2, .slice P2 Pn2 Pc2, .slice R2 Rn2 Rc2, .bool sh2, .slice U2 Un2 Uc2, .slice V2 Vn2 Vc2]) (by simp [results, Tryz.results27, go_sem, c2_0, c2_1, c2_2, c2_3, c2_4, c2_5]) rfl ⟨_, rfl, I2s, hon⟩
set_option maxRecDepth 100000 in
set_option maxHeartbeats 1600000 in
theorem rnot3_any (w : World) (v : Value) (lo hi : Rat) (L : Nat) (h : Sp w v lo hi L) (hL2 : 2 ≤ L) (hL : L ≤ 400) :
    Calls Tryz.prog 29 #[v] w (SpPost w (1 - hi) (1 - lo) (L + L + 1)) := by
  obtain ⟨ba0, Aa0, na0, ca0, Ba0, ma0, oa0, bb0, Ab0, nb0, cb0, Bb0, mb0, ob0, rfl⟩ := h.form
  have B : On w ((w.alloc (.cells #[.bool ba0, .slice Aa0 na0 ca0, .slice Ba0 ma0 oa0, .bool bb0, .slice Ab0 nb0 cb0, .slice Bb0 mb0 ob0] 26)).alloc (.cells #[.bool false, .slice none 0 0, .slice none 0 0, .bool false, .slice none 0 0, .slice none 0 0] 26)) := On.alloc (On.alloc (On.refl w) _) _
  have OB1 : w.heap.size ≤ w.heap.size ∧ Own ((w.alloc (.cells #[.bool ba0, .slice Aa0 na0 ca0, .slice Ba0 ma0 oa0, .bool bb0, .slice Ab0 nb0 cb0, .slice Bb0 mb0 ob0] 26)).alloc (.cells #[.bool false, .slice none 0 0, .slice none 0 0, .bool false, .slice none 0 0, .slice none 0 0] 26)) (w.heap.size) 26 #[.bool ba0, .slice Aa0 na0 ca0, .slice Ba0 ma0 oa0, .bool bb0, .slice Ab0 nb0 cb0, .slice Bb0 mb0 ob0] := ⟨by omega, ((Own.at_ w (w.heap.size) (by simp) 26 #[.bool ba0, .slice Aa0 na0 ca0, .slice Ba0 ma0 oa0, .bool bb0, .slice Ab0 nb0 cb0, .slice Bb0 mb0 ob0]).alloc (.cells #[.bool false, .slice none 0 0, .slice none 0 0, .bool false, .slice none 0 0, .slice none 0 0] 26))⟩
  have OB2 : w.heap.size ≤ w.heap.size + 1 ∧ Own ((w.alloc (.cells #[.bool ba0, .slice Aa0 na0 ca0, .slice Ba0 ma0 oa0, .bool bb0, .slice Ab0 nb0 cb0, .slice Bb0 mb0 ob0] 26)).alloc (.cells #[.bool false, .slice none 0 0, .slice none 0 0, .bool false, .slice none 0 0, .slice none 0 0] 26)) (w.heap.size + 1) 26 #[.bool false, .slice none 0 0, .slice none 0 0, .bool false, .slice none 0 0, .slice none 0 0] := ⟨by omega, (Own.at_ (w.alloc (.cells #[.bool ba0, .slice Aa0 na0 ca0, .slice Ba0 ma0 oa0, .bool bb0, .slice Ab0 nb0 cb0, .slice Bb0 mb0 ob0] 26)) (w.heap.size + 1) (by simp) 26 #[.bool false, .slice none 0 0, .slice none 0 0, .bool false, .slice none 0 0, .slice none 0 0])⟩
  go_enter Tryz.func29, Tryz.ntmps29
  go_wp2
  refine wp_region_facts (by kernel_rfl) w [Fact.rat (1) (2), Fact.sp (1) (1) (2), Fact.eq (.agg #[.bool ba0, .slice Aa0 na0 ca0, .slice Ba0 ma0 oa0, .bool bb0, .slice Ab0 nb0 cb0, .slice Bb0 mb0 ob0]), Fact.sp (1 - hi) (1 - lo) (L + L + 1), Fact.any] [Fact.any, Fact.sp (1 - hi) (1 - lo) (L + L + 1)] [⟨5, 1, 26, 5, #[.bool ba0, .slice Aa0 na0 ca0, .slice Ba0 ma0 oa0, .bool bb0, .slice Ab0 nb0 cb0, .slice Bb0 mb0 ob0]⟩, ⟨5, 2, 26, 4, #[.bool false, .slice none 0 0, .slice none 0 0, .bool false, .slice none 0 0, .slice none 0 0]⟩] [w.heap.size, w.heap.size + 1] [none, none, none, some 3, some 4, some 5, some 6] (by kernel_rfl) (by kernel_rfl) (by kernel_rfl) rfl B ?_ ?_ ?_ ?_ ?_
  · exact ⟨fun _ => ⟨by simp, rfl, OB1⟩, fun _ => ⟨by simp, rfl, OB2⟩, trivial⟩
  · exact .inr (by simp <;> omega)
  · exact ⟨⟨noWords_S _ _ _ _ _ _ _ _ _ _ _ _ _ _, (.inl (Nat.le_refl _)), (.inl (Nat.le_refl _))⟩, ⟨noWords_S _ _ _ _ _ _ _ _ _ _ _ _ _ _, (.inl (Nat.le_refl _)), (.inr (store_obS (j := 3) (noWords_S _ _ _ _ _ _ _ _ _ _ _ _ _ _) rfl rfl rfl (by kernel_rfl) rfl rfl rfl))⟩, trivial⟩
  · refine ⟨?_, ?_, ?_, ?_, ?_, trivial⟩
    · refine .inr fun a w hp => ob_yes rfl ?_
      unfold Does
      go_simp
      refine (rofr_any _ 1 (by decide) (by decide)).mono ?_
      rintro e w' ⟨u, rfl, I8, P8⟩
      exact ⟨_, rfl, P8, I8⟩
    · refine .inr fun a w hp => ob_yes rfl ?_
      have h3 : IsR w (a.tmps.getD 3 undef) (1) (2) := (hp.fact 0 3 (by kernel_rfl) rfl)
      obtain ⟨v3, e3⟩ : ∃ v, a.tmps.getD 3 undef = v := ⟨_, rfl⟩
      rw [e3] at h3
      unfold Does
      go_simp
      refine (rpoint3_any _ _ 1 2 (IsR.fld h3) (by decide) (by decide)).mono ?_
      rintro e w' ⟨u, rfl, I8, P8⟩
      exact ⟨_, rfl, P8, I8⟩
    · exact .inr fun a w hp => ob_yes rfl (ob_loadSp (hp.box (k := 0) rfl (Nat.le_refl _) (.inl (Nat.le_refl _)) (by kernel_rfl) rfl).1 (hp.box (k := 0) rfl (Nat.le_refl _) (.inl (Nat.le_refl _)) (by kernel_rfl) rfl).2 rfl)
    · refine .inr fun a w hp => ob_yes rfl ?_
      have h4 : IsS w (a.tmps.getD 4 undef) (1) (1) (2) := (hp.fact 1 4 (by kernel_rfl) rfl)
      obtain ⟨v4, e4⟩ : ∃ v, a.tmps.getD 4 undef = v := ⟨_, rfl⟩
      rw [e4] at h4
      have h5 : a.tmps.getD 5 undef = .agg #[.bool ba0, .slice Aa0 na0 ca0, .slice Ba0 ma0 oa0, .bool bb0, .slice Ab0 nb0 cb0, .slice Bb0 mb0 ob0] := (hp.fact 2 5 (by kernel_rfl) rfl)
      unfold Does
      go_simp
      refine (rsub3_any _ _ _ 1 1 lo hi L ((h4.wide hL2).sp Rat.le_refl) (h.on hp.on) (by omega) (by omega)).mono ?_
      rintro e w' ⟨u, rfl, I8, P8⟩
      exact ⟨_, rfl, P8, I8⟩
    · exact .inl rfl
  · intro f wr hon hk hf hb hap
    obtain ⟨q0, q1, qz⟩ := hb
    clear qz
    have O1 : Own wr (w.heap.size) 26 #[.bool ba0, .slice Aa0 na0 ca0, .slice Ba0 ma0 oa0, .bool bb0, .slice Ab0 nb0 cb0, .slice Bb0 mb0 ob0] := q0
    have c1_0 : wr.cell? ⟨w.heap.size, 0, none⟩ = some (.bool ba0) := O1.cell 0
    have z1_0 := O1.frozen 0
    have c1_1 : wr.cell? ⟨w.heap.size, 1, none⟩ = some (.slice Aa0 na0 ca0) := O1.cell 1
    have z1_1 := O1.frozen 1
    have c1_2 : wr.cell? ⟨w.heap.size, 2, none⟩ = some (.slice Ba0 ma0 oa0) := O1.cell 2
    have z1_2 := O1.frozen 2
    have c1_3 : wr.cell? ⟨w.heap.size, 3, none⟩ = some (.bool bb0) := O1.cell 3
    have z1_3 := O1.frozen 3
    have c1_4 : wr.cell? ⟨w.heap.size, 4, none⟩ = some (.slice Ab0 nb0 cb0) := O1.cell 4
    have z1_4 := O1.frozen 4
    have c1_5 : wr.cell? ⟨w.heap.size, 5, none⟩ = some (.slice Bb0 mb0 ob0) := O1.cell 5
    have z1_5 := O1.frozen 5
    clear q0
    obtain ⟨cur2, O2, I2⟩ : ∃ cur, Own wr (w.heap.size + 1) 26 cur ∧ IsS wr (.agg cur) (1 - hi) (1 - lo) (L + L + 1) := q1
    obtain ⟨sl2, P2, Pn2, Pc2, R2, Rn2, Rc2, sh2, U2, Un2, Uc2, V2, Vn2, Vc2, hz2, IL2, IH2⟩ := id I2
    injection hz2 with hz2
    subst hz2
    have c2_0 : wr.cell? ⟨w.heap.size + 1, 0, none⟩ = some (.bool sl2) := O2.cell 0
    have z2_0 := O2.frozen 0
    have c2_1 : wr.cell? ⟨w.heap.size + 1, 1, none⟩ = some (.slice P2 Pn2 Pc2) := O2.cell 1
    have z2_1 := O2.frozen 1
    have c2_2 : wr.cell? ⟨w.heap.size + 1, 2, none⟩ = some (.slice R2 Rn2 Rc2) := O2.cell 2
    have z2_2 := O2.frozen 2
    have c2_3 : wr.cell? ⟨w.heap.size + 1, 3, none⟩ = some (.bool sh2) := O2.cell 3
    have z2_3 := O2.frozen 3
    have c2_4 : wr.cell? ⟨w.heap.size + 1, 4, none⟩ = some (.slice U2 Un2 Uc2) := O2.cell 4
    have z2_4 := O2.frozen 4
    have c2_5 : wr.cell? ⟨w.heap.size + 1, 5, none⟩ = some (.slice V2 Vn2 Vc2) := O2.cell 5
    have z2_5 := O2.frozen 5
    clear hf hap
    simp only [fillL]
    go_wp2
    exact bodyPost_ret (v := .agg #[.bool sl2, .slice P2 Pn2 Pc2, .slice R2 Rn2 Rc2, .bool sh2, .slice U2 Un2 Uc2, .slice V2 Vn2 Vc2]) (by simp [results, Tryz.results29, go_sem, c2_0, c2_1, c2_2, c2_3, c2_4, c2_5]) rfl ⟨_, rfl, I2, hon⟩
end Num
end Go.Proofs.YtkchpagjkgmpmaaGreat
