/-
  The specification's Clip of spans.
-/
import Derived.Test.YtkchpagjkgmpmaaGreatSrb
namespace Go.Proofs.YtkchpagjkgmpmaaGreat
open Go.RowKit
set_option linter.unusedVariables false
namespace Num
set_option maxRecDepth 100000 in
set_option maxHeartbeats 1600000 in
theorem rclip3_any (w : World) (v : Value) (lo hi : Rat) (L : Nat) (h : Sp w v lo hi L) (hL2 : 2 ≤ L) (hL : L ≤ 400) :
    Calls Tryz.prog 31 #[v] w (SpPost w (clipR lo) (clipR hi) L) := by
  have hle := Lib.hid (clip_mono h.le)
  obtain ⟨ba0, Aa0, na0, ca0, Ba0, ma0, oa0, bb0, Ab0, nb0, cb0, Bb0, mb0, ob0, rfl⟩ := h.form
  have B : On w ((w.alloc (.cells #[.bool ba0, .slice Aa0 na0 ca0, .slice Ba0 ma0 oa0, .bool bb0, .slice Ab0 nb0 cb0, .slice Bb0 mb0 ob0] 26)).alloc (.cells #[.bool false, .slice none 0 0, .slice none 0 0, .bool false, .slice none 0 0, .slice none 0 0] 26)) := On.alloc (On.alloc (On.refl w) _) _
  have OB1 : w.heap.size ≤ w.heap.size ∧ Own ((w.alloc (.cells #[.bool ba0, .slice Aa0 na0 ca0, .slice Ba0 ma0 oa0, .bool bb0, .slice Ab0 nb0 cb0, .slice Bb0 mb0 ob0] 26)).alloc (.cells #[.bool false, .slice none 0 0, .slice none 0 0, .bool false, .slice none 0 0, .slice none 0 0] 26)) (w.heap.size) 26 #[.bool ba0, .slice Aa0 na0 ca0, .slice Ba0 ma0 oa0, .bool bb0, .slice Ab0 nb0 cb0, .slice Bb0 mb0 ob0] := ⟨by omega, ((Own.at_ w (w.heap.size) (by simp) 26 #[.bool ba0, .slice Aa0 na0 ca0, .slice Ba0 ma0 oa0, .bool bb0, .slice Ab0 nb0 cb0, .slice Bb0 mb0 ob0]).alloc (.cells #[.bool false, .slice none 0 0, .slice none 0 0, .bool false, .slice none 0 0, .slice none 0 0] 26))⟩
  have OB2 : w.heap.size ≤ w.heap.size + 1 ∧ Own ((w.alloc (.cells #[.bool ba0, .slice Aa0 na0 ca0, .slice Ba0 ma0 oa0, .bool bb0, .slice Ab0 nb0 cb0, .slice Bb0 mb0 ob0] 26)).alloc (.cells #[.bool false, .slice none 0 0, .slice none 0 0, .bool false, .slice none 0 0, .slice none 0 0] 26)) (w.heap.size + 1) 26 #[.bool false, .slice none 0 0, .slice none 0 0, .bool false, .slice none 0 0, .slice none 0 0] := ⟨by omega, (Own.at_ (w.alloc (.cells #[.bool ba0, .slice Aa0 na0 ca0, .slice Ba0 ma0 oa0, .bool bb0, .slice Ab0 nb0 cb0, .slice Bb0 mb0 ob0] 26)) (w.heap.size + 1) (by simp) 26 #[.bool false, .slice none 0 0, .slice none 0 0, .bool false, .slice none 0 0, .slice none 0 0])⟩
  go_enter Tryz.func31, Tryz.ntmps31
  go_wp2_with fail
  refine (rarg_any _ _ _ _ L (h.on B) hL2 (by omega)).mono ?_
  rintro e w1 ⟨u, rfl, I, P1_⟩
  obtain ⟨sl1, P1, Pn1, Pc1, R1, Rn1, Rc1, sh1, U1, Un1, Uc1, V1, Vn1, Vc1, rfl, IL1, IH1⟩ := id I
  replace OB1 := And.intro OB1.1 (OB1.2.on P1_)
  replace OB2 := And.intro OB2.1 (OB2.2.on P1_)
  replace B := B.trans P1_
  have y1_0 : w1.cell? ⟨w.heap.size, 0, none⟩ = some (.bool ba0) := OB1.2.cell 0
  have y1_1 : w1.cell? ⟨w.heap.size, 1, none⟩ = some (.slice Aa0 na0 ca0) := OB1.2.cell 1
  have y1_2 : w1.cell? ⟨w.heap.size, 2, none⟩ = some (.slice Ba0 ma0 oa0) := OB1.2.cell 2
  have y1_3 : w1.cell? ⟨w.heap.size, 3, none⟩ = some (.bool bb0) := OB1.2.cell 3
  have y1_4 : w1.cell? ⟨w.heap.size, 4, none⟩ = some (.slice Ab0 nb0 cb0) := OB1.2.cell 4
  have y1_5 : w1.cell? ⟨w.heap.size, 5, none⟩ = some (.slice Bb0 mb0 ob0) := OB1.2.cell 5
  have y1_f0 := OB1.2.frozen 0
  have y1_f1 := OB1.2.frozen 1
  have y1_f2 := OB1.2.frozen 2
  have y1_f3 := OB1.2.frozen 3
  have y1_f4 := OB1.2.frozen 4
  have y1_f5 := OB1.2.frozen 5
  have oo := only6 (w := w1) (g := w.heap.size) (.bool sl1) (.slice P1 Pn1 Pc1) (.slice R1 Rn1 Rc1) (.bool sh1) (.slice U1 Un1 Uc1) (.slice V1 Vn1 Vc1)
  have hk1 := Kept.only oo OB1.2 (noWords_S _ _ _ _ _ _ _ _ _ _ _ _ _ _)
  replace IL1 := IL1.kept hk1
  replace IH1 := IH1.kept hk1
  have hon1 := on6 (g := w.heap.size) B (by omega) (.bool sl1) (.slice P1 Pn1 Pc1) (.slice R1 Rn1 Rc1) (.bool sh1) (.slice U1 Un1 Uc1) (.slice V1 Vn1 Vc1)
  have ON1 := (((((OB1.2.set_ 0 (.bool sl1)).set_ 1 (.slice P1 Pn1 Pc1)).set_ 2 (.slice R1 Rn1 Rc1)).set_ 3 (.bool sh1)).set_ 4 (.slice U1 Un1 Uc1)).set_ 5 (.slice V1 Vn1 Vc1)
  have ON2 := OB2.2.only oo (by omega)
  go_wp2_with fail
  obtain ⟨W, hW⟩ : ∃ W, (((((((w1.setCell ⟨w.heap.size, 0, none⟩ (.bool sl1)).setCell ⟨w.heap.size, 1, none⟩ (.slice P1 Pn1 Pc1)).setCell ⟨w.heap.size, 2, none⟩ (.slice R1 Rn1 Rc1)).setCell ⟨w.heap.size, 3, none⟩ (.bool sh1)).setCell ⟨w.heap.size, 4, none⟩ (.slice U1 Un1 Uc1)).setCell ⟨w.heap.size, 5, none⟩ (.slice V1 Vn1 Vc1))) = W := ⟨_, rfl⟩
  rw [hW] at hon1 IL1 IH1 ON1 ON2 ⊢
  have OB1' : w.heap.size ≤ w.heap.size ∧ Own W w.heap.size 26 #[.bool sl1, .slice P1 Pn1 Pc1, .slice R1 Rn1 Rc1, .bool sh1, .slice U1 Un1 Uc1, .slice V1 Vn1 Vc1] := ⟨Nat.le_refl _, ON1⟩
  have OB2' : w.heap.size ≤ w.heap.size + 1 ∧ Own W (w.heap.size + 1) 26 #[.bool false, .slice none 0 0, .slice none 0 0, .bool false, .slice none 0 0, .slice none 0 0] := ⟨by omega, ON2⟩
  clear y1_0 y1_f0 y1_1 y1_f1 y1_2 y1_f2 y1_3 y1_f3 y1_4 y1_f4 y1_5 y1_f5
  clear oo hk1 I B OB1 OB2 ON1 ON2 hW P1_
  have OB1 := OB1'
  have OB2 := OB2'
  have B := hon1
  clear OB1' OB2' hon1
  refine (rofr_any _ 1 (by decide) (by decide)).mono ?_
  rintro e w3 ⟨u3, rfl, I3, P3⟩
  obtain ⟨s3, P3_, Pn3, Pc3, R3_, Rn3, Rc3, rfl⟩ := isR_form I3
  replace OB1 := And.intro OB1.1 (OB1.2.on P3)
  replace OB2 := And.intro OB2.1 (OB2.2.on P3)
  replace B := B.trans P3
  replace IL1 := IL1.on P3
  replace IH1 := IH1.on P3
  have hg3 : w.heap.size + 1 < w3.heap.size := OB2.2.lt
  have PA := (On.refl w3).alloc (.cells #[.bool s3, .slice P3_ Pn3 Pc3, .slice R3_ Rn3 Rc3] 24)
  have B0_3 := B.size
  replace OB1 := And.intro OB1.1 (OB1.2.on PA)
  replace OB2 := And.intro OB2.1 (OB2.2.on PA)
  replace B := B.trans PA
  replace IL1 := IL1.on PA
  replace IH1 := IH1.on PA
  replace I3 := I3.on PA
  have OB3 : w.heap.size ≤ w3.heap.size ∧ _ := ⟨B0_3, Own.new w3 24 #[.bool s3, .slice P3_ Pn3 Pc3, .slice R3_ Rn3 Rc3]⟩
  clear PA P3
  go_wp2
  refine wp_region_facts (by kernel_rfl) w [Fact.rat (0) (2), Fact.eq (.pointer (some ⟨w.heap.size, 0, none⟩)), Fact.eq (.agg #[.bool sl1, .slice P1 Pn1 Pc1, .slice R1 Rn1 Rc1]), Fact.eq (.agg #[.bool s3, .slice P3_ Pn3 Pc3, .slice R3_ Rn3 Rc3]), Fact.rat (rmin lo 1) (L), Fact.rat (clipR lo) (L), Fact.rat (0) (2), Fact.eq (.pointer (some ⟨w.heap.size, 3, none⟩)), Fact.eq (.agg #[.bool sh1, .slice U1 Un1 Uc1, .slice V1 Vn1 Vc1]), Fact.eq (.agg #[.bool s3, .slice P3_ Pn3 Pc3, .slice R3_ Rn3 Rc3]), Fact.rat (rmin hi 1) (L), Fact.rat (clipR hi) (L), Fact.frats [clipR lo, clipR hi] (L), Fact.sp (clipR lo) (clipR hi) (L), Fact.any] [Fact.any, Fact.sp (clipR lo) (clipR hi) (L), Fact.any] [⟨15, 1, 26, 15, #[.bool sl1, .slice P1 Pn1 Pc1, .slice R1 Rn1 Rc1, .bool sh1, .slice U1 Un1 Uc1, .slice V1 Vn1 Vc1]⟩, ⟨15, 2, 26, 14, #[.bool false, .slice none 0 0, .slice none 0 0, .bool false, .slice none 0 0, .slice none 0 0]⟩, ⟨15, 3, 24, 15, #[.bool s3, .slice P3_ Pn3 Pc3, .slice R3_ Rn3 Rc3]⟩] [w.heap.size, w.heap.size + 1, w3.heap.size] [none, none, none, none, none, none, none, some 7, some 8, some 9, some 10, some 11, some 12, some 13, some 14, some 15, some 16, some 17, some 18, some 19, some 20] (by kernel_rfl) (by kernel_rfl) (by kernel_rfl) rfl B ?_ ?_ ?_ ?_ ?_
  · exact ⟨fun _ => ⟨by simp, rfl, OB1⟩, fun _ => ⟨by simp, rfl, OB2⟩, fun _ => ⟨by simp, rfl, OB3⟩, trivial⟩
  · exact .inr (by simp <;> omega)
  · exact ⟨⟨noWords_S _ _ _ _ _ _ _ _ _ _ _ _ _ _, (.inl (Nat.le_refl _)), (.inl (Nat.le_refl _))⟩, ⟨noWords_S _ _ _ _ _ _ _ _ _ _ _ _ _ _, (.inl (Nat.le_refl _)), (.inr (store_obS (j := 13) (noWords_S _ _ _ _ _ _ _ _ _ _ _ _ _ _) rfl rfl rfl (by kernel_rfl) rfl rfl rfl))⟩, ⟨noWords_R _ _ _ _ _ _ _, (.inl (Nat.le_refl _)), (.inl (Nat.le_refl _))⟩, trivial⟩
  · refine ⟨?_, ?_, ?_, ?_, ?_, ?_, ?_, ?_, ?_, ?_, ?_, ?_, ?_, ?_, ?_, trivial⟩
    · exact .inr fun a w hp => ob_yes rfl (ob_zeroR (isR_zero _ _))
    · exact .inr fun a w hp => ob_yes rfl (ob_fieldS0 (hp.box (k := 0) rfl (Nat.le_refl _) (.inl (Nat.le_refl _)) (by kernel_rfl) rfl).1 rfl)
    · exact .inr fun a w hp => ob_yes rfl (ob_loadLo (hp.fact 1 8 (by kernel_rfl) rfl) (hp.box (k := 0) rfl (Nat.le_refl _) (.inl (Nat.le_refl _)) (by kernel_rfl) rfl).2 rfl)
    · exact .inr fun a w hp => ob_yes rfl (ob_loadR (hp.box (k := 2) rfl (Nat.le_refl _) (.inl (Nat.le_refl _)) (by kernel_rfl) rfl).1 (hp.box (k := 2) rfl (Nat.le_refl _) (.inl (Nat.le_refl _)) (by kernel_rfl) rfl).2 rfl)
    · refine .inr fun a w hp => ob_yes rfl ?_
      have h9 : a.tmps.getD 9 undef = .agg #[.bool sl1, .slice P1 Pn1 Pc1, .slice R1 Rn1 Rc1] := (hp.fact 2 9 (by kernel_rfl) rfl)
      have h10 : a.tmps.getD 10 undef = .agg #[.bool s3, .slice P3_ Pn3 Pc3, .slice R3_ Rn3 Rc3] := (hp.fact 3 10 (by kernel_rfl) rfl)
      unfold Does
      go_simp
      refine (smin_keep _ _ _ lo 1 L (IsR.fld (IL1.kept hp.kept)) ((IsR.fld (I3.kept hp.kept)).wide hL2) hL2 (by omega)).mono ?_
      rintro e w' ⟨u, rfl, I8, P8⟩
      exact ⟨_, rfl, P8, I8⟩
    · refine .inr fun a w hp => ob_yes rfl ?_
      have h7 : IsR w (a.tmps.getD 7 undef) (0) (2) := (hp.fact 0 7 (by kernel_rfl) rfl)
      obtain ⟨v7, e7⟩ : ∃ v, a.tmps.getD 7 undef = v := ⟨_, rfl⟩
      rw [e7] at h7
      have h11 : IsR w (a.tmps.getD 11 undef) (rmin lo 1) (L) := (hp.fact 4 11 (by kernel_rfl) rfl)
      obtain ⟨v11, e11⟩ : ∃ v, a.tmps.getD 11 undef = v := ⟨_, rfl⟩
      rw [e11] at h11
      unfold Does
      go_simp
      refine (smax_keep _ _ _ 0 (rmin lo 1) L (IsR.fld (h7.wide hL2)) (IsR.fld h11) hL2 (by omega)).mono ?_
      rintro e w' ⟨u, rfl, I8, P8⟩
      exact ⟨_, rfl, P8, I8⟩
    · exact .inr fun a w hp => ob_yes rfl (ob_zeroR (isR_zero _ _))
    · exact .inr fun a w hp => ob_yes rfl (ob_fieldS1 (hp.box (k := 0) rfl (Nat.le_refl _) (.inl (Nat.le_refl _)) (by kernel_rfl) rfl).1 rfl)
    · exact .inr fun a w hp => ob_yes rfl (ob_loadHi (hp.fact 7 14 (by kernel_rfl) rfl) (hp.box (k := 0) rfl (Nat.le_refl _) (.inl (Nat.le_refl _)) (by kernel_rfl) rfl).2 rfl)
    · exact .inr fun a w hp => ob_yes rfl (ob_loadR (hp.box (k := 2) rfl (Nat.le_refl _) (.inl (Nat.le_refl _)) (by kernel_rfl) rfl).1 (hp.box (k := 2) rfl (Nat.le_refl _) (.inl (Nat.le_refl _)) (by kernel_rfl) rfl).2 rfl)
    · refine .inr fun a w hp => ob_yes rfl ?_
      have h15 : a.tmps.getD 15 undef = .agg #[.bool sh1, .slice U1 Un1 Uc1, .slice V1 Vn1 Vc1] := (hp.fact 8 15 (by kernel_rfl) rfl)
      have h16 : a.tmps.getD 16 undef = .agg #[.bool s3, .slice P3_ Pn3 Pc3, .slice R3_ Rn3 Rc3] := (hp.fact 9 16 (by kernel_rfl) rfl)
      unfold Does
      go_simp
      refine (smin_keep _ _ _ hi 1 L (IsR.fld (IH1.kept hp.kept)) ((IsR.fld (I3.kept hp.kept)).wide hL2) hL2 (by omega)).mono ?_
      rintro e w' ⟨u, rfl, I8, P8⟩
      exact ⟨_, rfl, P8, I8⟩
    · refine .inr fun a w hp => ob_yes rfl ?_
      have h13 : IsR w (a.tmps.getD 13 undef) (0) (2) := (hp.fact 6 13 (by kernel_rfl) rfl)
      obtain ⟨v13, e13⟩ : ∃ v, a.tmps.getD 13 undef = v := ⟨_, rfl⟩
      rw [e13] at h13
      have h17 : IsR w (a.tmps.getD 17 undef) (rmin hi 1) (L) := (hp.fact 10 17 (by kernel_rfl) rfl)
      obtain ⟨v17, e17⟩ : ∃ v, a.tmps.getD 17 undef = v := ⟨_, rfl⟩
      rw [e17] at h17
      unfold Does
      go_simp
      refine (smax_keep _ _ _ 0 (rmin hi 1) L (IsR.fld (h13.wide hL2)) (IsR.fld h17) hL2 (by omega)).mono ?_
      rintro e w' ⟨u, rfl, I8, P8⟩
      exact ⟨_, rfl, P8, I8⟩
    · refine .inr fun a w hp => ob_yes rfl ?_
      have h12 : IsR w (a.tmps.getD 12 undef) (clipR lo) (L) := (hp.fact 5 12 (by kernel_rfl) rfl)
      obtain ⟨v12, e12⟩ : ∃ v, a.tmps.getD 12 undef = v := ⟨_, rfl⟩
      rw [e12] at h12
      have h18 : IsR w (a.tmps.getD 18 undef) (clipR hi) (L) := (hp.fact 11 18 (by kernel_rfl) rfl)
      obtain ⟨v18, e18⟩ : ∃ v, a.tmps.getD 18 undef = v := ⟨_, rfl⟩
      rw [e18] at h18
      exact ob_build2 e12 e18 (IsR.fld h12) (IsR.fld h18) (fun _ _ h => h)
    · refine .inr fun a w hp => ob_yes rfl ?_
      obtain ⟨g19, e19, h19⟩ : ∃ g, a.tmps.getD 19 undef = .slice (some ⟨g, 0, none⟩) 2 2 ∧ FRats w g [clipR lo, clipR hi] (L) := (hp.fact 12 19 (by kernel_rfl) rfl)
      unfold Does
      go_simp
      refine (raround3_any _ (clipR lo) [clipR hi] g19 2 L h19 hL2 (by omega) (by simp) (by decide)).mono ?_
      rw [lo2 hle.out, hi2 hle.out]
      rintro e w' ⟨u, rfl, I8, P8⟩
      exact ⟨_, rfl, P8, I8⟩
    · exact .inl rfl
  · intro f wr hon hk hf hb hap
    obtain ⟨q0, q1, q2, qz⟩ := hb
    clear qz
    have O1 : Own wr (w.heap.size) 26 #[.bool sl1, .slice P1 Pn1 Pc1, .slice R1 Rn1 Rc1, .bool sh1, .slice U1 Un1 Uc1, .slice V1 Vn1 Vc1] := q0
    have c1_0 : wr.cell? ⟨w.heap.size, 0, none⟩ = some (.bool sl1) := O1.cell 0
    have z1_0 := O1.frozen 0
    have c1_1 : wr.cell? ⟨w.heap.size, 1, none⟩ = some (.slice P1 Pn1 Pc1) := O1.cell 1
    have z1_1 := O1.frozen 1
    have c1_2 : wr.cell? ⟨w.heap.size, 2, none⟩ = some (.slice R1 Rn1 Rc1) := O1.cell 2
    have z1_2 := O1.frozen 2
    have c1_3 : wr.cell? ⟨w.heap.size, 3, none⟩ = some (.bool sh1) := O1.cell 3
    have z1_3 := O1.frozen 3
    have c1_4 : wr.cell? ⟨w.heap.size, 4, none⟩ = some (.slice U1 Un1 Uc1) := O1.cell 4
    have z1_4 := O1.frozen 4
    have c1_5 : wr.cell? ⟨w.heap.size, 5, none⟩ = some (.slice V1 Vn1 Vc1) := O1.cell 5
    have z1_5 := O1.frozen 5
    clear q0
    obtain ⟨cur2, O2, I2⟩ : ∃ cur, Own wr (w.heap.size + 1) 26 cur ∧ IsS wr (.agg cur) (clipR lo) (clipR hi) (L) := q1
    obtain ⟨sl2, P2, Pn2, Pc2, R2, Rn2, Rc2, sh2, U2, Un2, Uc2, V2, Vn2, Vc2, hz2, IL2, IH2⟩ := id I2
    injection hz2 with hz2
    subst hz2
    have c2_0 : wr.cell? ⟨w.heap.size + 1, 0, none⟩ = some (.bool sl2) := O2.cell 0
    have z2_0 := O2.frozen 0
    have c2_1 : wr.cell? ⟨w.heap.size + 1, 1, none⟩ = some (.slice P2 Pn2 Pc2) := O2.cell 1
    have z2_1 := O2.frozen 1
    have c2_2 : wr.cell? ⟨w.heap.size + 1, 2, none⟩ = some (.slice R2 Rn2 Rc2) := O2.cell 2
    have z2_2 := O2.frozen 2
    have c2_3 : wr.cell? ⟨w.heap.size + 1, 3, none⟩ = some (.bool sh2) := O2.cell 3
    have z2_3 := O2.frozen 3
    have c2_4 : wr.cell? ⟨w.heap.size + 1, 4, none⟩ = some (.slice U2 Un2 Uc2) := O2.cell 4
    have z2_4 := O2.frozen 4
    have c2_5 : wr.cell? ⟨w.heap.size + 1, 5, none⟩ = some (.slice V2 Vn2 Vc2) := O2.cell 5
    have z2_5 := O2.frozen 5
    have O3 : Own wr (w3.heap.size) 24 #[.bool s3, .slice P3_ Pn3 Pc3, .slice R3_ Rn3 Rc3] := q2
    have c3_0 : wr.cell? ⟨w3.heap.size, 0, none⟩ = some (.bool s3) := O3.cell 0
    have z3_0 := O3.frozen 0
    have c3_1 : wr.cell? ⟨w3.heap.size, 1, none⟩ = some (.slice P3_ Pn3 Pc3) := O3.cell 1
    have z3_1 := O3.frozen 1
    have c3_2 : wr.cell? ⟨w3.heap.size, 2, none⟩ = some (.slice R3_ Rn3 Rc3) := O3.cell 2
    have z3_2 := O3.frozen 2
    clear q2
    clear hf hap
    simp only [fillL]
    go_wp2
    exact bodyPost_ret (v := .agg #[.bool sl2, .slice P2 Pn2 Pc2, .slice R2 Rn2 Rc2, .bool sh2, .slice U2 Un2 Uc2, .slice V2 Vn2 Vc2]) (by simp [results, Tryz.results31, go_sem, c2_0, c2_1, c2_2, c2_3, c2_4, c2_5]) rfl ⟨_, rfl, I2, hon⟩
end Num
end Go.Proofs.YtkchpagjkgmpmaaGreat
