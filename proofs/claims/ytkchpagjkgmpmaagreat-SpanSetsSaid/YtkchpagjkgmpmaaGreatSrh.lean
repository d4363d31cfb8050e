/-
  The specification's Hull and Meet of spans.
-/
import Derived.Test.YtkchpagjkgmpmaaGreatSrq
namespace Go.Proofs.YtkchpagjkgmpmaaGreat
open Go.RowKit
set_option linter.unusedVariables false
namespace Num
set_option maxRecDepth 100000 in
set_option maxHeartbeats 1600000 in
theorem rhull3_any (w : World) (v v' : Value) (lo hi lo' hi' : Rat) (L : Nat) (h : Sp w v lo hi L) (k : Sp w v' lo' hi' L) (hL2 : 2 ≤ L) (hL : L ≤ 400) :
    Calls Tryz.prog 39 #[v, v'] w (SpPost w (rmin lo lo') (rmax hi hi') L) := by
  have hle := Lib.hid h.le
  have hle' := Lib.hid k.le
  obtain ⟨ba0, Aa0, na0, ca0, Ba0, ma0, oa0, bb0, Ab0, nb0, cb0, Bb0, mb0, ob0, rfl⟩ := h.form
  obtain ⟨ba1, Aa1, na1, ca1, Ba1, ma1, oa1, bb1, Ab1, nb1, cb1, Bb1, mb1, ob1, rfl⟩ := k.form
  have B : On w (((w.alloc (.cells #[.bool ba0, .slice Aa0 na0 ca0, .slice Ba0 ma0 oa0, .bool bb0, .slice Ab0 nb0 cb0, .slice Bb0 mb0 ob0] 26)).alloc (.cells #[.bool ba1, .slice Aa1 na1 ca1, .slice Ba1 ma1 oa1, .bool bb1, .slice Ab1 nb1 cb1, .slice Bb1 mb1 ob1] 26)).alloc (.cells #[.bool false, .slice none 0 0, .slice none 0 0, .bool false, .slice none 0 0, .slice none 0 0] 26)) := On.alloc (On.alloc (On.alloc (On.refl w) _) _) _
  have OB2 : w.heap.size ≤ w.heap.size ∧ Own (((w.alloc (.cells #[.bool ba0, .slice Aa0 na0 ca0, .slice Ba0 ma0 oa0, .bool bb0, .slice Ab0 nb0 cb0, .slice Bb0 mb0 ob0] 26)).alloc (.cells #[.bool ba1, .slice Aa1 na1 ca1, .slice Ba1 ma1 oa1, .bool bb1, .slice Ab1 nb1 cb1, .slice Bb1 mb1 ob1] 26)).alloc (.cells #[.bool false, .slice none 0 0, .slice none 0 0, .bool false, .slice none 0 0, .slice none 0 0] 26)) (w.heap.size) 26 #[.bool ba0, .slice Aa0 na0 ca0, .slice Ba0 ma0 oa0, .bool bb0, .slice Ab0 nb0 cb0, .slice Bb0 mb0 ob0] := ⟨by omega, (((Own.at_ w (w.heap.size) (by simp) 26 #[.bool ba0, .slice Aa0 na0 ca0, .slice Ba0 ma0 oa0, .bool bb0, .slice Ab0 nb0 cb0, .slice Bb0 mb0 ob0]).alloc (.cells #[.bool ba1, .slice Aa1 na1 ca1, .slice Ba1 ma1 oa1, .bool bb1, .slice Ab1 nb1 cb1, .slice Bb1 mb1 ob1] 26)).alloc (.cells #[.bool false, .slice none 0 0, .slice none 0 0, .bool false, .slice none 0 0, .slice none 0 0] 26))⟩
  have OB3 : w.heap.size ≤ w.heap.size + 1 ∧ Own (((w.alloc (.cells #[.bool ba0, .slice Aa0 na0 ca0, .slice Ba0 ma0 oa0, .bool bb0, .slice Ab0 nb0 cb0, .slice Bb0 mb0 ob0] 26)).alloc (.cells #[.bool ba1, .slice Aa1 na1 ca1, .slice Ba1 ma1 oa1, .bool bb1, .slice Ab1 nb1 cb1, .slice Bb1 mb1 ob1] 26)).alloc (.cells #[.bool false, .slice none 0 0, .slice none 0 0, .bool false, .slice none 0 0, .slice none 0 0] 26)) (w.heap.size + 1) 26 #[.bool ba1, .slice Aa1 na1 ca1, .slice Ba1 ma1 oa1, .bool bb1, .slice Ab1 nb1 cb1, .slice Bb1 mb1 ob1] := ⟨by omega, ((Own.at_ (w.alloc (.cells #[.bool ba0, .slice Aa0 na0 ca0, .slice Ba0 ma0 oa0, .bool bb0, .slice Ab0 nb0 cb0, .slice Bb0 mb0 ob0] 26)) (w.heap.size + 1) (by simp) 26 #[.bool ba1, .slice Aa1 na1 ca1, .slice Ba1 ma1 oa1, .bool bb1, .slice Ab1 nb1 cb1, .slice Bb1 mb1 ob1]).alloc (.cells #[.bool false, .slice none 0 0, .slice none 0 0, .bool false, .slice none 0 0, .slice none 0 0] 26))⟩
  have OB4 : w.heap.size ≤ w.heap.size + 2 ∧ Own (((w.alloc (.cells #[.bool ba0, .slice Aa0 na0 ca0, .slice Ba0 ma0 oa0, .bool bb0, .slice Ab0 nb0 cb0, .slice Bb0 mb0 ob0] 26)).alloc (.cells #[.bool ba1, .slice Aa1 na1 ca1, .slice Ba1 ma1 oa1, .bool bb1, .slice Ab1 nb1 cb1, .slice Bb1 mb1 ob1] 26)).alloc (.cells #[.bool false, .slice none 0 0, .slice none 0 0, .bool false, .slice none 0 0, .slice none 0 0] 26)) (w.heap.size + 2) 26 #[.bool false, .slice none 0 0, .slice none 0 0, .bool false, .slice none 0 0, .slice none 0 0] := ⟨by omega, (Own.at_ ((w.alloc (.cells #[.bool ba0, .slice Aa0 na0 ca0, .slice Ba0 ma0 oa0, .bool bb0, .slice Ab0 nb0 cb0, .slice Bb0 mb0 ob0] 26)).alloc (.cells #[.bool ba1, .slice Aa1 na1 ca1, .slice Ba1 ma1 oa1, .bool bb1, .slice Ab1 nb1 cb1, .slice Bb1 mb1 ob1] 26)) (w.heap.size + 2) (by simp) 26 #[.bool false, .slice none 0 0, .slice none 0 0, .bool false, .slice none 0 0, .slice none 0 0])⟩
  go_enter Tryz.func39, Tryz.ntmps39
  go_wp2
  refine wp_region_facts (by kernel_rfl) w [Fact.eq (.agg #[.bool ba0, .slice Aa0 na0 ca0, .slice Ba0 ma0 oa0, .bool bb0, .slice Ab0 nb0 cb0, .slice Bb0 mb0 ob0]), Fact.sp (lo) (hi) (L), Fact.eq (.agg #[.bool ba1, .slice Aa1 na1 ca1, .slice Ba1 ma1 oa1, .bool bb1, .slice Ab1 nb1 cb1, .slice Bb1 mb1 ob1]), Fact.sp (lo') (hi') (L), Fact.any, Fact.any] [Fact.sp (lo) (hi) (L), Fact.sp (lo') (hi') (L), Fact.any] [⟨6, 2, 26, 4, #[.bool ba0, .slice Aa0 na0 ca0, .slice Ba0 ma0 oa0, .bool bb0, .slice Ab0 nb0 cb0, .slice Bb0 mb0 ob0]⟩, ⟨6, 3, 26, 5, #[.bool ba1, .slice Aa1 na1 ca1, .slice Ba1 ma1 oa1, .bool bb1, .slice Ab1 nb1 cb1, .slice Bb1 mb1 ob1]⟩, ⟨6, 4, 26, 6, #[.bool false, .slice none 0 0, .slice none 0 0, .bool false, .slice none 0 0, .slice none 0 0]⟩] [w.heap.size, w.heap.size + 1, w.heap.size + 2] [none, none, none, none, none, some 5, some 6, some 7, some 8, none, none, none, none, none, none, none, none, none, none] (by kernel_rfl) (by kernel_rfl) (by kernel_rfl) rfl B ?_ ?_ ?_ ?_ ?_
  · exact ⟨fun _ => ⟨by simp, rfl, OB2⟩, fun _ => ⟨by simp, rfl, OB3⟩, fun _ => ⟨by simp, rfl, OB4⟩, trivial⟩
  · exact .inr (by simp <;> omega)
  · exact ⟨⟨noWords_S _ _ _ _ _ _ _ _ _ _ _ _ _ _, (.inl (Nat.le_refl _)), (.inr (store_obS (j := 1) (noWords_S _ _ _ _ _ _ _ _ _ _ _ _ _ _) rfl rfl rfl (by kernel_rfl) rfl rfl rfl))⟩, ⟨noWords_S _ _ _ _ _ _ _ _ _ _ _ _ _ _, (.inl (Nat.le_refl _)), (.inr (store_obS (j := 3) (noWords_S _ _ _ _ _ _ _ _ _ _ _ _ _ _) rfl rfl rfl (by kernel_rfl) rfl rfl rfl))⟩, ⟨noWords_S _ _ _ _ _ _ _ _ _ _ _ _ _ _, (.inl (Nat.le_refl _)), (.inl (Nat.le_refl _))⟩, trivial⟩
  · refine ⟨?_, ?_, ?_, ?_, ?_, ?_, trivial⟩
    · exact .inr fun a w hp => ob_yes rfl (ob_loadSp (hp.box (k := 0) rfl (Nat.le_refl _) (.inr (.inl (by kernel_rfl))) (by kernel_rfl) rfl).1 (hp.box (k := 0) rfl (Nat.le_refl _) (.inr (.inl (by kernel_rfl))) (by kernel_rfl) rfl).2 rfl)
    · refine .inr fun a w hp => ob_yes rfl ?_
      have h5 : a.tmps.getD 5 undef = .agg #[.bool ba0, .slice Aa0 na0 ca0, .slice Ba0 ma0 oa0, .bool bb0, .slice Ab0 nb0 cb0, .slice Bb0 mb0 ob0] := (hp.fact 0 5 (by kernel_rfl) rfl)
      unfold Does
      go_simp
      refine (rarg_any _ _ _ _ L (h.on hp.on) hL2 (by omega)).mono ?_
      rintro e w' ⟨u, rfl, I8, P8⟩
      exact ⟨_, rfl, P8, I8⟩
    · exact .inr fun a w hp => ob_yes rfl (ob_loadSp (hp.box (k := 1) rfl (Nat.le_refl _) (.inr (.inl (by kernel_rfl))) (by kernel_rfl) rfl).1 (hp.box (k := 1) rfl (Nat.le_refl _) (.inr (.inl (by kernel_rfl))) (by kernel_rfl) rfl).2 rfl)
    · refine .inr fun a w hp => ob_yes rfl ?_
      have h7 : a.tmps.getD 7 undef = .agg #[.bool ba1, .slice Aa1 na1 ca1, .slice Ba1 ma1 oa1, .bool bb1, .slice Ab1 nb1 cb1, .slice Bb1 mb1 ob1] := (hp.fact 2 7 (by kernel_rfl) rfl)
      unfold Does
      go_simp
      refine (rarg_any _ _ _ _ L (k.on hp.on) hL2 (by omega)).mono ?_
      rintro e w' ⟨u, rfl, I8, P8⟩
      exact ⟨_, rfl, P8, I8⟩
    · exact .inl rfl
    · exact .inl rfl
  · intro f wr hon hk hf hb hap
    obtain ⟨q0, q1, q2, qz⟩ := hb
    clear qz
    obtain ⟨cur2, O2, I2⟩ : ∃ cur, Own wr (w.heap.size) 26 cur ∧ IsS wr (.agg cur) (lo) (hi) (L) := q0
    obtain ⟨sl2, P2, Pn2, Pc2, R2, Rn2, Rc2, sh2, U2, Un2, Uc2, V2, Vn2, Vc2, hz2, IL2, IH2⟩ := id I2
    injection hz2 with hz2
    subst hz2
    have c2_0 : wr.cell? ⟨w.heap.size, 0, none⟩ = some (.bool sl2) := O2.cell 0
    have z2_0 := O2.frozen 0
    have c2_1 : wr.cell? ⟨w.heap.size, 1, none⟩ = some (.slice P2 Pn2 Pc2) := O2.cell 1
    have z2_1 := O2.frozen 1
    have c2_2 : wr.cell? ⟨w.heap.size, 2, none⟩ = some (.slice R2 Rn2 Rc2) := O2.cell 2
    have z2_2 := O2.frozen 2
    have c2_3 : wr.cell? ⟨w.heap.size, 3, none⟩ = some (.bool sh2) := O2.cell 3
    have z2_3 := O2.frozen 3
    have c2_4 : wr.cell? ⟨w.heap.size, 4, none⟩ = some (.slice U2 Un2 Uc2) := O2.cell 4
    have z2_4 := O2.frozen 4
    have c2_5 : wr.cell? ⟨w.heap.size, 5, none⟩ = some (.slice V2 Vn2 Vc2) := O2.cell 5
    have z2_5 := O2.frozen 5
    obtain ⟨cur3, O3, I3⟩ : ∃ cur, Own wr (w.heap.size + 1) 26 cur ∧ IsS wr (.agg cur) (lo') (hi') (L) := q1
    obtain ⟨sl3, P3, Pn3, Pc3, R3, Rn3, Rc3, sh3, U3, Un3, Uc3, V3, Vn3, Vc3, hz3, IL3, IH3⟩ := id I3
    injection hz3 with hz3
    subst hz3
    have c3_0 : wr.cell? ⟨w.heap.size + 1, 0, none⟩ = some (.bool sl3) := O3.cell 0
    have z3_0 := O3.frozen 0
    have c3_1 : wr.cell? ⟨w.heap.size + 1, 1, none⟩ = some (.slice P3 Pn3 Pc3) := O3.cell 1
    have z3_1 := O3.frozen 1
    have c3_2 : wr.cell? ⟨w.heap.size + 1, 2, none⟩ = some (.slice R3 Rn3 Rc3) := O3.cell 2
    have z3_2 := O3.frozen 2
    have c3_3 : wr.cell? ⟨w.heap.size + 1, 3, none⟩ = some (.bool sh3) := O3.cell 3
    have z3_3 := O3.frozen 3
    have c3_4 : wr.cell? ⟨w.heap.size + 1, 4, none⟩ = some (.slice U3 Un3 Uc3) := O3.cell 4
    have z3_4 := O3.frozen 4
    have c3_5 : wr.cell? ⟨w.heap.size + 1, 5, none⟩ = some (.slice V3 Vn3 Vc3) := O3.cell 5
    have z3_5 := O3.frozen 5
    have O4 : Own wr (w.heap.size + 2) 26 #[.bool false, .slice none 0 0, .slice none 0 0, .bool false, .slice none 0 0, .slice none 0 0] := q2
    have c4_0 : wr.cell? ⟨w.heap.size + 2, 0, none⟩ = some (.bool false) := O4.cell 0
    have z4_0 := O4.frozen 0
    have c4_1 : wr.cell? ⟨w.heap.size + 2, 1, none⟩ = some (.slice none 0 0) := O4.cell 1
    have z4_1 := O4.frozen 1
    have c4_2 : wr.cell? ⟨w.heap.size + 2, 2, none⟩ = some (.slice none 0 0) := O4.cell 2
    have z4_2 := O4.frozen 2
    have c4_3 : wr.cell? ⟨w.heap.size + 2, 3, none⟩ = some (.bool false) := O4.cell 3
    have z4_3 := O4.frozen 3
    have c4_4 : wr.cell? ⟨w.heap.size + 2, 4, none⟩ = some (.slice none 0 0) := O4.cell 4
    have z4_4 := O4.frozen 4
    have c4_5 : wr.cell? ⟨w.heap.size + 2, 5, none⟩ = some (.slice none 0 0) := O4.cell 5
    have z4_5 := O4.frozen 5
    clear q2
    clear hf hap
    simp only [fillL]
    clear c4_0 z4_0 c4_1 z4_1 c4_2 z4_2 c4_3 z4_3 c4_4 z4_4 c4_5 z4_5
    have OB4 : w.heap.size ≤ w.heap.size + 2 ∧ _ := ⟨by omega, O4⟩
    clear B
    have B := hon
    have HRR := frats_four (IsR.fld IL2) (IsR.fld IH2) (IsR.fld IL3) (IsR.fld IH3)
    go_wp2_with fail
    refine (raround3_any _ lo [hi, lo', hi'] wr.heap.size 4 L HRR hL2 (by omega) (by simp) (by decide)).mono ?_
    rw [lo4 hle.out hle'.out, hi4 hle.out hle'.out]
    rintro e w2 ⟨u, rfl, I, PP2⟩
    obtain ⟨sl5, P5, Pn5, Pc5, R5, Rn5, Rc5, sh5, U5, Un5, Uc5, V5, Vn5, Vc5, rfl, IL5, IH5⟩ := id I
    clear c2_0 z2_0 c2_1 z2_1 c2_2 z2_2 c2_3 z2_3 c2_4 z2_4 c2_5 z2_5 c3_0 z3_0 c3_1 z3_1 c3_2 z3_2 c3_3 z3_3 c3_4 z3_4 c3_5 z3_5
    have B1 := (On.refl wr).alloc (.cells #[.bool sl2, .slice P2 Pn2 Pc2, .slice R2 Rn2 Rc2, .bool sh2, .slice U2 Un2 Uc2, .slice V2 Vn2 Vc2, .bool sl3, .slice P3 Pn3 Pc3, .slice R3 Rn3 Rc3, .bool sh3, .slice U3 Un3 Uc3, .slice V3 Vn3 Vc3] 24)
    replace OB4 := And.intro OB4.1 (OB4.2.on B1)
    replace B := B.trans B1
    replace OB4 := And.intro OB4.1 (OB4.2.on PP2)
    replace B := B.trans PP2
    have c4_0 : w2.cell? ⟨w.heap.size + 2, 0, none⟩ = some (.bool false) := OB4.2.cell 0
    have c4_1 : w2.cell? ⟨w.heap.size + 2, 1, none⟩ = some (.slice none 0 0) := OB4.2.cell 1
    have c4_2 : w2.cell? ⟨w.heap.size + 2, 2, none⟩ = some (.slice none 0 0) := OB4.2.cell 2
    have c4_3 : w2.cell? ⟨w.heap.size + 2, 3, none⟩ = some (.bool false) := OB4.2.cell 3
    have c4_4 : w2.cell? ⟨w.heap.size + 2, 4, none⟩ = some (.slice none 0 0) := OB4.2.cell 4
    have c4_5 : w2.cell? ⟨w.heap.size + 2, 5, none⟩ = some (.slice none 0 0) := OB4.2.cell 5
    have c4_f0 := OB4.2.frozen 0
    have c4_f1 := OB4.2.frozen 1
    have c4_f2 := OB4.2.frozen 2
    have c4_f3 := OB4.2.frozen 3
    have c4_f4 := OB4.2.frozen 4
    have c4_f5 := OB4.2.frozen 5
    have I5s := I.kept (Kept.only (only6 (w := w2) (g := w.heap.size + 2) (.bool sl5) (.slice P5 Pn5 Pc5) (.slice R5 Rn5 Rc5) (.bool sh5) (.slice U5 Un5 Uc5) (.slice V5 Vn5 Vc5)) OB4.2 (noWords_S _ _ _ _ _ _ _ _ _ _ _ _ _ _))
    have hon6 := on6 (g := w.heap.size + 2) B (by omega) (.bool sl5) (.slice P5 Pn5 Pc5) (.slice R5 Rn5 Rc5) (.bool sh5) (.slice U5 Un5 Uc5) (.slice V5 Vn5 Vc5)
    go_wp2
    exact bodyPost_ret (v := .agg #[.bool sl5, .slice P5 Pn5 Pc5, .slice R5 Rn5 Rc5, .bool sh5, .slice U5 Un5 Uc5, .slice V5 Vn5 Vc5]) (by simp [results, Tryz.results39, go_sem, c4_0, c4_1, c4_2, c4_3, c4_4, c4_5]) rfl ⟨_, rfl, I5s, hon6⟩
set_option maxRecDepth 100000 in
set_option maxHeartbeats 1600000 in
theorem rmeet3_no (w : World) (v v' : Value) (lo hi lo' hi' : Rat) (L : Nat) (h : Sp w v lo hi L) (k : Sp w v' lo' hi' L) (hL2 : 2 ≤ L) (hL : L ≤ 400) (hc : rmin hi hi' < rmax lo lo') :
    Calls Tryz.prog 37 #[v, v'] w (SpPost2 w 0 0 2 (.int .i64 17)) := by
  have HC := Lib.hid hc
  clear hc
  obtain ⟨ba0, Aa0, na0, ca0, Ba0, ma0, oa0, bb0, Ab0, nb0, cb0, Bb0, mb0, ob0, rfl⟩ := h.form
  obtain ⟨ba1, Aa1, na1, ca1, Ba1, ma1, oa1, bb1, Ab1, nb1, cb1, Bb1, mb1, ob1, rfl⟩ := k.form
  have B : On w (((w.alloc (.cells #[.bool ba0, .slice Aa0 na0 ca0, .slice Ba0 ma0 oa0, .bool bb0, .slice Ab0 nb0 cb0, .slice Bb0 mb0 ob0] 26)).alloc (.cells #[.bool ba1, .slice Aa1 na1 ca1, .slice Ba1 ma1 oa1, .bool bb1, .slice Ab1 nb1 cb1, .slice Bb1 mb1 ob1] 26)).alloc (.cells #[.bool false, .slice none 0 0, .slice none 0 0, .bool false, .slice none 0 0, .slice none 0 0] 26)) := On.alloc (On.alloc (On.alloc (On.refl w) _) _) _
  have OB2 : w.heap.size ≤ w.heap.size ∧ Own (((w.alloc (.cells #[.bool ba0, .slice Aa0 na0 ca0, .slice Ba0 ma0 oa0, .bool bb0, .slice Ab0 nb0 cb0, .slice Bb0 mb0 ob0] 26)).alloc (.cells #[.bool ba1, .slice Aa1 na1 ca1, .slice Ba1 ma1 oa1, .bool bb1, .slice Ab1 nb1 cb1, .slice Bb1 mb1 ob1] 26)).alloc (.cells #[.bool false, .slice none 0 0, .slice none 0 0, .bool false, .slice none 0 0, .slice none 0 0] 26)) (w.heap.size) 26 #[.bool ba0, .slice Aa0 na0 ca0, .slice Ba0 ma0 oa0, .bool bb0, .slice Ab0 nb0 cb0, .slice Bb0 mb0 ob0] := ⟨by omega, (((Own.at_ w (w.heap.size) (by simp) 26 #[.bool ba0, .slice Aa0 na0 ca0, .slice Ba0 ma0 oa0, .bool bb0, .slice Ab0 nb0 cb0, .slice Bb0 mb0 ob0]).alloc (.cells #[.bool ba1, .slice Aa1 na1 ca1, .slice Ba1 ma1 oa1, .bool bb1, .slice Ab1 nb1 cb1, .slice Bb1 mb1 ob1] 26)).alloc (.cells #[.bool false, .slice none 0 0, .slice none 0 0, .bool false, .slice none 0 0, .slice none 0 0] 26))⟩
  have OB3 : w.heap.size ≤ w.heap.size + 1 ∧ Own (((w.alloc (.cells #[.bool ba0, .slice Aa0 na0 ca0, .slice Ba0 ma0 oa0, .bool bb0, .slice Ab0 nb0 cb0, .slice Bb0 mb0 ob0] 26)).alloc (.cells #[.bool ba1, .slice Aa1 na1 ca1, .slice Ba1 ma1 oa1, .bool bb1, .slice Ab1 nb1 cb1, .slice Bb1 mb1 ob1] 26)).alloc (.cells #[.bool false, .slice none 0 0, .slice none 0 0, .bool false, .slice none 0 0, .slice none 0 0] 26)) (w.heap.size + 1) 26 #[.bool ba1, .slice Aa1 na1 ca1, .slice Ba1 ma1 oa1, .bool bb1, .slice Ab1 nb1 cb1, .slice Bb1 mb1 ob1] := ⟨by omega, ((Own.at_ (w.alloc (.cells #[.bool ba0, .slice Aa0 na0 ca0, .slice Ba0 ma0 oa0, .bool bb0, .slice Ab0 nb0 cb0, .slice Bb0 mb0 ob0] 26)) (w.heap.size + 1) (by simp) 26 #[.bool ba1, .slice Aa1 na1 ca1, .slice Ba1 ma1 oa1, .bool bb1, .slice Ab1 nb1 cb1, .slice Bb1 mb1 ob1]).alloc (.cells #[.bool false, .slice none 0 0, .slice none 0 0, .bool false, .slice none 0 0, .slice none 0 0] 26))⟩
  have OB4 : w.heap.size ≤ w.heap.size + 2 ∧ Own (((w.alloc (.cells #[.bool ba0, .slice Aa0 na0 ca0, .slice Ba0 ma0 oa0, .bool bb0, .slice Ab0 nb0 cb0, .slice Bb0 mb0 ob0] 26)).alloc (.cells #[.bool ba1, .slice Aa1 na1 ca1, .slice Ba1 ma1 oa1, .bool bb1, .slice Ab1 nb1 cb1, .slice Bb1 mb1 ob1] 26)).alloc (.cells #[.bool false, .slice none 0 0, .slice none 0 0, .bool false, .slice none 0 0, .slice none 0 0] 26)) (w.heap.size + 2) 26 #[.bool false, .slice none 0 0, .slice none 0 0, .bool false, .slice none 0 0, .slice none 0 0] := ⟨by omega, (Own.at_ ((w.alloc (.cells #[.bool ba0, .slice Aa0 na0 ca0, .slice Ba0 ma0 oa0, .bool bb0, .slice Ab0 nb0 cb0, .slice Bb0 mb0 ob0] 26)).alloc (.cells #[.bool ba1, .slice Aa1 na1 ca1, .slice Ba1 ma1 oa1, .bool bb1, .slice Ab1 nb1 cb1, .slice Bb1 mb1 ob1] 26)) (w.heap.size + 2) (by simp) 26 #[.bool false, .slice none 0 0, .slice none 0 0, .bool false, .slice none 0 0, .slice none 0 0])⟩
  go_enter Tryz.func37, Tryz.ntmps37
  go_wp2
  refine wp_region_facts (by kernel_rfl) w [Fact.eq (.agg #[.bool ba0, .slice Aa0 na0 ca0, .slice Ba0 ma0 oa0, .bool bb0, .slice Ab0 nb0 cb0, .slice Bb0 mb0 ob0]), Fact.sp (lo) (hi) (L), Fact.eq (.agg #[.bool ba1, .slice Aa1 na1 ca1, .slice Ba1 ma1 oa1, .bool bb1, .slice Ab1 nb1 cb1, .slice Bb1 mb1 ob1]), Fact.sp (lo') (hi') (L), Fact.any, Fact.any] [Fact.sp (lo) (hi) (L), Fact.sp (lo') (hi') (L), Fact.any] [⟨6, 2, 26, 4, #[.bool ba0, .slice Aa0 na0 ca0, .slice Ba0 ma0 oa0, .bool bb0, .slice Ab0 nb0 cb0, .slice Bb0 mb0 ob0]⟩, ⟨6, 3, 26, 5, #[.bool ba1, .slice Aa1 na1 ca1, .slice Ba1 ma1 oa1, .bool bb1, .slice Ab1 nb1 cb1, .slice Bb1 mb1 ob1]⟩, ⟨6, 4, 26, 6, #[.bool false, .slice none 0 0, .slice none 0 0, .bool false, .slice none 0 0, .slice none 0 0]⟩] [w.heap.size, w.heap.size + 1, w.heap.size + 2] [none, none, none, none, none, none, none, none, some 8, some 9, some 10, some 11, none, none, none, none, none, none, none, none, none, none, none, none, none, none, none, none, none, none] (by kernel_rfl) (by kernel_rfl) (by kernel_rfl) rfl B ?_ ?_ ?_ ?_ ?_
  · exact ⟨fun _ => ⟨by simp, rfl, OB2⟩, fun _ => ⟨by simp, rfl, OB3⟩, fun _ => ⟨by simp, rfl, OB4⟩, trivial⟩
  · exact .inr (by simp <;> omega)
  · exact ⟨⟨noWords_S _ _ _ _ _ _ _ _ _ _ _ _ _ _, (.inl (Nat.le_refl _)), (.inr (store_obS (j := 1) (noWords_S _ _ _ _ _ _ _ _ _ _ _ _ _ _) rfl rfl rfl (by kernel_rfl) rfl rfl rfl))⟩, ⟨noWords_S _ _ _ _ _ _ _ _ _ _ _ _ _ _, (.inl (Nat.le_refl _)), (.inr (store_obS (j := 3) (noWords_S _ _ _ _ _ _ _ _ _ _ _ _ _ _) rfl rfl rfl (by kernel_rfl) rfl rfl rfl))⟩, ⟨noWords_S _ _ _ _ _ _ _ _ _ _ _ _ _ _, (.inl (Nat.le_refl _)), (.inl (Nat.le_refl _))⟩, trivial⟩
  · refine ⟨?_, ?_, ?_, ?_, ?_, ?_, trivial⟩
    · exact .inr fun a w hp => ob_yes rfl (ob_loadSp (hp.box (k := 0) rfl (Nat.le_refl _) (.inr (.inl (by kernel_rfl))) (by kernel_rfl) rfl).1 (hp.box (k := 0) rfl (Nat.le_refl _) (.inr (.inl (by kernel_rfl))) (by kernel_rfl) rfl).2 rfl)
    · refine .inr fun a w hp => ob_yes rfl ?_
      have h8 : a.tmps.getD 8 undef = .agg #[.bool ba0, .slice Aa0 na0 ca0, .slice Ba0 ma0 oa0, .bool bb0, .slice Ab0 nb0 cb0, .slice Bb0 mb0 ob0] := (hp.fact 0 8 (by kernel_rfl) rfl)
      unfold Does
      go_simp
      refine (rarg_any _ _ _ _ L (h.on hp.on) hL2 (by omega)).mono ?_
      rintro e w' ⟨u, rfl, I8, P8⟩
      exact ⟨_, rfl, P8, I8⟩
    · exact .inr fun a w hp => ob_yes rfl (ob_loadSp (hp.box (k := 1) rfl (Nat.le_refl _) (.inr (.inl (by kernel_rfl))) (by kernel_rfl) rfl).1 (hp.box (k := 1) rfl (Nat.le_refl _) (.inr (.inl (by kernel_rfl))) (by kernel_rfl) rfl).2 rfl)
    · refine .inr fun a w hp => ob_yes rfl ?_
      have h10 : a.tmps.getD 10 undef = .agg #[.bool ba1, .slice Aa1 na1 ca1, .slice Ba1 ma1 oa1, .bool bb1, .slice Ab1 nb1 cb1, .slice Bb1 mb1 ob1] := (hp.fact 2 10 (by kernel_rfl) rfl)
      unfold Does
      go_simp
      refine (rarg_any _ _ _ _ L (k.on hp.on) hL2 (by omega)).mono ?_
      rintro e w' ⟨u, rfl, I8, P8⟩
      exact ⟨_, rfl, P8, I8⟩
    · exact .inl rfl
    · exact .inl rfl
  · intro f wr hon hk hf hb hap
    obtain ⟨q0, q1, q2, qz⟩ := hb
    clear qz
    obtain ⟨cur2, O2, I2⟩ : ∃ cur, Own wr (w.heap.size) 26 cur ∧ IsS wr (.agg cur) (lo) (hi) (L) := q0
    obtain ⟨sl2, P2, Pn2, Pc2, R2, Rn2, Rc2, sh2, U2, Un2, Uc2, V2, Vn2, Vc2, hz2, IL2, IH2⟩ := id I2
    injection hz2 with hz2
    subst hz2
    have c2_0 : wr.cell? ⟨w.heap.size, 0, none⟩ = some (.bool sl2) := O2.cell 0
    have z2_0 := O2.frozen 0
    have c2_1 : wr.cell? ⟨w.heap.size, 1, none⟩ = some (.slice P2 Pn2 Pc2) := O2.cell 1
    have z2_1 := O2.frozen 1
    have c2_2 : wr.cell? ⟨w.heap.size, 2, none⟩ = some (.slice R2 Rn2 Rc2) := O2.cell 2
    have z2_2 := O2.frozen 2
    have c2_3 : wr.cell? ⟨w.heap.size, 3, none⟩ = some (.bool sh2) := O2.cell 3
    have z2_3 := O2.frozen 3
    have c2_4 : wr.cell? ⟨w.heap.size, 4, none⟩ = some (.slice U2 Un2 Uc2) := O2.cell 4
    have z2_4 := O2.frozen 4
    have c2_5 : wr.cell? ⟨w.heap.size, 5, none⟩ = some (.slice V2 Vn2 Vc2) := O2.cell 5
    have z2_5 := O2.frozen 5
    obtain ⟨cur3, O3, I3⟩ : ∃ cur, Own wr (w.heap.size + 1) 26 cur ∧ IsS wr (.agg cur) (lo') (hi') (L) := q1
    obtain ⟨sl3, P3, Pn3, Pc3, R3, Rn3, Rc3, sh3, U3, Un3, Uc3, V3, Vn3, Vc3, hz3, IL3, IH3⟩ := id I3
    injection hz3 with hz3
    subst hz3
    have c3_0 : wr.cell? ⟨w.heap.size + 1, 0, none⟩ = some (.bool sl3) := O3.cell 0
    have z3_0 := O3.frozen 0
    have c3_1 : wr.cell? ⟨w.heap.size + 1, 1, none⟩ = some (.slice P3 Pn3 Pc3) := O3.cell 1
    have z3_1 := O3.frozen 1
    have c3_2 : wr.cell? ⟨w.heap.size + 1, 2, none⟩ = some (.slice R3 Rn3 Rc3) := O3.cell 2
    have z3_2 := O3.frozen 2
    have c3_3 : wr.cell? ⟨w.heap.size + 1, 3, none⟩ = some (.bool sh3) := O3.cell 3
    have z3_3 := O3.frozen 3
    have c3_4 : wr.cell? ⟨w.heap.size + 1, 4, none⟩ = some (.slice U3 Un3 Uc3) := O3.cell 4
    have z3_4 := O3.frozen 4
    have c3_5 : wr.cell? ⟨w.heap.size + 1, 5, none⟩ = some (.slice V3 Vn3 Vc3) := O3.cell 5
    have z3_5 := O3.frozen 5
    have O4 : Own wr (w.heap.size + 2) 26 #[.bool false, .slice none 0 0, .slice none 0 0, .bool false, .slice none 0 0, .slice none 0 0] := q2
    have c4_0 : wr.cell? ⟨w.heap.size + 2, 0, none⟩ = some (.bool false) := O4.cell 0
    have z4_0 := O4.frozen 0
    have c4_1 : wr.cell? ⟨w.heap.size + 2, 1, none⟩ = some (.slice none 0 0) := O4.cell 1
    have z4_1 := O4.frozen 1
    have c4_2 : wr.cell? ⟨w.heap.size + 2, 2, none⟩ = some (.slice none 0 0) := O4.cell 2
    have z4_2 := O4.frozen 2
    have c4_3 : wr.cell? ⟨w.heap.size + 2, 3, none⟩ = some (.bool false) := O4.cell 3
    have z4_3 := O4.frozen 3
    have c4_4 : wr.cell? ⟨w.heap.size + 2, 4, none⟩ = some (.slice none 0 0) := O4.cell 4
    have z4_4 := O4.frozen 4
    have c4_5 : wr.cell? ⟨w.heap.size + 2, 5, none⟩ = some (.slice none 0 0) := O4.cell 5
    have z4_5 := O4.frozen 5
    clear q2
    clear hf hap
    simp only [fillL]
    have OB2 : w.heap.size ≤ w.heap.size ∧ Own wr (w.heap.size) 26 #[.bool sl2, .slice P2 Pn2 Pc2, .slice R2 Rn2 Rc2, .bool sh2, .slice U2 Un2 Uc2, .slice V2 Vn2 Vc2] := ⟨by omega, O2⟩
    clear c2_0 z2_0 c2_1 z2_1 c2_2 z2_2 c2_3 z2_3 c2_4 z2_4 c2_5 z2_5 O2
    have OB3 : w.heap.size ≤ w.heap.size + 1 ∧ Own wr (w.heap.size + 1) 26 #[.bool sl3, .slice P3 Pn3 Pc3, .slice R3 Rn3 Rc3, .bool sh3, .slice U3 Un3 Uc3, .slice V3 Vn3 Vc3] := ⟨by omega, O3⟩
    clear c3_0 z3_0 c3_1 z3_1 c3_2 z3_2 c3_3 z3_3 c3_4 z3_4 c3_5 z3_5 O3
    have OB4 : w.heap.size ≤ w.heap.size + 2 ∧ Own wr (w.heap.size + 2) 26 #[.bool false, .slice none 0 0, .slice none 0 0, .bool false, .slice none 0 0, .slice none 0 0] := ⟨by omega, O4⟩
    clear c4_0 z4_0 c4_1 z4_1 c4_2 z4_2 c4_3 z4_3 c4_4 z4_4 c4_5 z4_5 O4
    clear B
    have B := hon
    clear hon hk h k
    go_wp2
    refine wp_region_facts (by kernel_rfl) w [Fact.eq (.pointer (some ⟨w.heap.size, 0, none⟩)), Fact.eq (.agg #[.bool sl2, .slice P2 Pn2 Pc2, .slice R2 Rn2 Rc2]), Fact.eq (.pointer (some ⟨w.heap.size + 1, 0, none⟩)), Fact.eq (.agg #[.bool sl3, .slice P3 Pn3 Pc3, .slice R3 Rn3 Rc3]), Fact.rat (rmax lo lo') (L), Fact.eq (.pointer (some ⟨w.heap.size, 3, none⟩)), Fact.eq (.agg #[.bool sh2, .slice U2 Un2 Uc2, .slice V2 Vn2 Vc2]), Fact.eq (.pointer (some ⟨w.heap.size + 1, 3, none⟩)), Fact.eq (.agg #[.bool sh3, .slice U3 Un3 Uc3, .slice V3 Vn3 Vc3]), Fact.rat (rmin hi hi') (L), Fact.spE (0) (0) (2) (.int .i64 3), Fact.spE (0) (0) (2) (.int .i64 3), Fact.sp (0) (0) (2), Fact.eq (.int .i64 3), Fact.any, Fact.any, Fact.eq (.int .i64 3)] [Fact.any, Fact.any, Fact.any, Fact.sp (0) (0) (2)] [⟨17, 2, 26, 17, #[.bool sl2, .slice P2 Pn2 Pc2, .slice R2 Rn2 Rc2, .bool sh2, .slice U2 Un2 Uc2, .slice V2 Vn2 Vc2]⟩, ⟨17, 3, 26, 17, #[.bool sl3, .slice P3 Pn3 Pc3, .slice R3 Rn3 Rc3, .bool sh3, .slice U3 Un3 Uc3, .slice V3 Vn3 Vc3]⟩, ⟨17, 4, 26, 17, #[.bool false, .slice none 0 0, .slice none 0 0, .bool false, .slice none 0 0, .slice none 0 0]⟩, ⟨14, 6, 26, 15, #[.bool false, .slice none 0 0, .slice none 0 0, .bool false, .slice none 0 0, .slice none 0 0]⟩] [w.heap.size, w.heap.size + 1, w.heap.size + 2] [none, none, none, none, none, none, some 6, some 7, none, none, none, none, some 12, some 13, some 14, some 15, some 16, some 17, some 18, some 19, some 20, some 21, some 22, some 23, some 24, some 25, none, none, none, none] (by kernel_rfl) (by kernel_rfl) (by kernel_rfl) rfl B ?_ ?_ ?_ ?_ ?_
    · exact ⟨fun _ => ⟨by simp, rfl, OB2⟩, fun _ => ⟨by simp, rfl, OB3⟩, fun _ => ⟨by simp, rfl, OB4⟩, fun h => absurd h (by decide), trivial⟩
    · exact .inr (by simp <;> omega)
    · exact ⟨⟨noWords_S _ _ _ _ _ _ _ _ _ _ _ _ _ _, (.inl (Nat.le_refl _)), (.inl (Nat.le_refl _))⟩, ⟨noWords_S _ _ _ _ _ _ _ _ _ _ _ _ _ _, (.inl (Nat.le_refl _)), (.inl (Nat.le_refl _))⟩, ⟨noWords_S _ _ _ _ _ _ _ _ _ _ _ _ _ _, (.inl (Nat.le_refl _)), (.inl (Nat.le_refl _))⟩, ⟨noWords_S _ _ _ _ _ _ _ _ _ _ _ _ _ _, (.inr ⟨fun _ _ => trivial, _, rfl, fun a w => ⟨rfl, do_value run_allocS⟩⟩), (.inr (store_obS (j := 12) (noWords_S _ _ _ _ _ _ _ _ _ _ _ _ _ _) rfl rfl rfl (by kernel_rfl) rfl rfl rfl))⟩, trivial⟩
    · refine ⟨?_, ?_, ?_, ?_, ?_, ?_, ?_, ?_, ?_, ?_, ?_, ?_, ?_, ?_, ?_, ?_, ?_, trivial⟩
      · exact .inr fun a w hp => ob_yes rfl (ob_fieldS0 (hp.box (k := 0) rfl (Nat.le_refl _) (.inl (Nat.le_refl _)) (by kernel_rfl) rfl).1 rfl)
      · exact .inr fun a w hp => ob_yes rfl (ob_loadLo (hp.fact 0 13 (by kernel_rfl) rfl) (hp.box (k := 0) rfl (Nat.le_refl _) (.inl (Nat.le_refl _)) (by kernel_rfl) rfl).2 rfl)
      · exact .inr fun a w hp => ob_yes rfl (ob_fieldS0 (hp.box (k := 1) rfl (Nat.le_refl _) (.inl (Nat.le_refl _)) (by kernel_rfl) rfl).1 rfl)
      · exact .inr fun a w hp => ob_yes rfl (ob_loadLo (hp.fact 2 15 (by kernel_rfl) rfl) (hp.box (k := 1) rfl (Nat.le_refl _) (.inl (Nat.le_refl _)) (by kernel_rfl) rfl).2 rfl)
      · refine .inr fun a w hp => ob_yes rfl ?_
        have h14 : a.tmps.getD 14 undef = .agg #[.bool sl2, .slice P2 Pn2 Pc2, .slice R2 Rn2 Rc2] := (hp.fact 1 14 (by kernel_rfl) rfl)
        have h16 : a.tmps.getD 16 undef = .agg #[.bool sl3, .slice P3 Pn3 Pc3, .slice R3 Rn3 Rc3] := (hp.fact 3 16 (by kernel_rfl) rfl)
        unfold Does
        go_simp
        refine (smax_keep _ _ _ lo lo' L (IsR.fld (IL2.kept hp.kept)) (IsR.fld (IL3.kept hp.kept)) hL2 (by omega)).mono ?_
        rintro e w' ⟨u, rfl, I8, P8⟩
        exact ⟨_, rfl, P8, I8⟩
      · exact .inr fun a w hp => ob_yes rfl (ob_fieldS1 (hp.box (k := 0) rfl (Nat.le_refl _) (.inl (Nat.le_refl _)) (by kernel_rfl) rfl).1 rfl)
      · exact .inr fun a w hp => ob_yes rfl (ob_loadHi (hp.fact 5 18 (by kernel_rfl) rfl) (hp.box (k := 0) rfl (Nat.le_refl _) (.inl (Nat.le_refl _)) (by kernel_rfl) rfl).2 rfl)
      · exact .inr fun a w hp => ob_yes rfl (ob_fieldS1 (hp.box (k := 1) rfl (Nat.le_refl _) (.inl (Nat.le_refl _)) (by kernel_rfl) rfl).1 rfl)
      · exact .inr fun a w hp => ob_yes rfl (ob_loadHi (hp.fact 7 20 (by kernel_rfl) rfl) (hp.box (k := 1) rfl (Nat.le_refl _) (.inl (Nat.le_refl _)) (by kernel_rfl) rfl).2 rfl)
      · refine .inr fun a w hp => ob_yes rfl ?_
        have h19 : a.tmps.getD 19 undef = .agg #[.bool sh2, .slice U2 Un2 Uc2, .slice V2 Vn2 Vc2] := (hp.fact 6 19 (by kernel_rfl) rfl)
        have h21 : a.tmps.getD 21 undef = .agg #[.bool sh3, .slice U3 Un3 Uc3, .slice V3 Vn3 Vc3] := (hp.fact 8 21 (by kernel_rfl) rfl)
        unfold Does
        go_simp
        refine (smin_keep _ _ _ hi hi' L (IsR.fld (IH2.kept hp.kept)) (IsR.fld (IH3.kept hp.kept)) hL2 (by omega)).mono ?_
        rintro e w' ⟨u, rfl, I8, P8⟩
        exact ⟨_, rfl, P8, I8⟩
      · refine .inr fun a w hp => ob_yes rfl ?_
        have h17 : IsR w (a.tmps.getD 17 undef) (rmax lo lo') (L) := (hp.fact 4 17 (by kernel_rfl) rfl)
        obtain ⟨v17, e17⟩ : ∃ v, a.tmps.getD 17 undef = v := ⟨_, rfl⟩
        rw [e17] at h17
        have h22 : IsR w (a.tmps.getD 22 undef) (rmin hi hi') (L) := (hp.fact 9 22 (by kernel_rfl) rfl)
        obtain ⟨v22, e22⟩ : ∃ v, a.tmps.getD 22 undef = v := ⟨_, rfl⟩
        rw [e22] at h22
        unfold Does
        go_simp
        refine (rmake3_gt _ _ _ (rmax lo lo') (rmin hi hi') L (IsR.fld h17) (IsR.fld h22) hL2 hL HC.out).mono ?_
        rintro e w' ⟨u, rfl, I8, P8⟩
        exact ⟨_, rfl, P8, _, rfl, I8⟩
      · exact .inr fun a w hp => ob_yes rfl (ob_move (hp.fact 10 23 (by kernel_rfl) rfl))
      · refine .inr fun a w hp => ob_yes rfl ?_
        obtain ⟨u, e, h⟩ : ∃ u, a.tmps.getD 12 undef = .tuple #[u, .int .i64 3] ∧ IsS w u (0) (0) (2) := (hp.fact 11 12 (by kernel_rfl) rfl)
        exact ob_ext0 e h
      · refine .inr fun a w hp => ob_yes rfl ?_
        obtain ⟨u, e, h⟩ : ∃ u, a.tmps.getD 12 undef = .tuple #[u, .int .i64 3] ∧ IsS w u (0) (0) (2) := (hp.fact 11 12 (by kernel_rfl) rfl)
        exact ob_ext1 e rfl
      · exact .inl rfl
      · exact .inl rfl
      · exact .inr fun a w hp => ob_yes rfl (ob_assign (hp.fact 13 25 (by kernel_rfl) rfl))
    · intro f wd hon hk hf hb hap
      obtain ⟨q0, q1, q2, q3, qz⟩ := hb
      clear qz
      have O2 : Own wd (w.heap.size) 26 #[.bool sl2, .slice P2 Pn2 Pc2, .slice R2 Rn2 Rc2, .bool sh2, .slice U2 Un2 Uc2, .slice V2 Vn2 Vc2] := q0
      have c2_0 : wd.cell? ⟨w.heap.size, 0, none⟩ = some (.bool sl2) := O2.cell 0
      have z2_0 := O2.frozen 0
      have c2_1 : wd.cell? ⟨w.heap.size, 1, none⟩ = some (.slice P2 Pn2 Pc2) := O2.cell 1
      have z2_1 := O2.frozen 1
      have c2_2 : wd.cell? ⟨w.heap.size, 2, none⟩ = some (.slice R2 Rn2 Rc2) := O2.cell 2
      have z2_2 := O2.frozen 2
      have c2_3 : wd.cell? ⟨w.heap.size, 3, none⟩ = some (.bool sh2) := O2.cell 3
      have z2_3 := O2.frozen 3
      have c2_4 : wd.cell? ⟨w.heap.size, 4, none⟩ = some (.slice U2 Un2 Uc2) := O2.cell 4
      have z2_4 := O2.frozen 4
      have c2_5 : wd.cell? ⟨w.heap.size, 5, none⟩ = some (.slice V2 Vn2 Vc2) := O2.cell 5
      have z2_5 := O2.frozen 5
      clear q0
      have O3 : Own wd (w.heap.size + 1) 26 #[.bool sl3, .slice P3 Pn3 Pc3, .slice R3 Rn3 Rc3, .bool sh3, .slice U3 Un3 Uc3, .slice V3 Vn3 Vc3] := q1
      have c3_0 : wd.cell? ⟨w.heap.size + 1, 0, none⟩ = some (.bool sl3) := O3.cell 0
      have z3_0 := O3.frozen 0
      have c3_1 : wd.cell? ⟨w.heap.size + 1, 1, none⟩ = some (.slice P3 Pn3 Pc3) := O3.cell 1
      have z3_1 := O3.frozen 1
      have c3_2 : wd.cell? ⟨w.heap.size + 1, 2, none⟩ = some (.slice R3 Rn3 Rc3) := O3.cell 2
      have z3_2 := O3.frozen 2
      have c3_3 : wd.cell? ⟨w.heap.size + 1, 3, none⟩ = some (.bool sh3) := O3.cell 3
      have z3_3 := O3.frozen 3
      have c3_4 : wd.cell? ⟨w.heap.size + 1, 4, none⟩ = some (.slice U3 Un3 Uc3) := O3.cell 4
      have z3_4 := O3.frozen 4
      have c3_5 : wd.cell? ⟨w.heap.size + 1, 5, none⟩ = some (.slice V3 Vn3 Vc3) := O3.cell 5
      have z3_5 := O3.frozen 5
      clear q1
      have O4 : Own wd (w.heap.size + 2) 26 #[.bool false, .slice none 0 0, .slice none 0 0, .bool false, .slice none 0 0, .slice none 0 0] := q2
      have c4_0 : wd.cell? ⟨w.heap.size + 2, 0, none⟩ = some (.bool false) := O4.cell 0
      have z4_0 := O4.frozen 0
      have c4_1 : wd.cell? ⟨w.heap.size + 2, 1, none⟩ = some (.slice none 0 0) := O4.cell 1
      have z4_1 := O4.frozen 1
      have c4_2 : wd.cell? ⟨w.heap.size + 2, 2, none⟩ = some (.slice none 0 0) := O4.cell 2
      have z4_2 := O4.frozen 2
      have c4_3 : wd.cell? ⟨w.heap.size + 2, 3, none⟩ = some (.bool false) := O4.cell 3
      have z4_3 := O4.frozen 3
      have c4_4 : wd.cell? ⟨w.heap.size + 2, 4, none⟩ = some (.slice none 0 0) := O4.cell 4
      have z4_4 := O4.frozen 4
      have c4_5 : wd.cell? ⟨w.heap.size + 2, 5, none⟩ = some (.slice none 0 0) := O4.cell 5
      have z4_5 := O4.frozen 5
      clear q2
      obtain ⟨g6, e6, G6, q3⟩ := q3
      change f 6 = _ at e6
      obtain ⟨cur6, O6, I6⟩ : ∃ cur, Own wd (g6) 26 cur ∧ IsS wd (.agg cur) (0) (0) (2) := q3
      obtain ⟨sl6, P6, Pn6, Pc6, R6, Rn6, Rc6, sh6, U6, Un6, Uc6, V6, Vn6, Vc6, hz6, IL6, IH6⟩ := id I6
      injection hz6 with hz6
      subst hz6
      have c6_0 : wd.cell? ⟨g6, 0, none⟩ = some (.bool sl6) := O6.cell 0
      have z6_0 := O6.frozen 0
      have c6_1 : wd.cell? ⟨g6, 1, none⟩ = some (.slice P6 Pn6 Pc6) := O6.cell 1
      have z6_1 := O6.frozen 1
      have c6_2 : wd.cell? ⟨g6, 2, none⟩ = some (.slice R6 Rn6 Rc6) := O6.cell 2
      have z6_2 := O6.frozen 2
      have c6_3 : wd.cell? ⟨g6, 3, none⟩ = some (.bool sh6) := O6.cell 3
      have z6_3 := O6.frozen 3
      have c6_4 : wd.cell? ⟨g6, 4, none⟩ = some (.slice U6 Un6 Uc6) := O6.cell 4
      have z6_4 := O6.frozen 4
      have c6_5 : wd.cell? ⟨g6, 5, none⟩ = some (.slice V6 Vn6 Vc6) := O6.cell 5
      have z6_5 := O6.frozen 5
      have e7 : f 7 = .int .i64 3 := hf 16 7 rfl
      clear hf hap
      simp only [fillL, e7]; simp only [e6]
      clear e7 e6
      clear c2_0 z2_0 c2_1 z2_1 c2_2 z2_2 c2_3 z2_3 c2_4 z2_4 c2_5 z2_5 c3_0 z3_0 c3_1 z3_1 c3_2 z3_2 c3_3 z3_3 c3_4 z3_4 c3_5 z3_5 c6_0 z6_0 c6_1 z6_1 c6_2 z6_2 c6_3 z6_3 c6_4 z6_4 c6_5 z6_5
      have hon6 := on6 (g := w.heap.size + 2) hon (by omega) (.bool false) (.slice none 0 0) (.slice none 0 0) (.bool false) (.slice none 0 0) (.slice none 0 0)
      go_wp2
      exact bodyPost_ret (v := .tuple #[.agg #[.bool false, .slice none 0 0, .slice none 0 0, .bool false, .slice none 0 0, .slice none 0 0], .int .i64 17]) (by simp [results, Tryz.results37, go_sem, c4_0, c4_1, c4_2, c4_3, c4_4, c4_5]) rfl ⟨_, rfl, isS_zero _ _, by first | exact hon6 | exact hon⟩
set_option maxRecDepth 100000 in
set_option maxHeartbeats 1600000 in
theorem rmeet3_ok (w : World) (v v' : Value) (lo hi lo' hi' : Rat) (L : Nat) (h : Sp w v lo hi L) (k : Sp w v' lo' hi' L) (hL2 : 2 ≤ L) (hL : L ≤ 400) (hc : rmax lo lo' ≤ rmin hi hi') :
    Calls Tryz.prog 37 #[v, v'] w (SpPost2 w (rmax lo lo') (rmin hi hi') L (.int .i64 0)) := by
  have HC := Lib.hid hc
  clear hc
  obtain ⟨ba0, Aa0, na0, ca0, Ba0, ma0, oa0, bb0, Ab0, nb0, cb0, Bb0, mb0, ob0, rfl⟩ := h.form
  obtain ⟨ba1, Aa1, na1, ca1, Ba1, ma1, oa1, bb1, Ab1, nb1, cb1, Bb1, mb1, ob1, rfl⟩ := k.form
  have B : On w (((w.alloc (.cells #[.bool ba0, .slice Aa0 na0 ca0, .slice Ba0 ma0 oa0, .bool bb0, .slice Ab0 nb0 cb0, .slice Bb0 mb0 ob0] 26)).alloc (.cells #[.bool ba1, .slice Aa1 na1 ca1, .slice Ba1 ma1 oa1, .bool bb1, .slice Ab1 nb1 cb1, .slice Bb1 mb1 ob1] 26)).alloc (.cells #[.bool false, .slice none 0 0, .slice none 0 0, .bool false, .slice none 0 0, .slice none 0 0] 26)) := On.alloc (On.alloc (On.alloc (On.refl w) _) _) _
  have OB2 : w.heap.size ≤ w.heap.size ∧ Own (((w.alloc (.cells #[.bool ba0, .slice Aa0 na0 ca0, .slice Ba0 ma0 oa0, .bool bb0, .slice Ab0 nb0 cb0, .slice Bb0 mb0 ob0] 26)).alloc (.cells #[.bool ba1, .slice Aa1 na1 ca1, .slice Ba1 ma1 oa1, .bool bb1, .slice Ab1 nb1 cb1, .slice Bb1 mb1 ob1] 26)).alloc (.cells #[.bool false, .slice none 0 0, .slice none 0 0, .bool false, .slice none 0 0, .slice none 0 0] 26)) (w.heap.size) 26 #[.bool ba0, .slice Aa0 na0 ca0, .slice Ba0 ma0 oa0, .bool bb0, .slice Ab0 nb0 cb0, .slice Bb0 mb0 ob0] := ⟨by omega, (((Own.at_ w (w.heap.size) (by simp) 26 #[.bool ba0, .slice Aa0 na0 ca0, .slice Ba0 ma0 oa0, .bool bb0, .slice Ab0 nb0 cb0, .slice Bb0 mb0 ob0]).alloc (.cells #[.bool ba1, .slice Aa1 na1 ca1, .slice Ba1 ma1 oa1, .bool bb1, .slice Ab1 nb1 cb1, .slice Bb1 mb1 ob1] 26)).alloc (.cells #[.bool false, .slice none 0 0, .slice none 0 0, .bool false, .slice none 0 0, .slice none 0 0] 26))⟩
  have OB3 : w.heap.size ≤ w.heap.size + 1 ∧ Own (((w.alloc (.cells #[.bool ba0, .slice Aa0 na0 ca0, .slice Ba0 ma0 oa0, .bool bb0, .slice Ab0 nb0 cb0, .slice Bb0 mb0 ob0] 26)).alloc (.cells #[.bool ba1, .slice Aa1 na1 ca1, .slice Ba1 ma1 oa1, .bool bb1, .slice Ab1 nb1 cb1, .slice Bb1 mb1 ob1] 26)).alloc (.cells #[.bool false, .slice none 0 0, .slice none 0 0, .bool false, .slice none 0 0, .slice none 0 0] 26)) (w.heap.size + 1) 26 #[.bool ba1, .slice Aa1 na1 ca1, .slice Ba1 ma1 oa1, .bool bb1, .slice Ab1 nb1 cb1, .slice Bb1 mb1 ob1] := ⟨by omega, ((Own.at_ (w.alloc (.cells #[.bool ba0, .slice Aa0 na0 ca0, .slice Ba0 ma0 oa0, .bool bb0, .slice Ab0 nb0 cb0, .slice Bb0 mb0 ob0] 26)) (w.heap.size + 1) (by simp) 26 #[.bool ba1, .slice Aa1 na1 ca1, .slice Ba1 ma1 oa1, .bool bb1, .slice Ab1 nb1 cb1, .slice Bb1 mb1 ob1]).alloc (.cells #[.bool false, .slice none 0 0, .slice none 0 0, .bool false, .slice none 0 0, .slice none 0 0] 26))⟩
  have OB4 : w.heap.size ≤ w.heap.size + 2 ∧ Own (((w.alloc (.cells #[.bool ba0, .slice Aa0 na0 ca0, .slice Ba0 ma0 oa0, .bool bb0, .slice Ab0 nb0 cb0, .slice Bb0 mb0 ob0] 26)).alloc (.cells #[.bool ba1, .slice Aa1 na1 ca1, .slice Ba1 ma1 oa1, .bool bb1, .slice Ab1 nb1 cb1, .slice Bb1 mb1 ob1] 26)).alloc (.cells #[.bool false, .slice none 0 0, .slice none 0 0, .bool false, .slice none 0 0, .slice none 0 0] 26)) (w.heap.size + 2) 26 #[.bool false, .slice none 0 0, .slice none 0 0, .bool false, .slice none 0 0, .slice none 0 0] := ⟨by omega, (Own.at_ ((w.alloc (.cells #[.bool ba0, .slice Aa0 na0 ca0, .slice Ba0 ma0 oa0, .bool bb0, .slice Ab0 nb0 cb0, .slice Bb0 mb0 ob0] 26)).alloc (.cells #[.bool ba1, .slice Aa1 na1 ca1, .slice Ba1 ma1 oa1, .bool bb1, .slice Ab1 nb1 cb1, .slice Bb1 mb1 ob1] 26)) (w.heap.size + 2) (by simp) 26 #[.bool false, .slice none 0 0, .slice none 0 0, .bool false, .slice none 0 0, .slice none 0 0])⟩
  go_enter Tryz.func37, Tryz.ntmps37
  go_wp2
  refine wp_region_facts (by kernel_rfl) w [Fact.eq (.agg #[.bool ba0, .slice Aa0 na0 ca0, .slice Ba0 ma0 oa0, .bool bb0, .slice Ab0 nb0 cb0, .slice Bb0 mb0 ob0]), Fact.sp (lo) (hi) (L), Fact.eq (.agg #[.bool ba1, .slice Aa1 na1 ca1, .slice Ba1 ma1 oa1, .bool bb1, .slice Ab1 nb1 cb1, .slice Bb1 mb1 ob1]), Fact.sp (lo') (hi') (L), Fact.any, Fact.any] [Fact.sp (lo) (hi) (L), Fact.sp (lo') (hi') (L), Fact.any] [⟨6, 2, 26, 4, #[.bool ba0, .slice Aa0 na0 ca0, .slice Ba0 ma0 oa0, .bool bb0, .slice Ab0 nb0 cb0, .slice Bb0 mb0 ob0]⟩, ⟨6, 3, 26, 5, #[.bool ba1, .slice Aa1 na1 ca1, .slice Ba1 ma1 oa1, .bool bb1, .slice Ab1 nb1 cb1, .slice Bb1 mb1 ob1]⟩, ⟨6, 4, 26, 6, #[.bool false, .slice none 0 0, .slice none 0 0, .bool false, .slice none 0 0, .slice none 0 0]⟩] [w.heap.size, w.heap.size + 1, w.heap.size + 2] [none, none, none, none, none, none, none, none, some 8, some 9, some 10, some 11, none, none, none, none, none, none, none, none, none, none, none, none, none, none, none, none, none, none] (by kernel_rfl) (by kernel_rfl) (by kernel_rfl) rfl B ?_ ?_ ?_ ?_ ?_
  · exact ⟨fun _ => ⟨by simp, rfl, OB2⟩, fun _ => ⟨by simp, rfl, OB3⟩, fun _ => ⟨by simp, rfl, OB4⟩, trivial⟩
  · exact .inr (by simp <;> omega)
  · exact ⟨⟨noWords_S _ _ _ _ _ _ _ _ _ _ _ _ _ _, (.inl (Nat.le_refl _)), (.inr (store_obS (j := 1) (noWords_S _ _ _ _ _ _ _ _ _ _ _ _ _ _) rfl rfl rfl (by kernel_rfl) rfl rfl rfl))⟩, ⟨noWords_S _ _ _ _ _ _ _ _ _ _ _ _ _ _, (.inl (Nat.le_refl _)), (.inr (store_obS (j := 3) (noWords_S _ _ _ _ _ _ _ _ _ _ _ _ _ _) rfl rfl rfl (by kernel_rfl) rfl rfl rfl))⟩, ⟨noWords_S _ _ _ _ _ _ _ _ _ _ _ _ _ _, (.inl (Nat.le_refl _)), (.inl (Nat.le_refl _))⟩, trivial⟩
  · refine ⟨?_, ?_, ?_, ?_, ?_, ?_, trivial⟩
    · exact .inr fun a w hp => ob_yes rfl (ob_loadSp (hp.box (k := 0) rfl (Nat.le_refl _) (.inr (.inl (by kernel_rfl))) (by kernel_rfl) rfl).1 (hp.box (k := 0) rfl (Nat.le_refl _) (.inr (.inl (by kernel_rfl))) (by kernel_rfl) rfl).2 rfl)
    · refine .inr fun a w hp => ob_yes rfl ?_
      have h8 : a.tmps.getD 8 undef = .agg #[.bool ba0, .slice Aa0 na0 ca0, .slice Ba0 ma0 oa0, .bool bb0, .slice Ab0 nb0 cb0, .slice Bb0 mb0 ob0] := (hp.fact 0 8 (by kernel_rfl) rfl)
      unfold Does
      go_simp
      refine (rarg_any _ _ _ _ L (h.on hp.on) hL2 (by omega)).mono ?_
      rintro e w' ⟨u, rfl, I8, P8⟩
      exact ⟨_, rfl, P8, I8⟩
    · exact .inr fun a w hp => ob_yes rfl (ob_loadSp (hp.box (k := 1) rfl (Nat.le_refl _) (.inr (.inl (by kernel_rfl))) (by kernel_rfl) rfl).1 (hp.box (k := 1) rfl (Nat.le_refl _) (.inr (.inl (by kernel_rfl))) (by kernel_rfl) rfl).2 rfl)
    · refine .inr fun a w hp => ob_yes rfl ?_
      have h10 : a.tmps.getD 10 undef = .agg #[.bool ba1, .slice Aa1 na1 ca1, .slice Ba1 ma1 oa1, .bool bb1, .slice Ab1 nb1 cb1, .slice Bb1 mb1 ob1] := (hp.fact 2 10 (by kernel_rfl) rfl)
      unfold Does
      go_simp
      refine (rarg_any _ _ _ _ L (k.on hp.on) hL2 (by omega)).mono ?_
      rintro e w' ⟨u, rfl, I8, P8⟩
      exact ⟨_, rfl, P8, I8⟩
    · exact .inl rfl
    · exact .inl rfl
  · intro f wr hon hk hf hb hap
    obtain ⟨q0, q1, q2, qz⟩ := hb
    clear qz
    obtain ⟨cur2, O2, I2⟩ : ∃ cur, Own wr (w.heap.size) 26 cur ∧ IsS wr (.agg cur) (lo) (hi) (L) := q0
    obtain ⟨sl2, P2, Pn2, Pc2, R2, Rn2, Rc2, sh2, U2, Un2, Uc2, V2, Vn2, Vc2, hz2, IL2, IH2⟩ := id I2
    injection hz2 with hz2
    subst hz2
    have c2_0 : wr.cell? ⟨w.heap.size, 0, none⟩ = some (.bool sl2) := O2.cell 0
    have z2_0 := O2.frozen 0
    have c2_1 : wr.cell? ⟨w.heap.size, 1, none⟩ = some (.slice P2 Pn2 Pc2) := O2.cell 1
    have z2_1 := O2.frozen 1
    have c2_2 : wr.cell? ⟨w.heap.size, 2, none⟩ = some (.slice R2 Rn2 Rc2) := O2.cell 2
    have z2_2 := O2.frozen 2
    have c2_3 : wr.cell? ⟨w.heap.size, 3, none⟩ = some (.bool sh2) := O2.cell 3
    have z2_3 := O2.frozen 3
    have c2_4 : wr.cell? ⟨w.heap.size, 4, none⟩ = some (.slice U2 Un2 Uc2) := O2.cell 4
    have z2_4 := O2.frozen 4
    have c2_5 : wr.cell? ⟨w.heap.size, 5, none⟩ = some (.slice V2 Vn2 Vc2) := O2.cell 5
    have z2_5 := O2.frozen 5
    obtain ⟨cur3, O3, I3⟩ : ∃ cur, Own wr (w.heap.size + 1) 26 cur ∧ IsS wr (.agg cur) (lo') (hi') (L) := q1
    obtain ⟨sl3, P3, Pn3, Pc3, R3, Rn3, Rc3, sh3, U3, Un3, Uc3, V3, Vn3, Vc3, hz3, IL3, IH3⟩ := id I3
    injection hz3 with hz3
    subst hz3
    have c3_0 : wr.cell? ⟨w.heap.size + 1, 0, none⟩ = some (.bool sl3) := O3.cell 0
    have z3_0 := O3.frozen 0
    have c3_1 : wr.cell? ⟨w.heap.size + 1, 1, none⟩ = some (.slice P3 Pn3 Pc3) := O3.cell 1
    have z3_1 := O3.frozen 1
    have c3_2 : wr.cell? ⟨w.heap.size + 1, 2, none⟩ = some (.slice R3 Rn3 Rc3) := O3.cell 2
    have z3_2 := O3.frozen 2
    have c3_3 : wr.cell? ⟨w.heap.size + 1, 3, none⟩ = some (.bool sh3) := O3.cell 3
    have z3_3 := O3.frozen 3
    have c3_4 : wr.cell? ⟨w.heap.size + 1, 4, none⟩ = some (.slice U3 Un3 Uc3) := O3.cell 4
    have z3_4 := O3.frozen 4
    have c3_5 : wr.cell? ⟨w.heap.size + 1, 5, none⟩ = some (.slice V3 Vn3 Vc3) := O3.cell 5
    have z3_5 := O3.frozen 5
    have O4 : Own wr (w.heap.size + 2) 26 #[.bool false, .slice none 0 0, .slice none 0 0, .bool false, .slice none 0 0, .slice none 0 0] := q2
    have c4_0 : wr.cell? ⟨w.heap.size + 2, 0, none⟩ = some (.bool false) := O4.cell 0
    have z4_0 := O4.frozen 0
    have c4_1 : wr.cell? ⟨w.heap.size + 2, 1, none⟩ = some (.slice none 0 0) := O4.cell 1
    have z4_1 := O4.frozen 1
    have c4_2 : wr.cell? ⟨w.heap.size + 2, 2, none⟩ = some (.slice none 0 0) := O4.cell 2
    have z4_2 := O4.frozen 2
    have c4_3 : wr.cell? ⟨w.heap.size + 2, 3, none⟩ = some (.bool false) := O4.cell 3
    have z4_3 := O4.frozen 3
    have c4_4 : wr.cell? ⟨w.heap.size + 2, 4, none⟩ = some (.slice none 0 0) := O4.cell 4
    have z4_4 := O4.frozen 4
    have c4_5 : wr.cell? ⟨w.heap.size + 2, 5, none⟩ = some (.slice none 0 0) := O4.cell 5
    have z4_5 := O4.frozen 5
    clear q2
    clear hf hap
    simp only [fillL]
    have OB2 : w.heap.size ≤ w.heap.size ∧ Own wr (w.heap.size) 26 #[.bool sl2, .slice P2 Pn2 Pc2, .slice R2 Rn2 Rc2, .bool sh2, .slice U2 Un2 Uc2, .slice V2 Vn2 Vc2] := ⟨by omega, O2⟩
    clear c2_0 z2_0 c2_1 z2_1 c2_2 z2_2 c2_3 z2_3 c2_4 z2_4 c2_5 z2_5 O2
    have OB3 : w.heap.size ≤ w.heap.size + 1 ∧ Own wr (w.heap.size + 1) 26 #[.bool sl3, .slice P3 Pn3 Pc3, .slice R3 Rn3 Rc3, .bool sh3, .slice U3 Un3 Uc3, .slice V3 Vn3 Vc3] := ⟨by omega, O3⟩
    clear c3_0 z3_0 c3_1 z3_1 c3_2 z3_2 c3_3 z3_3 c3_4 z3_4 c3_5 z3_5 O3
    have OB4 : w.heap.size ≤ w.heap.size + 2 ∧ Own wr (w.heap.size + 2) 26 #[.bool false, .slice none 0 0, .slice none 0 0, .bool false, .slice none 0 0, .slice none 0 0] := ⟨by omega, O4⟩
    clear c4_0 z4_0 c4_1 z4_1 c4_2 z4_2 c4_3 z4_3 c4_4 z4_4 c4_5 z4_5 O4
    clear B
    have B := hon
    clear hon hk h k
    go_wp2
    refine wp_region_facts (by kernel_rfl) w [Fact.eq (.pointer (some ⟨w.heap.size, 0, none⟩)), Fact.eq (.agg #[.bool sl2, .slice P2 Pn2 Pc2, .slice R2 Rn2 Rc2]), Fact.eq (.pointer (some ⟨w.heap.size + 1, 0, none⟩)), Fact.eq (.agg #[.bool sl3, .slice P3 Pn3 Pc3, .slice R3 Rn3 Rc3]), Fact.rat (rmax lo lo') (L), Fact.eq (.pointer (some ⟨w.heap.size, 3, none⟩)), Fact.eq (.agg #[.bool sh2, .slice U2 Un2 Uc2, .slice V2 Vn2 Vc2]), Fact.eq (.pointer (some ⟨w.heap.size + 1, 3, none⟩)), Fact.eq (.agg #[.bool sh3, .slice U3 Un3 Uc3, .slice V3 Vn3 Vc3]), Fact.rat (rmin hi hi') (L), Fact.spE (rmax lo lo') (rmin hi hi') (L) (.int .i64 0), Fact.spE (rmax lo lo') (rmin hi hi') (L) (.int .i64 0), Fact.sp (rmax lo lo') (rmin hi hi') (L), Fact.eq (.int .i64 0), Fact.any, Fact.any, Fact.eq (.int .i64 0)] [Fact.any, Fact.any, Fact.any, Fact.sp (rmax lo lo') (rmin hi hi') (L)] [⟨17, 2, 26, 17, #[.bool sl2, .slice P2 Pn2 Pc2, .slice R2 Rn2 Rc2, .bool sh2, .slice U2 Un2 Uc2, .slice V2 Vn2 Vc2]⟩, ⟨17, 3, 26, 17, #[.bool sl3, .slice P3 Pn3 Pc3, .slice R3 Rn3 Rc3, .bool sh3, .slice U3 Un3 Uc3, .slice V3 Vn3 Vc3]⟩, ⟨17, 4, 26, 17, #[.bool false, .slice none 0 0, .slice none 0 0, .bool false, .slice none 0 0, .slice none 0 0]⟩, ⟨14, 6, 26, 15, #[.bool false, .slice none 0 0, .slice none 0 0, .bool false, .slice none 0 0, .slice none 0 0]⟩] [w.heap.size, w.heap.size + 1, w.heap.size + 2] [none, none, none, none, none, none, some 6, some 7, none, none, none, none, some 12, some 13, some 14, some 15, some 16, some 17, some 18, some 19, some 20, some 21, some 22, some 23, some 24, some 25, none, none, none, none] (by kernel_rfl) (by kernel_rfl) (by kernel_rfl) rfl B ?_ ?_ ?_ ?_ ?_
    · exact ⟨fun _ => ⟨by simp, rfl, OB2⟩, fun _ => ⟨by simp, rfl, OB3⟩, fun _ => ⟨by simp, rfl, OB4⟩, fun h => absurd h (by decide), trivial⟩
    · exact .inr (by simp <;> omega)
    · exact ⟨⟨noWords_S _ _ _ _ _ _ _ _ _ _ _ _ _ _, (.inl (Nat.le_refl _)), (.inl (Nat.le_refl _))⟩, ⟨noWords_S _ _ _ _ _ _ _ _ _ _ _ _ _ _, (.inl (Nat.le_refl _)), (.inl (Nat.le_refl _))⟩, ⟨noWords_S _ _ _ _ _ _ _ _ _ _ _ _ _ _, (.inl (Nat.le_refl _)), (.inl (Nat.le_refl _))⟩, ⟨noWords_S _ _ _ _ _ _ _ _ _ _ _ _ _ _, (.inr ⟨fun _ _ => trivial, _, rfl, fun a w => ⟨rfl, do_value run_allocS⟩⟩), (.inr (store_obS (j := 12) (noWords_S _ _ _ _ _ _ _ _ _ _ _ _ _ _) rfl rfl rfl (by kernel_rfl) rfl rfl rfl))⟩, trivial⟩
    · refine ⟨?_, ?_, ?_, ?_, ?_, ?_, ?_, ?_, ?_, ?_, ?_, ?_, ?_, ?_, ?_, ?_, ?_, trivial⟩
      · exact .inr fun a w hp => ob_yes rfl (ob_fieldS0 (hp.box (k := 0) rfl (Nat.le_refl _) (.inl (Nat.le_refl _)) (by kernel_rfl) rfl).1 rfl)
      · exact .inr fun a w hp => ob_yes rfl (ob_loadLo (hp.fact 0 13 (by kernel_rfl) rfl) (hp.box (k := 0) rfl (Nat.le_refl _) (.inl (Nat.le_refl _)) (by kernel_rfl) rfl).2 rfl)
      · exact .inr fun a w hp => ob_yes rfl (ob_fieldS0 (hp.box (k := 1) rfl (Nat.le_refl _) (.inl (Nat.le_refl _)) (by kernel_rfl) rfl).1 rfl)
      · exact .inr fun a w hp => ob_yes rfl (ob_loadLo (hp.fact 2 15 (by kernel_rfl) rfl) (hp.box (k := 1) rfl (Nat.le_refl _) (.inl (Nat.le_refl _)) (by kernel_rfl) rfl).2 rfl)
      · refine .inr fun a w hp => ob_yes rfl ?_
        have h14 : a.tmps.getD 14 undef = .agg #[.bool sl2, .slice P2 Pn2 Pc2, .slice R2 Rn2 Rc2] := (hp.fact 1 14 (by kernel_rfl) rfl)
        have h16 : a.tmps.getD 16 undef = .agg #[.bool sl3, .slice P3 Pn3 Pc3, .slice R3 Rn3 Rc3] := (hp.fact 3 16 (by kernel_rfl) rfl)
        unfold Does
        go_simp
        refine (smax_keep _ _ _ lo lo' L (IsR.fld (IL2.kept hp.kept)) (IsR.fld (IL3.kept hp.kept)) hL2 (by omega)).mono ?_
        rintro e w' ⟨u, rfl, I8, P8⟩
        exact ⟨_, rfl, P8, I8⟩
      · exact .inr fun a w hp => ob_yes rfl (ob_fieldS1 (hp.box (k := 0) rfl (Nat.le_refl _) (.inl (Nat.le_refl _)) (by kernel_rfl) rfl).1 rfl)
      · exact .inr fun a w hp => ob_yes rfl (ob_loadHi (hp.fact 5 18 (by kernel_rfl) rfl) (hp.box (k := 0) rfl (Nat.le_refl _) (.inl (Nat.le_refl _)) (by kernel_rfl) rfl).2 rfl)
      · exact .inr fun a w hp => ob_yes rfl (ob_fieldS1 (hp.box (k := 1) rfl (Nat.le_refl _) (.inl (Nat.le_refl _)) (by kernel_rfl) rfl).1 rfl)
      · exact .inr fun a w hp => ob_yes rfl (ob_loadHi (hp.fact 7 20 (by kernel_rfl) rfl) (hp.box (k := 1) rfl (Nat.le_refl _) (.inl (Nat.le_refl _)) (by kernel_rfl) rfl).2 rfl)
      · refine .inr fun a w hp => ob_yes rfl ?_
        have h19 : a.tmps.getD 19 undef = .agg #[.bool sh2, .slice U2 Un2 Uc2, .slice V2 Vn2 Vc2] := (hp.fact 6 19 (by kernel_rfl) rfl)
        have h21 : a.tmps.getD 21 undef = .agg #[.bool sh3, .slice U3 Un3 Uc3, .slice V3 Vn3 Vc3] := (hp.fact 8 21 (by kernel_rfl) rfl)
        unfold Does
        go_simp
        refine (smin_keep _ _ _ hi hi' L (IsR.fld (IH2.kept hp.kept)) (IsR.fld (IH3.kept hp.kept)) hL2 (by omega)).mono ?_
        rintro e w' ⟨u, rfl, I8, P8⟩
        exact ⟨_, rfl, P8, I8⟩
      · refine .inr fun a w hp => ob_yes rfl ?_
        have h17 : IsR w (a.tmps.getD 17 undef) (rmax lo lo') (L) := (hp.fact 4 17 (by kernel_rfl) rfl)
        obtain ⟨v17, e17⟩ : ∃ v, a.tmps.getD 17 undef = v := ⟨_, rfl⟩
        rw [e17] at h17
        have h22 : IsR w (a.tmps.getD 22 undef) (rmin hi hi') (L) := (hp.fact 9 22 (by kernel_rfl) rfl)
        obtain ⟨v22, e22⟩ : ∃ v, a.tmps.getD 22 undef = v := ⟨_, rfl⟩
        rw [e22] at h22
        unfold Does
        go_simp
        refine (rmake3_ok _ _ _ (rmax lo lo') (rmin hi hi') L (IsR.fld h17) (IsR.fld h22) hL2 hL HC.out).mono ?_
        rintro e w' ⟨u, rfl, I8, P8⟩
        exact ⟨_, rfl, P8, _, rfl, I8⟩
      · exact .inr fun a w hp => ob_yes rfl (ob_move (hp.fact 10 23 (by kernel_rfl) rfl))
      · refine .inr fun a w hp => ob_yes rfl ?_
        obtain ⟨u, e, h⟩ : ∃ u, a.tmps.getD 12 undef = .tuple #[u, .int .i64 0] ∧ IsS w u (rmax lo lo') (rmin hi hi') (L) := (hp.fact 11 12 (by kernel_rfl) rfl)
        exact ob_ext0 e h
      · refine .inr fun a w hp => ob_yes rfl ?_
        obtain ⟨u, e, h⟩ : ∃ u, a.tmps.getD 12 undef = .tuple #[u, .int .i64 0] ∧ IsS w u (rmax lo lo') (rmin hi hi') (L) := (hp.fact 11 12 (by kernel_rfl) rfl)
        exact ob_ext1 e rfl
      · exact .inl rfl
      · exact .inl rfl
      · exact .inr fun a w hp => ob_yes rfl (ob_assign (hp.fact 13 25 (by kernel_rfl) rfl))
    · intro f wd hon hk hf hb hap
      obtain ⟨q0, q1, q2, q3, qz⟩ := hb
      clear qz
      have O2 : Own wd (w.heap.size) 26 #[.bool sl2, .slice P2 Pn2 Pc2, .slice R2 Rn2 Rc2, .bool sh2, .slice U2 Un2 Uc2, .slice V2 Vn2 Vc2] := q0
      have c2_0 : wd.cell? ⟨w.heap.size, 0, none⟩ = some (.bool sl2) := O2.cell 0
      have z2_0 := O2.frozen 0
      have c2_1 : wd.cell? ⟨w.heap.size, 1, none⟩ = some (.slice P2 Pn2 Pc2) := O2.cell 1
      have z2_1 := O2.frozen 1
      have c2_2 : wd.cell? ⟨w.heap.size, 2, none⟩ = some (.slice R2 Rn2 Rc2) := O2.cell 2
      have z2_2 := O2.frozen 2
      have c2_3 : wd.cell? ⟨w.heap.size, 3, none⟩ = some (.bool sh2) := O2.cell 3
      have z2_3 := O2.frozen 3
      have c2_4 : wd.cell? ⟨w.heap.size, 4, none⟩ = some (.slice U2 Un2 Uc2) := O2.cell 4
      have z2_4 := O2.frozen 4
      have c2_5 : wd.cell? ⟨w.heap.size, 5, none⟩ = some (.slice V2 Vn2 Vc2) := O2.cell 5
      have z2_5 := O2.frozen 5
      clear q0
      have O3 : Own wd (w.heap.size + 1) 26 #[.bool sl3, .slice P3 Pn3 Pc3, .slice R3 Rn3 Rc3, .bool sh3, .slice U3 Un3 Uc3, .slice V3 Vn3 Vc3] := q1
      have c3_0 : wd.cell? ⟨w.heap.size + 1, 0, none⟩ = some (.bool sl3) := O3.cell 0
      have z3_0 := O3.frozen 0
      have c3_1 : wd.cell? ⟨w.heap.size + 1, 1, none⟩ = some (.slice P3 Pn3 Pc3) := O3.cell 1
      have z3_1 := O3.frozen 1
      have c3_2 : wd.cell? ⟨w.heap.size + 1, 2, none⟩ = some (.slice R3 Rn3 Rc3) := O3.cell 2
      have z3_2 := O3.frozen 2
      have c3_3 : wd.cell? ⟨w.heap.size + 1, 3, none⟩ = some (.bool sh3) := O3.cell 3
      have z3_3 := O3.frozen 3
      have c3_4 : wd.cell? ⟨w.heap.size + 1, 4, none⟩ = some (.slice U3 Un3 Uc3) := O3.cell 4
      have z3_4 := O3.frozen 4
      have c3_5 : wd.cell? ⟨w.heap.size + 1, 5, none⟩ = some (.slice V3 Vn3 Vc3) := O3.cell 5
      have z3_5 := O3.frozen 5
      clear q1
      have O4 : Own wd (w.heap.size + 2) 26 #[.bool false, .slice none 0 0, .slice none 0 0, .bool false, .slice none 0 0, .slice none 0 0] := q2
      have c4_0 : wd.cell? ⟨w.heap.size + 2, 0, none⟩ = some (.bool false) := O4.cell 0
      have z4_0 := O4.frozen 0
      have c4_1 : wd.cell? ⟨w.heap.size + 2, 1, none⟩ = some (.slice none 0 0) := O4.cell 1
      have z4_1 := O4.frozen 1
      have c4_2 : wd.cell? ⟨w.heap.size + 2, 2, none⟩ = some (.slice none 0 0) := O4.cell 2
      have z4_2 := O4.frozen 2
      have c4_3 : wd.cell? ⟨w.heap.size + 2, 3, none⟩ = some (.bool false) := O4.cell 3
      have z4_3 := O4.frozen 3
      have c4_4 : wd.cell? ⟨w.heap.size + 2, 4, none⟩ = some (.slice none 0 0) := O4.cell 4
      have z4_4 := O4.frozen 4
      have c4_5 : wd.cell? ⟨w.heap.size + 2, 5, none⟩ = some (.slice none 0 0) := O4.cell 5
      have z4_5 := O4.frozen 5
      clear q2
      obtain ⟨g6, e6, G6, q3⟩ := q3
      change f 6 = _ at e6
      obtain ⟨cur6, O6, I6⟩ : ∃ cur, Own wd (g6) 26 cur ∧ IsS wd (.agg cur) (rmax lo lo') (rmin hi hi') (L) := q3
      obtain ⟨sl6, P6, Pn6, Pc6, R6, Rn6, Rc6, sh6, U6, Un6, Uc6, V6, Vn6, Vc6, hz6, IL6, IH6⟩ := id I6
      injection hz6 with hz6
      subst hz6
      have c6_0 : wd.cell? ⟨g6, 0, none⟩ = some (.bool sl6) := O6.cell 0
      have z6_0 := O6.frozen 0
      have c6_1 : wd.cell? ⟨g6, 1, none⟩ = some (.slice P6 Pn6 Pc6) := O6.cell 1
      have z6_1 := O6.frozen 1
      have c6_2 : wd.cell? ⟨g6, 2, none⟩ = some (.slice R6 Rn6 Rc6) := O6.cell 2
      have z6_2 := O6.frozen 2
      have c6_3 : wd.cell? ⟨g6, 3, none⟩ = some (.bool sh6) := O6.cell 3
      have z6_3 := O6.frozen 3
      have c6_4 : wd.cell? ⟨g6, 4, none⟩ = some (.slice U6 Un6 Uc6) := O6.cell 4
      have z6_4 := O6.frozen 4
      have c6_5 : wd.cell? ⟨g6, 5, none⟩ = some (.slice V6 Vn6 Vc6) := O6.cell 5
      have z6_5 := O6.frozen 5
      have e7 : f 7 = .int .i64 0 := hf 16 7 rfl
      clear hf hap
      simp only [fillL, e7]; simp only [e6]
      clear e7 e6
      clear c2_0 z2_0 c2_1 z2_1 c2_2 z2_2 c2_3 z2_3 c2_4 z2_4 c2_5 z2_5 c3_0 z3_0 c3_1 z3_1 c3_2 z3_2 c3_3 z3_3 c3_4 z3_4 c3_5 z3_5
      have OB4 : w.heap.size ≤ w.heap.size + 2 ∧ _ := ⟨by omega, O4⟩
      have I5s := I6.kept (Kept.only (only6 (w := wd) (g := w.heap.size + 2) (.bool sl6) (.slice P6 Pn6 Pc6) (.slice R6 Rn6 Rc6) (.bool sh6) (.slice U6 Un6 Uc6) (.slice V6 Vn6 Vc6)) OB4.2 (noWords_S _ _ _ _ _ _ _ _ _ _ _ _ _ _))
      have hon6 := on6 (g := w.heap.size + 2) hon (by omega) (.bool sl6) (.slice P6 Pn6 Pc6) (.slice R6 Rn6 Rc6) (.bool sh6) (.slice U6 Un6 Uc6) (.slice V6 Vn6 Vc6)
      go_wp2
      exact bodyPost_ret (v := .tuple #[.agg #[.bool sl6, .slice P6 Pn6 Pc6, .slice R6 Rn6 Rc6, .bool sh6, .slice U6 Un6 Uc6, .slice V6 Vn6 Vc6], .int .i64 0]) (by simp [results, Tryz.results37, go_sem, c4_0, c4_1, c4_2, c4_3, c4_4, c4_5]) rfl ⟨_, rfl, I5s, hon6⟩
end Num
end Go.Proofs.YtkchpagjkgmpmaaGreat
