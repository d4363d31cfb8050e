/-
  The specification's Contains and Inside of spans.
-/
import Derived.Test.YtkchpagjkgmpmaaGreatSrf
namespace Go.Proofs.YtkchpagjkgmpmaaGreat
open Go.RowKit
set_option linter.unusedVariables false
namespace Num
set_option maxRecDepth 100000 in
set_option maxHeartbeats 8000000 in
theorem rcont3_any (w : World) (v v' : Value) (lo hi x : Rat) (L : Nat) (h : Sp w v lo hi L) (k : Fld w v' x L) (hL2 : 2 ≤ L) (hL : L ≤ 400) :
    Calls Tryz.prog 41 #[v, v'] w fun e w' => e = .returned (.bool (decide (lo ≤ x) && decide (x ≤ hi))) ∧ On w w' := by
  obtain ⟨q, hq⟩ : ∃ q, (decide (lo ≤ x) && decide (x ≤ hi)) = q := ⟨_, rfl⟩
  rw [hq]
  have HQ := Lib.hid hq
  clear hq
  obtain ⟨ba0, Aa0, na0, ca0, Ba0, ma0, oa0, bb0, Ab0, nb0, cb0, Bb0, mb0, ob0, rfl⟩ := h.form
  obtain ⟨b1, A1, n1, c1, D1, m1, e1, rfl⟩ := fld_form k
  have B : On w ((w.alloc (.cells #[.bool ba0, .slice Aa0 na0 ca0, .slice Ba0 ma0 oa0, .bool bb0, .slice Ab0 nb0 cb0, .slice Bb0 mb0 ob0] 26)).alloc (.cells #[.bool b1, .slice A1 n1 c1, .slice D1 m1 e1] 24)) := On.alloc (On.alloc (On.refl w) _) _
  have OB2 : w.heap.size ≤ w.heap.size ∧ Own ((w.alloc (.cells #[.bool ba0, .slice Aa0 na0 ca0, .slice Ba0 ma0 oa0, .bool bb0, .slice Ab0 nb0 cb0, .slice Bb0 mb0 ob0] 26)).alloc (.cells #[.bool b1, .slice A1 n1 c1, .slice D1 m1 e1] 24)) (w.heap.size) 26 #[.bool ba0, .slice Aa0 na0 ca0, .slice Ba0 ma0 oa0, .bool bb0, .slice Ab0 nb0 cb0, .slice Bb0 mb0 ob0] := ⟨by omega, ((Own.at_ w (w.heap.size) (by simp) 26 #[.bool ba0, .slice Aa0 na0 ca0, .slice Ba0 ma0 oa0, .bool bb0, .slice Ab0 nb0 cb0, .slice Bb0 mb0 ob0]).alloc (.cells #[.bool b1, .slice A1 n1 c1, .slice D1 m1 e1] 24))⟩
  have OB3 : w.heap.size ≤ w.heap.size + 1 ∧ Own ((w.alloc (.cells #[.bool ba0, .slice Aa0 na0 ca0, .slice Ba0 ma0 oa0, .bool bb0, .slice Ab0 nb0 cb0, .slice Bb0 mb0 ob0] 26)).alloc (.cells #[.bool b1, .slice A1 n1 c1, .slice D1 m1 e1] 24)) (w.heap.size + 1) 24 #[.bool b1, .slice A1 n1 c1, .slice D1 m1 e1] := ⟨by omega, (Own.at_ (w.alloc (.cells #[.bool ba0, .slice Aa0 na0 ca0, .slice Ba0 ma0 oa0, .bool bb0, .slice Ab0 nb0 cb0, .slice Bb0 mb0 ob0] 26)) (w.heap.size + 1) (by simp) 24 #[.bool b1, .slice A1 n1 c1, .slice D1 m1 e1])⟩
  go_enter Tryz.func41, Tryz.ntmps41
  go_wp2_with fail
  refine (rarg_any _ _ _ _ L (h.on B) hL2 (by omega)).mono ?_
  rintro e w1 ⟨u, rfl, I, P1_⟩
  obtain ⟨sl1, P1, Pn1, Pc1, R1, Rn1, Rc1, sh1, U1, Un1, Uc1, V1, Vn1, Vc1, rfl, IL1, IH1⟩ := id I
  replace OB2 := And.intro OB2.1 (OB2.2.on P1_)
  replace OB3 := And.intro OB3.1 (OB3.2.on P1_)
  replace B := B.trans P1_
  have y2_0 : w1.cell? ⟨w.heap.size, 0, none⟩ = some (.bool ba0) := OB2.2.cell 0
  have y2_1 : w1.cell? ⟨w.heap.size, 1, none⟩ = some (.slice Aa0 na0 ca0) := OB2.2.cell 1
  have y2_2 : w1.cell? ⟨w.heap.size, 2, none⟩ = some (.slice Ba0 ma0 oa0) := OB2.2.cell 2
  have y2_3 : w1.cell? ⟨w.heap.size, 3, none⟩ = some (.bool bb0) := OB2.2.cell 3
  have y2_4 : w1.cell? ⟨w.heap.size, 4, none⟩ = some (.slice Ab0 nb0 cb0) := OB2.2.cell 4
  have y2_5 : w1.cell? ⟨w.heap.size, 5, none⟩ = some (.slice Bb0 mb0 ob0) := OB2.2.cell 5
  have y2_f0 := OB2.2.frozen 0
  have y2_f1 := OB2.2.frozen 1
  have y2_f2 := OB2.2.frozen 2
  have y2_f3 := OB2.2.frozen 3
  have y2_f4 := OB2.2.frozen 4
  have y2_f5 := OB2.2.frozen 5
  have oo := only6 (w := w1) (g := w.heap.size) (.bool sl1) (.slice P1 Pn1 Pc1) (.slice R1 Rn1 Rc1) (.bool sh1) (.slice U1 Un1 Uc1) (.slice V1 Vn1 Vc1)
  have hk1 := Kept.only oo OB2.2 (noWords_S _ _ _ _ _ _ _ _ _ _ _ _ _ _)
  replace IL1 := IL1.kept hk1
  replace IH1 := IH1.kept hk1
  have hon1 := on6 (g := w.heap.size) B (by omega) (.bool sl1) (.slice P1 Pn1 Pc1) (.slice R1 Rn1 Rc1) (.bool sh1) (.slice U1 Un1 Uc1) (.slice V1 Vn1 Vc1)
  have ON1 := (((((OB2.2.set_ 0 (.bool sl1)).set_ 1 (.slice P1 Pn1 Pc1)).set_ 2 (.slice R1 Rn1 Rc1)).set_ 3 (.bool sh1)).set_ 4 (.slice U1 Un1 Uc1)).set_ 5 (.slice V1 Vn1 Vc1)
  have ON2 := OB3.2.only oo (by omega)
  have kW : Fld (((((((w1.setCell ⟨w.heap.size, 0, none⟩ (.bool sl1)).setCell ⟨w.heap.size, 1, none⟩ (.slice P1 Pn1 Pc1)).setCell ⟨w.heap.size, 2, none⟩ (.slice R1 Rn1 Rc1)).setCell ⟨w.heap.size, 3, none⟩ (.bool sh1)).setCell ⟨w.heap.size, 4, none⟩ (.slice U1 Un1 Uc1)).setCell ⟨w.heap.size, 5, none⟩ (.slice V1 Vn1 Vc1))) (.agg #[.bool b1, .slice A1 n1 c1, .slice D1 m1 e1]) x L := k.on hon1
  have y3_0 : w1.cell? ⟨w.heap.size + 1, 0, none⟩ = some (.bool b1) := OB3.2.cell 0
  have y3_1 : w1.cell? ⟨w.heap.size + 1, 1, none⟩ = some (.slice A1 n1 c1) := OB3.2.cell 1
  have y3_2 : w1.cell? ⟨w.heap.size + 1, 2, none⟩ = some (.slice D1 m1 e1) := OB3.2.cell 2
  have y3_f0 := OB3.2.frozen 0
  have y3_f1 := OB3.2.frozen 1
  have y3_f2 := OB3.2.frozen 2
  go_wp2_with fail
  obtain ⟨W, hW⟩ : ∃ W, (((((((w1.setCell ⟨w.heap.size, 0, none⟩ (.bool sl1)).setCell ⟨w.heap.size, 1, none⟩ (.slice P1 Pn1 Pc1)).setCell ⟨w.heap.size, 2, none⟩ (.slice R1 Rn1 Rc1)).setCell ⟨w.heap.size, 3, none⟩ (.bool sh1)).setCell ⟨w.heap.size, 4, none⟩ (.slice U1 Un1 Uc1)).setCell ⟨w.heap.size, 5, none⟩ (.slice V1 Vn1 Vc1))) = W := ⟨_, rfl⟩
  rw [hW] at hon1 IL1 IH1 ON1 ON2 kW ⊢
  have OB2' : w.heap.size ≤ w.heap.size ∧ Own W w.heap.size 26 #[.bool sl1, .slice P1 Pn1 Pc1, .slice R1 Rn1 Rc1, .bool sh1, .slice U1 Un1 Uc1, .slice V1 Vn1 Vc1] := ⟨Nat.le_refl _, ON1⟩
  have OB3' : w.heap.size ≤ w.heap.size + 1 ∧ Own W (w.heap.size + 1) 24 #[.bool b1, .slice A1 n1 c1, .slice D1 m1 e1] := ⟨by omega, ON2⟩
  clear y2_0 y2_f0 y2_1 y2_f1 y2_2 y2_f2 y2_3 y2_f3 y2_4 y2_f4 y2_5 y2_f5
  clear oo hk1 I B OB2 OB3 ON1 ON2 hW P1_
  have OB2 := OB2'
  have OB3 := OB3'
  have B := hon1
  clear OB2' OB3' hon1
  refine (scmp_any _ _ _ lo x L (IsR.fld IL1) kW hL2 (by omega)).mono ?_
  rintro e w3 ⟨rfl, P3⟩
  have hz := rsg_le_iff lo x
  obtain ⟨z, ez⟩ : ∃ y, rsg (lo - x) = y := ⟨_, rfl⟩
  rw [ez] at hz ⊢
  clear ez
  clear y3_0 y3_f0 y3_1 y3_f1 y3_2 y3_f2
  replace OB2 := And.intro OB2.1 (OB2.2.on P3)
  replace OB3 := And.intro OB3.1 (OB3.2.on P3)
  replace B := B.trans P3
  have y2_0 : w3.cell? ⟨w.heap.size, 0, none⟩ = some (.bool sl1) := OB2.2.cell 0
  have y2_1 : w3.cell? ⟨w.heap.size, 1, none⟩ = some (.slice P1 Pn1 Pc1) := OB2.2.cell 1
  have y2_2 : w3.cell? ⟨w.heap.size, 2, none⟩ = some (.slice R1 Rn1 Rc1) := OB2.2.cell 2
  have y2_3 : w3.cell? ⟨w.heap.size, 3, none⟩ = some (.bool sh1) := OB2.2.cell 3
  have y2_4 : w3.cell? ⟨w.heap.size, 4, none⟩ = some (.slice U1 Un1 Uc1) := OB2.2.cell 4
  have y2_5 : w3.cell? ⟨w.heap.size, 5, none⟩ = some (.slice V1 Vn1 Vc1) := OB2.2.cell 5
  have y2_f0 := OB2.2.frozen 0
  have y2_f1 := OB2.2.frozen 1
  have y2_f2 := OB2.2.frozen 2
  have y2_f3 := OB2.2.frozen 3
  have y2_f4 := OB2.2.frozen 4
  have y2_f5 := OB2.2.frozen 5
  have y3_0 : w3.cell? ⟨w.heap.size + 1, 0, none⟩ = some (.bool b1) := OB3.2.cell 0
  have y3_1 : w3.cell? ⟨w.heap.size + 1, 1, none⟩ = some (.slice A1 n1 c1) := OB3.2.cell 1
  have y3_2 : w3.cell? ⟨w.heap.size + 1, 2, none⟩ = some (.slice D1 m1 e1) := OB3.2.cell 2
  have y3_f0 := OB3.2.frozen 0
  have y3_f1 := OB3.2.frozen 1
  have y3_f2 := OB3.2.frozen 2
  by_cases hl : lo ≤ x
  · have hzz : z ≤ 0 := hz.2 hl
    have HL := Lib.hid hl
    clear hz hl
    go_wp2_with fail
    refine (scmp_any _ _ _ x hi L (kW.on P3) (IsR.fld (IH1.on P3)) hL2 (by omega)).mono ?_
    rintro e w2 ⟨rfl, P2_⟩
    have hz2 := rsg_le_iff x hi
    obtain ⟨z2, ez2⟩ : ∃ y, rsg (x - hi) = y := ⟨_, rfl⟩
    rw [ez2] at hz2 ⊢
    clear ez2
    by_cases hl2 : x ≤ hi
    · have hzz2 : z2 ≤ 0 := hz2.2 hl2
      have hqq : q = true := by rw [← HQ.out, decide_eq_true HL.out, decide_eq_true hl2]; rfl
      have HQQ := Lib.hid hqq
      clear hz2 hl2 hqq
      go_wp2
      go_ret
      exact ⟨by rw [HQQ.out]; first | rfl | (simp; done) | (simp; omega), B.trans P2_⟩
    · have hzz2 : ¬ z2 ≤ 0 := fun e => hl2 (hz2.1 e)
      have hqq : q = false := by rw [← HQ.out, decide_eq_false hl2]; simp
      have HQQ := Lib.hid hqq
      clear hz2 hl2 hqq
      go_wp2
      go_ret
      exact ⟨by rw [HQQ.out]; first | rfl | (simp; done) | (simp; omega), B.trans P2_⟩
  · have hzz : ¬ z ≤ 0 := fun e => hl (hz.1 e)
    have hqq : q = false := by rw [← HQ.out, decide_eq_false hl]; rfl
    have HQQ := Lib.hid hqq
    clear hz hl hqq
    go_wp2
    go_ret
    exact ⟨by rw [HQQ.out]; first | rfl | (simp; done) | (simp; omega), B⟩
set_option maxRecDepth 100000 in
set_option maxHeartbeats 8000000 in
theorem rins3_any (w : World) (v v' : Value) (lo hi lo' hi' : Rat) (L : Nat) (h : Sp w v lo hi L) (k : Sp w v' lo' hi' L) (hL2 : 2 ≤ L) (hL : L ≤ 400) :
    Calls Tryz.prog 43 #[v, v'] w fun e w' => e = .returned (.bool (decide (lo' ≤ lo) && decide (hi ≤ hi'))) ∧ On w w' := by
  rw [← inside_eq h.le k.le]
  obtain ⟨q1, hq1⟩ : ∃ q, (decide (lo' ≤ lo) && decide (lo ≤ hi')) = q := ⟨_, rfl⟩
  obtain ⟨q2, hq2⟩ : ∃ q, (decide (lo' ≤ hi) && decide (hi ≤ hi')) = q := ⟨_, rfl⟩
  rw [hq1, hq2]
  have HQ1 := Lib.hid hq1
  have HQ2 := Lib.hid hq2
  clear hq1 hq2
  obtain ⟨ba0, Aa0, na0, ca0, Ba0, ma0, oa0, bb0, Ab0, nb0, cb0, Bb0, mb0, ob0, rfl⟩ := h.form
  obtain ⟨ba1, Aa1, na1, ca1, Ba1, ma1, oa1, bb1, Ab1, nb1, cb1, Bb1, mb1, ob1, rfl⟩ := k.form
  have B : On w ((w.alloc (.cells #[.bool ba0, .slice Aa0 na0 ca0, .slice Ba0 ma0 oa0, .bool bb0, .slice Ab0 nb0 cb0, .slice Bb0 mb0 ob0] 26)).alloc (.cells #[.bool ba1, .slice Aa1 na1 ca1, .slice Ba1 ma1 oa1, .bool bb1, .slice Ab1 nb1 cb1, .slice Bb1 mb1 ob1] 26)) := On.alloc (On.alloc (On.refl w) _) _
  have OB2 : w.heap.size ≤ w.heap.size ∧ Own ((w.alloc (.cells #[.bool ba0, .slice Aa0 na0 ca0, .slice Ba0 ma0 oa0, .bool bb0, .slice Ab0 nb0 cb0, .slice Bb0 mb0 ob0] 26)).alloc (.cells #[.bool ba1, .slice Aa1 na1 ca1, .slice Ba1 ma1 oa1, .bool bb1, .slice Ab1 nb1 cb1, .slice Bb1 mb1 ob1] 26)) (w.heap.size) 26 #[.bool ba0, .slice Aa0 na0 ca0, .slice Ba0 ma0 oa0, .bool bb0, .slice Ab0 nb0 cb0, .slice Bb0 mb0 ob0] := ⟨by omega, ((Own.at_ w (w.heap.size) (by simp) 26 #[.bool ba0, .slice Aa0 na0 ca0, .slice Ba0 ma0 oa0, .bool bb0, .slice Ab0 nb0 cb0, .slice Bb0 mb0 ob0]).alloc (.cells #[.bool ba1, .slice Aa1 na1 ca1, .slice Ba1 ma1 oa1, .bool bb1, .slice Ab1 nb1 cb1, .slice Bb1 mb1 ob1] 26))⟩
  have OB3 : w.heap.size ≤ w.heap.size + 1 ∧ Own ((w.alloc (.cells #[.bool ba0, .slice Aa0 na0 ca0, .slice Ba0 ma0 oa0, .bool bb0, .slice Ab0 nb0 cb0, .slice Bb0 mb0 ob0] 26)).alloc (.cells #[.bool ba1, .slice Aa1 na1 ca1, .slice Ba1 ma1 oa1, .bool bb1, .slice Ab1 nb1 cb1, .slice Bb1 mb1 ob1] 26)) (w.heap.size + 1) 26 #[.bool ba1, .slice Aa1 na1 ca1, .slice Ba1 ma1 oa1, .bool bb1, .slice Ab1 nb1 cb1, .slice Bb1 mb1 ob1] := ⟨by omega, (Own.at_ (w.alloc (.cells #[.bool ba0, .slice Aa0 na0 ca0, .slice Ba0 ma0 oa0, .bool bb0, .slice Ab0 nb0 cb0, .slice Bb0 mb0 ob0] 26)) (w.heap.size + 1) (by simp) 26 #[.bool ba1, .slice Aa1 na1 ca1, .slice Ba1 ma1 oa1, .bool bb1, .slice Ab1 nb1 cb1, .slice Bb1 mb1 ob1])⟩
  go_enter Tryz.func43, Tryz.ntmps43
  go_wp2_with fail
  refine (rarg_any _ _ _ _ L (h.on B) hL2 (by omega)).mono ?_
  rintro e w1 ⟨u, rfl, I, P1_⟩
  obtain ⟨sl1, P1, Pn1, Pc1, R1, Rn1, Rc1, sh1, U1, Un1, Uc1, V1, Vn1, Vc1, rfl, IL1, IH1⟩ := id I
  replace OB2 := And.intro OB2.1 (OB2.2.on P1_)
  replace OB3 := And.intro OB3.1 (OB3.2.on P1_)
  replace B := B.trans P1_
  have y2_0 : w1.cell? ⟨w.heap.size, 0, none⟩ = some (.bool ba0) := OB2.2.cell 0
  have y2_1 : w1.cell? ⟨w.heap.size, 1, none⟩ = some (.slice Aa0 na0 ca0) := OB2.2.cell 1
  have y2_2 : w1.cell? ⟨w.heap.size, 2, none⟩ = some (.slice Ba0 ma0 oa0) := OB2.2.cell 2
  have y2_3 : w1.cell? ⟨w.heap.size, 3, none⟩ = some (.bool bb0) := OB2.2.cell 3
  have y2_4 : w1.cell? ⟨w.heap.size, 4, none⟩ = some (.slice Ab0 nb0 cb0) := OB2.2.cell 4
  have y2_5 : w1.cell? ⟨w.heap.size, 5, none⟩ = some (.slice Bb0 mb0 ob0) := OB2.2.cell 5
  have y2_f0 := OB2.2.frozen 0
  have y2_f1 := OB2.2.frozen 1
  have y2_f2 := OB2.2.frozen 2
  have y2_f3 := OB2.2.frozen 3
  have y2_f4 := OB2.2.frozen 4
  have y2_f5 := OB2.2.frozen 5
  have oo := only6 (w := w1) (g := w.heap.size) (.bool sl1) (.slice P1 Pn1 Pc1) (.slice R1 Rn1 Rc1) (.bool sh1) (.slice U1 Un1 Uc1) (.slice V1 Vn1 Vc1)
  have hk1 := Kept.only oo OB2.2 (noWords_S _ _ _ _ _ _ _ _ _ _ _ _ _ _)
  replace IL1 := IL1.kept hk1
  replace IH1 := IH1.kept hk1
  have hon1 := on6 (g := w.heap.size) B (by omega) (.bool sl1) (.slice P1 Pn1 Pc1) (.slice R1 Rn1 Rc1) (.bool sh1) (.slice U1 Un1 Uc1) (.slice V1 Vn1 Vc1)
  have ON1 := (((((OB2.2.set_ 0 (.bool sl1)).set_ 1 (.slice P1 Pn1 Pc1)).set_ 2 (.slice R1 Rn1 Rc1)).set_ 3 (.bool sh1)).set_ 4 (.slice U1 Un1 Uc1)).set_ 5 (.slice V1 Vn1 Vc1)
  have ON2 := OB3.2.only oo (by omega)
  have kW : Sp (((((((w1.setCell ⟨w.heap.size, 0, none⟩ (.bool sl1)).setCell ⟨w.heap.size, 1, none⟩ (.slice P1 Pn1 Pc1)).setCell ⟨w.heap.size, 2, none⟩ (.slice R1 Rn1 Rc1)).setCell ⟨w.heap.size, 3, none⟩ (.bool sh1)).setCell ⟨w.heap.size, 4, none⟩ (.slice U1 Un1 Uc1)).setCell ⟨w.heap.size, 5, none⟩ (.slice V1 Vn1 Vc1))) (.agg #[.bool ba1, .slice Aa1 na1 ca1, .slice Ba1 ma1 oa1, .bool bb1, .slice Ab1 nb1 cb1, .slice Bb1 mb1 ob1]) lo' hi' L := k.on hon1
  have y3_0 : w1.cell? ⟨w.heap.size + 1, 0, none⟩ = some (.bool ba1) := OB3.2.cell 0
  have y3_1 : w1.cell? ⟨w.heap.size + 1, 1, none⟩ = some (.slice Aa1 na1 ca1) := OB3.2.cell 1
  have y3_2 : w1.cell? ⟨w.heap.size + 1, 2, none⟩ = some (.slice Ba1 ma1 oa1) := OB3.2.cell 2
  have y3_3 : w1.cell? ⟨w.heap.size + 1, 3, none⟩ = some (.bool bb1) := OB3.2.cell 3
  have y3_4 : w1.cell? ⟨w.heap.size + 1, 4, none⟩ = some (.slice Ab1 nb1 cb1) := OB3.2.cell 4
  have y3_5 : w1.cell? ⟨w.heap.size + 1, 5, none⟩ = some (.slice Bb1 mb1 ob1) := OB3.2.cell 5
  have y3_f0 := OB3.2.frozen 0
  have y3_f1 := OB3.2.frozen 1
  have y3_f2 := OB3.2.frozen 2
  have y3_f3 := OB3.2.frozen 3
  have y3_f4 := OB3.2.frozen 4
  have y3_f5 := OB3.2.frozen 5
  go_wp2_with fail
  obtain ⟨W, hW⟩ : ∃ W, (((((((w1.setCell ⟨w.heap.size, 0, none⟩ (.bool sl1)).setCell ⟨w.heap.size, 1, none⟩ (.slice P1 Pn1 Pc1)).setCell ⟨w.heap.size, 2, none⟩ (.slice R1 Rn1 Rc1)).setCell ⟨w.heap.size, 3, none⟩ (.bool sh1)).setCell ⟨w.heap.size, 4, none⟩ (.slice U1 Un1 Uc1)).setCell ⟨w.heap.size, 5, none⟩ (.slice V1 Vn1 Vc1))) = W := ⟨_, rfl⟩
  rw [hW] at hon1 IL1 IH1 ON1 ON2 kW ⊢
  have OB2' : w.heap.size ≤ w.heap.size ∧ Own W w.heap.size 26 #[.bool sl1, .slice P1 Pn1 Pc1, .slice R1 Rn1 Rc1, .bool sh1, .slice U1 Un1 Uc1, .slice V1 Vn1 Vc1] := ⟨Nat.le_refl _, ON1⟩
  have OB3' : w.heap.size ≤ w.heap.size + 1 ∧ Own W (w.heap.size + 1) 26 #[.bool ba1, .slice Aa1 na1 ca1, .slice Ba1 ma1 oa1, .bool bb1, .slice Ab1 nb1 cb1, .slice Bb1 mb1 ob1] := ⟨by omega, ON2⟩
  clear y2_0 y2_f0 y2_1 y2_f1 y2_2 y2_f2 y2_3 y2_f3 y2_4 y2_f4 y2_5 y2_f5
  clear oo hk1 I B OB2 OB3 ON1 ON2 hW P1_
  have OB2 := OB2'
  have OB3 := OB3'
  have B := hon1
  clear OB2' OB3' hon1
  refine (rcont3_any _ _ _ lo' hi' lo L kW (IsR.fld IL1) hL2 (by omega)).mono ?_
  rintro e w3 ⟨rfl, P3⟩
  rw [HQ1.out]
  try clear y3_0 y3_f0 y3_1 y3_f1 y3_2 y3_f2 y3_3 y3_f3 y3_4 y3_f4 y3_5 y3_f5
  replace OB2 := And.intro OB2.1 (OB2.2.on P3)
  replace OB3 := And.intro OB3.1 (OB3.2.on P3)
  replace B := B.trans P3
  have a2_0 : w3.cell? ⟨w.heap.size, 0, none⟩ = some (.bool sl1) := OB2.2.cell 0
  have a2_1 : w3.cell? ⟨w.heap.size, 1, none⟩ = some (.slice P1 Pn1 Pc1) := OB2.2.cell 1
  have a2_2 : w3.cell? ⟨w.heap.size, 2, none⟩ = some (.slice R1 Rn1 Rc1) := OB2.2.cell 2
  have a2_3 : w3.cell? ⟨w.heap.size, 3, none⟩ = some (.bool sh1) := OB2.2.cell 3
  have a2_4 : w3.cell? ⟨w.heap.size, 4, none⟩ = some (.slice U1 Un1 Uc1) := OB2.2.cell 4
  have a2_5 : w3.cell? ⟨w.heap.size, 5, none⟩ = some (.slice V1 Vn1 Vc1) := OB2.2.cell 5
  have a2_f0 := OB2.2.frozen 0
  have a2_f1 := OB2.2.frozen 1
  have a2_f2 := OB2.2.frozen 2
  have a2_f3 := OB2.2.frozen 3
  have a2_f4 := OB2.2.frozen 4
  have a2_f5 := OB2.2.frozen 5
  have a3_0 : w3.cell? ⟨w.heap.size + 1, 0, none⟩ = some (.bool ba1) := OB3.2.cell 0
  have a3_1 : w3.cell? ⟨w.heap.size + 1, 1, none⟩ = some (.slice Aa1 na1 ca1) := OB3.2.cell 1
  have a3_2 : w3.cell? ⟨w.heap.size + 1, 2, none⟩ = some (.slice Ba1 ma1 oa1) := OB3.2.cell 2
  have a3_3 : w3.cell? ⟨w.heap.size + 1, 3, none⟩ = some (.bool bb1) := OB3.2.cell 3
  have a3_4 : w3.cell? ⟨w.heap.size + 1, 4, none⟩ = some (.slice Ab1 nb1 cb1) := OB3.2.cell 4
  have a3_5 : w3.cell? ⟨w.heap.size + 1, 5, none⟩ = some (.slice Bb1 mb1 ob1) := OB3.2.cell 5
  have a3_f0 := OB3.2.frozen 0
  have a3_f1 := OB3.2.frozen 1
  have a3_f2 := OB3.2.frozen 2
  have a3_f3 := OB3.2.frozen 3
  have a3_f4 := OB3.2.frozen 4
  have a3_f5 := OB3.2.frozen 5
  cases q1
  · go_wp2
    go_ret
    exact ⟨rfl, B⟩
  · go_wp2_with fail
    refine (rcont3_any _ _ _ lo' hi' hi L (kW.on P3) (IsR.fld (IH1.on P3)) hL2 (by omega)).mono ?_
    rintro e w2 ⟨rfl, P2_⟩
    rw [HQ2.out]
    go_wp2
    go_ret
    exact ⟨by simp, B.trans P2_⟩
end Num
end Go.Proofs.YtkchpagjkgmpmaaGreat
