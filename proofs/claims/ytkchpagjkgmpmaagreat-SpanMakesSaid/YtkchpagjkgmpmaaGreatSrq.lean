/-
  The specification's Make of spans.
-/
import Derived.Test.YtkchpagjkgmpmaaGreatSrb
namespace Go.Proofs.YtkchpagjkgmpmaaGreat
open Go.RowKit
set_option linter.unusedVariables false
namespace Num
set_option maxRecDepth 100000 in
set_option maxHeartbeats 1600000 in
theorem rmake3_gt (w : World) (v v' : Value) (r q : Rat) (L : Nat) (h : Fld w v r L) (k : Fld w v' q L) (hL2 : 2 ≤ L) (hL : L ≤ 400) (hc : q < r) :
    Calls Tryz.prog 10 #[v, v'] w (SpPost2 w 0 0 2 (.int .i64 3)) := by
  have hz := (rsg_pos_iff r q).2 hc
  obtain ⟨z, ez⟩ : ∃ x, rsg (r - q) = x := ⟨_, rfl⟩
  rw [ez] at hz
  have HZ := Lib.hid ez
  have HC := Lib.hid hc
  clear ez hc
  obtain ⟨b0, A0, n0, c0, D0, m0, e0, rfl⟩ := fld_form h
  obtain ⟨b1, A1, n1, c1, D1, m1, e1, rfl⟩ := fld_form k
  have B : On w (((w.alloc (.cells #[.bool b0, .slice A0 n0 c0, .slice D0 m0 e0] 24)).alloc (.cells #[.bool b1, .slice A1 n1 c1, .slice D1 m1 e1] 24)).alloc (.cells #[.bool false, .slice none 0 0, .slice none 0 0, .bool false, .slice none 0 0, .slice none 0 0] 26)) := On.alloc (On.alloc (On.alloc (On.refl w) _) _) _
  have OB2 : w.heap.size ≤ w.heap.size ∧ Own (((w.alloc (.cells #[.bool b0, .slice A0 n0 c0, .slice D0 m0 e0] 24)).alloc (.cells #[.bool b1, .slice A1 n1 c1, .slice D1 m1 e1] 24)).alloc (.cells #[.bool false, .slice none 0 0, .slice none 0 0, .bool false, .slice none 0 0, .slice none 0 0] 26)) (w.heap.size) 24 #[.bool b0, .slice A0 n0 c0, .slice D0 m0 e0] := ⟨by omega, (((Own.at_ w (w.heap.size) (by simp) 24 #[.bool b0, .slice A0 n0 c0, .slice D0 m0 e0]).alloc (.cells #[.bool b1, .slice A1 n1 c1, .slice D1 m1 e1] 24)).alloc (.cells #[.bool false, .slice none 0 0, .slice none 0 0, .bool false, .slice none 0 0, .slice none 0 0] 26))⟩
  have OB3 : w.heap.size ≤ w.heap.size + 1 ∧ Own (((w.alloc (.cells #[.bool b0, .slice A0 n0 c0, .slice D0 m0 e0] 24)).alloc (.cells #[.bool b1, .slice A1 n1 c1, .slice D1 m1 e1] 24)).alloc (.cells #[.bool false, .slice none 0 0, .slice none 0 0, .bool false, .slice none 0 0, .slice none 0 0] 26)) (w.heap.size + 1) 24 #[.bool b1, .slice A1 n1 c1, .slice D1 m1 e1] := ⟨by omega, ((Own.at_ (w.alloc (.cells #[.bool b0, .slice A0 n0 c0, .slice D0 m0 e0] 24)) (w.heap.size + 1) (by simp) 24 #[.bool b1, .slice A1 n1 c1, .slice D1 m1 e1]).alloc (.cells #[.bool false, .slice none 0 0, .slice none 0 0, .bool false, .slice none 0 0, .slice none 0 0] 26))⟩
  have OB4 : w.heap.size ≤ w.heap.size + 2 ∧ Own (((w.alloc (.cells #[.bool b0, .slice A0 n0 c0, .slice D0 m0 e0] 24)).alloc (.cells #[.bool b1, .slice A1 n1 c1, .slice D1 m1 e1] 24)).alloc (.cells #[.bool false, .slice none 0 0, .slice none 0 0, .bool false, .slice none 0 0, .slice none 0 0] 26)) (w.heap.size + 2) 26 #[.bool false, .slice none 0 0, .slice none 0 0, .bool false, .slice none 0 0, .slice none 0 0] := ⟨by omega, (Own.at_ ((w.alloc (.cells #[.bool b0, .slice A0 n0 c0, .slice D0 m0 e0] 24)).alloc (.cells #[.bool b1, .slice A1 n1 c1, .slice D1 m1 e1] 24)) (w.heap.size + 2) (by simp) 26 #[.bool false, .slice none 0 0, .slice none 0 0, .bool false, .slice none 0 0, .slice none 0 0])⟩
  go_enter Tryz.func10, Tryz.ntmps10
  go_wp2_with fail
  refine (scmp_any _ _ _ r q L (h.on B) (k.on B) hL2 (by omega)).mono ?_
  rintro e w1 ⟨rfl, P1⟩
  rw [HZ.out]
  replace OB2 := And.intro OB2.1 (OB2.2.on P1)
  replace OB3 := And.intro OB3.1 (OB3.2.on P1)
  replace OB4 := And.intro OB4.1 (OB4.2.on P1)
  replace B := B.trans P1
  have c4_0 : w1.cell? ⟨w.heap.size + 2, 0, none⟩ = some (.bool false) := OB4.2.cell 0
  have c4_1 : w1.cell? ⟨w.heap.size + 2, 1, none⟩ = some (.slice none 0 0) := OB4.2.cell 1
  have c4_2 : w1.cell? ⟨w.heap.size + 2, 2, none⟩ = some (.slice none 0 0) := OB4.2.cell 2
  have c4_3 : w1.cell? ⟨w.heap.size + 2, 3, none⟩ = some (.bool false) := OB4.2.cell 3
  have c4_4 : w1.cell? ⟨w.heap.size + 2, 4, none⟩ = some (.slice none 0 0) := OB4.2.cell 4
  have c4_5 : w1.cell? ⟨w.heap.size + 2, 5, none⟩ = some (.slice none 0 0) := OB4.2.cell 5
  have c4_f0 := OB4.2.frozen 0
  have c4_f1 := OB4.2.frozen 1
  have c4_f2 := OB4.2.frozen 2
  have c4_f3 := OB4.2.frozen 3
  have c4_f4 := OB4.2.frozen 4
  have c4_f5 := OB4.2.frozen 5
  have hon := on6 (g := w.heap.size + 2) B (by omega) (.bool false) (.slice none 0 0) (.slice none 0 0) (.bool false) (.slice none 0 0) (.slice none 0 0)
  go_wp2
  exact bodyPost_ret (v := .tuple #[.agg #[.bool false, .slice none 0 0, .slice none 0 0, .bool false, .slice none 0 0, .slice none 0 0], .int .i64 3]) (by simp [results, Tryz.results10, go_sem, c4_0, c4_1, c4_2, c4_3, c4_4, c4_5]) rfl ⟨_, rfl, isS_zero _ _, by first | exact hon | exact B⟩
set_option maxRecDepth 100000 in
set_option maxHeartbeats 1600000 in
theorem rmake3_ok (w : World) (v v' : Value) (r q : Rat) (L : Nat) (h : Fld w v r L) (k : Fld w v' q L) (hL2 : 2 ≤ L) (hL : L ≤ 400) (hc : r ≤ q) :
    Calls Tryz.prog 10 #[v, v'] w (SpPost2 w r q L (.int .i64 0)) := by
  have hz := (rsg_le_iff r q).2 hc
  obtain ⟨z, ez⟩ : ∃ x, rsg (r - q) = x := ⟨_, rfl⟩
  rw [ez] at hz
  have HZ := Lib.hid ez
  have HC := Lib.hid hc
  clear ez hc
  obtain ⟨b0, A0, n0, c0, D0, m0, e0, rfl⟩ := fld_form h
  obtain ⟨b1, A1, n1, c1, D1, m1, e1, rfl⟩ := fld_form k
  have B : On w (((w.alloc (.cells #[.bool b0, .slice A0 n0 c0, .slice D0 m0 e0] 24)).alloc (.cells #[.bool b1, .slice A1 n1 c1, .slice D1 m1 e1] 24)).alloc (.cells #[.bool false, .slice none 0 0, .slice none 0 0, .bool false, .slice none 0 0, .slice none 0 0] 26)) := On.alloc (On.alloc (On.alloc (On.refl w) _) _) _
  have OB2 : w.heap.size ≤ w.heap.size ∧ Own (((w.alloc (.cells #[.bool b0, .slice A0 n0 c0, .slice D0 m0 e0] 24)).alloc (.cells #[.bool b1, .slice A1 n1 c1, .slice D1 m1 e1] 24)).alloc (.cells #[.bool false, .slice none 0 0, .slice none 0 0, .bool false, .slice none 0 0, .slice none 0 0] 26)) (w.heap.size) 24 #[.bool b0, .slice A0 n0 c0, .slice D0 m0 e0] := ⟨by omega, (((Own.at_ w (w.heap.size) (by simp) 24 #[.bool b0, .slice A0 n0 c0, .slice D0 m0 e0]).alloc (.cells #[.bool b1, .slice A1 n1 c1, .slice D1 m1 e1] 24)).alloc (.cells #[.bool false, .slice none 0 0, .slice none 0 0, .bool false, .slice none 0 0, .slice none 0 0] 26))⟩
  have OB3 : w.heap.size ≤ w.heap.size + 1 ∧ Own (((w.alloc (.cells #[.bool b0, .slice A0 n0 c0, .slice D0 m0 e0] 24)).alloc (.cells #[.bool b1, .slice A1 n1 c1, .slice D1 m1 e1] 24)).alloc (.cells #[.bool false, .slice none 0 0, .slice none 0 0, .bool false, .slice none 0 0, .slice none 0 0] 26)) (w.heap.size + 1) 24 #[.bool b1, .slice A1 n1 c1, .slice D1 m1 e1] := ⟨by omega, ((Own.at_ (w.alloc (.cells #[.bool b0, .slice A0 n0 c0, .slice D0 m0 e0] 24)) (w.heap.size + 1) (by simp) 24 #[.bool b1, .slice A1 n1 c1, .slice D1 m1 e1]).alloc (.cells #[.bool false, .slice none 0 0, .slice none 0 0, .bool false, .slice none 0 0, .slice none 0 0] 26))⟩
  have OB4 : w.heap.size ≤ w.heap.size + 2 ∧ Own (((w.alloc (.cells #[.bool b0, .slice A0 n0 c0, .slice D0 m0 e0] 24)).alloc (.cells #[.bool b1, .slice A1 n1 c1, .slice D1 m1 e1] 24)).alloc (.cells #[.bool false, .slice none 0 0, .slice none 0 0, .bool false, .slice none 0 0, .slice none 0 0] 26)) (w.heap.size + 2) 26 #[.bool false, .slice none 0 0, .slice none 0 0, .bool false, .slice none 0 0, .slice none 0 0] := ⟨by omega, (Own.at_ ((w.alloc (.cells #[.bool b0, .slice A0 n0 c0, .slice D0 m0 e0] 24)).alloc (.cells #[.bool b1, .slice A1 n1 c1, .slice D1 m1 e1] 24)) (w.heap.size + 2) (by simp) 26 #[.bool false, .slice none 0 0, .slice none 0 0, .bool false, .slice none 0 0, .slice none 0 0])⟩
  go_enter Tryz.func10, Tryz.ntmps10
  go_wp2_with fail
  refine (scmp_any _ _ _ r q L (h.on B) (k.on B) hL2 (by omega)).mono ?_
  rintro e w1 ⟨rfl, P1⟩
  rw [HZ.out]
  have hz2 : ¬ 0 < z := by omega
  replace OB2 := And.intro OB2.1 (OB2.2.on P1)
  replace OB3 := And.intro OB3.1 (OB3.2.on P1)
  replace OB4 := And.intro OB4.1 (OB4.2.on P1)
  replace B := B.trans P1
  have y2_0 : w1.cell? ⟨w.heap.size, 0, none⟩ = some (.bool b0) := OB2.2.cell 0
  have y2_1 : w1.cell? ⟨w.heap.size, 1, none⟩ = some (.slice A0 n0 c0) := OB2.2.cell 1
  have y2_2 : w1.cell? ⟨w.heap.size, 2, none⟩ = some (.slice D0 m0 e0) := OB2.2.cell 2
  have y2_f0 := OB2.2.frozen 0
  have y2_f1 := OB2.2.frozen 1
  have y2_f2 := OB2.2.frozen 2
  have y3_0 : w1.cell? ⟨w.heap.size + 1, 0, none⟩ = some (.bool b1) := OB3.2.cell 0
  have y3_1 : w1.cell? ⟨w.heap.size + 1, 1, none⟩ = some (.slice A1 n1 c1) := OB3.2.cell 1
  have y3_2 : w1.cell? ⟨w.heap.size + 1, 2, none⟩ = some (.slice D1 m1 e1) := OB3.2.cell 2
  have y3_f0 := OB3.2.frozen 0
  have y3_f1 := OB3.2.frozen 1
  have y3_f2 := OB3.2.frozen 2
  have HRR := frats_two (h.on B) (k.on B)
  go_wp2_with fail
  refine (raround3_any _ r [q] w1.heap.size 2 L HRR hL2 (by omega) (by simp) (by decide)).mono ?_
  rw [lo2 HC.out, hi2 HC.out]
  rintro e w2 ⟨u, rfl, I, P2⟩
  clear y2_0 y2_f0 y2_1 y2_f1 y2_2 y2_f2
  clear y3_0 y3_f0 y3_1 y3_f1 y3_2 y3_f2
  obtain ⟨sl5, P5, Pn5, Pc5, R5, Rn5, Rc5, sh5, U5, Un5, Uc5, V5, Vn5, Vc5, rfl, IL5, IH5⟩ := id I
  have B1 := (On.refl w1).alloc (.cells #[.bool b0, .slice A0 n0 c0, .slice D0 m0 e0, .bool b1, .slice A1 n1 c1, .slice D1 m1 e1] 24)
  replace OB4 := And.intro OB4.1 (OB4.2.on B1)
  replace B := B.trans B1
  replace OB4 := And.intro OB4.1 (OB4.2.on P2)
  replace B := B.trans P2
  have c4_0 : w2.cell? ⟨w.heap.size + 2, 0, none⟩ = some (.bool false) := OB4.2.cell 0
  have c4_1 : w2.cell? ⟨w.heap.size + 2, 1, none⟩ = some (.slice none 0 0) := OB4.2.cell 1
  have c4_2 : w2.cell? ⟨w.heap.size + 2, 2, none⟩ = some (.slice none 0 0) := OB4.2.cell 2
  have c4_3 : w2.cell? ⟨w.heap.size + 2, 3, none⟩ = some (.bool false) := OB4.2.cell 3
  have c4_4 : w2.cell? ⟨w.heap.size + 2, 4, none⟩ = some (.slice none 0 0) := OB4.2.cell 4
  have c4_5 : w2.cell? ⟨w.heap.size + 2, 5, none⟩ = some (.slice none 0 0) := OB4.2.cell 5
  have c4_f0 := OB4.2.frozen 0
  have c4_f1 := OB4.2.frozen 1
  have c4_f2 := OB4.2.frozen 2
  have c4_f3 := OB4.2.frozen 3
  have c4_f4 := OB4.2.frozen 4
  have c4_f5 := OB4.2.frozen 5
  have I5s := I.kept (Kept.only (only6 (w := w2) (g := w.heap.size + 2) (.bool sl5) (.slice P5 Pn5 Pc5) (.slice R5 Rn5 Rc5) (.bool sh5) (.slice U5 Un5 Uc5) (.slice V5 Vn5 Vc5)) OB4.2 (noWords_S _ _ _ _ _ _ _ _ _ _ _ _ _ _))
  have hon := on6 (g := w.heap.size + 2) B (by omega) (.bool sl5) (.slice P5 Pn5 Pc5) (.slice R5 Rn5 Rc5) (.bool sh5) (.slice U5 Un5 Uc5) (.slice V5 Vn5 Vc5)
  go_wp2
  exact bodyPost_ret (v := .tuple #[.agg #[.bool sl5, .slice P5 Pn5 Pc5, .slice R5 Rn5 Rc5, .bool sh5, .slice U5 Un5 Uc5, .slice V5 Vn5 Vc5], .int .i64 0]) (by simp [results, Tryz.results10, go_sem, c4_0, c4_1, c4_2, c4_3, c4_4, c4_5]) rfl ⟨_, rfl, I5s, hon⟩
end Num
end Go.Proofs.YtkchpagjkgmpmaaGreat
