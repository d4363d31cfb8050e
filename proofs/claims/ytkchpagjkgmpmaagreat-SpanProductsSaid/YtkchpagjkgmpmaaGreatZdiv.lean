/-
  The specification's Div; a fraction's lists by its size.
-/
import Derived.Test.YtkchpagjkgmpmaaGreatZsums
namespace Go.Proofs.YtkchpagjkgmpmaaGreat
open Go.RowKit
set_option linter.unusedVariables false
namespace Num
set_option maxRecDepth 100000 in
set_option maxHeartbeats 1600000 in
theorem sdiv_zero (w : World) (v v' : Value) (r q : Rat) (L : Nat) (h : Fld w v r L) (k : Fld w v' q L) (hL2 : 2 ≤ L) (hL : L ≤ 1000) (hq : q = 0) :
    Calls Tryz.prog 68 #[v, v'] w (RatPost2 w 0 (L + L) (.int .i64 8)) := by
  obtain ⟨b, A, n, c, A', n', c', xs, ys, rfl, R, R', h1, h2, h3⟩ := id h
  obtain ⟨d, E, m, o, E', m', o', us0, vs0, rfl, U0, U0', g1, g2, h4⟩ := id k
  clear h3 h4
  have HQ := Lib.hid hq
  clear hq
  have B : On w (((w.alloc (.cells #[.bool b, .slice A n c, .slice A' n' c'] 24)).alloc (.cells #[.bool d, .slice E m o, .slice E' m' o'] 24)).alloc (.cells #[.bool false, .slice none 0 0, .slice none 0 0] 24)) := On.alloc (On.alloc (On.alloc (On.refl w) _) _) _
  have OB2 : w.heap.size ≤ w.heap.size ∧ Own (((w.alloc (.cells #[.bool b, .slice A n c, .slice A' n' c'] 24)).alloc (.cells #[.bool d, .slice E m o, .slice E' m' o'] 24)).alloc (.cells #[.bool false, .slice none 0 0, .slice none 0 0] 24)) (w.heap.size) 24 #[.bool b, .slice A n c, .slice A' n' c'] := ⟨by omega, (((Own.at_ w (w.heap.size) (by simp) 24 #[.bool b, .slice A n c, .slice A' n' c']).alloc (.cells #[.bool d, .slice E m o, .slice E' m' o'] 24)).alloc (.cells #[.bool false, .slice none 0 0, .slice none 0 0] 24))⟩
  have OB3 : w.heap.size ≤ w.heap.size + 1 ∧ Own (((w.alloc (.cells #[.bool b, .slice A n c, .slice A' n' c'] 24)).alloc (.cells #[.bool d, .slice E m o, .slice E' m' o'] 24)).alloc (.cells #[.bool false, .slice none 0 0, .slice none 0 0] 24)) (w.heap.size + 1) 24 #[.bool d, .slice E m o, .slice E' m' o'] := ⟨by omega, ((Own.at_ (w.alloc (.cells #[.bool b, .slice A n c, .slice A' n' c'] 24)) (w.heap.size + 1) (by simp) 24 #[.bool d, .slice E m o, .slice E' m' o']).alloc (.cells #[.bool false, .slice none 0 0, .slice none 0 0] 24))⟩
  have OB4 : w.heap.size ≤ w.heap.size + 2 ∧ Own (((w.alloc (.cells #[.bool b, .slice A n c, .slice A' n' c'] 24)).alloc (.cells #[.bool d, .slice E m o, .slice E' m' o'] 24)).alloc (.cells #[.bool false, .slice none 0 0, .slice none 0 0] 24)) (w.heap.size + 2) 24 #[.bool false, .slice none 0 0, .slice none 0 0] := ⟨by omega, (Own.at_ ((w.alloc (.cells #[.bool b, .slice A n c, .slice A' n' c'] 24)).alloc (.cells #[.bool d, .slice E m o, .slice E' m' o'] 24)) (w.heap.size + 2) (by simp) 24 #[.bool false, .slice none 0 0, .slice none 0 0])⟩
  go_enter Tryz.func68, Tryz.ntmps68
  go_wp2_with fail
  refine (parts_any _ _ r L (h.on B) (by omega) (by omega)).mono ?_
  rintro e w1 ⟨E1, m1, o1, E2, m2, o2, us, vs, rfl, U, U', CU, k1, k2, V1, V2, P1⟩
  replace OB2 := And.intro OB2.1 (OB2.2.on P1)
  replace OB3 := And.intro OB3.1 (OB3.2.on P1)
  replace OB4 := And.intro OB4.1 (OB4.2.on P1)
  replace B := B.trans P1
  have y3_0 : w1.cell? ⟨w.heap.size + 1, 0, none⟩ = some (.bool d) := OB3.2.cell 0
  have y3_1 : w1.cell? ⟨w.heap.size + 1, 1, none⟩ = some (.slice E m o) := OB3.2.cell 1
  have y3_2 : w1.cell? ⟨w.heap.size + 1, 2, none⟩ = some (.slice E' m' o') := OB3.2.cell 2
  have y3_f0 := OB3.2.frozen 0
  have y3_f1 := OB3.2.frozen 1
  have y3_f2 := OB3.2.frozen 2
  have HV1 := Lib.hid V1
  have HV2 := Lib.hid V2
  clear V1 V2
  go_wp2_with fail
  refine (parts_any _ _ q L ((k.on B)) (by omega) (by omega)).mono ?_
  rintro e w2 ⟨G1, i1, j1, G2, i2, j2, ss, ts, rfl, S, S', CS, l1, l2, V3, V4, P2⟩
  clear y3_0 y3_f0 y3_1 y3_f1 y3_2 y3_f2
  replace OB2 := And.intro OB2.1 (OB2.2.on P2)
  replace OB3 := And.intro OB3.1 (OB3.2.on P2)
  replace OB4 := And.intro OB4.1 (OB4.2.on P2)
  replace B := B.trans P2
  have HV3 := Lib.hid V3
  have HV4 := Lib.hid V4
  clear V3 V4
  replace U := U.on P2
  replace U' := U'.on P2
  go_wp2_with fail
  refine (rmul_any _ _ _ _ _ _ _ (L + L) _ _ U S' (by omega) (by omega) (by omega)).mono ?_
  rintro e w3 ⟨A3, n3, c3, rfl, ⟨l3_, R3, _, X3, Y3⟩, P3⟩
  replace U' := U'.on P3
  replace S := S.on P3
  go_wp2_with fail
  refine (rmul_any _ _ _ _ _ _ _ (L + L) _ _ U' S (by omega) (by omega) (by omega)).mono ?_
  rintro e w4 ⟨A4, n4, c4, rfl, ⟨l4_, R4, _, X4, Y4⟩, P4⟩
  replace R3 := R3.on P4
  have HX3 : Hid (val l3_ = r.num.natAbs * q.den) := Lib.hid (by rw [X3, HV1.out, HV4.out])
  have HX4 : Hid (val l4_ = r.den * q.num.natAbs) := Lib.hid (by rw [X4, HV2.out, HV3.out])
  clear X3 X4
  replace OB2 := And.intro OB2.1 (OB2.2.on P3)
  replace OB3 := And.intro OB3.1 (OB3.2.on P3)
  replace OB4 := And.intro OB4.1 (OB4.2.on P3)
  replace B := B.trans P3
  replace OB2 := And.intro OB2.1 (OB2.2.on P4)
  replace OB3 := And.intro OB3.1 (OB3.2.on P4)
  replace OB4 := And.intro OB4.1 (OB4.2.on P4)
  replace B := B.trans P4
  have hp : val l4_ = 0 := by rw [HX4.out, HQ.out]; rfl
  go_wp2_with fail
  refine (rfrom_zero _ _ _ _ _ _ _ _ _ _ R3 R4 hp (by omega)).mono ?_
  rintro e w9 ⟨rfl, P9⟩
  have I2 := isR_zero w9 (L + L)
  replace OB2 := And.intro OB2.1 (OB2.2.on P9)
  replace OB3 := And.intro OB3.1 (OB3.2.on P9)
  replace OB4 := And.intro OB4.1 (OB4.2.on P9)
  replace B := B.trans P9
  have y4_0 : w9.cell? ⟨w.heap.size + 2, 0, none⟩ = some (.bool false) := OB4.2.cell 0
  have y4_1 : w9.cell? ⟨w.heap.size + 2, 1, none⟩ = some (.slice none 0 0) := OB4.2.cell 1
  have y4_2 : w9.cell? ⟨w.heap.size + 2, 2, none⟩ = some (.slice none 0 0) := OB4.2.cell 2
  have y4_f0 := OB4.2.frozen 0
  have y4_f1 := OB4.2.frozen 1
  have y4_f2 := OB4.2.frozen 2
  go_wp2
  have hon := on3 (g := w.heap.size + 2) B (by omega) (.bool false) (.slice none 0 0) (.slice none 0 0)
  exact bodyPost_ret (v := .tuple #[.agg #[.bool false, .slice none 0 0, .slice none 0 0], (.int .i64 8)]) (by simp [results, Tryz.results68, go_sem, y4_0, y4_1, y4_2]) rfl ⟨_, rfl, isR_put I2 OB4.2 _ _ _, hon⟩
set_option maxRecDepth 100000 in
set_option maxHeartbeats 1600000 in
theorem sdiv_ok (w : World) (v v' : Value) (r q : Rat) (L : Nat) (h : Fld w v r L) (k : Fld w v' q L) (hL2 : 2 ≤ L) (hL : L ≤ 1000) (hq : q ≠ 0) :
    Calls Tryz.prog 68 #[v, v'] w (RatPost2 w (r * q⁻¹) (L + L) (.int .i64 0)) := by
  obtain ⟨b, A, n, c, A', n', c', xs, ys, rfl, R, R', h1, h2, h3⟩ := id h
  obtain ⟨d, E, m, o, E', m', o', us0, vs0, rfl, U0, U0', g1, g2, h4⟩ := id k
  clear h3 h4
  have HQ := Lib.hid hq
  clear hq
  obtain ⟨z, hz⟩ : ∃ x, r * q⁻¹ = x := ⟨_, rfl⟩
  rw [hz]
  have HZQ : Hid (fr (decide (r < 0) != decide (q < 0)) (r.num.natAbs * q.den) (r.den * q.num.natAbs) = z) := Lib.hid ((fr_div r q HQ.out).trans hz)
  clear hz
  have B : On w (((w.alloc (.cells #[.bool b, .slice A n c, .slice A' n' c'] 24)).alloc (.cells #[.bool d, .slice E m o, .slice E' m' o'] 24)).alloc (.cells #[.bool false, .slice none 0 0, .slice none 0 0] 24)) := On.alloc (On.alloc (On.alloc (On.refl w) _) _) _
  have OB2 : w.heap.size ≤ w.heap.size ∧ Own (((w.alloc (.cells #[.bool b, .slice A n c, .slice A' n' c'] 24)).alloc (.cells #[.bool d, .slice E m o, .slice E' m' o'] 24)).alloc (.cells #[.bool false, .slice none 0 0, .slice none 0 0] 24)) (w.heap.size) 24 #[.bool b, .slice A n c, .slice A' n' c'] := ⟨by omega, (((Own.at_ w (w.heap.size) (by simp) 24 #[.bool b, .slice A n c, .slice A' n' c']).alloc (.cells #[.bool d, .slice E m o, .slice E' m' o'] 24)).alloc (.cells #[.bool false, .slice none 0 0, .slice none 0 0] 24))⟩
  have OB3 : w.heap.size ≤ w.heap.size + 1 ∧ Own (((w.alloc (.cells #[.bool b, .slice A n c, .slice A' n' c'] 24)).alloc (.cells #[.bool d, .slice E m o, .slice E' m' o'] 24)).alloc (.cells #[.bool false, .slice none 0 0, .slice none 0 0] 24)) (w.heap.size + 1) 24 #[.bool d, .slice E m o, .slice E' m' o'] := ⟨by omega, ((Own.at_ (w.alloc (.cells #[.bool b, .slice A n c, .slice A' n' c'] 24)) (w.heap.size + 1) (by simp) 24 #[.bool d, .slice E m o, .slice E' m' o']).alloc (.cells #[.bool false, .slice none 0 0, .slice none 0 0] 24))⟩
  have OB4 : w.heap.size ≤ w.heap.size + 2 ∧ Own (((w.alloc (.cells #[.bool b, .slice A n c, .slice A' n' c'] 24)).alloc (.cells #[.bool d, .slice E m o, .slice E' m' o'] 24)).alloc (.cells #[.bool false, .slice none 0 0, .slice none 0 0] 24)) (w.heap.size + 2) 24 #[.bool false, .slice none 0 0, .slice none 0 0] := ⟨by omega, (Own.at_ ((w.alloc (.cells #[.bool b, .slice A n c, .slice A' n' c'] 24)).alloc (.cells #[.bool d, .slice E m o, .slice E' m' o'] 24)) (w.heap.size + 2) (by simp) 24 #[.bool false, .slice none 0 0, .slice none 0 0])⟩
  go_enter Tryz.func68, Tryz.ntmps68
  go_wp2_with fail
  refine (parts_any _ _ r L (h.on B) (by omega) (by omega)).mono ?_
  rintro e w1 ⟨E1, m1, o1, E2, m2, o2, us, vs, rfl, U, U', CU, k1, k2, V1, V2, P1⟩
  replace OB2 := And.intro OB2.1 (OB2.2.on P1)
  replace OB3 := And.intro OB3.1 (OB3.2.on P1)
  replace OB4 := And.intro OB4.1 (OB4.2.on P1)
  replace B := B.trans P1
  have y3_0 : w1.cell? ⟨w.heap.size + 1, 0, none⟩ = some (.bool d) := OB3.2.cell 0
  have y3_1 : w1.cell? ⟨w.heap.size + 1, 1, none⟩ = some (.slice E m o) := OB3.2.cell 1
  have y3_2 : w1.cell? ⟨w.heap.size + 1, 2, none⟩ = some (.slice E' m' o') := OB3.2.cell 2
  have y3_f0 := OB3.2.frozen 0
  have y3_f1 := OB3.2.frozen 1
  have y3_f2 := OB3.2.frozen 2
  have HV1 := Lib.hid V1
  have HV2 := Lib.hid V2
  clear V1 V2
  go_wp2_with fail
  refine (parts_any _ _ q L ((k.on B)) (by omega) (by omega)).mono ?_
  rintro e w2 ⟨G1, i1, j1, G2, i2, j2, ss, ts, rfl, S, S', CS, l1, l2, V3, V4, P2⟩
  clear y3_0 y3_f0 y3_1 y3_f1 y3_2 y3_f2
  replace OB2 := And.intro OB2.1 (OB2.2.on P2)
  replace OB3 := And.intro OB3.1 (OB3.2.on P2)
  replace OB4 := And.intro OB4.1 (OB4.2.on P2)
  replace B := B.trans P2
  have HV3 := Lib.hid V3
  have HV4 := Lib.hid V4
  clear V3 V4
  replace U := U.on P2
  replace U' := U'.on P2
  obtain ⟨b2, hb2⟩ : ∃ x, decide (r < 0) = x := ⟨_, rfl⟩
  obtain ⟨d2, hd2⟩ : ∃ x, decide (q < 0) = x := ⟨_, rfl⟩
  rw [hb2, hd2] at HZQ
  have HB2 := Lib.hid hb2
  have HD2 := Lib.hid hd2
  replace HZQ : Hid (fr (!(b2 == d2)) (r.num.natAbs * q.den) (r.den * q.num.natAbs) = z) := HZQ
  clear hb2 hd2
  go_wp2_with fail
  refine (rmul_any _ _ _ _ _ _ _ (L + L) _ _ U S' (by omega) (by omega) (by omega)).mono ?_
  rintro e w3 ⟨A3, n3, c3, rfl, ⟨l3_, R3, _, X3, Y3⟩, P3⟩
  replace U' := U'.on P3
  replace S := S.on P3
  go_wp2_with fail
  refine (rmul_any _ _ _ _ _ _ _ (L + L) _ _ U' S (by omega) (by omega) (by omega)).mono ?_
  rintro e w4 ⟨A4, n4, c4, rfl, ⟨l4_, R4, _, X4, Y4⟩, P4⟩
  replace R3 := R3.on P4
  have HX3 : Hid (val l3_ = r.num.natAbs * q.den) := Lib.hid (by rw [X3, HV1.out, HV4.out])
  have HX4 : Hid (val l4_ = r.den * q.num.natAbs) := Lib.hid (by rw [X4, HV2.out, HV3.out])
  clear X3 X4
  replace OB2 := And.intro OB2.1 (OB2.2.on P3)
  replace OB3 := And.intro OB3.1 (OB3.2.on P3)
  replace OB4 := And.intro OB4.1 (OB4.2.on P3)
  replace B := B.trans P3
  replace OB2 := And.intro OB2.1 (OB2.2.on P4)
  replace OB3 := And.intro OB3.1 (OB3.2.on P4)
  replace OB4 := And.intro OB4.1 (OB4.2.on P4)
  replace B := B.trans P4
  have hp : 0 < val l4_ := by rw [HX4.out]; exact Nat.mul_pos r.den_pos (num_pos_of_ne HQ.out)
  go_wp2_with fail
  refine (rfrom_any _ _ _ _ _ _ _ _ (L + L) _ _ R3 R4 hp Y3 Y4 (by omega) (by omega)).mono ?_
  rintro e w9 ⟨v9, rfl, I2, P9⟩
  rw [HX3.out, HX4.out] at I2
  try rw [HB2.out, HD2.out] at I2
  rw [HZQ.out] at I2
  obtain ⟨Q1, Qn, Qc, _, Q2, Qm, Qd, _, rfl, _⟩ := id I2
  replace OB2 := And.intro OB2.1 (OB2.2.on P9)
  replace OB3 := And.intro OB3.1 (OB3.2.on P9)
  replace OB4 := And.intro OB4.1 (OB4.2.on P9)
  replace B := B.trans P9
  have y4_0 : w9.cell? ⟨w.heap.size + 2, 0, none⟩ = some (.bool false) := OB4.2.cell 0
  have y4_1 : w9.cell? ⟨w.heap.size + 2, 1, none⟩ = some (.slice none 0 0) := OB4.2.cell 1
  have y4_2 : w9.cell? ⟨w.heap.size + 2, 2, none⟩ = some (.slice none 0 0) := OB4.2.cell 2
  have y4_f0 := OB4.2.frozen 0
  have y4_f1 := OB4.2.frozen 1
  have y4_f2 := OB4.2.frozen 2
  go_wp2
  have hon := on3 (g := w.heap.size + 2) B (by omega) (.bool (decide (z < 0))) (.slice Q1 Qn Qc) (.slice Q2 Qm Qd)
  exact bodyPost_ret (v := .tuple #[.agg #[.bool (decide (z < 0)), .slice Q1 Qn Qc, .slice Q2 Qm Qd], (.int .i64 0)]) (by simp [results, Tryz.results68, go_sem, y4_0, y4_1, y4_2]) rfl ⟨_, rfl, isR_put I2 OB4.2 _ _ _, hon⟩
/-- a fraction's lists are as long as its numbers ask -/
theorem IsR.tight {w : World} {v : Value} {r : Rat} {L M : Nat} (h : IsR w v r L) (h1 : r.num.natAbs < BB ^ M) (h2 : dn r < BB ^ M) : IsR w v r M := by
  obtain ⟨A, n, c, xs, A', n', c', ys, e, R, R', C, C', g1, g2, g3, g4⟩ := h
  have l1 := R.len
  have l2 := R'.len
  refine ⟨A, n, c, xs, A', n', c', ys, e, R, R', C, C', ?_, ?_, g3, g4⟩
  · have := clean_len C M (by rw [g3]; exact h1)
    omega
  · have := clean_len C' M (by rw [g4]; exact h2)
    omega
end Num
end Go.Proofs.YtkchpagjkgmpmaaGreat
