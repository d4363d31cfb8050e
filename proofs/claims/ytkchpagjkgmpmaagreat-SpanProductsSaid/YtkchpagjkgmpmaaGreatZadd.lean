/-
  The specification's Neg, Abs, Add, Sub, Mul.
-/
import Derived.Test.YtkchpagjkgmpmaaGreatZneg
namespace Go.Proofs.YtkchpagjkgmpmaaGreat
open Go.RowKit
set_option linter.unusedVariables false
namespace Num
theorem fr_negp (r : Rat) : fr (!decide (r < 0)) r.num.natAbs r.den = -r := by rw [← fr_neg, fr_self]
def rabs (r : Rat) : Rat := if r < 0 then -r else r
theorem fr_absp (r : Rat) : fr false r.num.natAbs r.den = rabs r := by
  unfold rabs
  by_cases h : r < 0
  · rw [if_pos h, ← fr_negp, show decide (r < 0) = true from decide_eq_true h]; rfl
  · rw [if_neg h]
    have := fr_self r
    rw [show decide (r < 0) = false from decide_eq_false h] at this
    exact this
theorem fr_mk (r : Rat) : r = mkRat (sgn (decide (r < 0)) r.num.natAbs) r.den := (fr_self r).symm
theorem fr_add (r q : Rat) (s : Bool) (z : Nat) (h : sgn s z = sgn (decide (r < 0)) (r.num.natAbs * q.den) + sgn (decide (q < 0)) (q.num.natAbs * r.den)) : fr s z (r.den * q.den) = r + q := by
  unfold fr
  rw [h, sgn_mul_nat, sgn_mul_nat]
  conv => rhs; rw [fr_mk r, fr_mk q]
  rw [Rat.mkRat_add_mkRat _ _ (by have := r.den_pos; omega) (by have := q.den_pos; omega)]
theorem fr_mul (r q : Rat) : fr (decide (r < 0) != decide (q < 0)) (r.num.natAbs * q.num.natAbs) (r.den * q.den) = r * q := by
  unfold fr
  rw [← sgn_mul]
  conv => rhs; rw [fr_mk r, fr_mk q]
  rw [Rat.mkRat_mul_mkRat]
theorem fr_div (r q : Rat) (h : q ≠ 0) : fr (decide (r < 0) != decide (q < 0)) (r.num.natAbs * q.den) (r.den * q.num.natAbs) = r * q⁻¹ := by
  rw [inv_fr h]
  unfold fr
  rw [← sgn_mul]
  conv => rhs; rw [fr_mk r]
  rw [Rat.mkRat_mul_mkRat]
set_option maxRecDepth 100000 in
set_option maxHeartbeats 1600000 in
theorem sneg_any (w : World) (v : Value) (r : Rat) (L : Nat) (h : Fld w v r L) (hL2 : 2 ≤ L) (hL : L ≤ 4000) :
    Calls Tryz.prog 89 #[v] w (RatPost w (-r) L) := by
  obtain ⟨b, A, n, c, A', n', c', xs, ys, rfl, R, R', h1, h2, h3⟩ := id h
  clear h3
  obtain ⟨z, hz⟩ : ∃ x, -r = x := ⟨_, rfl⟩
  rw [hz]
  have HZQ : Hid (fr (!decide (r < 0)) r.num.natAbs r.den = z) := Lib.hid ((fr_negp r).trans hz)
  clear hz
  have B : On w ((w.alloc (.cells #[.bool b, .slice A n c, .slice A' n' c'] 24)).alloc (.cells #[.bool false, .slice none 0 0, .slice none 0 0] 24)) := On.alloc (On.alloc (On.refl w) _) _
  have OB1 : w.heap.size ≤ w.heap.size ∧ Own ((w.alloc (.cells #[.bool b, .slice A n c, .slice A' n' c'] 24)).alloc (.cells #[.bool false, .slice none 0 0, .slice none 0 0] 24)) (w.heap.size) 24 #[.bool b, .slice A n c, .slice A' n' c'] := ⟨by omega, ((Own.at_ w (w.heap.size) (by simp) 24 #[.bool b, .slice A n c, .slice A' n' c']).alloc (.cells #[.bool false, .slice none 0 0, .slice none 0 0] 24))⟩
  have OB2 : w.heap.size ≤ w.heap.size + 1 ∧ Own ((w.alloc (.cells #[.bool b, .slice A n c, .slice A' n' c'] 24)).alloc (.cells #[.bool false, .slice none 0 0, .slice none 0 0] 24)) (w.heap.size + 1) 24 #[.bool false, .slice none 0 0, .slice none 0 0] := ⟨by omega, (Own.at_ (w.alloc (.cells #[.bool b, .slice A n c, .slice A' n' c'] 24)) (w.heap.size + 1) (by simp) 24 #[.bool false, .slice none 0 0, .slice none 0 0])⟩
  go_enter Tryz.func89, Tryz.ntmps89
  go_wp2_with fail
  refine (parts_any _ _ r L (h.on B) (by omega) (by omega)).mono ?_
  rintro e w1 ⟨E, m, o, E', m', o', us, vs, rfl, U, U', CU, k1, k2, V1, V2, P1⟩
  replace OB1 := And.intro OB1.1 (OB1.2.on P1)
  replace OB2 := And.intro OB2.1 (OB2.2.on P1)
  replace B := B.trans P1
  have hp : 0 < val vs := by rw [V2]; exact r.den_pos
  have HV1 := Lib.hid V1
  have HV2 := Lib.hid V2
  clear V1 V2
  obtain ⟨b2, hb2⟩ : ∃ x, decide (r < 0) = x := ⟨_, rfl⟩
  have HB2 := Lib.hid hb2
  clear hb2
  go_wp2_with fail
  refine (rfrom_any _ _ _ _ _ _ _ _ L _ _ U U' hp k1 k2 hL2 (by omega)).mono ?_
  rintro e w9 ⟨v9, rfl, I2, P9⟩
  rw [HV1.out, HV2.out, HZQ.out] at I2
  obtain ⟨Q1, Qn, Qc, _, Q2, Qm, Qd, _, rfl, _⟩ := id I2
  replace OB1 := And.intro OB1.1 (OB1.2.on P9)
  replace OB2 := And.intro OB2.1 (OB2.2.on P9)
  replace B := B.trans P9
  have PQ := (On.refl w9).alloc (.cells #[.bool (decide (z < 0)), .slice Q1 Qn Qc, .slice Q2 Qm Qd] 24)
  replace I2 := I2.on PQ
  replace OB2 := And.intro OB2.1 (OB2.2.on PQ)
  replace B := B.trans PQ
  have y2_0 : (w9.alloc (.cells #[.bool (decide (z < 0)), .slice Q1 Qn Qc, .slice Q2 Qm Qd] 24)).cell? ⟨w.heap.size + 1, 0, none⟩ = some (.bool false) := OB2.2.cell 0
  have y2_1 : (w9.alloc (.cells #[.bool (decide (z < 0)), .slice Q1 Qn Qc, .slice Q2 Qm Qd] 24)).cell? ⟨w.heap.size + 1, 1, none⟩ = some (.slice none 0 0) := OB2.2.cell 1
  have y2_2 : (w9.alloc (.cells #[.bool (decide (z < 0)), .slice Q1 Qn Qc, .slice Q2 Qm Qd] 24)).cell? ⟨w.heap.size + 1, 2, none⟩ = some (.slice none 0 0) := OB2.2.cell 2
  have y2_f0 := OB2.2.frozen 0
  have y2_f1 := OB2.2.frozen 1
  have y2_f2 := OB2.2.frozen 2
  go_wp2
  have hon := on3 (g := w.heap.size + 1) B (by omega) (.bool (decide (z < 0))) (.slice Q1 Qn Qc) (.slice Q2 Qm Qd)
  exact bodyPost_ret (v := .agg #[.bool (decide (z < 0)), .slice Q1 Qn Qc, .slice Q2 Qm Qd]) (by simp [results, Tryz.results89, go_sem, y2_0, y2_1, y2_2]) rfl ⟨_, rfl, isR_put I2 OB2.2 _ _ _, hon⟩
set_option maxRecDepth 100000 in
set_option maxHeartbeats 1600000 in
theorem smul_any (w : World) (v v' : Value) (r q : Rat) (L : Nat) (h : Fld w v r L) (k : Fld w v' q L) (hL2 : 2 ≤ L) (hL : L ≤ 1000) :
    Calls Tryz.prog 69 #[v, v'] w (RatPost w (r * q) (L + L)) := by
  obtain ⟨b, A, n, c, A', n', c', xs, ys, rfl, R, R', h1, h2, h3⟩ := id h
  obtain ⟨d, E, m, o, E', m', o', us0, vs0, rfl, U0, U0', g1, g2, h4⟩ := id k
  clear h3 h4
  obtain ⟨z, hz⟩ : ∃ x, r * q = x := ⟨_, rfl⟩
  rw [hz]
  have HZQ : Hid (fr (decide (r < 0) != decide (q < 0)) (r.num.natAbs * q.num.natAbs) (r.den * q.den) = z) := Lib.hid ((fr_mul r q).trans hz)
  clear hz
  have B : On w (((w.alloc (.cells #[.bool b, .slice A n c, .slice A' n' c'] 24)).alloc (.cells #[.bool d, .slice E m o, .slice E' m' o'] 24)).alloc (.cells #[.bool false, .slice none 0 0, .slice none 0 0] 24)) := On.alloc (On.alloc (On.alloc (On.refl w) _) _) _
  have OB2 : w.heap.size ≤ w.heap.size ∧ Own (((w.alloc (.cells #[.bool b, .slice A n c, .slice A' n' c'] 24)).alloc (.cells #[.bool d, .slice E m o, .slice E' m' o'] 24)).alloc (.cells #[.bool false, .slice none 0 0, .slice none 0 0] 24)) (w.heap.size) 24 #[.bool b, .slice A n c, .slice A' n' c'] := ⟨by omega, (((Own.at_ w (w.heap.size) (by simp) 24 #[.bool b, .slice A n c, .slice A' n' c']).alloc (.cells #[.bool d, .slice E m o, .slice E' m' o'] 24)).alloc (.cells #[.bool false, .slice none 0 0, .slice none 0 0] 24))⟩
  have OB3 : w.heap.size ≤ w.heap.size + 1 ∧ Own (((w.alloc (.cells #[.bool b, .slice A n c, .slice A' n' c'] 24)).alloc (.cells #[.bool d, .slice E m o, .slice E' m' o'] 24)).alloc (.cells #[.bool false, .slice none 0 0, .slice none 0 0] 24)) (w.heap.size + 1) 24 #[.bool d, .slice E m o, .slice E' m' o'] := ⟨by omega, ((Own.at_ (w.alloc (.cells #[.bool b, .slice A n c, .slice A' n' c'] 24)) (w.heap.size + 1) (by simp) 24 #[.bool d, .slice E m o, .slice E' m' o']).alloc (.cells #[.bool false, .slice none 0 0, .slice none 0 0] 24))⟩
  have OB4 : w.heap.size ≤ w.heap.size + 2 ∧ Own (((w.alloc (.cells #[.bool b, .slice A n c, .slice A' n' c'] 24)).alloc (.cells #[.bool d, .slice E m o, .slice E' m' o'] 24)).alloc (.cells #[.bool false, .slice none 0 0, .slice none 0 0] 24)) (w.heap.size + 2) 24 #[.bool false, .slice none 0 0, .slice none 0 0] := ⟨by omega, (Own.at_ ((w.alloc (.cells #[.bool b, .slice A n c, .slice A' n' c'] 24)).alloc (.cells #[.bool d, .slice E m o, .slice E' m' o'] 24)) (w.heap.size + 2) (by simp) 24 #[.bool false, .slice none 0 0, .slice none 0 0])⟩
  go_enter Tryz.func69, Tryz.ntmps69
  go_wp2_with fail
  refine (parts_any _ _ r L (h.on B) (by omega) (by omega)).mono ?_
  rintro e w1 ⟨E1, m1, o1, E2, m2, o2, us, vs, rfl, U, U', CU, k1, k2, V1, V2, P1⟩
  replace OB2 := And.intro OB2.1 (OB2.2.on P1)
  replace OB3 := And.intro OB3.1 (OB3.2.on P1)
  replace OB4 := And.intro OB4.1 (OB4.2.on P1)
  replace B := B.trans P1
  have y3_0 : w1.cell? ⟨w.heap.size + 1, 0, none⟩ = some (.bool d) := OB3.2.cell 0
  have y3_1 : w1.cell? ⟨w.heap.size + 1, 1, none⟩ = some (.slice E m o) := OB3.2.cell 1
  have y3_2 : w1.cell? ⟨w.heap.size + 1, 2, none⟩ = some (.slice E' m' o') := OB3.2.cell 2
  have y3_f0 := OB3.2.frozen 0
  have y3_f1 := OB3.2.frozen 1
  have y3_f2 := OB3.2.frozen 2
  have HV1 := Lib.hid V1
  have HV2 := Lib.hid V2
  clear V1 V2
  go_wp2_with fail
  refine (parts_any _ _ q L ((k.on B)) (by omega) (by omega)).mono ?_
  rintro e w2 ⟨G1, i1, j1, G2, i2, j2, ss, ts, rfl, S, S', CS, l1, l2, V3, V4, P2⟩
  clear y3_0 y3_f0 y3_1 y3_f1 y3_2 y3_f2
  replace OB2 := And.intro OB2.1 (OB2.2.on P2)
  replace OB3 := And.intro OB3.1 (OB3.2.on P2)
  replace OB4 := And.intro OB4.1 (OB4.2.on P2)
  replace B := B.trans P2
  have HV3 := Lib.hid V3
  have HV4 := Lib.hid V4
  clear V3 V4
  replace U := U.on P2
  replace U' := U'.on P2
  obtain ⟨b2, hb2⟩ : ∃ x, decide (r < 0) = x := ⟨_, rfl⟩
  obtain ⟨d2, hd2⟩ : ∃ x, decide (q < 0) = x := ⟨_, rfl⟩
  rw [hb2, hd2] at HZQ
  have HB2 := Lib.hid hb2
  have HD2 := Lib.hid hd2
  replace HZQ : Hid (fr (!(b2 == d2)) (r.num.natAbs * q.num.natAbs) (r.den * q.den) = z) := HZQ
  clear hb2 hd2
  go_wp2_with fail
  refine (rmul_any _ _ _ _ _ _ _ (L + L) _ _ U S (by omega) (by omega) (by omega)).mono ?_
  rintro e w3 ⟨A3, n3, c3, rfl, ⟨l3_, R3, _, X3, Y3⟩, P3⟩
  replace U' := U'.on P3
  replace S' := S'.on P3
  go_wp2_with fail
  refine (rmul_any _ _ _ _ _ _ _ (L + L) _ _ U' S' (by omega) (by omega) (by omega)).mono ?_
  rintro e w4 ⟨A4, n4, c4, rfl, ⟨l4_, R4, _, X4, Y4⟩, P4⟩
  replace R3 := R3.on P4
  have HX3 : Hid (val l3_ = r.num.natAbs * q.num.natAbs) := Lib.hid (by rw [X3, HV1.out, HV3.out])
  have HX4 : Hid (val l4_ = r.den * q.den) := Lib.hid (by rw [X4, HV2.out, HV4.out])
  clear X3 X4
  have hp : 0 < val l4_ := by rw [HX4.out]; exact Nat.mul_pos r.den_pos q.den_pos
  replace OB2 := And.intro OB2.1 (OB2.2.on P3)
  replace OB3 := And.intro OB3.1 (OB3.2.on P3)
  replace OB4 := And.intro OB4.1 (OB4.2.on P3)
  replace B := B.trans P3
  replace OB2 := And.intro OB2.1 (OB2.2.on P4)
  replace OB3 := And.intro OB3.1 (OB3.2.on P4)
  replace OB4 := And.intro OB4.1 (OB4.2.on P4)
  replace B := B.trans P4
  go_wp2_with fail
  refine (rfrom_any _ _ _ _ _ _ _ _ (L + L) _ _ R3 R4 hp Y3 Y4 (by omega) (by omega)).mono ?_
  rintro e w9 ⟨v9, rfl, I2, P9⟩
  rw [HX3.out, HX4.out] at I2
  try rw [HB2.out, HD2.out] at I2
  rw [HZQ.out] at I2
  obtain ⟨Q1, Qn, Qc, _, Q2, Qm, Qd, _, rfl, _⟩ := id I2
  replace OB2 := And.intro OB2.1 (OB2.2.on P9)
  replace OB3 := And.intro OB3.1 (OB3.2.on P9)
  replace OB4 := And.intro OB4.1 (OB4.2.on P9)
  replace B := B.trans P9
  have PQ := (On.refl w9).alloc (.cells #[.bool (decide (z < 0)), .slice Q1 Qn Qc, .slice Q2 Qm Qd] 24)
  replace I2 := I2.on PQ
  replace OB4 := And.intro OB4.1 (OB4.2.on PQ)
  replace B := B.trans PQ
  have y4_0 : (w9.alloc (.cells #[.bool (decide (z < 0)), .slice Q1 Qn Qc, .slice Q2 Qm Qd] 24)).cell? ⟨w.heap.size + 2, 0, none⟩ = some (.bool false) := OB4.2.cell 0
  have y4_1 : (w9.alloc (.cells #[.bool (decide (z < 0)), .slice Q1 Qn Qc, .slice Q2 Qm Qd] 24)).cell? ⟨w.heap.size + 2, 1, none⟩ = some (.slice none 0 0) := OB4.2.cell 1
  have y4_2 : (w9.alloc (.cells #[.bool (decide (z < 0)), .slice Q1 Qn Qc, .slice Q2 Qm Qd] 24)).cell? ⟨w.heap.size + 2, 2, none⟩ = some (.slice none 0 0) := OB4.2.cell 2
  have y4_f0 := OB4.2.frozen 0
  have y4_f1 := OB4.2.frozen 1
  have y4_f2 := OB4.2.frozen 2
  go_wp2
  have hon := on3 (g := w.heap.size + 2) B (by omega) (.bool (decide (z < 0))) (.slice Q1 Qn Qc) (.slice Q2 Qm Qd)
  exact bodyPost_ret (v := .agg #[.bool (decide (z < 0)), .slice Q1 Qn Qc, .slice Q2 Qm Qd]) (by simp [results, Tryz.results69, go_sem, y4_0, y4_1, y4_2]) rfl ⟨_, rfl, isR_put I2 OB4.2 _ _ _, hon⟩
set_option maxRecDepth 100000 in
set_option maxHeartbeats 1600000 in
theorem sadd_eq (w : World) (v v' : Value) (r q : Rat) (L : Nat) (h : Fld w v r L) (k : Fld w v' q L) (hL2 : 2 ≤ L) (hL : L ≤ 1000) (hs : decide (r < 0) = decide (q < 0)) :
    Calls Tryz.prog 51 #[v, v'] w (RatPost w (r + q) (L + L + 1)) := by
  obtain ⟨b, A, n, c, A', n', c', xs, ys, rfl, R, R', h1, h2, h3⟩ := id h
  obtain ⟨d, E, m, o, E', m', o', us0, vs0, rfl, U0, U0', g1, g2, h4⟩ := id k
  clear h3 h4
  obtain ⟨z, hz⟩ : ∃ x, r + q = x := ⟨_, rfl⟩
  rw [hz]
  have HZQ : Hid (fr (decide (r < 0)) (r.num.natAbs * q.den + q.num.natAbs * r.den) (r.den * q.den) = z) := Lib.hid ((fr_add r q _ _ (by rw [← ss_sgn]; unfold ssS ssN; rw [if_pos hs, if_pos hs])).trans hz)
  clear hz
  obtain ⟨b2, hb2⟩ : ∃ x, decide (r < 0) = x := ⟨_, rfl⟩
  obtain ⟨d2, hd2⟩ : ∃ x, decide (q < 0) = x := ⟨_, rfl⟩
  rw [hb2, hd2] at hs
  have HB2 := Lib.hid hb2
  have HD2 := Lib.hid hd2
  rw [hb2] at HZQ
  clear hb2 hd2
  cases b2 <;> cases d2
  all_goals first | exact absurd hs (by decide) | skip
  all_goals
    clear hs
    have B : On w (((w.alloc (.cells #[.bool b, .slice A n c, .slice A' n' c'] 24)).alloc (.cells #[.bool d, .slice E m o, .slice E' m' o'] 24)).alloc (.cells #[.bool false, .slice none 0 0, .slice none 0 0] 24)) := On.alloc (On.alloc (On.alloc (On.refl w) _) _) _
    have OB2 : w.heap.size ≤ w.heap.size ∧ Own (((w.alloc (.cells #[.bool b, .slice A n c, .slice A' n' c'] 24)).alloc (.cells #[.bool d, .slice E m o, .slice E' m' o'] 24)).alloc (.cells #[.bool false, .slice none 0 0, .slice none 0 0] 24)) (w.heap.size) 24 #[.bool b, .slice A n c, .slice A' n' c'] := ⟨by omega, (((Own.at_ w (w.heap.size) (by simp) 24 #[.bool b, .slice A n c, .slice A' n' c']).alloc (.cells #[.bool d, .slice E m o, .slice E' m' o'] 24)).alloc (.cells #[.bool false, .slice none 0 0, .slice none 0 0] 24))⟩
    have OB3 : w.heap.size ≤ w.heap.size + 1 ∧ Own (((w.alloc (.cells #[.bool b, .slice A n c, .slice A' n' c'] 24)).alloc (.cells #[.bool d, .slice E m o, .slice E' m' o'] 24)).alloc (.cells #[.bool false, .slice none 0 0, .slice none 0 0] 24)) (w.heap.size + 1) 24 #[.bool d, .slice E m o, .slice E' m' o'] := ⟨by omega, ((Own.at_ (w.alloc (.cells #[.bool b, .slice A n c, .slice A' n' c'] 24)) (w.heap.size + 1) (by simp) 24 #[.bool d, .slice E m o, .slice E' m' o']).alloc (.cells #[.bool false, .slice none 0 0, .slice none 0 0] 24))⟩
    have OB4 : w.heap.size ≤ w.heap.size + 2 ∧ Own (((w.alloc (.cells #[.bool b, .slice A n c, .slice A' n' c'] 24)).alloc (.cells #[.bool d, .slice E m o, .slice E' m' o'] 24)).alloc (.cells #[.bool false, .slice none 0 0, .slice none 0 0] 24)) (w.heap.size + 2) 24 #[.bool false, .slice none 0 0, .slice none 0 0] := ⟨by omega, (Own.at_ ((w.alloc (.cells #[.bool b, .slice A n c, .slice A' n' c'] 24)).alloc (.cells #[.bool d, .slice E m o, .slice E' m' o'] 24)) (w.heap.size + 2) (by simp) 24 #[.bool false, .slice none 0 0, .slice none 0 0])⟩
    go_enter Tryz.func51, Tryz.ntmps51
    go_wp2_with fail
    refine (parts_any _ _ r L (h.on B) (by omega) (by omega)).mono ?_
    rintro e w1 ⟨E1, m1, o1, E2, m2, o2, us, vs, rfl, U, U', CU, k1, k2, V1, V2, P1⟩
    rw [HB2.out]
    replace OB2 := And.intro OB2.1 (OB2.2.on P1)
    replace OB3 := And.intro OB3.1 (OB3.2.on P1)
    replace OB4 := And.intro OB4.1 (OB4.2.on P1)
    replace B := B.trans P1
    have y3_0 : w1.cell? ⟨w.heap.size + 1, 0, none⟩ = some (.bool d) := OB3.2.cell 0
    have y3_1 : w1.cell? ⟨w.heap.size + 1, 1, none⟩ = some (.slice E m o) := OB3.2.cell 1
    have y3_2 : w1.cell? ⟨w.heap.size + 1, 2, none⟩ = some (.slice E' m' o') := OB3.2.cell 2
    have y3_f0 := OB3.2.frozen 0
    have y3_f1 := OB3.2.frozen 1
    have y3_f2 := OB3.2.frozen 2
    have HV1 := Lib.hid V1
    have HV2 := Lib.hid V2
    clear V1 V2
    go_wp2_with fail
    refine (parts_any _ _ q L ((k.on B)) (by omega) (by omega)).mono ?_
    rintro e w2 ⟨G1, i1, j1, G2, i2, j2, ss, ts, rfl, S, S', CS, l1, l2, V3, V4, P2⟩
    rw [HD2.out]
    clear y3_0 y3_f0 y3_1 y3_f1 y3_2 y3_f2
    replace OB2 := And.intro OB2.1 (OB2.2.on P2)
    replace OB3 := And.intro OB3.1 (OB3.2.on P2)
    replace OB4 := And.intro OB4.1 (OB4.2.on P2)
    replace B := B.trans P2
    have HV3 := Lib.hid V3
    have HV4 := Lib.hid V4
    clear V3 V4
    replace U := U.on P2
    replace U' := U'.on P2
    go_wp2_with fail
    refine (rmul_any _ _ _ _ _ _ _ (L + L) _ _ U S' (by omega) (by omega) (by omega)).mono ?_
    rintro e w3 ⟨A3, n3, c3, rfl, ⟨l3_, R3, _, X3, Y3⟩, P3⟩
    replace U' := U'.on P3
    replace S := S.on P3
    replace S' := S'.on P3
    go_wp2_with fail
    refine (rmul_any _ _ _ _ _ _ _ (L + L) _ _ S U' (by omega) (by omega) (by omega)).mono ?_
    rintro e w4 ⟨A4, n4, c4, rfl, ⟨l4_, R4, _, X4, Y4⟩, P4⟩
    replace U' := U'.on P4
    replace S' := S'.on P4
    replace R3 := R3.on P4
    go_wp2_with fail
    refine (rmul_any _ _ _ _ _ _ _ (L + L) _ _ U' S' (by omega) (by omega) (by omega)).mono ?_
    rintro e w5 ⟨A5, n5, c5, rfl, ⟨l5_, R5, _, X5, Y5⟩, P5⟩
    replace R3 := R3.on P5
    replace R4 := R4.on P5
    have HX3 : Hid (val l3_ = r.num.natAbs * q.den) := Lib.hid (by rw [X3, HV1.out, HV4.out])
    have HX4 : Hid (val l4_ = q.num.natAbs * r.den) := Lib.hid (by rw [X4, HV3.out, HV2.out])
    have HX5 : Hid (val l5_ = r.den * q.den) := Lib.hid (by rw [X5, HV2.out, HV4.out])
    clear X3 X4 X5
    have hp : 0 < val l5_ := by rw [HX5.out]; exact Nat.mul_pos r.den_pos q.den_pos
    replace OB2 := And.intro OB2.1 (OB2.2.on P3)
    replace OB3 := And.intro OB3.1 (OB3.2.on P3)
    replace OB4 := And.intro OB4.1 (OB4.2.on P3)
    replace B := B.trans P3
    replace OB2 := And.intro OB2.1 (OB2.2.on P4)
    replace OB3 := And.intro OB3.1 (OB3.2.on P4)
    replace OB4 := And.intro OB4.1 (OB4.2.on P4)
    replace B := B.trans P4
    replace OB2 := And.intro OB2.1 (OB2.2.on P5)
    replace OB3 := And.intro OB3.1 (OB3.2.on P5)
    replace OB4 := And.intro OB4.1 (OB4.2.on P5)
    replace B := B.trans P5
    go_wp2_with fail
    refine (radd_any _ _ _ _ _ _ _ (L + L) _ _ R3 R4 (by omega) (by omega) Y3 Y4).mono ?_
    rintro e w6 ⟨A6, n6, c6, rfl, ⟨l6_, R6, _, X6, Y6⟩, P6⟩
    have HX6 : Hid (val l6_ = (r.num.natAbs * q.den + q.num.natAbs * r.den)) := Lib.hid (by rw [X6, HX3.out, HX4.out])
    clear X6
    replace R5 := R5.on P6
    replace OB2 := And.intro OB2.1 (OB2.2.on P6)
    replace OB3 := And.intro OB3.1 (OB3.2.on P6)
    replace OB4 := And.intro OB4.1 (OB4.2.on P6)
    replace B := B.trans P6
    go_wp2_with fail
    refine (rfrom_any _ _ _ _ _ _ _ _ (L + L + 1) _ _ R6 R5 hp (by omega) (by omega) (by omega) (by omega)).mono ?_
    rintro e w9 ⟨v9, rfl, I2, P9⟩
    rw [HX6.out, HX5.out, HZQ.out] at I2
    obtain ⟨Q1, Qn, Qc, _, Q2, Qm, Qd, _, rfl, _⟩ := id I2
    replace OB2 := And.intro OB2.1 (OB2.2.on P9)
    replace OB3 := And.intro OB3.1 (OB3.2.on P9)
    replace OB4 := And.intro OB4.1 (OB4.2.on P9)
    replace B := B.trans P9
    have PQ := (On.refl w9).alloc (.cells #[.bool (decide (z < 0)), .slice Q1 Qn Qc, .slice Q2 Qm Qd] 24)
    replace I2 := I2.on PQ
    replace OB4 := And.intro OB4.1 (OB4.2.on PQ)
    replace B := B.trans PQ
    have y4_0 : (w9.alloc (.cells #[.bool (decide (z < 0)), .slice Q1 Qn Qc, .slice Q2 Qm Qd] 24)).cell? ⟨w.heap.size + 2, 0, none⟩ = some (.bool false) := OB4.2.cell 0
    have y4_1 : (w9.alloc (.cells #[.bool (decide (z < 0)), .slice Q1 Qn Qc, .slice Q2 Qm Qd] 24)).cell? ⟨w.heap.size + 2, 1, none⟩ = some (.slice none 0 0) := OB4.2.cell 1
    have y4_2 : (w9.alloc (.cells #[.bool (decide (z < 0)), .slice Q1 Qn Qc, .slice Q2 Qm Qd] 24)).cell? ⟨w.heap.size + 2, 2, none⟩ = some (.slice none 0 0) := OB4.2.cell 2
    have y4_f0 := OB4.2.frozen 0
    have y4_f1 := OB4.2.frozen 1
    have y4_f2 := OB4.2.frozen 2
    go_wp2
    have hon := on3 (g := w.heap.size + 2) B (by omega) (.bool (decide (z < 0))) (.slice Q1 Qn Qc) (.slice Q2 Qm Qd)
    exact bodyPost_ret (v := .agg #[.bool (decide (z < 0)), .slice Q1 Qn Qc, .slice Q2 Qm Qd]) (by simp [results, Tryz.results51, go_sem, y4_0, y4_1, y4_2]) rfl ⟨_, rfl, isR_put I2 OB4.2 _ _ _, hon⟩
set_option maxRecDepth 100000 in
set_option maxHeartbeats 1600000 in
theorem sadd_lt (w : World) (v v' : Value) (r q : Rat) (L : Nat) (h : Fld w v r L) (k : Fld w v' q L) (hL2 : 2 ≤ L) (hL : L ≤ 1000) (hs : decide (r < 0) ≠ decide (q < 0)) (hl : r.num.natAbs * q.den < q.num.natAbs * r.den) :
    Calls Tryz.prog 51 #[v, v'] w (RatPost w (r + q) (L + L + 1)) := by
  obtain ⟨b, A, n, c, A', n', c', xs, ys, rfl, R, R', h1, h2, h3⟩ := id h
  obtain ⟨d, E, m, o, E', m', o', us0, vs0, rfl, U0, U0', g1, g2, h4⟩ := id k
  clear h3 h4
  obtain ⟨z, hz⟩ : ∃ x, r + q = x := ⟨_, rfl⟩
  rw [hz]
  have HZQ : Hid (fr (decide (q < 0)) (q.num.natAbs * r.den - r.num.natAbs * q.den) (r.den * q.den) = z) := Lib.hid ((fr_add r q _ _ (by rw [← ss_sgn]; unfold ssS ssN; rw [if_neg hs, if_neg hs, if_neg (by omega), if_neg (by omega)])).trans hz)
  clear hz
  have HL := Lib.hid hl
  clear hl
  obtain ⟨b2, hb2⟩ : ∃ x, decide (r < 0) = x := ⟨_, rfl⟩
  obtain ⟨d2, hd2⟩ : ∃ x, decide (q < 0) = x := ⟨_, rfl⟩
  rw [hb2, hd2] at hs
  have HB2 := Lib.hid hb2
  have HD2 := Lib.hid hd2
  rw [hd2] at HZQ
  clear hb2 hd2
  cases b2 <;> cases d2
  all_goals first | exact absurd rfl hs | skip
  all_goals
    clear hs
    have B : On w (((w.alloc (.cells #[.bool b, .slice A n c, .slice A' n' c'] 24)).alloc (.cells #[.bool d, .slice E m o, .slice E' m' o'] 24)).alloc (.cells #[.bool false, .slice none 0 0, .slice none 0 0] 24)) := On.alloc (On.alloc (On.alloc (On.refl w) _) _) _
    have OB2 : w.heap.size ≤ w.heap.size ∧ Own (((w.alloc (.cells #[.bool b, .slice A n c, .slice A' n' c'] 24)).alloc (.cells #[.bool d, .slice E m o, .slice E' m' o'] 24)).alloc (.cells #[.bool false, .slice none 0 0, .slice none 0 0] 24)) (w.heap.size) 24 #[.bool b, .slice A n c, .slice A' n' c'] := ⟨by omega, (((Own.at_ w (w.heap.size) (by simp) 24 #[.bool b, .slice A n c, .slice A' n' c']).alloc (.cells #[.bool d, .slice E m o, .slice E' m' o'] 24)).alloc (.cells #[.bool false, .slice none 0 0, .slice none 0 0] 24))⟩
    have OB3 : w.heap.size ≤ w.heap.size + 1 ∧ Own (((w.alloc (.cells #[.bool b, .slice A n c, .slice A' n' c'] 24)).alloc (.cells #[.bool d, .slice E m o, .slice E' m' o'] 24)).alloc (.cells #[.bool false, .slice none 0 0, .slice none 0 0] 24)) (w.heap.size + 1) 24 #[.bool d, .slice E m o, .slice E' m' o'] := ⟨by omega, ((Own.at_ (w.alloc (.cells #[.bool b, .slice A n c, .slice A' n' c'] 24)) (w.heap.size + 1) (by simp) 24 #[.bool d, .slice E m o, .slice E' m' o']).alloc (.cells #[.bool false, .slice none 0 0, .slice none 0 0] 24))⟩
    have OB4 : w.heap.size ≤ w.heap.size + 2 ∧ Own (((w.alloc (.cells #[.bool b, .slice A n c, .slice A' n' c'] 24)).alloc (.cells #[.bool d, .slice E m o, .slice E' m' o'] 24)).alloc (.cells #[.bool false, .slice none 0 0, .slice none 0 0] 24)) (w.heap.size + 2) 24 #[.bool false, .slice none 0 0, .slice none 0 0] := ⟨by omega, (Own.at_ ((w.alloc (.cells #[.bool b, .slice A n c, .slice A' n' c'] 24)).alloc (.cells #[.bool d, .slice E m o, .slice E' m' o'] 24)) (w.heap.size + 2) (by simp) 24 #[.bool false, .slice none 0 0, .slice none 0 0])⟩
    go_enter Tryz.func51, Tryz.ntmps51
    go_wp2_with fail
    refine (parts_any _ _ r L (h.on B) (by omega) (by omega)).mono ?_
    rintro e w1 ⟨E1, m1, o1, E2, m2, o2, us, vs, rfl, U, U', CU, k1, k2, V1, V2, P1⟩
    rw [HB2.out]
    replace OB2 := And.intro OB2.1 (OB2.2.on P1)
    replace OB3 := And.intro OB3.1 (OB3.2.on P1)
    replace OB4 := And.intro OB4.1 (OB4.2.on P1)
    replace B := B.trans P1
    have y3_0 : w1.cell? ⟨w.heap.size + 1, 0, none⟩ = some (.bool d) := OB3.2.cell 0
    have y3_1 : w1.cell? ⟨w.heap.size + 1, 1, none⟩ = some (.slice E m o) := OB3.2.cell 1
    have y3_2 : w1.cell? ⟨w.heap.size + 1, 2, none⟩ = some (.slice E' m' o') := OB3.2.cell 2
    have y3_f0 := OB3.2.frozen 0
    have y3_f1 := OB3.2.frozen 1
    have y3_f2 := OB3.2.frozen 2
    have HV1 := Lib.hid V1
    have HV2 := Lib.hid V2
    clear V1 V2
    go_wp2_with fail
    refine (parts_any _ _ q L ((k.on B)) (by omega) (by omega)).mono ?_
    rintro e w2 ⟨G1, i1, j1, G2, i2, j2, ss, ts, rfl, S, S', CS, l1, l2, V3, V4, P2⟩
    rw [HD2.out]
    clear y3_0 y3_f0 y3_1 y3_f1 y3_2 y3_f2
    replace OB2 := And.intro OB2.1 (OB2.2.on P2)
    replace OB3 := And.intro OB3.1 (OB3.2.on P2)
    replace OB4 := And.intro OB4.1 (OB4.2.on P2)
    replace B := B.trans P2
    have HV3 := Lib.hid V3
    have HV4 := Lib.hid V4
    clear V3 V4
    replace U := U.on P2
    replace U' := U'.on P2
    go_wp2_with fail
    refine (rmul_any _ _ _ _ _ _ _ (L + L) _ _ U S' (by omega) (by omega) (by omega)).mono ?_
    rintro e w3 ⟨A3, n3, c3, rfl, ⟨l3_, R3, _, X3, Y3⟩, P3⟩
    replace U' := U'.on P3
    replace S := S.on P3
    replace S' := S'.on P3
    go_wp2_with fail
    refine (rmul_any _ _ _ _ _ _ _ (L + L) _ _ S U' (by omega) (by omega) (by omega)).mono ?_
    rintro e w4 ⟨A4, n4, c4, rfl, ⟨l4_, R4, _, X4, Y4⟩, P4⟩
    replace U' := U'.on P4
    replace S' := S'.on P4
    replace R3 := R3.on P4
    go_wp2_with fail
    refine (rmul_any _ _ _ _ _ _ _ (L + L) _ _ U' S' (by omega) (by omega) (by omega)).mono ?_
    rintro e w5 ⟨A5, n5, c5, rfl, ⟨l5_, R5, _, X5, Y5⟩, P5⟩
    replace R3 := R3.on P5
    replace R4 := R4.on P5
    have HX3 : Hid (val l3_ = r.num.natAbs * q.den) := Lib.hid (by rw [X3, HV1.out, HV4.out])
    have HX4 : Hid (val l4_ = q.num.natAbs * r.den) := Lib.hid (by rw [X4, HV3.out, HV2.out])
    have HX5 : Hid (val l5_ = r.den * q.den) := Lib.hid (by rw [X5, HV2.out, HV4.out])
    clear X3 X4 X5
    have hp : 0 < val l5_ := by rw [HX5.out]; exact Nat.mul_pos r.den_pos q.den_pos
    replace OB2 := And.intro OB2.1 (OB2.2.on P3)
    replace OB3 := And.intro OB3.1 (OB3.2.on P3)
    replace OB4 := And.intro OB4.1 (OB4.2.on P3)
    replace B := B.trans P3
    replace OB2 := And.intro OB2.1 (OB2.2.on P4)
    replace OB3 := And.intro OB3.1 (OB3.2.on P4)
    replace OB4 := And.intro OB4.1 (OB4.2.on P4)
    replace B := B.trans P4
    replace OB2 := And.intro OB2.1 (OB2.2.on P5)
    replace OB3 := And.intro OB3.1 (OB3.2.on P5)
    replace OB4 := And.intro OB4.1 (OB4.2.on P5)
    replace B := B.trans P5
    go_wp2_with fail
    refine (rcmp_any _ _ _ _ _ _ _ _ _ R3 R4 (by omega) (by omega)).mono ?_
    rintro e w' ⟨rfl, rfl⟩
    rw [show cmpI (val l3_) (val l4_) = -1 from cmpI_lt (by rw [HX3.out, HX4.out]; exact HL.out)]
    go_wp2_with fail
    refine (rsub_good _ _ _ _ _ _ _ _ _ R4 R3 (by omega) (by omega) (by rw [HX3.out, HX4.out]; have := HL.out; omega)).mono ?_
    rintro e w6 ⟨A6, n6, c6, rfl, ⟨l6_, R6, _, X6, Y6⟩, P6⟩
    have HX6 : Hid (val l6_ = (q.num.natAbs * r.den - r.num.natAbs * q.den)) := Lib.hid (by rw [X6, HX3.out, HX4.out])
    clear X6
    replace R5 := R5.on P6
    replace OB2 := And.intro OB2.1 (OB2.2.on P6)
    replace OB3 := And.intro OB3.1 (OB3.2.on P6)
    replace OB4 := And.intro OB4.1 (OB4.2.on P6)
    replace B := B.trans P6
    go_wp2_with fail
    refine (rfrom_any _ _ _ _ _ _ _ _ (L + L + 1) _ _ R6 R5 hp (by omega) (by omega) (by omega) (by omega)).mono ?_
    rintro e w9 ⟨v9, rfl, I2, P9⟩
    rw [HX6.out, HX5.out, HZQ.out] at I2
    obtain ⟨Q1, Qn, Qc, _, Q2, Qm, Qd, _, rfl, _⟩ := id I2
    replace OB2 := And.intro OB2.1 (OB2.2.on P9)
    replace OB3 := And.intro OB3.1 (OB3.2.on P9)
    replace OB4 := And.intro OB4.1 (OB4.2.on P9)
    replace B := B.trans P9
    have PQ := (On.refl w9).alloc (.cells #[.bool (decide (z < 0)), .slice Q1 Qn Qc, .slice Q2 Qm Qd] 24)
    replace I2 := I2.on PQ
    replace OB4 := And.intro OB4.1 (OB4.2.on PQ)
    replace B := B.trans PQ
    have y4_0 : (w9.alloc (.cells #[.bool (decide (z < 0)), .slice Q1 Qn Qc, .slice Q2 Qm Qd] 24)).cell? ⟨w.heap.size + 2, 0, none⟩ = some (.bool false) := OB4.2.cell 0
    have y4_1 : (w9.alloc (.cells #[.bool (decide (z < 0)), .slice Q1 Qn Qc, .slice Q2 Qm Qd] 24)).cell? ⟨w.heap.size + 2, 1, none⟩ = some (.slice none 0 0) := OB4.2.cell 1
    have y4_2 : (w9.alloc (.cells #[.bool (decide (z < 0)), .slice Q1 Qn Qc, .slice Q2 Qm Qd] 24)).cell? ⟨w.heap.size + 2, 2, none⟩ = some (.slice none 0 0) := OB4.2.cell 2
    have y4_f0 := OB4.2.frozen 0
    have y4_f1 := OB4.2.frozen 1
    have y4_f2 := OB4.2.frozen 2
    go_wp2
    have hon := on3 (g := w.heap.size + 2) B (by omega) (.bool (decide (z < 0))) (.slice Q1 Qn Qc) (.slice Q2 Qm Qd)
    exact bodyPost_ret (v := .agg #[.bool (decide (z < 0)), .slice Q1 Qn Qc, .slice Q2 Qm Qd]) (by simp [results, Tryz.results51, go_sem, y4_0, y4_1, y4_2]) rfl ⟨_, rfl, isR_put I2 OB4.2 _ _ _, hon⟩
set_option maxRecDepth 100000 in
set_option maxHeartbeats 1600000 in
theorem sadd_ge (w : World) (v v' : Value) (r q : Rat) (L : Nat) (h : Fld w v r L) (k : Fld w v' q L) (hL2 : 2 ≤ L) (hL : L ≤ 1000) (hs : decide (r < 0) ≠ decide (q < 0)) (hl : q.num.natAbs * r.den ≤ r.num.natAbs * q.den) :
    Calls Tryz.prog 51 #[v, v'] w (RatPost w (r + q) (L + L + 1)) := by
  obtain ⟨b, A, n, c, A', n', c', xs, ys, rfl, R, R', h1, h2, h3⟩ := id h
  obtain ⟨d, E, m, o, E', m', o', us0, vs0, rfl, U0, U0', g1, g2, h4⟩ := id k
  clear h3 h4
  obtain ⟨z, hz⟩ : ∃ x, r + q = x := ⟨_, rfl⟩
  rw [hz]
  have HZQ : Hid (fr (decide (r < 0)) (r.num.natAbs * q.den - q.num.natAbs * r.den) (r.den * q.den) = z) := Lib.hid ((fr_add r q _ _ (by rw [← ss_sgn]; unfold ssS ssN; rw [if_neg hs, if_neg hs, if_pos hl, if_pos hl])).trans hz)
  clear hz
  have HL := Lib.hid hl
  clear hl
  obtain ⟨b2, hb2⟩ : ∃ x, decide (r < 0) = x := ⟨_, rfl⟩
  obtain ⟨d2, hd2⟩ : ∃ x, decide (q < 0) = x := ⟨_, rfl⟩
  rw [hb2, hd2] at hs
  have HB2 := Lib.hid hb2
  have HD2 := Lib.hid hd2
  rw [hb2] at HZQ
  clear hb2 hd2
  cases b2 <;> cases d2
  all_goals first | exact absurd rfl hs | skip
  all_goals
    clear hs
    have B : On w (((w.alloc (.cells #[.bool b, .slice A n c, .slice A' n' c'] 24)).alloc (.cells #[.bool d, .slice E m o, .slice E' m' o'] 24)).alloc (.cells #[.bool false, .slice none 0 0, .slice none 0 0] 24)) := On.alloc (On.alloc (On.alloc (On.refl w) _) _) _
    have OB2 : w.heap.size ≤ w.heap.size ∧ Own (((w.alloc (.cells #[.bool b, .slice A n c, .slice A' n' c'] 24)).alloc (.cells #[.bool d, .slice E m o, .slice E' m' o'] 24)).alloc (.cells #[.bool false, .slice none 0 0, .slice none 0 0] 24)) (w.heap.size) 24 #[.bool b, .slice A n c, .slice A' n' c'] := ⟨by omega, (((Own.at_ w (w.heap.size) (by simp) 24 #[.bool b, .slice A n c, .slice A' n' c']).alloc (.cells #[.bool d, .slice E m o, .slice E' m' o'] 24)).alloc (.cells #[.bool false, .slice none 0 0, .slice none 0 0] 24))⟩
    have OB3 : w.heap.size ≤ w.heap.size + 1 ∧ Own (((w.alloc (.cells #[.bool b, .slice A n c, .slice A' n' c'] 24)).alloc (.cells #[.bool d, .slice E m o, .slice E' m' o'] 24)).alloc (.cells #[.bool false, .slice none 0 0, .slice none 0 0] 24)) (w.heap.size + 1) 24 #[.bool d, .slice E m o, .slice E' m' o'] := ⟨by omega, ((Own.at_ (w.alloc (.cells #[.bool b, .slice A n c, .slice A' n' c'] 24)) (w.heap.size + 1) (by simp) 24 #[.bool d, .slice E m o, .slice E' m' o']).alloc (.cells #[.bool false, .slice none 0 0, .slice none 0 0] 24))⟩
    have OB4 : w.heap.size ≤ w.heap.size + 2 ∧ Own (((w.alloc (.cells #[.bool b, .slice A n c, .slice A' n' c'] 24)).alloc (.cells #[.bool d, .slice E m o, .slice E' m' o'] 24)).alloc (.cells #[.bool false, .slice none 0 0, .slice none 0 0] 24)) (w.heap.size + 2) 24 #[.bool false, .slice none 0 0, .slice none 0 0] := ⟨by omega, (Own.at_ ((w.alloc (.cells #[.bool b, .slice A n c, .slice A' n' c'] 24)).alloc (.cells #[.bool d, .slice E m o, .slice E' m' o'] 24)) (w.heap.size + 2) (by simp) 24 #[.bool false, .slice none 0 0, .slice none 0 0])⟩
    go_enter Tryz.func51, Tryz.ntmps51
    go_wp2_with fail
    refine (parts_any _ _ r L (h.on B) (by omega) (by omega)).mono ?_
    rintro e w1 ⟨E1, m1, o1, E2, m2, o2, us, vs, rfl, U, U', CU, k1, k2, V1, V2, P1⟩
    rw [HB2.out]
    replace OB2 := And.intro OB2.1 (OB2.2.on P1)
    replace OB3 := And.intro OB3.1 (OB3.2.on P1)
    replace OB4 := And.intro OB4.1 (OB4.2.on P1)
    replace B := B.trans P1
    have y3_0 : w1.cell? ⟨w.heap.size + 1, 0, none⟩ = some (.bool d) := OB3.2.cell 0
    have y3_1 : w1.cell? ⟨w.heap.size + 1, 1, none⟩ = some (.slice E m o) := OB3.2.cell 1
    have y3_2 : w1.cell? ⟨w.heap.size + 1, 2, none⟩ = some (.slice E' m' o') := OB3.2.cell 2
    have y3_f0 := OB3.2.frozen 0
    have y3_f1 := OB3.2.frozen 1
    have y3_f2 := OB3.2.frozen 2
    have HV1 := Lib.hid V1
    have HV2 := Lib.hid V2
    clear V1 V2
    go_wp2_with fail
    refine (parts_any _ _ q L ((k.on B)) (by omega) (by omega)).mono ?_
    rintro e w2 ⟨G1, i1, j1, G2, i2, j2, ss, ts, rfl, S, S', CS, l1, l2, V3, V4, P2⟩
    rw [HD2.out]
    clear y3_0 y3_f0 y3_1 y3_f1 y3_2 y3_f2
    replace OB2 := And.intro OB2.1 (OB2.2.on P2)
    replace OB3 := And.intro OB3.1 (OB3.2.on P2)
    replace OB4 := And.intro OB4.1 (OB4.2.on P2)
    replace B := B.trans P2
    have HV3 := Lib.hid V3
    have HV4 := Lib.hid V4
    clear V3 V4
    replace U := U.on P2
    replace U' := U'.on P2
    go_wp2_with fail
    refine (rmul_any _ _ _ _ _ _ _ (L + L) _ _ U S' (by omega) (by omega) (by omega)).mono ?_
    rintro e w3 ⟨A3, n3, c3, rfl, ⟨l3_, R3, _, X3, Y3⟩, P3⟩
    replace U' := U'.on P3
    replace S := S.on P3
    replace S' := S'.on P3
    go_wp2_with fail
    refine (rmul_any _ _ _ _ _ _ _ (L + L) _ _ S U' (by omega) (by omega) (by omega)).mono ?_
    rintro e w4 ⟨A4, n4, c4, rfl, ⟨l4_, R4, _, X4, Y4⟩, P4⟩
    replace U' := U'.on P4
    replace S' := S'.on P4
    replace R3 := R3.on P4
    go_wp2_with fail
    refine (rmul_any _ _ _ _ _ _ _ (L + L) _ _ U' S' (by omega) (by omega) (by omega)).mono ?_
    rintro e w5 ⟨A5, n5, c5, rfl, ⟨l5_, R5, _, X5, Y5⟩, P5⟩
    replace R3 := R3.on P5
    replace R4 := R4.on P5
    have HX3 : Hid (val l3_ = r.num.natAbs * q.den) := Lib.hid (by rw [X3, HV1.out, HV4.out])
    have HX4 : Hid (val l4_ = q.num.natAbs * r.den) := Lib.hid (by rw [X4, HV3.out, HV2.out])
    have HX5 : Hid (val l5_ = r.den * q.den) := Lib.hid (by rw [X5, HV2.out, HV4.out])
    clear X3 X4 X5
    have hp : 0 < val l5_ := by rw [HX5.out]; exact Nat.mul_pos r.den_pos q.den_pos
    replace OB2 := And.intro OB2.1 (OB2.2.on P3)
    replace OB3 := And.intro OB3.1 (OB3.2.on P3)
    replace OB4 := And.intro OB4.1 (OB4.2.on P3)
    replace B := B.trans P3
    replace OB2 := And.intro OB2.1 (OB2.2.on P4)
    replace OB3 := And.intro OB3.1 (OB3.2.on P4)
    replace OB4 := And.intro OB4.1 (OB4.2.on P4)
    replace B := B.trans P4
    replace OB2 := And.intro OB2.1 (OB2.2.on P5)
    replace OB3 := And.intro OB3.1 (OB3.2.on P5)
    replace OB4 := And.intro OB4.1 (OB4.2.on P5)
    replace B := B.trans P5
    go_wp2_with fail
    refine (rcmp_any _ _ _ _ _ _ _ _ _ R3 R4 (by omega) (by omega)).mono ?_
    rintro e w' ⟨rfl, rfl⟩
    have hc3 : ¬ cmpI (val l3_) (val l4_) < 0 := by
          have := HL.out
          rw [HX3.out, HX4.out]
          rcases Nat.lt_or_ge (q.num.natAbs * r.den) (r.num.natAbs * q.den) with h | h
          · rw [cmpI_gt h]; decide
          · rw [cmpI_eq (by omega)]; decide
    obtain ⟨cc, hcc⟩ : ∃ x, cmpI (val l3_) (val l4_) = x := ⟨_, rfl⟩
    rw [hcc] at hc3 ⊢
    clear hcc
    go_wp2_with fail
    refine (rsub_good _ _ _ _ _ _ _ _ _ R3 R4 (by omega) (by omega) (by rw [HX3.out, HX4.out]; have := HL.out; omega)).mono ?_
    rintro e w6 ⟨A6, n6, c6, rfl, ⟨l6_, R6, _, X6, Y6⟩, P6⟩
    have HX6 : Hid (val l6_ = (r.num.natAbs * q.den - q.num.natAbs * r.den)) := Lib.hid (by rw [X6, HX3.out, HX4.out])
    clear X6
    replace R5 := R5.on P6
    replace OB2 := And.intro OB2.1 (OB2.2.on P6)
    replace OB3 := And.intro OB3.1 (OB3.2.on P6)
    replace OB4 := And.intro OB4.1 (OB4.2.on P6)
    replace B := B.trans P6
    go_wp2_with fail
    refine (rfrom_any _ _ _ _ _ _ _ _ (L + L + 1) _ _ R6 R5 hp (by omega) (by omega) (by omega) (by omega)).mono ?_
    rintro e w9 ⟨v9, rfl, I2, P9⟩
    rw [HX6.out, HX5.out, HZQ.out] at I2
    obtain ⟨Q1, Qn, Qc, _, Q2, Qm, Qd, _, rfl, _⟩ := id I2
    replace OB2 := And.intro OB2.1 (OB2.2.on P9)
    replace OB3 := And.intro OB3.1 (OB3.2.on P9)
    replace OB4 := And.intro OB4.1 (OB4.2.on P9)
    replace B := B.trans P9
    have PQ := (On.refl w9).alloc (.cells #[.bool (decide (z < 0)), .slice Q1 Qn Qc, .slice Q2 Qm Qd] 24)
    replace I2 := I2.on PQ
    replace OB4 := And.intro OB4.1 (OB4.2.on PQ)
    replace B := B.trans PQ
    have y4_0 : (w9.alloc (.cells #[.bool (decide (z < 0)), .slice Q1 Qn Qc, .slice Q2 Qm Qd] 24)).cell? ⟨w.heap.size + 2, 0, none⟩ = some (.bool false) := OB4.2.cell 0
    have y4_1 : (w9.alloc (.cells #[.bool (decide (z < 0)), .slice Q1 Qn Qc, .slice Q2 Qm Qd] 24)).cell? ⟨w.heap.size + 2, 1, none⟩ = some (.slice none 0 0) := OB4.2.cell 1
    have y4_2 : (w9.alloc (.cells #[.bool (decide (z < 0)), .slice Q1 Qn Qc, .slice Q2 Qm Qd] 24)).cell? ⟨w.heap.size + 2, 2, none⟩ = some (.slice none 0 0) := OB4.2.cell 2
    have y4_f0 := OB4.2.frozen 0
    have y4_f1 := OB4.2.frozen 1
    have y4_f2 := OB4.2.frozen 2
    go_wp2
    have hon := on3 (g := w.heap.size + 2) B (by omega) (.bool (decide (z < 0))) (.slice Q1 Qn Qc) (.slice Q2 Qm Qd)
    exact bodyPost_ret (v := .agg #[.bool (decide (z < 0)), .slice Q1 Qn Qc, .slice Q2 Qm Qd]) (by simp [results, Tryz.results51, go_sem, y4_0, y4_1, y4_2]) rfl ⟨_, rfl, isR_put I2 OB4.2 _ _ _, hon⟩
theorem sadd_any (w : World) (v v' : Value) (r q : Rat) (L : Nat) (h : Fld w v r L) (k : Fld w v' q L) (hL2 : 2 ≤ L) (hL : L ≤ 1000) :
    Calls Tryz.prog 51 #[v, v'] w (RatPost w (r + q) (L + L + 1)) := by
  by_cases hs : decide (r < 0) = decide (q < 0)
  · exact sadd_eq w v v' r q L h k hL2 hL hs
  · rcases Nat.lt_or_ge (r.num.natAbs * q.den) (q.num.natAbs * r.den) with hl | hl
    · exact sadd_lt w v v' r q L h k hL2 hL hs hl
    · exact sadd_ge w v v' r q L h k hL2 hL hs hl
end Num
end Go.Proofs.YtkchpagjkgmpmaaGreat
