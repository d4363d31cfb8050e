/-
  The specification's Floor and Round; Round's errors.
-/
import Derived.Test.YtikmjlaeadockaaGreatZdiv
import Derived.Test.YtikmjlaeadockaaGreatRround
namespace Go.Proofs.YtikmjlaeadockaaGreat
open Go.RowKit
set_option linter.unusedVariables false
namespace Num
theorem flr_up (r : Rat) (h : decide (r < 0) = true) (h0 : r.num.natAbs % r.den ≠ 0) : fr true (r.num.natAbs / r.den + 1) 1 = ((flr r : Int) : Rat) := by
  rw [fr_sgn, flr_of r _ _ rfl rfl, h, if_pos ⟨rfl, h0⟩]
theorem flr_no (r : Rat) (h0 : ¬ (decide (r < 0) = true ∧ r.num.natAbs % r.den ≠ 0)) : fr (decide (r < 0)) (r.num.natAbs / r.den) 1 = ((flr r : Int) : Rat) := by
  rw [fr_sgn, flr_of r _ _ rfl rfl, if_neg h0, Nat.add_zero]
theorem nm_zero {w : World} {A : Option Addr} {n c v L : Nat} (h : Nm w A n c v L) : n = 0 ↔ v = 0 := by
  obtain ⟨xs, R, C, V, l⟩ := h
  have hl := R.len
  constructor
  · intro e; subst e; rw [← V, List.eq_nil_of_length_eq_zero hl]; rfl
  · intro e; rw [← V] at e; rw [← hl, (nil_iff C).2 e]; rfl
set_option maxRecDepth 100000 in
set_option maxHeartbeats 1600000 in
theorem sfloor_up (w : World) (v : Value) (r : Rat) (L : Nat) (h : Fld w v r L) (hL2 : 2 ≤ L) (hL : L ≤ 4000) (hb : decide (r < 0) = true) (hz : r.num.natAbs % r.den ≠ 0) :
    Calls Tryz.prog 40 #[v] w (RatPost w ((flr r : Int) : Rat) (L + 1)) := by
  obtain ⟨b, A, n, c, A', n', c', xs, ys, rfl, R, R', h1, h2, h3⟩ := id h
  clear h3
  obtain ⟨z, hzz⟩ : ∃ x : Rat, ((flr r : Int) : Rat) = x := ⟨_, rfl⟩
  rw [hzz]
  have HZQ : Hid (fr true (r.num.natAbs / r.den + 1) 1 = z) := Lib.hid ((flr_up r hb hz).trans hzz)
  have HZ := Lib.hid hz
  clear hz
  have HB := Lib.hid hb
  clear hb hzz
  have B : On w ((w.alloc (.cells #[.bool b, .slice A n c, .slice A' n' c'] 24)).alloc (.cells #[.bool false, .slice none 0 0, .slice none 0 0] 24)) := On.alloc (On.alloc (On.refl w) _) _
  have OB1 : w.heap.size ≤ w.heap.size ∧ Own ((w.alloc (.cells #[.bool b, .slice A n c, .slice A' n' c'] 24)).alloc (.cells #[.bool false, .slice none 0 0, .slice none 0 0] 24)) (w.heap.size) 24 #[.bool b, .slice A n c, .slice A' n' c'] := ⟨by omega, ((Own.at_ w (w.heap.size) (by simp) 24 #[.bool b, .slice A n c, .slice A' n' c']).alloc (.cells #[.bool false, .slice none 0 0, .slice none 0 0] 24))⟩
  have OB2 : w.heap.size ≤ w.heap.size + 1 ∧ Own ((w.alloc (.cells #[.bool b, .slice A n c, .slice A' n' c'] 24)).alloc (.cells #[.bool false, .slice none 0 0, .slice none 0 0] 24)) (w.heap.size + 1) 24 #[.bool false, .slice none 0 0, .slice none 0 0] := ⟨by omega, (Own.at_ (w.alloc (.cells #[.bool b, .slice A n c, .slice A' n' c'] 24)) (w.heap.size + 1) (by simp) 24 #[.bool false, .slice none 0 0, .slice none 0 0])⟩
  go_enter Tryz.func40, Tryz.ntmps40
  go_wp2_with fail
  refine (parts_any _ _ r L (h.on B) (by omega) (by omega)).mono ?_
  rintro e w1 ⟨E1, m1, o1, E2, m2, o2, us, vs, rfl, U, U', CU, k1, k2, V1, V2, P1⟩
  rw [HB.out]
  have HV1 := Lib.hid V1
  have HV2 := Lib.hid V2
  have hp : 0 < val vs := by rw [V2]; exact r.den_pos
  clear V1 V2
  replace OB2 := And.intro OB2.1 (OB2.2.on P1)
  replace B := B.trans P1
  go_wp2_with fail
  refine (rdiv_pos _ _ _ _ _ _ _ _ _ U U' (by omega) (by omega) hp).mono ?_
  rintro e w3 ⟨A3, n3, c3, A4, n4, c4, rfl, N3, N4, P3⟩
  rw [HV1.out, HV2.out] at N3 N4
  have hn4 := nm_zero N4
  replace OB2 := And.intro OB2.1 (OB2.2.on P3)
  replace B := B.trans P3
  have hn4 : 0 < n4 := by have := HZ.out; omega
  obtain ⟨qs, RQ, CQ, VQ, LQ⟩ := N3
  have HVQ := Lib.hid VQ
  clear VQ N4
  have PA := (On.refl w3).alloc (.cells #[.int .u32 1] 65)
  have R1 := rd_one w3 65 1 (by decide)
  replace RQ := RQ.on PA
  replace OB2 := And.intro OB2.1 (OB2.2.on PA)
  replace B := B.trans PA
  go_wp2_with fail
  refine (radd_any _ _ _ _ _ _ _ L _ _ RQ R1 (by omega) (by omega) (by omega) (by omega)).mono ?_
  rintro e w4 ⟨A5, n5, c5, rfl, ⟨sa, RA, _, VA, LA⟩, P4⟩
  have HVA : Hid (val sa = r.num.natAbs / r.den + 1) := Lib.hid (by rw [VA, HVQ.out]; rfl)
  clear VA
  replace OB2 := And.intro OB2.1 (OB2.2.on P4)
  replace B := B.trans P4
  have PB := (On.refl w4).alloc (.cells #[.int .u32 1] 65)
  have R2 := rd_one w4 65 1 (by decide)
  replace RA := RA.on PB
  replace OB2 := And.intro OB2.1 (OB2.2.on PB)
  replace B := B.trans PB
  go_wp2_with fail
  refine (rfrom_any _ _ _ _ _ _ _ _ (L + 1) _ _ RA R2 (by decide) (by omega) (by omega) (by omega) (by omega)).mono ?_
  rintro e w9 ⟨v9, rfl, I2, P9⟩
  rw [HVA.out, show val [1] = 1 from rfl, HZQ.out] at I2
  obtain ⟨Q1, Qn, Qc, _, Q2, Qm, Qd, _, rfl, _⟩ := id I2
  replace OB2 := And.intro OB2.1 (OB2.2.on P9)
  replace B := B.trans P9
  have PQ := (On.refl w9).alloc (.cells #[.bool (decide (z < 0)), .slice Q1 Qn Qc, .slice Q2 Qm Qd] 24)
  replace I2 := I2.on PQ
  replace OB2 := And.intro OB2.1 (OB2.2.on PQ)
  replace B := B.trans PQ
  have y2_0 : (w9.alloc (.cells #[.bool (decide (z < 0)), .slice Q1 Qn Qc, .slice Q2 Qm Qd] 24)).cell? ⟨w.heap.size + 1, 0, none⟩ = some (.bool false) := OB2.2.cell 0
  have y2_1 : (w9.alloc (.cells #[.bool (decide (z < 0)), .slice Q1 Qn Qc, .slice Q2 Qm Qd] 24)).cell? ⟨w.heap.size + 1, 1, none⟩ = some (.slice none 0 0) := OB2.2.cell 1
  have y2_2 : (w9.alloc (.cells #[.bool (decide (z < 0)), .slice Q1 Qn Qc, .slice Q2 Qm Qd] 24)).cell? ⟨w.heap.size + 1, 2, none⟩ = some (.slice none 0 0) := OB2.2.cell 2
  have y2_f0 := OB2.2.frozen 0
  have y2_f1 := OB2.2.frozen 1
  have y2_f2 := OB2.2.frozen 2
  go_wp2
  have hon := on3 (g := w.heap.size + 1) B (by omega) (.bool (decide (z < 0))) (.slice Q1 Qn Qc) (.slice Q2 Qm Qd)
  exact bodyPost_ret (v := .agg #[.bool (decide (z < 0)), .slice Q1 Qn Qc, .slice Q2 Qm Qd]) (by simp [results, Tryz.results40, go_sem, y2_0, y2_1, y2_2]) rfl ⟨_, rfl, isR_put I2 OB2.2 _ _ _, hon⟩
set_option maxRecDepth 100000 in
set_option maxHeartbeats 1600000 in
theorem sfloor_neg (w : World) (v : Value) (r : Rat) (L : Nat) (h : Fld w v r L) (hL2 : 2 ≤ L) (hL : L ≤ 4000) (hb : decide (r < 0) = true) (hz : r.num.natAbs % r.den = 0) :
    Calls Tryz.prog 40 #[v] w (RatPost w ((flr r : Int) : Rat) (L + 1)) := by
  obtain ⟨b, A, n, c, A', n', c', xs, ys, rfl, R, R', h1, h2, h3⟩ := id h
  clear h3
  obtain ⟨z, hzz⟩ : ∃ x : Rat, ((flr r : Int) : Rat) = x := ⟨_, rfl⟩
  rw [hzz]
  have HZQ : Hid (fr true (r.num.natAbs / r.den) 1 = z) := Lib.hid (by rw [← hzz, ← flr_no r (fun e => e.2 hz), hb])
  have HZ := Lib.hid hz
  clear hz
  have HB := Lib.hid hb
  clear hb hzz
  have B : On w ((w.alloc (.cells #[.bool b, .slice A n c, .slice A' n' c'] 24)).alloc (.cells #[.bool false, .slice none 0 0, .slice none 0 0] 24)) := On.alloc (On.alloc (On.refl w) _) _
  have OB1 : w.heap.size ≤ w.heap.size ∧ Own ((w.alloc (.cells #[.bool b, .slice A n c, .slice A' n' c'] 24)).alloc (.cells #[.bool false, .slice none 0 0, .slice none 0 0] 24)) (w.heap.size) 24 #[.bool b, .slice A n c, .slice A' n' c'] := ⟨by omega, ((Own.at_ w (w.heap.size) (by simp) 24 #[.bool b, .slice A n c, .slice A' n' c']).alloc (.cells #[.bool false, .slice none 0 0, .slice none 0 0] 24))⟩
  have OB2 : w.heap.size ≤ w.heap.size + 1 ∧ Own ((w.alloc (.cells #[.bool b, .slice A n c, .slice A' n' c'] 24)).alloc (.cells #[.bool false, .slice none 0 0, .slice none 0 0] 24)) (w.heap.size + 1) 24 #[.bool false, .slice none 0 0, .slice none 0 0] := ⟨by omega, (Own.at_ (w.alloc (.cells #[.bool b, .slice A n c, .slice A' n' c'] 24)) (w.heap.size + 1) (by simp) 24 #[.bool false, .slice none 0 0, .slice none 0 0])⟩
  go_enter Tryz.func40, Tryz.ntmps40
  go_wp2_with fail
  refine (parts_any _ _ r L (h.on B) (by omega) (by omega)).mono ?_
  rintro e w1 ⟨E1, m1, o1, E2, m2, o2, us, vs, rfl, U, U', CU, k1, k2, V1, V2, P1⟩
  rw [HB.out]
  have HV1 := Lib.hid V1
  have HV2 := Lib.hid V2
  have hp : 0 < val vs := by rw [V2]; exact r.den_pos
  clear V1 V2
  replace OB2 := And.intro OB2.1 (OB2.2.on P1)
  replace B := B.trans P1
  go_wp2_with fail
  refine (rdiv_pos _ _ _ _ _ _ _ _ _ U U' (by omega) (by omega) hp).mono ?_
  rintro e w3 ⟨A3, n3, c3, A4, n4, c4, rfl, N3, N4, P3⟩
  rw [HV1.out, HV2.out] at N3 N4
  have hn4 := nm_zero N4
  replace OB2 := And.intro OB2.1 (OB2.2.on P3)
  replace B := B.trans P3
  obtain rfl : n4 = 0 := hn4.2 HZ.out
  clear hn4 N4
  obtain ⟨sa, RA, CQ, VA, LA⟩ := N3
  have HVA := Lib.hid VA
  clear VA
  have PB := (On.refl w3).alloc (.cells #[.int .u32 1] 65)
  have R2 := rd_one w3 65 1 (by decide)
  replace RA := RA.on PB
  replace OB2 := And.intro OB2.1 (OB2.2.on PB)
  replace B := B.trans PB
  go_wp2_with fail
  refine (rfrom_any _ _ _ _ _ _ _ _ (L + 1) _ _ RA R2 (by decide) (by omega) (by omega) (by omega) (by omega)).mono ?_
  rintro e w9 ⟨v9, rfl, I2, P9⟩
  rw [HVA.out, show val [1] = 1 from rfl, HZQ.out] at I2
  obtain ⟨Q1, Qn, Qc, _, Q2, Qm, Qd, _, rfl, _⟩ := id I2
  replace OB2 := And.intro OB2.1 (OB2.2.on P9)
  replace B := B.trans P9
  have PQ := (On.refl w9).alloc (.cells #[.bool (decide (z < 0)), .slice Q1 Qn Qc, .slice Q2 Qm Qd] 24)
  replace I2 := I2.on PQ
  replace OB2 := And.intro OB2.1 (OB2.2.on PQ)
  replace B := B.trans PQ
  have y2_0 : (w9.alloc (.cells #[.bool (decide (z < 0)), .slice Q1 Qn Qc, .slice Q2 Qm Qd] 24)).cell? ⟨w.heap.size + 1, 0, none⟩ = some (.bool false) := OB2.2.cell 0
  have y2_1 : (w9.alloc (.cells #[.bool (decide (z < 0)), .slice Q1 Qn Qc, .slice Q2 Qm Qd] 24)).cell? ⟨w.heap.size + 1, 1, none⟩ = some (.slice none 0 0) := OB2.2.cell 1
  have y2_2 : (w9.alloc (.cells #[.bool (decide (z < 0)), .slice Q1 Qn Qc, .slice Q2 Qm Qd] 24)).cell? ⟨w.heap.size + 1, 2, none⟩ = some (.slice none 0 0) := OB2.2.cell 2
  have y2_f0 := OB2.2.frozen 0
  have y2_f1 := OB2.2.frozen 1
  have y2_f2 := OB2.2.frozen 2
  go_wp2
  have hon := on3 (g := w.heap.size + 1) B (by omega) (.bool (decide (z < 0))) (.slice Q1 Qn Qc) (.slice Q2 Qm Qd)
  exact bodyPost_ret (v := .agg #[.bool (decide (z < 0)), .slice Q1 Qn Qc, .slice Q2 Qm Qd]) (by simp [results, Tryz.results40, go_sem, y2_0, y2_1, y2_2]) rfl ⟨_, rfl, isR_put I2 OB2.2 _ _ _, hon⟩
set_option maxRecDepth 100000 in
set_option maxHeartbeats 1600000 in
theorem sfloor_pos (w : World) (v : Value) (r : Rat) (L : Nat) (h : Fld w v r L) (hL2 : 2 ≤ L) (hL : L ≤ 4000) (hb : decide (r < 0) = false) :
    Calls Tryz.prog 40 #[v] w (RatPost w ((flr r : Int) : Rat) (L + 1)) := by
  obtain ⟨b, A, n, c, A', n', c', xs, ys, rfl, R, R', h1, h2, h3⟩ := id h
  clear h3
  obtain ⟨z, hzz⟩ : ∃ x : Rat, ((flr r : Int) : Rat) = x := ⟨_, rfl⟩
  rw [hzz]
  have HZQ : Hid (fr false (r.num.natAbs / r.den) 1 = z) := Lib.hid (by rw [← hzz, ← flr_no r (fun e => by rw [hb] at e; cases e.1), hb])
  have HB := Lib.hid hb
  clear hb hzz
  have B : On w ((w.alloc (.cells #[.bool b, .slice A n c, .slice A' n' c'] 24)).alloc (.cells #[.bool false, .slice none 0 0, .slice none 0 0] 24)) := On.alloc (On.alloc (On.refl w) _) _
  have OB1 : w.heap.size ≤ w.heap.size ∧ Own ((w.alloc (.cells #[.bool b, .slice A n c, .slice A' n' c'] 24)).alloc (.cells #[.bool false, .slice none 0 0, .slice none 0 0] 24)) (w.heap.size) 24 #[.bool b, .slice A n c, .slice A' n' c'] := ⟨by omega, ((Own.at_ w (w.heap.size) (by simp) 24 #[.bool b, .slice A n c, .slice A' n' c']).alloc (.cells #[.bool false, .slice none 0 0, .slice none 0 0] 24))⟩
  have OB2 : w.heap.size ≤ w.heap.size + 1 ∧ Own ((w.alloc (.cells #[.bool b, .slice A n c, .slice A' n' c'] 24)).alloc (.cells #[.bool false, .slice none 0 0, .slice none 0 0] 24)) (w.heap.size + 1) 24 #[.bool false, .slice none 0 0, .slice none 0 0] := ⟨by omega, (Own.at_ (w.alloc (.cells #[.bool b, .slice A n c, .slice A' n' c'] 24)) (w.heap.size + 1) (by simp) 24 #[.bool false, .slice none 0 0, .slice none 0 0])⟩
  go_enter Tryz.func40, Tryz.ntmps40
  go_wp2_with fail
  refine (parts_any _ _ r L (h.on B) (by omega) (by omega)).mono ?_
  rintro e w1 ⟨E1, m1, o1, E2, m2, o2, us, vs, rfl, U, U', CU, k1, k2, V1, V2, P1⟩
  rw [HB.out]
  have HV1 := Lib.hid V1
  have HV2 := Lib.hid V2
  have hp : 0 < val vs := by rw [V2]; exact r.den_pos
  clear V1 V2
  replace OB2 := And.intro OB2.1 (OB2.2.on P1)
  replace B := B.trans P1
  go_wp2_with fail
  refine (rdiv_pos _ _ _ _ _ _ _ _ _ U U' (by omega) (by omega) hp).mono ?_
  rintro e w3 ⟨A3, n3, c3, A4, n4, c4, rfl, N3, N4, P3⟩
  rw [HV1.out, HV2.out] at N3 N4
  have hn4 := nm_zero N4
  replace OB2 := And.intro OB2.1 (OB2.2.on P3)
  replace B := B.trans P3
  clear hn4 N4
  obtain ⟨sa, RA, CQ, VA, LA⟩ := N3
  have HVA := Lib.hid VA
  clear VA
  have PB := (On.refl w3).alloc (.cells #[.int .u32 1] 65)
  have R2 := rd_one w3 65 1 (by decide)
  replace RA := RA.on PB
  replace OB2 := And.intro OB2.1 (OB2.2.on PB)
  replace B := B.trans PB
  go_wp2_with fail
  refine (rfrom_any _ _ _ _ _ _ _ _ (L + 1) _ _ RA R2 (by decide) (by omega) (by omega) (by omega) (by omega)).mono ?_
  rintro e w9 ⟨v9, rfl, I2, P9⟩
  rw [HVA.out, show val [1] = 1 from rfl, HZQ.out] at I2
  obtain ⟨Q1, Qn, Qc, _, Q2, Qm, Qd, _, rfl, _⟩ := id I2
  replace OB2 := And.intro OB2.1 (OB2.2.on P9)
  replace B := B.trans P9
  have PQ := (On.refl w9).alloc (.cells #[.bool (decide (z < 0)), .slice Q1 Qn Qc, .slice Q2 Qm Qd] 24)
  replace I2 := I2.on PQ
  replace OB2 := And.intro OB2.1 (OB2.2.on PQ)
  replace B := B.trans PQ
  have y2_0 : (w9.alloc (.cells #[.bool (decide (z < 0)), .slice Q1 Qn Qc, .slice Q2 Qm Qd] 24)).cell? ⟨w.heap.size + 1, 0, none⟩ = some (.bool false) := OB2.2.cell 0
  have y2_1 : (w9.alloc (.cells #[.bool (decide (z < 0)), .slice Q1 Qn Qc, .slice Q2 Qm Qd] 24)).cell? ⟨w.heap.size + 1, 1, none⟩ = some (.slice none 0 0) := OB2.2.cell 1
  have y2_2 : (w9.alloc (.cells #[.bool (decide (z < 0)), .slice Q1 Qn Qc, .slice Q2 Qm Qd] 24)).cell? ⟨w.heap.size + 1, 2, none⟩ = some (.slice none 0 0) := OB2.2.cell 2
  have y2_f0 := OB2.2.frozen 0
  have y2_f1 := OB2.2.frozen 1
  have y2_f2 := OB2.2.frozen 2
  go_wp2
  have hon := on3 (g := w.heap.size + 1) B (by omega) (.bool (decide (z < 0))) (.slice Q1 Qn Qc) (.slice Q2 Qm Qd)
  exact bodyPost_ret (v := .agg #[.bool (decide (z < 0)), .slice Q1 Qn Qc, .slice Q2 Qm Qd]) (by simp [results, Tryz.results40, go_sem, y2_0, y2_1, y2_2]) rfl ⟨_, rfl, isR_put I2 OB2.2 _ _ _, hon⟩
theorem sfloor_any (w : World) (v : Value) (r : Rat) (L : Nat) (h : Fld w v r L) (hL2 : 2 ≤ L) (hL : L ≤ 4000) :
    Calls Tryz.prog 40 #[v] w (RatPost w ((flr r : Int) : Rat) (L + 1)) := by
  cases hb : decide (r < 0)
  · exact sfloor_pos w v r L h hL2 hL hb
  · by_cases hz : r.num.natAbs % r.den = 0
    · exact sfloor_neg w v r L h hL2 hL hb hz
    · exact sfloor_up w v r L h hL2 hL hb hz
set_option maxRecDepth 100000 in
set_option maxHeartbeats 1600000 in
theorem sround_bad (w : World) (v : Value) (r : Rat) (L : Nat) (d : Int) (h : Fld w v r L) (hd : d < 1 ∨ 2147483648 < d) :
    Calls Tryz.prog 36 #[v, .int .i64 d] w (RatPost2 w 0 2 (.int .i64 3)) := by
  obtain ⟨b, A, n, c, A', n', c', xs, ys, rfl, R, R', h1, h2, h3⟩ := id h
  clear h3
  have hd : decide (d < 1) = true ∨ (decide (d < 1) = false ∧ decide (2147483648 < d) = true) := by
    rcases hd with e | e
    · exact .inl (decide_eq_true e)
    · exact .inr ⟨decide_eq_false (by omega), decide_eq_true e⟩
  have B : On w ((w.alloc (.cells #[.bool b, .slice A n c, .slice A' n' c'] 24)).alloc (.cells #[.bool false, .slice none 0 0, .slice none 0 0] 24)) := On.alloc (On.alloc (On.refl w) _) _
  have OB2 : w.heap.size ≤ w.heap.size ∧ Own ((w.alloc (.cells #[.bool b, .slice A n c, .slice A' n' c'] 24)).alloc (.cells #[.bool false, .slice none 0 0, .slice none 0 0] 24)) (w.heap.size) 24 #[.bool b, .slice A n c, .slice A' n' c'] := ⟨by omega, ((Own.at_ w (w.heap.size) (by simp) 24 #[.bool b, .slice A n c, .slice A' n' c']).alloc (.cells #[.bool false, .slice none 0 0, .slice none 0 0] 24))⟩
  have OB4 : w.heap.size ≤ w.heap.size + 1 ∧ Own ((w.alloc (.cells #[.bool b, .slice A n c, .slice A' n' c'] 24)).alloc (.cells #[.bool false, .slice none 0 0, .slice none 0 0] 24)) (w.heap.size + 1) 24 #[.bool false, .slice none 0 0, .slice none 0 0] := ⟨by omega, (Own.at_ (w.alloc (.cells #[.bool b, .slice A n c, .slice A' n' c'] 24)) (w.heap.size + 1) (by simp) 24 #[.bool false, .slice none 0 0, .slice none 0 0])⟩
  rcases hd with h1 | ⟨h1, h2⟩
  all_goals
    go_enter Tryz.func36, Tryz.ntmps36
    have y4_0 : ((w.alloc (.cells #[.bool b, .slice A n c, .slice A' n' c'] 24)).alloc (.cells #[.bool false, .slice none 0 0, .slice none 0 0] 24)).cell? ⟨w.heap.size + 1, 0, none⟩ = some (.bool false) := OB4.2.cell 0
    have y4_1 : ((w.alloc (.cells #[.bool b, .slice A n c, .slice A' n' c'] 24)).alloc (.cells #[.bool false, .slice none 0 0, .slice none 0 0] 24)).cell? ⟨w.heap.size + 1, 1, none⟩ = some (.slice none 0 0) := OB4.2.cell 1
    have y4_2 : ((w.alloc (.cells #[.bool b, .slice A n c, .slice A' n' c'] 24)).alloc (.cells #[.bool false, .slice none 0 0, .slice none 0 0] 24)).cell? ⟨w.heap.size + 1, 2, none⟩ = some (.slice none 0 0) := OB4.2.cell 2
    have y4_f0 := OB4.2.frozen 0
    have y4_f1 := OB4.2.frozen 1
    have y4_f2 := OB4.2.frozen 2
    go_wp2
    exact bodyPost_ret (v := .tuple #[.agg #[.bool false, .slice none 0 0, .slice none 0 0], .int .i64 3]) (by simp [results, Tryz.results36, go_sem, y4_0, y4_1, y4_2]) rfl ⟨_, rfl, isR_zero _ _, B⟩
set_option maxRecDepth 100000 in
set_option maxHeartbeats 1600000 in
theorem pround_bad (w : World) (v : Value) (r : Rat) (L : Nat) (d : Int) (h : Fld w v r L) (hd : d < 1 ∨ 2147483648 < d) :
    Calls Tryz.prog 35 #[v, .int .i64 d] w (RatPost2 w 0 2 (.iface 58 (.int .i64 3))) := by
  obtain ⟨b, A, n, c, A', n', c', xs, ys, rfl, R, R', h1, h2, h3⟩ := id h
  clear h3
  have hd : decide (d < 1) = true ∨ (decide (d < 1) = false ∧ decide (2147483648 < d) = true) := by
    rcases hd with e | e
    · exact .inl (decide_eq_true e)
    · exact .inr ⟨decide_eq_false (by omega), decide_eq_true e⟩
  have B : On w ((w.alloc (.cells #[.bool b, .slice A n c, .slice A' n' c'] 24)).alloc (.cells #[.bool false, .slice none 0 0, .slice none 0 0] 24)) := On.alloc (On.alloc (On.refl w) _) _
  have OB2 : w.heap.size ≤ w.heap.size ∧ Own ((w.alloc (.cells #[.bool b, .slice A n c, .slice A' n' c'] 24)).alloc (.cells #[.bool false, .slice none 0 0, .slice none 0 0] 24)) (w.heap.size) 24 #[.bool b, .slice A n c, .slice A' n' c'] := ⟨by omega, ((Own.at_ w (w.heap.size) (by simp) 24 #[.bool b, .slice A n c, .slice A' n' c']).alloc (.cells #[.bool false, .slice none 0 0, .slice none 0 0] 24))⟩
  have OB4 : w.heap.size ≤ w.heap.size + 1 ∧ Own ((w.alloc (.cells #[.bool b, .slice A n c, .slice A' n' c'] 24)).alloc (.cells #[.bool false, .slice none 0 0, .slice none 0 0] 24)) (w.heap.size + 1) 24 #[.bool false, .slice none 0 0, .slice none 0 0] := ⟨by omega, (Own.at_ (w.alloc (.cells #[.bool b, .slice A n c, .slice A' n' c'] 24)) (w.heap.size + 1) (by simp) 24 #[.bool false, .slice none 0 0, .slice none 0 0])⟩
  rcases hd with h1 | ⟨h1, h2⟩
  all_goals
    go_enter Tryz.func35, Tryz.ntmps35
    have y4_0 : ((w.alloc (.cells #[.bool b, .slice A n c, .slice A' n' c'] 24)).alloc (.cells #[.bool false, .slice none 0 0, .slice none 0 0] 24)).cell? ⟨w.heap.size + 1, 0, none⟩ = some (.bool false) := OB4.2.cell 0
    have y4_1 : ((w.alloc (.cells #[.bool b, .slice A n c, .slice A' n' c'] 24)).alloc (.cells #[.bool false, .slice none 0 0, .slice none 0 0] 24)).cell? ⟨w.heap.size + 1, 1, none⟩ = some (.slice none 0 0) := OB4.2.cell 1
    have y4_2 : ((w.alloc (.cells #[.bool b, .slice A n c, .slice A' n' c'] 24)).alloc (.cells #[.bool false, .slice none 0 0, .slice none 0 0] 24)).cell? ⟨w.heap.size + 1, 2, none⟩ = some (.slice none 0 0) := OB4.2.cell 2
    have y4_f0 := OB4.2.frozen 0
    have y4_f1 := OB4.2.frozen 1
    have y4_f2 := OB4.2.frozen 2
    go_wp2
    exact bodyPost_ret (v := .tuple #[.agg #[.bool false, .slice none 0 0, .slice none 0 0], .iface 58 (.int .i64 3)]) (by simp [results, Tryz.results35, go_sem, y4_0, y4_1, y4_2]) rfl ⟨_, rfl, isR_zero _ _, B⟩
set_option maxRecDepth 100000 in
set_option maxHeartbeats 1600000 in
theorem sround_ok (w : World) (v : Value) (r : Rat) (L : Nat) (d : Int) (h : Fld w v r L) (hL2 : 2 ≤ L) (hL : L ≤ 400) (hd1 : 1 ≤ d) (hd2 : d ≤ 2147483648) :
    Calls Tryz.prog 36 #[v, .int .i64 d] w (RatPost2 w (((flr (r * (d : Rat)) : Int) : Rat) * (d : Rat)⁻¹) (L + L + 1 + (L + L + 1)) (.int .i64 0)) := by
  obtain ⟨b, A, n, c, A', n', c', xs, ys, rfl, R, R', h1, h2, h3⟩ := id h
  clear h3
  have HNZ := Lib.hid (int_ne hd1)
  obtain ⟨k, hk⟩ : ∃ x : Rat, (d : Rat) = x := ⟨_, rfl⟩
  have HK := Lib.hid hk
  rw [hk] at HNZ ⊢
  clear hk
  obtain ⟨fl, hfl⟩ : ∃ x : Rat, ((flr (r * k) : Int) : Rat) = x := ⟨_, rfl⟩
  have HFL := Lib.hid hfl
  rw [hfl]
  clear hfl
  have B : On w ((w.alloc (.cells #[.bool b, .slice A n c, .slice A' n' c'] 24)).alloc (.cells #[.bool false, .slice none 0 0, .slice none 0 0] 24)) := On.alloc (On.alloc (On.refl w) _) _
  have OB2 : w.heap.size ≤ w.heap.size ∧ Own ((w.alloc (.cells #[.bool b, .slice A n c, .slice A' n' c'] 24)).alloc (.cells #[.bool false, .slice none 0 0, .slice none 0 0] 24)) (w.heap.size) 24 #[.bool b, .slice A n c, .slice A' n' c'] := ⟨by omega, ((Own.at_ w (w.heap.size) (by simp) 24 #[.bool b, .slice A n c, .slice A' n' c']).alloc (.cells #[.bool false, .slice none 0 0, .slice none 0 0] 24))⟩
  have OB4 : w.heap.size ≤ w.heap.size + 1 ∧ Own ((w.alloc (.cells #[.bool b, .slice A n c, .slice A' n' c'] 24)).alloc (.cells #[.bool false, .slice none 0 0, .slice none 0 0] 24)) (w.heap.size + 1) 24 #[.bool false, .slice none 0 0, .slice none 0 0] := ⟨by omega, (Own.at_ (w.alloc (.cells #[.bool b, .slice A n c, .slice A' n' c'] 24)) (w.heap.size + 1) (by simp) 24 #[.bool false, .slice none 0 0, .slice none 0 0])⟩
  go_enter Tryz.func36, Tryz.ntmps36
  go_wp2
  refine wp_region_facts (by kernel_rfl) w [Fact.eq (.agg #[.bool b, .slice A n c, .slice A' n' c']), Fact.eq (.int .i64 d), Fact.rat (k) (2), Fact.rat (r * k) (L + L), Fact.rat (fl) (L + L + 1), Fact.eq (.int .i64 d), Fact.rat (k) (2), Fact.ratE (fl * k⁻¹) (L + L + 1 + (L + L + 1)) (.int .i64 0), Fact.rat (fl * k⁻¹) (L + L + 1 + (L + L + 1)), Fact.eq (.int .i64 0), Fact.any, Fact.eq (.int .i64 0)] [Fact.any, Fact.rat (fl * k⁻¹) (L + L + 1 + (L + L + 1))] [⟨12, 2, 24, 12, #[.bool b, .slice A n c, .slice A' n' c']⟩, ⟨12, 4, 24, 10, #[.bool false, .slice none 0 0, .slice none 0 0]⟩] [w.heap.size, w.heap.size + 1] [none, none, none, none, none, some 5, none, none, none, none, none, none, none, some 13, some 14, some 15, some 16, some 17, some 18, some 19, some 20, some 21, some 22] (by kernel_rfl) (by kernel_rfl) (by kernel_rfl) rfl B ?_ ?_ ?_ ?_ ?_
  · exact ⟨fun _ => ⟨by simp, rfl, OB2⟩, fun _ => ⟨by simp, rfl, OB4⟩, trivial⟩
  · exact .inr (by simp <;> omega)
  · exact ⟨⟨noWords_R _ _ _ _ _ _ _, (.inl (Nat.le_refl _)), (.inl (Nat.le_refl _))⟩, ⟨noWords_R _ _ _ _ _ _ _, (.inl (Nat.le_refl _)), (.inr (store_ob (j := 8) (noWords_R _ _ _ _ _ _ _) rfl rfl rfl (by kernel_rfl) rfl rfl rfl))⟩, trivial⟩
  · refine ⟨?_, ?_, ?_, ?_, ?_, ?_, ?_, ?_, ?_, ?_, ?_, ?_, trivial⟩
    · exact .inr fun a w hp => ob_yes rfl (ob_loadR (hp.box (k := 0) rfl (Nat.le_refl _) (.inl (Nat.le_refl _)) (by kernel_rfl) rfl).1 (hp.box (k := 0) rfl (Nat.le_refl _) (.inl (Nat.le_refl _)) (by kernel_rfl) rfl).2 rfl)
    · exact .inr fun a w hp => ob_yes rfl (ob_move (hp.same 1 (by kernel_rfl)))
    · refine .inr fun a w hp => ob_yes rfl ?_
      have h14 : a.tmps.getD 14 undef = .int .i64 d := (hp.fact 1 14 (by kernel_rfl) rfl)
      unfold Does
      go_simp
      refine (rofr_any _ d (by omega) (by omega)).mono ?_
      rintro e w' ⟨u, rfl, I8, P8⟩
      rw [HK.out] at I8
      exact ⟨_, rfl, P8, I8⟩
    · refine .inr fun a w hp => ob_yes rfl ?_
      have h13 : a.tmps.getD 13 undef = .agg #[.bool b, .slice A n c, .slice A' n' c'] := (hp.fact 0 13 (by kernel_rfl) rfl)
      have h15 : IsR w (a.tmps.getD 15 undef) (k) (2) := (hp.fact 2 15 (by kernel_rfl) rfl)
      obtain ⟨v15, e15⟩ : ∃ v, a.tmps.getD 15 undef = v := ⟨_, rfl⟩
      rw [e15] at h15
      unfold Does
      go_simp
      refine (smul_any _ _ _ r k L (h.on hp.on) ((IsR.fld h15).wide hL2) hL2 (by omega)).mono ?_
      rintro e w' ⟨u, rfl, I8, P8⟩
      exact ⟨_, rfl, P8, I8⟩
    · refine .inr fun a w hp => ob_yes rfl ?_
      have h16 : IsR w (a.tmps.getD 16 undef) (r * k) (L + L) := (hp.fact 3 16 (by kernel_rfl) rfl)
      obtain ⟨v16, e16⟩ : ∃ v, a.tmps.getD 16 undef = v := ⟨_, rfl⟩
      rw [e16] at h16
      unfold Does
      go_simp
      refine (sfloor_any _ _ _ (L + L) (IsR.fld h16) (by omega) (by omega)).mono ?_
      rintro e w' ⟨u, rfl, I8, P8⟩
      rw [HFL.out] at I8
      exact ⟨_, rfl, P8, I8⟩
    · exact .inr fun a w hp => ob_yes rfl (ob_move (hp.same 1 (by kernel_rfl)))
    · refine .inr fun a w hp => ob_yes rfl ?_
      have h18 : a.tmps.getD 18 undef = .int .i64 d := (hp.fact 5 18 (by kernel_rfl) rfl)
      unfold Does
      go_simp
      refine (rofr_any _ d (by omega) (by omega)).mono ?_
      rintro e w' ⟨u, rfl, I8, P8⟩
      rw [HK.out] at I8
      exact ⟨_, rfl, P8, I8⟩
    · refine .inr fun a w hp => ob_yes rfl ?_
      have h17 : IsR w (a.tmps.getD 17 undef) (fl) (L + L + 1) := (hp.fact 4 17 (by kernel_rfl) rfl)
      obtain ⟨v17, e17⟩ : ∃ v, a.tmps.getD 17 undef = v := ⟨_, rfl⟩
      rw [e17] at h17
      have h19 : IsR w (a.tmps.getD 19 undef) (k) (2) := (hp.fact 6 19 (by kernel_rfl) rfl)
      obtain ⟨v19, e19⟩ : ∃ v, a.tmps.getD 19 undef = v := ⟨_, rfl⟩
      rw [e19] at h19
      unfold Does
      go_simp
      refine (sdiv_ok _ _ _ fl k (L + L + 1) (IsR.fld h17) ((IsR.fld h19).wide (by omega)) (by omega) (by omega) HNZ.out).mono ?_
      rintro e w' ⟨u, rfl, I8, P8⟩
      exact ⟨_, rfl, P8, _, rfl, I8⟩
    · refine .inr fun a w hp => ob_yes rfl ?_
      obtain ⟨u, e, h⟩ : ∃ u, a.tmps.getD 20 undef = .tuple #[u, .int .i64 0] ∧ IsR w u (fl * k⁻¹) (L + L + 1 + (L + L + 1)) := (hp.fact 7 20 (by kernel_rfl) rfl)
      exact ob_ext0 e h
    · refine .inr fun a w hp => ob_yes rfl ?_
      obtain ⟨u, e, h⟩ : ∃ u, a.tmps.getD 20 undef = .tuple #[u, .int .i64 0] ∧ IsR w u (fl * k⁻¹) (L + L + 1 + (L + L + 1)) := (hp.fact 7 20 (by kernel_rfl) rfl)
      exact ob_ext1 e rfl
    · exact .inl rfl
    · exact .inr fun a w hp => ob_yes rfl (ob_assign (hp.fact 9 22 (by kernel_rfl) rfl))
  · intro f wd hon hk hf hb hap
    obtain ⟨q0, q1, qz⟩ := hb
    clear qz
    have O2 : Own wd (w.heap.size) 24 #[.bool b, .slice A n c, .slice A' n' c'] := q0
    have c2_0 : wd.cell? ⟨w.heap.size, 0, none⟩ = some (.bool b) := O2.cell 0
    have z2_0 := O2.frozen 0
    have c2_1 : wd.cell? ⟨w.heap.size, 1, none⟩ = some (.slice A n c) := O2.cell 1
    have z2_1 := O2.frozen 1
    have c2_2 : wd.cell? ⟨w.heap.size, 2, none⟩ = some (.slice A' n' c') := O2.cell 2
    have z2_2 := O2.frozen 2
    clear q0
    obtain ⟨cur4, O4, I4⟩ : ∃ cur, Own wd (w.heap.size + 1) 24 cur ∧ IsR wd (.agg cur) (fl * k⁻¹) (L + L + 1 + (L + L + 1)) := q1
    obtain ⟨P4, Pn4, Pc4, _, R4, Rn4, Rc4, _, hz4, _⟩ := id I4
    injection hz4 with hz4
    subst hz4
    have c4_0 : wd.cell? ⟨w.heap.size + 1, 0, none⟩ = some (.bool (decide (fl * k⁻¹ < 0))) := O4.cell 0
    have z4_0 := O4.frozen 0
    have c4_1 : wd.cell? ⟨w.heap.size + 1, 1, none⟩ = some (.slice P4 Pn4 Pc4) := O4.cell 1
    have z4_1 := O4.frozen 1
    have c4_2 : wd.cell? ⟨w.heap.size + 1, 2, none⟩ = some (.slice R4 Rn4 Rc4) := O4.cell 2
    have z4_2 := O4.frozen 2
    have e5 : f 5 = .int .i64 0 := hf 11 5 rfl
    clear hf hap
    simp only [fillL, e5]
    clear e5
    go_wp2
    exact bodyPost_ret (v := .tuple #[.agg #[.bool (decide (fl * k⁻¹ < 0)), .slice P4 Pn4 Pc4, .slice R4 Rn4 Rc4], .int .i64 0]) (by simp [results, Tryz.results36, go_sem, c4_0, c4_1, c4_2]) rfl ⟨_, rfl, I4, hon⟩
end Num
end Go.Proofs.YtikmjlaeadockaaGreat
