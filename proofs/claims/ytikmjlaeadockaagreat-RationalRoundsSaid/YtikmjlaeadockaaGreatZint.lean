/-
  Int of fractions: the program's and the specification's.
-/
import Derived.Test.YtikmjlaeadockaaGreatZfloor
import Derived.Test.YtikmjlaeadockaaGreatInts
namespace Go.Proofs.YtikmjlaeadockaaGreat
open Go.RowKit
set_option linter.unusedVariables false
namespace Num
theorem clean_two {xs : List Nat} (hl : xs.length = 2) (hv : val xs = 9223372036854775808) (hok : Ok xs) : Clean xs := by
  rw [clean_iff_last xs 1 hl]
  intro e
  have h := val_low2 xs (by rw [hv]; decide)
  have h0 := hok.get 0
  rw [e, hv] at h
  omega
theorem val_min : val [0, 2147483648] = 9223372036854775808 := by
  have h : val [0, 2147483648] = 0 + BB * (2147483648 + BB * 0) := rfl
  rw [h]
  decide
theorem rd_min (w : World) (t : TypeId) : Rd (w.alloc (.cells #[.int .u32 0, .int .u32 2147483648] t)) (some ⟨w.heap.size, 0, none⟩) 2 2 [0, 2147483648] := by
  obtain ⟨x, hx⟩ : ∃ x : Nat, 2147483648 = x := ⟨_, rfl⟩
  have h := rd_two w t 0 x (by decide) (by omega)
  have e : ((x : Nat) : Int) = 2147483648 := by omega
  rw [e] at h
  rw [hx]
  exact h
set_option maxRecDepth 100000 in
set_option maxHeartbeats 1600000 in
theorem pint_z (w : World) (v : Value) (r : Rat) (L : Nat) (h : Fld w v r L) (hL : L ≤ 4000) (hr : r = 0) :
    Calls Tryz.prog 37 #[v] w fun e w' => e = .returned (.tuple #[.int .i64 0, .bool true]) ∧ On w w' := by
  obtain ⟨b, A, n, c, A', n', c', xs, ys, rfl, R, R', h1, h2, h3⟩ := id h
  clear h3
  have HR := Lib.hid hr
  have HZ : Hid (decide (r = 0) = true) := Lib.hid (by first | exact decide_eq_true hr | exact decide_eq_false hr)
  have HIV : Hid (intOfV r.num.natAbs = .tuple #[.int .i64 0, .bool true]) := Lib.hid (by rw [hr]; rfl)
  clear hr
  have B : On w (w.alloc (.cells #[.bool b, .slice A n c, .slice A' n' c'] 24)) := On.alloc (On.refl w) _
  have OB1 : w.heap.size ≤ w.heap.size ∧ Own (w.alloc (.cells #[.bool b, .slice A n c, .slice A' n' c'] 24)) (w.heap.size) 24 #[.bool b, .slice A n c, .slice A' n' c'] := ⟨by omega, (Own.at_ w (w.heap.size) (by simp) 24 #[.bool b, .slice A n c, .slice A' n' c'])⟩
  go_enter Tryz.func37, Tryz.ntmps37
  go_wp2_with fail
  refine (value_fld _ _ r L (h.on B) (by omega)).mono ?_
  rintro e w1 ⟨v1, rfl, I1, P1⟩
  obtain ⟨Q1, Qn, Qc, X1, Q2, Qm, Qd, X2, rfl, RX1, RX2, CX1, CX2, lx1, lx2, vx1, vx2⟩ := id I1
  obtain ⟨sb, hsb⟩ : ∃ x, decide (r < 0) = x := ⟨_, rfl⟩
  rw [hsb] at I1
  try rw [hsb]
  clear hsb
  replace OB1 := And.intro OB1.1 (OB1.2.on P1)
  replace B := B.trans P1
  have y1_0 : w1.cell? ⟨w.heap.size, 0, none⟩ = some (.bool b) := OB1.2.cell 0
  have y1_1 : w1.cell? ⟨w.heap.size, 1, none⟩ = some (.slice A n c) := OB1.2.cell 1
  have y1_2 : w1.cell? ⟨w.heap.size, 2, none⟩ = some (.slice A' n' c') := OB1.2.cell 2
  have y1_f0 := OB1.2.frozen 0
  have y1_f1 := OB1.2.frozen 1
  have y1_f2 := OB1.2.frozen 2
  have J := isR_put I1 OB1.2 (.bool sb) (.slice Q1 Qn Qc) (.slice Q2 Qm Qd)
  have oo := only3 (w := w1) (g := w.heap.size) (.bool sb) (.slice Q1 Qn Qc) (.slice Q2 Qm Qd)
  have hk1 := Kept.only oo OB1.2 (noWords_R _ _ _ _ _ _ _)
  replace RX1 := RX1.kept hk1
  replace RX2 := RX2.kept hk1
  clear hk1
  replace B := B.only oo (Nat.le_refl _)
  have O2 : Own (((w1.setCell ⟨w.heap.size, 0, none⟩ (.bool sb)).setCell ⟨w.heap.size, 1, none⟩ (.slice Q1 Qn Qc)).setCell ⟨w.heap.size, 2, none⟩ (.slice Q2 Qm Qd)) (w.heap.size) 24 #[.bool sb, .slice Q1 Qn Qc, .slice Q2 Qm Qd] := ((OB1.2.set_ 0 (.bool sb)).set_ 1 (.slice Q1 Qn Qc)).set_ 2 (.slice Q2 Qm Qd)
  replace OB1 := And.intro OB1.1 O2
  clear O2 oo P1
  have HVX := Lib.hid vx1
  clear vx1
  clear vx2
  go_wp2_with fail
  refine (iszero_any _ _ r L J).mono ?_
  rintro e w3 ⟨rfl, P3⟩
  rw [HZ.out]
  clear y1_0 y1_f0 y1_1 y1_f1 y1_2 y1_f2
  replace OB1 := And.intro OB1.1 (OB1.2.on P3)
  replace B := B.trans P3
  replace RX1 := RX1.on P3
  replace RX2 := RX2.on P3
  have y1_0 : w3.cell? ⟨w.heap.size, 0, none⟩ = some (.bool sb) := OB1.2.cell 0
  have y1_1 : w3.cell? ⟨w.heap.size, 1, none⟩ = some (.slice Q1 Qn Qc) := OB1.2.cell 1
  have y1_2 : w3.cell? ⟨w.heap.size, 2, none⟩ = some (.slice Q2 Qm Qd) := OB1.2.cell 2
  have y1_f0 := OB1.2.frozen 0
  have y1_f1 := OB1.2.frozen 1
  have y1_f2 := OB1.2.frozen 2
  go_wp2
  go_ret2
  exact ⟨rfl, B⟩
set_option maxRecDepth 100000 in
set_option maxHeartbeats 1600000 in
theorem pint_nd (w : World) (v : Value) (r : Rat) (L : Nat) (h : Fld w v r L) (hL : L ≤ 4000) (hr : r ≠ 0) (hd : r.den ≠ 1) :
    Calls Tryz.prog 37 #[v] w fun e w' => e = .returned (.tuple #[.int .i64 0, .bool false]) ∧ On w w' := by
  obtain ⟨b, A, n, c, A', n', c', xs, ys, rfl, R, R', h1, h2, h3⟩ := id h
  clear h3
  have HR := Lib.hid hr
  have HZ : Hid (decide (r = 0) = false) := Lib.hid (by first | exact decide_eq_true hr | exact decide_eq_false hr)
  have HD := Lib.hid hd
  clear hr
  clear hd
  have B : On w (w.alloc (.cells #[.bool b, .slice A n c, .slice A' n' c'] 24)) := On.alloc (On.refl w) _
  have OB1 : w.heap.size ≤ w.heap.size ∧ Own (w.alloc (.cells #[.bool b, .slice A n c, .slice A' n' c'] 24)) (w.heap.size) 24 #[.bool b, .slice A n c, .slice A' n' c'] := ⟨by omega, (Own.at_ w (w.heap.size) (by simp) 24 #[.bool b, .slice A n c, .slice A' n' c'])⟩
  go_enter Tryz.func37, Tryz.ntmps37
  go_wp2_with fail
  refine (value_fld _ _ r L (h.on B) (by omega)).mono ?_
  rintro e w1 ⟨v1, rfl, I1, P1⟩
  obtain ⟨Q1, Qn, Qc, X1, Q2, Qm, Qd, X2, rfl, RX1, RX2, CX1, CX2, lx1, lx2, vx1, vx2⟩ := id I1
  obtain ⟨sb, hsb⟩ : ∃ x, decide (r < 0) = x := ⟨_, rfl⟩
  rw [hsb] at I1
  try rw [hsb]
  clear hsb
  replace OB1 := And.intro OB1.1 (OB1.2.on P1)
  replace B := B.trans P1
  have y1_0 : w1.cell? ⟨w.heap.size, 0, none⟩ = some (.bool b) := OB1.2.cell 0
  have y1_1 : w1.cell? ⟨w.heap.size, 1, none⟩ = some (.slice A n c) := OB1.2.cell 1
  have y1_2 : w1.cell? ⟨w.heap.size, 2, none⟩ = some (.slice A' n' c') := OB1.2.cell 2
  have y1_f0 := OB1.2.frozen 0
  have y1_f1 := OB1.2.frozen 1
  have y1_f2 := OB1.2.frozen 2
  have J := isR_put I1 OB1.2 (.bool sb) (.slice Q1 Qn Qc) (.slice Q2 Qm Qd)
  have oo := only3 (w := w1) (g := w.heap.size) (.bool sb) (.slice Q1 Qn Qc) (.slice Q2 Qm Qd)
  have hk1 := Kept.only oo OB1.2 (noWords_R _ _ _ _ _ _ _)
  replace RX1 := RX1.kept hk1
  replace RX2 := RX2.kept hk1
  clear hk1
  replace B := B.only oo (Nat.le_refl _)
  have O2 : Own (((w1.setCell ⟨w.heap.size, 0, none⟩ (.bool sb)).setCell ⟨w.heap.size, 1, none⟩ (.slice Q1 Qn Qc)).setCell ⟨w.heap.size, 2, none⟩ (.slice Q2 Qm Qd)) (w.heap.size) 24 #[.bool sb, .slice Q1 Qn Qc, .slice Q2 Qm Qd] := ((OB1.2.set_ 0 (.bool sb)).set_ 1 (.slice Q1 Qn Qc)).set_ 2 (.slice Q2 Qm Qd)
  replace OB1 := And.intro OB1.1 O2
  clear O2 oo P1
  have HVX := Lib.hid vx1
  clear vx1
  have HON : Hid (decide (X2 = [1]) = false) := Lib.hid (by rw [val_one RX2.ok CX2, vx2, dn_ne HR.out]; first | exact decide_eq_true HD.out | exact decide_eq_false HD.out)
  clear vx2
  go_wp2_with fail
  refine (iszero_any _ _ r L J).mono ?_
  rintro e w3 ⟨rfl, P3⟩
  rw [HZ.out]
  clear y1_0 y1_f0 y1_1 y1_f1 y1_2 y1_f2
  replace OB1 := And.intro OB1.1 (OB1.2.on P3)
  replace B := B.trans P3
  replace RX1 := RX1.on P3
  replace RX2 := RX2.on P3
  have y1_0 : w3.cell? ⟨w.heap.size, 0, none⟩ = some (.bool sb) := OB1.2.cell 0
  have y1_1 : w3.cell? ⟨w.heap.size, 1, none⟩ = some (.slice Q1 Qn Qc) := OB1.2.cell 1
  have y1_2 : w3.cell? ⟨w.heap.size, 2, none⟩ = some (.slice Q2 Qm Qd) := OB1.2.cell 2
  have y1_f0 := OB1.2.frozen 0
  have y1_f1 := OB1.2.frozen 1
  have y1_f2 := OB1.2.frozen 2
  go_wp2_with fail
  refine (isone_any _ _ _ _ _ RX2).mono ?_
  rintro e w' ⟨rfl, rfl⟩
  rw [HON.out]
  go_wp2
  go_ret2
  exact ⟨rfl, B⟩
set_option maxRecDepth 100000 in
set_option maxHeartbeats 1600000 in
theorem pint_sn (w : World) (v : Value) (r : Rat) (L : Nat) (h : Fld w v r L) (hL : L ≤ 4000) (hr : r ≠ 0) (hd : r.den = 1) (hn : decide (r < 0) = true) (hv : r.num.natAbs < 9223372036854775808) :
    Calls Tryz.prog 37 #[v] w fun e w' => e = .returned (.tuple #[.int .i64 (-(r.num.natAbs : Int)), .bool true]) ∧ On w w' := by
  obtain ⟨b, A, n, c, A', n', c', xs, ys, rfl, R, R', h1, h2, h3⟩ := id h
  clear h3
  have HR := Lib.hid hr
  have HZ : Hid (decide (r = 0) = false) := Lib.hid (by first | exact decide_eq_true hr | exact decide_eq_false hr)
  have HD := Lib.hid hd
  have HIV : Hid (intOfV r.num.natAbs = .tuple #[.int .i64 (r.num.natAbs : Int), .bool true]) := Lib.hid (by unfold intOfV; rw [if_pos hv])
  have HS := Lib.hid hn
  clear hn
  obtain ⟨k, hk⟩ : ∃ x, r.num.natAbs = x := ⟨_, rfl⟩
  rw [hk] at hv HIV
  try rw [hk]
  have HK := Lib.hid hk
  clear hk
  clear hr
  clear hd
  have B : On w (w.alloc (.cells #[.bool b, .slice A n c, .slice A' n' c'] 24)) := On.alloc (On.refl w) _
  have OB1 : w.heap.size ≤ w.heap.size ∧ Own (w.alloc (.cells #[.bool b, .slice A n c, .slice A' n' c'] 24)) (w.heap.size) 24 #[.bool b, .slice A n c, .slice A' n' c'] := ⟨by omega, (Own.at_ w (w.heap.size) (by simp) 24 #[.bool b, .slice A n c, .slice A' n' c'])⟩
  go_enter Tryz.func37, Tryz.ntmps37
  go_wp2_with fail
  refine (value_fld _ _ r L (h.on B) (by omega)).mono ?_
  rintro e w1 ⟨v1, rfl, I1, P1⟩
  obtain ⟨Q1, Qn, Qc, X1, Q2, Qm, Qd, X2, rfl, RX1, RX2, CX1, CX2, lx1, lx2, vx1, vx2⟩ := id I1
  rw [HS.out] at I1
  try rw [HS.out]
  replace OB1 := And.intro OB1.1 (OB1.2.on P1)
  replace B := B.trans P1
  have y1_0 : w1.cell? ⟨w.heap.size, 0, none⟩ = some (.bool b) := OB1.2.cell 0
  have y1_1 : w1.cell? ⟨w.heap.size, 1, none⟩ = some (.slice A n c) := OB1.2.cell 1
  have y1_2 : w1.cell? ⟨w.heap.size, 2, none⟩ = some (.slice A' n' c') := OB1.2.cell 2
  have y1_f0 := OB1.2.frozen 0
  have y1_f1 := OB1.2.frozen 1
  have y1_f2 := OB1.2.frozen 2
  have J := isR_put I1 OB1.2 (.bool true) (.slice Q1 Qn Qc) (.slice Q2 Qm Qd)
  have oo := only3 (w := w1) (g := w.heap.size) (.bool true) (.slice Q1 Qn Qc) (.slice Q2 Qm Qd)
  have hk1 := Kept.only oo OB1.2 (noWords_R _ _ _ _ _ _ _)
  replace RX1 := RX1.kept hk1
  replace RX2 := RX2.kept hk1
  clear hk1
  replace B := B.only oo (Nat.le_refl _)
  have O2 : Own (((w1.setCell ⟨w.heap.size, 0, none⟩ (.bool true)).setCell ⟨w.heap.size, 1, none⟩ (.slice Q1 Qn Qc)).setCell ⟨w.heap.size, 2, none⟩ (.slice Q2 Qm Qd)) (w.heap.size) 24 #[.bool true, .slice Q1 Qn Qc, .slice Q2 Qm Qd] := ((OB1.2.set_ 0 (.bool true)).set_ 1 (.slice Q1 Qn Qc)).set_ 2 (.slice Q2 Qm Qd)
  replace OB1 := And.intro OB1.1 O2
  clear O2 oo P1
  have HVX := Lib.hid vx1
  clear vx1
  have HON : Hid (decide (X2 = [1]) = true) := Lib.hid (by rw [val_one RX2.ok CX2, vx2, dn_ne HR.out]; first | exact decide_eq_true HD.out | exact decide_eq_false HD.out)
  clear vx2
  go_wp2_with fail
  refine (iszero_any _ _ r L J).mono ?_
  rintro e w3 ⟨rfl, P3⟩
  rw [HZ.out]
  clear y1_0 y1_f0 y1_1 y1_f1 y1_2 y1_f2
  replace OB1 := And.intro OB1.1 (OB1.2.on P3)
  replace B := B.trans P3
  replace RX1 := RX1.on P3
  replace RX2 := RX2.on P3
  have y1_0 : w3.cell? ⟨w.heap.size, 0, none⟩ = some (.bool true) := OB1.2.cell 0
  have y1_1 : w3.cell? ⟨w.heap.size, 1, none⟩ = some (.slice Q1 Qn Qc) := OB1.2.cell 1
  have y1_2 : w3.cell? ⟨w.heap.size, 2, none⟩ = some (.slice Q2 Qm Qd) := OB1.2.cell 2
  have y1_f0 := OB1.2.frozen 0
  have y1_f1 := OB1.2.frozen 1
  have y1_f2 := OB1.2.frozen 2
  go_wp2_with fail
  refine (isone_any _ _ _ _ _ RX2).mono ?_
  rintro e w' ⟨rfl, rfl⟩
  rw [HON.out]
  go_wp2_with fail
  refine (int_any _ _ _ _ _ RX1 (by omega)).mono ?_
  rintro e w' ⟨rfl, rfl⟩
  rw [HVX.out, HK.out, HIV.out]
  go_wp2
  go_ret2
  exact ⟨rfl, B⟩
set_option maxRecDepth 100000 in
set_option maxHeartbeats 1600000 in
theorem pint_ps (w : World) (v : Value) (r : Rat) (L : Nat) (h : Fld w v r L) (hL : L ≤ 4000) (hr : r ≠ 0) (hd : r.den = 1) (hn : decide (r < 0) = false) (hv : r.num.natAbs < 9223372036854775808) :
    Calls Tryz.prog 37 #[v] w fun e w' => e = .returned (.tuple #[.int .i64 (r.num.natAbs : Int), .bool true]) ∧ On w w' := by
  obtain ⟨b, A, n, c, A', n', c', xs, ys, rfl, R, R', h1, h2, h3⟩ := id h
  clear h3
  have HR := Lib.hid hr
  have HZ : Hid (decide (r = 0) = false) := Lib.hid (by first | exact decide_eq_true hr | exact decide_eq_false hr)
  have HD := Lib.hid hd
  have HIV : Hid (intOfV r.num.natAbs = .tuple #[.int .i64 (r.num.natAbs : Int), .bool true]) := Lib.hid (by unfold intOfV; rw [if_pos hv])
  have HS := Lib.hid hn
  clear hn
  obtain ⟨k, hk⟩ : ∃ x, r.num.natAbs = x := ⟨_, rfl⟩
  rw [hk] at hv HIV
  try rw [hk]
  have HK := Lib.hid hk
  clear hk
  clear hr
  clear hd
  have B : On w (w.alloc (.cells #[.bool b, .slice A n c, .slice A' n' c'] 24)) := On.alloc (On.refl w) _
  have OB1 : w.heap.size ≤ w.heap.size ∧ Own (w.alloc (.cells #[.bool b, .slice A n c, .slice A' n' c'] 24)) (w.heap.size) 24 #[.bool b, .slice A n c, .slice A' n' c'] := ⟨by omega, (Own.at_ w (w.heap.size) (by simp) 24 #[.bool b, .slice A n c, .slice A' n' c'])⟩
  go_enter Tryz.func37, Tryz.ntmps37
  go_wp2_with fail
  refine (value_fld _ _ r L (h.on B) (by omega)).mono ?_
  rintro e w1 ⟨v1, rfl, I1, P1⟩
  obtain ⟨Q1, Qn, Qc, X1, Q2, Qm, Qd, X2, rfl, RX1, RX2, CX1, CX2, lx1, lx2, vx1, vx2⟩ := id I1
  rw [HS.out] at I1
  try rw [HS.out]
  replace OB1 := And.intro OB1.1 (OB1.2.on P1)
  replace B := B.trans P1
  have y1_0 : w1.cell? ⟨w.heap.size, 0, none⟩ = some (.bool b) := OB1.2.cell 0
  have y1_1 : w1.cell? ⟨w.heap.size, 1, none⟩ = some (.slice A n c) := OB1.2.cell 1
  have y1_2 : w1.cell? ⟨w.heap.size, 2, none⟩ = some (.slice A' n' c') := OB1.2.cell 2
  have y1_f0 := OB1.2.frozen 0
  have y1_f1 := OB1.2.frozen 1
  have y1_f2 := OB1.2.frozen 2
  have J := isR_put I1 OB1.2 (.bool false) (.slice Q1 Qn Qc) (.slice Q2 Qm Qd)
  have oo := only3 (w := w1) (g := w.heap.size) (.bool false) (.slice Q1 Qn Qc) (.slice Q2 Qm Qd)
  have hk1 := Kept.only oo OB1.2 (noWords_R _ _ _ _ _ _ _)
  replace RX1 := RX1.kept hk1
  replace RX2 := RX2.kept hk1
  clear hk1
  replace B := B.only oo (Nat.le_refl _)
  have O2 : Own (((w1.setCell ⟨w.heap.size, 0, none⟩ (.bool false)).setCell ⟨w.heap.size, 1, none⟩ (.slice Q1 Qn Qc)).setCell ⟨w.heap.size, 2, none⟩ (.slice Q2 Qm Qd)) (w.heap.size) 24 #[.bool false, .slice Q1 Qn Qc, .slice Q2 Qm Qd] := ((OB1.2.set_ 0 (.bool false)).set_ 1 (.slice Q1 Qn Qc)).set_ 2 (.slice Q2 Qm Qd)
  replace OB1 := And.intro OB1.1 O2
  clear O2 oo P1
  have HVX := Lib.hid vx1
  clear vx1
  have HON : Hid (decide (X2 = [1]) = true) := Lib.hid (by rw [val_one RX2.ok CX2, vx2, dn_ne HR.out]; first | exact decide_eq_true HD.out | exact decide_eq_false HD.out)
  clear vx2
  go_wp2_with fail
  refine (iszero_any _ _ r L J).mono ?_
  rintro e w3 ⟨rfl, P3⟩
  rw [HZ.out]
  clear y1_0 y1_f0 y1_1 y1_f1 y1_2 y1_f2
  replace OB1 := And.intro OB1.1 (OB1.2.on P3)
  replace B := B.trans P3
  replace RX1 := RX1.on P3
  replace RX2 := RX2.on P3
  have y1_0 : w3.cell? ⟨w.heap.size, 0, none⟩ = some (.bool false) := OB1.2.cell 0
  have y1_1 : w3.cell? ⟨w.heap.size, 1, none⟩ = some (.slice Q1 Qn Qc) := OB1.2.cell 1
  have y1_2 : w3.cell? ⟨w.heap.size, 2, none⟩ = some (.slice Q2 Qm Qd) := OB1.2.cell 2
  have y1_f0 := OB1.2.frozen 0
  have y1_f1 := OB1.2.frozen 1
  have y1_f2 := OB1.2.frozen 2
  go_wp2_with fail
  refine (isone_any _ _ _ _ _ RX2).mono ?_
  rintro e w' ⟨rfl, rfl⟩
  rw [HON.out]
  go_wp2_with fail
  refine (int_any _ _ _ _ _ RX1 (by omega)).mono ?_
  rintro e w' ⟨rfl, rfl⟩
  rw [HVX.out, HK.out, HIV.out]
  go_wp2
  refine wp_region_facts (by kernel_rfl) w [Fact.eq (.pointer (some ⟨w.heap.size, 0, none⟩)), Fact.eq (.bool false), Fact.eq (.bool false), Fact.eq (undef), Fact.eq (undef), Fact.eq (undef), Fact.eq (undef), Fact.eq (undef), Fact.eq (.bool false), Fact.eq (.bool false)] [Fact.any] [⟨10, 1, 24, 10, #[.bool false, .slice Q1 Qn Qc, .slice Q2 Qm Qd]⟩] [w.heap.size] [none, none, none, none, none, none, none, none, none, none, none, none, none, none, none, none, none, none, none, none, none, none, none, none, none, none, none, none, some 28, some 29, some 30, some 31, some 32, some 33, some 34, some 35, some 36, some 37, none, none] (by kernel_rfl) (by kernel_rfl) (by kernel_rfl) rfl B ?_ ?_ ?_ ?_ ?_
  · exact ⟨fun _ => ⟨by simp, rfl, OB1⟩, trivial⟩
  · exact .inl ⟨Nat.le_refl _, trivial⟩
  · exact ⟨⟨noWords_R _ _ _ _ _ _ _, (.inl (Nat.le_refl _)), (.inl (Nat.le_refl _))⟩, trivial⟩
  · refine ⟨?_, ?_, ?_, ?_, ?_, ?_, ?_, ?_, ?_, ?_, trivial⟩
    · exact .inr fun a w hp => ob_yes rfl (ob_fieldR (hp.box (k := 0) rfl (Nat.le_refl _) (.inl (Nat.le_refl _)) (by kernel_rfl) rfl).1 (by decide) rfl)
    · exact .inr fun a w hp => ob_yes rfl (ob_loadB (hp.fact 0 29 (by kernel_rfl) rfl) (hp.box (k := 0) rfl (Nat.le_refl _) (.inl (Nat.le_refl _)) (by kernel_rfl) rfl).2 rfl rfl)
    · exact .inr fun a w hp => ob_yes rfl (ob_move (hp.fact 1 30 (by kernel_rfl) rfl))
    · exact .inr fun a w hp => ob_no (wanted_no (P := Tryz.prog) (j := 2) (d := 31) (b := false) rfl rfl (hp.fact 2 31 (by kernel_rfl) rfl)) rfl
    · exact .inr fun a w hp => ob_no (wanted_no (P := Tryz.prog) (j := 2) (d := 31) (b := false) rfl rfl (hp.fact 2 31 (by kernel_rfl) rfl)) rfl
    · exact .inr fun a w hp => ob_no (wanted_no (P := Tryz.prog) (j := 2) (d := 31) (b := false) rfl rfl (hp.fact 2 31 (by kernel_rfl) rfl)) rfl
    · exact .inr fun a w hp => ob_no (wanted_no (P := Tryz.prog) (j := 2) (d := 31) (b := false) rfl rfl (hp.fact 2 31 (by kernel_rfl) rfl)) rfl
    · exact .inr fun a w hp => ob_no (wanted_no (P := Tryz.prog) (j := 2) (d := 31) (b := false) rfl rfl (hp.fact 2 31 (by kernel_rfl) rfl)) rfl
    · refine .inr fun a w hp => ob_yes rfl ?_
      have h31 : a.tmps.getD 31 undef = .bool false := (hp.fact 2 31 (by kernel_rfl) rfl)
      have h36 : a.tmps.getD 36 undef = undef := (hp.fact 7 36 (by kernel_rfl) rfl)
      unfold Does
      go_simp
      exact ⟨_, rfl, On.refl _, rfl⟩
    · exact .inr fun a w hp => ob_yes rfl (ob_assign (hp.fact 8 37 (by kernel_rfl) rfl))
  · intro f wr hon hk hf hb hap
    obtain ⟨q0, qz⟩ := hb
    clear qz
    have O1 : Own wr (w.heap.size) 24 #[.bool false, .slice Q1 Qn Qc, .slice Q2 Qm Qd] := q0
    have c1_0 : wr.cell? ⟨w.heap.size, 0, none⟩ = some (.bool false) := O1.cell 0
    have z1_0 := O1.frozen 0
    have c1_1 : wr.cell? ⟨w.heap.size, 1, none⟩ = some (.slice Q1 Qn Qc) := O1.cell 1
    have z1_1 := O1.frozen 1
    have c1_2 : wr.cell? ⟨w.heap.size, 2, none⟩ = some (.slice Q2 Qm Qd) := O1.cell 2
    have z1_2 := O1.frozen 2
    clear q0
    have e28 : f 28 = .bool false := hf 9 28 rfl
    clear hf hap
    simp only [fillL, e28]
    clear e28
    go_wp2
    go_ret2
    exact ⟨rfl, hon⟩
set_option maxRecDepth 100000 in
set_option maxHeartbeats 1600000 in
theorem pint_pb (w : World) (v : Value) (r : Rat) (L : Nat) (h : Fld w v r L) (hL : L ≤ 4000) (hr : r ≠ 0) (hd : r.den = 1) (hn : decide (r < 0) = false) (hv : 9223372036854775808 ≤ r.num.natAbs) :
    Calls Tryz.prog 37 #[v] w fun e w' => e = .returned (.tuple #[.int .i64 0, .bool false]) ∧ On w w' := by
  obtain ⟨b, A, n, c, A', n', c', xs, ys, rfl, R, R', h1, h2, h3⟩ := id h
  clear h3
  have HR := Lib.hid hr
  have HZ : Hid (decide (r = 0) = false) := Lib.hid (by first | exact decide_eq_true hr | exact decide_eq_false hr)
  have HD := Lib.hid hd
  have HIV : Hid (intOfV r.num.natAbs = .tuple #[.int .i64 0, .bool false]) := Lib.hid (by unfold intOfV; rw [if_neg (by omega)])
  have HS := Lib.hid hn
  clear hn
  obtain ⟨k, hk⟩ : ∃ x, r.num.natAbs = x := ⟨_, rfl⟩
  rw [hk] at hv HIV
  try rw [hk]
  have HK := Lib.hid hk
  clear hk
  clear hv
  clear hr
  clear hd
  have B : On w (w.alloc (.cells #[.bool b, .slice A n c, .slice A' n' c'] 24)) := On.alloc (On.refl w) _
  have OB1 : w.heap.size ≤ w.heap.size ∧ Own (w.alloc (.cells #[.bool b, .slice A n c, .slice A' n' c'] 24)) (w.heap.size) 24 #[.bool b, .slice A n c, .slice A' n' c'] := ⟨by omega, (Own.at_ w (w.heap.size) (by simp) 24 #[.bool b, .slice A n c, .slice A' n' c'])⟩
  go_enter Tryz.func37, Tryz.ntmps37
  go_wp2_with fail
  refine (value_fld _ _ r L (h.on B) (by omega)).mono ?_
  rintro e w1 ⟨v1, rfl, I1, P1⟩
  obtain ⟨Q1, Qn, Qc, X1, Q2, Qm, Qd, X2, rfl, RX1, RX2, CX1, CX2, lx1, lx2, vx1, vx2⟩ := id I1
  rw [HS.out] at I1
  try rw [HS.out]
  replace OB1 := And.intro OB1.1 (OB1.2.on P1)
  replace B := B.trans P1
  have y1_0 : w1.cell? ⟨w.heap.size, 0, none⟩ = some (.bool b) := OB1.2.cell 0
  have y1_1 : w1.cell? ⟨w.heap.size, 1, none⟩ = some (.slice A n c) := OB1.2.cell 1
  have y1_2 : w1.cell? ⟨w.heap.size, 2, none⟩ = some (.slice A' n' c') := OB1.2.cell 2
  have y1_f0 := OB1.2.frozen 0
  have y1_f1 := OB1.2.frozen 1
  have y1_f2 := OB1.2.frozen 2
  have J := isR_put I1 OB1.2 (.bool false) (.slice Q1 Qn Qc) (.slice Q2 Qm Qd)
  have oo := only3 (w := w1) (g := w.heap.size) (.bool false) (.slice Q1 Qn Qc) (.slice Q2 Qm Qd)
  have hk1 := Kept.only oo OB1.2 (noWords_R _ _ _ _ _ _ _)
  replace RX1 := RX1.kept hk1
  replace RX2 := RX2.kept hk1
  clear hk1
  replace B := B.only oo (Nat.le_refl _)
  have O2 : Own (((w1.setCell ⟨w.heap.size, 0, none⟩ (.bool false)).setCell ⟨w.heap.size, 1, none⟩ (.slice Q1 Qn Qc)).setCell ⟨w.heap.size, 2, none⟩ (.slice Q2 Qm Qd)) (w.heap.size) 24 #[.bool false, .slice Q1 Qn Qc, .slice Q2 Qm Qd] := ((OB1.2.set_ 0 (.bool false)).set_ 1 (.slice Q1 Qn Qc)).set_ 2 (.slice Q2 Qm Qd)
  replace OB1 := And.intro OB1.1 O2
  clear O2 oo P1
  have HVX := Lib.hid vx1
  clear vx1
  have HON : Hid (decide (X2 = [1]) = true) := Lib.hid (by rw [val_one RX2.ok CX2, vx2, dn_ne HR.out]; first | exact decide_eq_true HD.out | exact decide_eq_false HD.out)
  clear vx2
  go_wp2_with fail
  refine (iszero_any _ _ r L J).mono ?_
  rintro e w3 ⟨rfl, P3⟩
  rw [HZ.out]
  clear y1_0 y1_f0 y1_1 y1_f1 y1_2 y1_f2
  replace OB1 := And.intro OB1.1 (OB1.2.on P3)
  replace B := B.trans P3
  replace RX1 := RX1.on P3
  replace RX2 := RX2.on P3
  have y1_0 : w3.cell? ⟨w.heap.size, 0, none⟩ = some (.bool false) := OB1.2.cell 0
  have y1_1 : w3.cell? ⟨w.heap.size, 1, none⟩ = some (.slice Q1 Qn Qc) := OB1.2.cell 1
  have y1_2 : w3.cell? ⟨w.heap.size, 2, none⟩ = some (.slice Q2 Qm Qd) := OB1.2.cell 2
  have y1_f0 := OB1.2.frozen 0
  have y1_f1 := OB1.2.frozen 1
  have y1_f2 := OB1.2.frozen 2
  go_wp2_with fail
  refine (isone_any _ _ _ _ _ RX2).mono ?_
  rintro e w' ⟨rfl, rfl⟩
  rw [HON.out]
  go_wp2_with fail
  refine (int_any _ _ _ _ _ RX1 (by omega)).mono ?_
  rintro e w' ⟨rfl, rfl⟩
  rw [HVX.out, HK.out, HIV.out]
  go_wp2
  refine wp_region_facts (by kernel_rfl) w [Fact.eq (.pointer (some ⟨w.heap.size, 0, none⟩)), Fact.eq (.bool false), Fact.eq (.bool false), Fact.eq (undef), Fact.eq (undef), Fact.eq (undef), Fact.eq (undef), Fact.eq (undef), Fact.eq (.bool false), Fact.eq (.bool false)] [Fact.any] [⟨10, 1, 24, 10, #[.bool false, .slice Q1 Qn Qc, .slice Q2 Qm Qd]⟩] [w.heap.size] [none, none, none, none, none, none, none, none, none, none, none, none, none, none, none, none, none, none, none, none, none, none, none, none, none, none, none, none, some 28, some 29, some 30, some 31, some 32, some 33, some 34, some 35, some 36, some 37, none, none] (by kernel_rfl) (by kernel_rfl) (by kernel_rfl) rfl B ?_ ?_ ?_ ?_ ?_
  · exact ⟨fun _ => ⟨by simp, rfl, OB1⟩, trivial⟩
  · exact .inl ⟨Nat.le_refl _, trivial⟩
  · exact ⟨⟨noWords_R _ _ _ _ _ _ _, (.inl (Nat.le_refl _)), (.inl (Nat.le_refl _))⟩, trivial⟩
  · refine ⟨?_, ?_, ?_, ?_, ?_, ?_, ?_, ?_, ?_, ?_, trivial⟩
    · exact .inr fun a w hp => ob_yes rfl (ob_fieldR (hp.box (k := 0) rfl (Nat.le_refl _) (.inl (Nat.le_refl _)) (by kernel_rfl) rfl).1 (by decide) rfl)
    · exact .inr fun a w hp => ob_yes rfl (ob_loadB (hp.fact 0 29 (by kernel_rfl) rfl) (hp.box (k := 0) rfl (Nat.le_refl _) (.inl (Nat.le_refl _)) (by kernel_rfl) rfl).2 rfl rfl)
    · exact .inr fun a w hp => ob_yes rfl (ob_move (hp.fact 1 30 (by kernel_rfl) rfl))
    · exact .inr fun a w hp => ob_no (wanted_no (P := Tryz.prog) (j := 2) (d := 31) (b := false) rfl rfl (hp.fact 2 31 (by kernel_rfl) rfl)) rfl
    · exact .inr fun a w hp => ob_no (wanted_no (P := Tryz.prog) (j := 2) (d := 31) (b := false) rfl rfl (hp.fact 2 31 (by kernel_rfl) rfl)) rfl
    · exact .inr fun a w hp => ob_no (wanted_no (P := Tryz.prog) (j := 2) (d := 31) (b := false) rfl rfl (hp.fact 2 31 (by kernel_rfl) rfl)) rfl
    · exact .inr fun a w hp => ob_no (wanted_no (P := Tryz.prog) (j := 2) (d := 31) (b := false) rfl rfl (hp.fact 2 31 (by kernel_rfl) rfl)) rfl
    · exact .inr fun a w hp => ob_no (wanted_no (P := Tryz.prog) (j := 2) (d := 31) (b := false) rfl rfl (hp.fact 2 31 (by kernel_rfl) rfl)) rfl
    · refine .inr fun a w hp => ob_yes rfl ?_
      have h31 : a.tmps.getD 31 undef = .bool false := (hp.fact 2 31 (by kernel_rfl) rfl)
      have h36 : a.tmps.getD 36 undef = undef := (hp.fact 7 36 (by kernel_rfl) rfl)
      unfold Does
      go_simp
      exact ⟨_, rfl, On.refl _, rfl⟩
    · exact .inr fun a w hp => ob_yes rfl (ob_assign (hp.fact 8 37 (by kernel_rfl) rfl))
  · intro f wr hon hk hf hb hap
    obtain ⟨q0, qz⟩ := hb
    clear qz
    have O1 : Own wr (w.heap.size) 24 #[.bool false, .slice Q1 Qn Qc, .slice Q2 Qm Qd] := q0
    have c1_0 : wr.cell? ⟨w.heap.size, 0, none⟩ = some (.bool false) := O1.cell 0
    have z1_0 := O1.frozen 0
    have c1_1 : wr.cell? ⟨w.heap.size, 1, none⟩ = some (.slice Q1 Qn Qc) := O1.cell 1
    have z1_1 := O1.frozen 1
    have c1_2 : wr.cell? ⟨w.heap.size, 2, none⟩ = some (.slice Q2 Qm Qd) := O1.cell 2
    have z1_2 := O1.frozen 2
    clear q0
    have e28 : f 28 = .bool false := hf 9 28 rfl
    clear hf hap
    simp only [fillL, e28]
    clear e28
    go_wp2
    go_ret2
    exact ⟨rfl, hon⟩
set_option maxRecDepth 100000 in
set_option maxHeartbeats 1600000 in
theorem pint_mn (w : World) (v : Value) (r : Rat) (L : Nat) (h : Fld w v r L) (hL : L ≤ 4000) (hr : r ≠ 0) (hd : r.den = 1) (hn : decide (r < 0) = true) (hv : r.num.natAbs = 9223372036854775808) :
    Calls Tryz.prog 37 #[v] w fun e w' => e = .returned (.tuple #[.int .i64 (-9223372036854775808), .bool true]) ∧ On w w' := by
  obtain ⟨b, A, n, c, A', n', c', xs, ys, rfl, R, R', h1, h2, h3⟩ := id h
  clear h3
  have HR := Lib.hid hr
  have HZ : Hid (decide (r = 0) = false) := Lib.hid (by first | exact decide_eq_true hr | exact decide_eq_false hr)
  have HD := Lib.hid hd
  have HIV : Hid (intOfV r.num.natAbs = .tuple #[.int .i64 0, .bool false]) := Lib.hid (by unfold intOfV; rw [if_neg (by omega)])
  have HC : Hid (cmpI r.num.natAbs 9223372036854775808 = 0) := Lib.hid (cmpI_eq hv)
  have HS := Lib.hid hn
  clear hn
  obtain ⟨k, hk⟩ : ∃ x, r.num.natAbs = x := ⟨_, rfl⟩
  rw [hk] at hv HIV
  try rw [hk]
  have HK := Lib.hid hk
  clear hk
  rw [HK.out] at HC
  clear hv
  clear hr
  clear hd
  have B : On w (w.alloc (.cells #[.bool b, .slice A n c, .slice A' n' c'] 24)) := On.alloc (On.refl w) _
  have OB1 : w.heap.size ≤ w.heap.size ∧ Own (w.alloc (.cells #[.bool b, .slice A n c, .slice A' n' c'] 24)) (w.heap.size) 24 #[.bool b, .slice A n c, .slice A' n' c'] := ⟨by omega, (Own.at_ w (w.heap.size) (by simp) 24 #[.bool b, .slice A n c, .slice A' n' c'])⟩
  go_enter Tryz.func37, Tryz.ntmps37
  go_wp2_with fail
  refine (value_fld _ _ r L (h.on B) (by omega)).mono ?_
  rintro e w1 ⟨v1, rfl, I1, P1⟩
  obtain ⟨Q1, Qn, Qc, X1, Q2, Qm, Qd, X2, rfl, RX1, RX2, CX1, CX2, lx1, lx2, vx1, vx2⟩ := id I1
  rw [HS.out] at I1
  try rw [HS.out]
  replace OB1 := And.intro OB1.1 (OB1.2.on P1)
  replace B := B.trans P1
  have y1_0 : w1.cell? ⟨w.heap.size, 0, none⟩ = some (.bool b) := OB1.2.cell 0
  have y1_1 : w1.cell? ⟨w.heap.size, 1, none⟩ = some (.slice A n c) := OB1.2.cell 1
  have y1_2 : w1.cell? ⟨w.heap.size, 2, none⟩ = some (.slice A' n' c') := OB1.2.cell 2
  have y1_f0 := OB1.2.frozen 0
  have y1_f1 := OB1.2.frozen 1
  have y1_f2 := OB1.2.frozen 2
  have J := isR_put I1 OB1.2 (.bool true) (.slice Q1 Qn Qc) (.slice Q2 Qm Qd)
  have oo := only3 (w := w1) (g := w.heap.size) (.bool true) (.slice Q1 Qn Qc) (.slice Q2 Qm Qd)
  have hk1 := Kept.only oo OB1.2 (noWords_R _ _ _ _ _ _ _)
  replace RX1 := RX1.kept hk1
  replace RX2 := RX2.kept hk1
  clear hk1
  replace B := B.only oo (Nat.le_refl _)
  have O2 : Own (((w1.setCell ⟨w.heap.size, 0, none⟩ (.bool true)).setCell ⟨w.heap.size, 1, none⟩ (.slice Q1 Qn Qc)).setCell ⟨w.heap.size, 2, none⟩ (.slice Q2 Qm Qd)) (w.heap.size) 24 #[.bool true, .slice Q1 Qn Qc, .slice Q2 Qm Qd] := ((OB1.2.set_ 0 (.bool true)).set_ 1 (.slice Q1 Qn Qc)).set_ 2 (.slice Q2 Qm Qd)
  replace OB1 := And.intro OB1.1 O2
  clear O2 oo P1
  have HVX := Lib.hid vx1
  clear vx1
  have HON : Hid (decide (X2 = [1]) = true) := Lib.hid (by rw [val_one RX2.ok CX2, vx2, dn_ne HR.out]; first | exact decide_eq_true HD.out | exact decide_eq_false HD.out)
  clear vx2
  go_wp2_with fail
  refine (iszero_any _ _ r L J).mono ?_
  rintro e w3 ⟨rfl, P3⟩
  rw [HZ.out]
  clear y1_0 y1_f0 y1_1 y1_f1 y1_2 y1_f2
  replace OB1 := And.intro OB1.1 (OB1.2.on P3)
  replace B := B.trans P3
  replace RX1 := RX1.on P3
  replace RX2 := RX2.on P3
  have y1_0 : w3.cell? ⟨w.heap.size, 0, none⟩ = some (.bool true) := OB1.2.cell 0
  have y1_1 : w3.cell? ⟨w.heap.size, 1, none⟩ = some (.slice Q1 Qn Qc) := OB1.2.cell 1
  have y1_2 : w3.cell? ⟨w.heap.size, 2, none⟩ = some (.slice Q2 Qm Qd) := OB1.2.cell 2
  have y1_f0 := OB1.2.frozen 0
  have y1_f1 := OB1.2.frozen 1
  have y1_f2 := OB1.2.frozen 2
  go_wp2_with fail
  refine (isone_any _ _ _ _ _ RX2).mono ?_
  rintro e w' ⟨rfl, rfl⟩
  rw [HON.out]
  go_wp2_with fail
  refine (int_any _ _ _ _ _ RX1 (by omega)).mono ?_
  rintro e w' ⟨rfl, rfl⟩
  rw [HVX.out, HK.out, HIV.out]
  go_wp2
  refine wp_region_facts (by kernel_rfl) w [Fact.eq (.pointer (some ⟨w.heap.size, 0, none⟩)), Fact.eq (.bool true), Fact.eq (.bool true), Fact.eq (.pointer (some ⟨w.heap.size, 1, none⟩)), Fact.eq (.slice Q1 Qn Qc), Fact.nm (9223372036854775808) (2), Fact.eq (.int .i64 0), Fact.eq (.bool true), Fact.eq (.bool true), Fact.eq (.bool true)] [Fact.any] [⟨10, 1, 24, 10, #[.bool true, .slice Q1 Qn Qc, .slice Q2 Qm Qd]⟩] [w.heap.size] [none, none, none, none, none, none, none, none, none, none, none, none, none, none, none, none, none, none, none, none, none, none, none, none, none, none, none, none, some 28, some 29, some 30, some 31, some 32, some 33, some 34, some 35, some 36, some 37, none, none] (by kernel_rfl) (by kernel_rfl) (by kernel_rfl) rfl B ?_ ?_ ?_ ?_ ?_
  · exact ⟨fun _ => ⟨by simp, rfl, OB1⟩, trivial⟩
  · exact .inl ⟨Nat.le_refl _, trivial⟩
  · exact ⟨⟨noWords_R _ _ _ _ _ _ _, (.inl (Nat.le_refl _)), (.inl (Nat.le_refl _))⟩, trivial⟩
  · refine ⟨?_, ?_, ?_, ?_, ?_, ?_, ?_, ?_, ?_, ?_, trivial⟩
    · exact .inr fun a w hp => ob_yes rfl (ob_fieldR (hp.box (k := 0) rfl (Nat.le_refl _) (.inl (Nat.le_refl _)) (by kernel_rfl) rfl).1 (by decide) rfl)
    · exact .inr fun a w hp => ob_yes rfl (ob_loadB (hp.fact 0 29 (by kernel_rfl) rfl) (hp.box (k := 0) rfl (Nat.le_refl _) (.inl (Nat.le_refl _)) (by kernel_rfl) rfl).2 rfl rfl)
    · exact .inr fun a w hp => ob_yes rfl (ob_move (hp.fact 1 30 (by kernel_rfl) rfl))
    · exact .inr fun a w hp => ob_yes (wanted_yes (P := Tryz.prog) (j := 2) (d := 31) (b := true) rfl rfl (hp.fact 2 31 (by kernel_rfl) rfl)) (ob_fieldR (hp.box (k := 0) rfl (Nat.le_refl _) (.inl (Nat.le_refl _)) (by kernel_rfl) rfl).1 (by decide) rfl)
    · exact .inr fun a w hp => ob_yes (wanted_yes (P := Tryz.prog) (j := 2) (d := 31) (b := true) rfl rfl (hp.fact 2 31 (by kernel_rfl) rfl)) (ob_loadS (hp.fact 3 32 (by kernel_rfl) rfl) (hp.box (k := 0) rfl (Nat.le_refl _) (.inl (Nat.le_refl _)) (by kernel_rfl) rfl).2 rfl rfl)
    · refine .inr fun a w hp => ob_yes (wanted_yes (P := Tryz.prog) (j := 2) (d := 31) (b := true) rfl rfl (hp.fact 2 31 (by kernel_rfl) rfl)) ?_
      unfold Does
      go_simp
      refine (mag_any _ _ (by decide) (by decide)).mono ?_
      rintro e w' ⟨A8, zs8, rfl, R8, V8, P8⟩
      exact ⟨_, rfl, P8, _, _, _, rfl, zs8, R8, clean_two R8.len V8 R8.ok, V8, by decide⟩
    · refine .inr fun a w hp => ob_yes (wanted_yes (P := Tryz.prog) (j := 2) (d := 31) (b := true) rfl rfl (hp.fact 2 31 (by kernel_rfl) rfl)) ?_
      have h33 : a.tmps.getD 33 undef = .slice Q1 Qn Qc := (hp.fact 4 33 (by kernel_rfl) rfl)
      obtain ⟨A34, n34, c34, e34, h34⟩ : ∃ A n c, a.tmps.getD 34 undef = .slice A n c ∧ Nm w A n c (9223372036854775808) (2) := (hp.fact 5 34 (by kernel_rfl) rfl)
      unfold Does
      go_simp
      obtain ⟨zs, RZ, CZ, VZ, LZ⟩ := h34
      refine (cmp_any _ _ _ _ _ _ _ _ _ (RX1.kept hp.kept) RZ).mono ?_
      rintro e w' ⟨rfl, P8⟩
      rw [VZ, HVX.out, HK.out, HC.out]
      exact ⟨_, rfl, P8, rfl⟩
    · refine .inr fun a w hp => ob_yes (wanted_yes (P := Tryz.prog) (j := 2) (d := 31) (b := true) rfl rfl (hp.fact 2 31 (by kernel_rfl) rfl)) ?_
      have h35 : a.tmps.getD 35 undef = .int .i64 0 := (hp.fact 6 35 (by kernel_rfl) rfl)
      unfold Does
      go_simp
      exact ⟨_, rfl, On.refl _, by show Value.bool _ = Value.bool _; first | rfl | (simp; done)⟩
    · refine .inr fun a w hp => ob_yes rfl ?_
      have h31 : a.tmps.getD 31 undef = .bool true := (hp.fact 2 31 (by kernel_rfl) rfl)
      have h36 : a.tmps.getD 36 undef = .bool true := (hp.fact 7 36 (by kernel_rfl) rfl)
      unfold Does
      go_simp
      exact ⟨_, rfl, On.refl _, rfl⟩
    · exact .inr fun a w hp => ob_yes rfl (ob_assign (hp.fact 8 37 (by kernel_rfl) rfl))
  · intro f wr hon hk hf hb hap
    obtain ⟨q0, qz⟩ := hb
    clear qz
    have O1 : Own wr (w.heap.size) 24 #[.bool true, .slice Q1 Qn Qc, .slice Q2 Qm Qd] := q0
    have c1_0 : wr.cell? ⟨w.heap.size, 0, none⟩ = some (.bool true) := O1.cell 0
    have z1_0 := O1.frozen 0
    have c1_1 : wr.cell? ⟨w.heap.size, 1, none⟩ = some (.slice Q1 Qn Qc) := O1.cell 1
    have z1_1 := O1.frozen 1
    have c1_2 : wr.cell? ⟨w.heap.size, 2, none⟩ = some (.slice Q2 Qm Qd) := O1.cell 2
    have z1_2 := O1.frozen 2
    clear q0
    have e28 : f 28 = .bool true := hf 9 28 rfl
    clear hf hap
    simp only [fillL, e28]
    clear e28
    go_wp2
    go_ret2
    exact ⟨rfl, hon⟩
set_option maxRecDepth 100000 in
set_option maxHeartbeats 1600000 in
theorem pint_bn (w : World) (v : Value) (r : Rat) (L : Nat) (h : Fld w v r L) (hL : L ≤ 4000) (hr : r ≠ 0) (hd : r.den = 1) (hn : decide (r < 0) = true) (hv : 9223372036854775808 < r.num.natAbs) :
    Calls Tryz.prog 37 #[v] w fun e w' => e = .returned (.tuple #[.int .i64 0, .bool false]) ∧ On w w' := by
  obtain ⟨b, A, n, c, A', n', c', xs, ys, rfl, R, R', h1, h2, h3⟩ := id h
  clear h3
  have HR := Lib.hid hr
  have HZ : Hid (decide (r = 0) = false) := Lib.hid (by first | exact decide_eq_true hr | exact decide_eq_false hr)
  have HD := Lib.hid hd
  have HIV : Hid (intOfV r.num.natAbs = .tuple #[.int .i64 0, .bool false]) := Lib.hid (by unfold intOfV; rw [if_neg (by omega)])
  have HC : Hid (cmpI r.num.natAbs 9223372036854775808 = 1) := Lib.hid (cmpI_gt hv)
  have HS := Lib.hid hn
  clear hn
  obtain ⟨k, hk⟩ : ∃ x, r.num.natAbs = x := ⟨_, rfl⟩
  rw [hk] at hv HIV
  try rw [hk]
  have HK := Lib.hid hk
  clear hk
  rw [HK.out] at HC
  clear hv
  clear hr
  clear hd
  have B : On w (w.alloc (.cells #[.bool b, .slice A n c, .slice A' n' c'] 24)) := On.alloc (On.refl w) _
  have OB1 : w.heap.size ≤ w.heap.size ∧ Own (w.alloc (.cells #[.bool b, .slice A n c, .slice A' n' c'] 24)) (w.heap.size) 24 #[.bool b, .slice A n c, .slice A' n' c'] := ⟨by omega, (Own.at_ w (w.heap.size) (by simp) 24 #[.bool b, .slice A n c, .slice A' n' c'])⟩
  go_enter Tryz.func37, Tryz.ntmps37
  go_wp2_with fail
  refine (value_fld _ _ r L (h.on B) (by omega)).mono ?_
  rintro e w1 ⟨v1, rfl, I1, P1⟩
  obtain ⟨Q1, Qn, Qc, X1, Q2, Qm, Qd, X2, rfl, RX1, RX2, CX1, CX2, lx1, lx2, vx1, vx2⟩ := id I1
  rw [HS.out] at I1
  try rw [HS.out]
  replace OB1 := And.intro OB1.1 (OB1.2.on P1)
  replace B := B.trans P1
  have y1_0 : w1.cell? ⟨w.heap.size, 0, none⟩ = some (.bool b) := OB1.2.cell 0
  have y1_1 : w1.cell? ⟨w.heap.size, 1, none⟩ = some (.slice A n c) := OB1.2.cell 1
  have y1_2 : w1.cell? ⟨w.heap.size, 2, none⟩ = some (.slice A' n' c') := OB1.2.cell 2
  have y1_f0 := OB1.2.frozen 0
  have y1_f1 := OB1.2.frozen 1
  have y1_f2 := OB1.2.frozen 2
  have J := isR_put I1 OB1.2 (.bool true) (.slice Q1 Qn Qc) (.slice Q2 Qm Qd)
  have oo := only3 (w := w1) (g := w.heap.size) (.bool true) (.slice Q1 Qn Qc) (.slice Q2 Qm Qd)
  have hk1 := Kept.only oo OB1.2 (noWords_R _ _ _ _ _ _ _)
  replace RX1 := RX1.kept hk1
  replace RX2 := RX2.kept hk1
  clear hk1
  replace B := B.only oo (Nat.le_refl _)
  have O2 : Own (((w1.setCell ⟨w.heap.size, 0, none⟩ (.bool true)).setCell ⟨w.heap.size, 1, none⟩ (.slice Q1 Qn Qc)).setCell ⟨w.heap.size, 2, none⟩ (.slice Q2 Qm Qd)) (w.heap.size) 24 #[.bool true, .slice Q1 Qn Qc, .slice Q2 Qm Qd] := ((OB1.2.set_ 0 (.bool true)).set_ 1 (.slice Q1 Qn Qc)).set_ 2 (.slice Q2 Qm Qd)
  replace OB1 := And.intro OB1.1 O2
  clear O2 oo P1
  have HVX := Lib.hid vx1
  clear vx1
  have HON : Hid (decide (X2 = [1]) = true) := Lib.hid (by rw [val_one RX2.ok CX2, vx2, dn_ne HR.out]; first | exact decide_eq_true HD.out | exact decide_eq_false HD.out)
  clear vx2
  go_wp2_with fail
  refine (iszero_any _ _ r L J).mono ?_
  rintro e w3 ⟨rfl, P3⟩
  rw [HZ.out]
  clear y1_0 y1_f0 y1_1 y1_f1 y1_2 y1_f2
  replace OB1 := And.intro OB1.1 (OB1.2.on P3)
  replace B := B.trans P3
  replace RX1 := RX1.on P3
  replace RX2 := RX2.on P3
  have y1_0 : w3.cell? ⟨w.heap.size, 0, none⟩ = some (.bool true) := OB1.2.cell 0
  have y1_1 : w3.cell? ⟨w.heap.size, 1, none⟩ = some (.slice Q1 Qn Qc) := OB1.2.cell 1
  have y1_2 : w3.cell? ⟨w.heap.size, 2, none⟩ = some (.slice Q2 Qm Qd) := OB1.2.cell 2
  have y1_f0 := OB1.2.frozen 0
  have y1_f1 := OB1.2.frozen 1
  have y1_f2 := OB1.2.frozen 2
  go_wp2_with fail
  refine (isone_any _ _ _ _ _ RX2).mono ?_
  rintro e w' ⟨rfl, rfl⟩
  rw [HON.out]
  go_wp2_with fail
  refine (int_any _ _ _ _ _ RX1 (by omega)).mono ?_
  rintro e w' ⟨rfl, rfl⟩
  rw [HVX.out, HK.out, HIV.out]
  go_wp2
  refine wp_region_facts (by kernel_rfl) w [Fact.eq (.pointer (some ⟨w.heap.size, 0, none⟩)), Fact.eq (.bool true), Fact.eq (.bool true), Fact.eq (.pointer (some ⟨w.heap.size, 1, none⟩)), Fact.eq (.slice Q1 Qn Qc), Fact.nm (9223372036854775808) (2), Fact.eq (.int .i64 1), Fact.eq (.bool false), Fact.eq (.bool false), Fact.eq (.bool false)] [Fact.any] [⟨10, 1, 24, 10, #[.bool true, .slice Q1 Qn Qc, .slice Q2 Qm Qd]⟩] [w.heap.size] [none, none, none, none, none, none, none, none, none, none, none, none, none, none, none, none, none, none, none, none, none, none, none, none, none, none, none, none, some 28, some 29, some 30, some 31, some 32, some 33, some 34, some 35, some 36, some 37, none, none] (by kernel_rfl) (by kernel_rfl) (by kernel_rfl) rfl B ?_ ?_ ?_ ?_ ?_
  · exact ⟨fun _ => ⟨by simp, rfl, OB1⟩, trivial⟩
  · exact .inl ⟨Nat.le_refl _, trivial⟩
  · exact ⟨⟨noWords_R _ _ _ _ _ _ _, (.inl (Nat.le_refl _)), (.inl (Nat.le_refl _))⟩, trivial⟩
  · refine ⟨?_, ?_, ?_, ?_, ?_, ?_, ?_, ?_, ?_, ?_, trivial⟩
    · exact .inr fun a w hp => ob_yes rfl (ob_fieldR (hp.box (k := 0) rfl (Nat.le_refl _) (.inl (Nat.le_refl _)) (by kernel_rfl) rfl).1 (by decide) rfl)
    · exact .inr fun a w hp => ob_yes rfl (ob_loadB (hp.fact 0 29 (by kernel_rfl) rfl) (hp.box (k := 0) rfl (Nat.le_refl _) (.inl (Nat.le_refl _)) (by kernel_rfl) rfl).2 rfl rfl)
    · exact .inr fun a w hp => ob_yes rfl (ob_move (hp.fact 1 30 (by kernel_rfl) rfl))
    · exact .inr fun a w hp => ob_yes (wanted_yes (P := Tryz.prog) (j := 2) (d := 31) (b := true) rfl rfl (hp.fact 2 31 (by kernel_rfl) rfl)) (ob_fieldR (hp.box (k := 0) rfl (Nat.le_refl _) (.inl (Nat.le_refl _)) (by kernel_rfl) rfl).1 (by decide) rfl)
    · exact .inr fun a w hp => ob_yes (wanted_yes (P := Tryz.prog) (j := 2) (d := 31) (b := true) rfl rfl (hp.fact 2 31 (by kernel_rfl) rfl)) (ob_loadS (hp.fact 3 32 (by kernel_rfl) rfl) (hp.box (k := 0) rfl (Nat.le_refl _) (.inl (Nat.le_refl _)) (by kernel_rfl) rfl).2 rfl rfl)
    · refine .inr fun a w hp => ob_yes (wanted_yes (P := Tryz.prog) (j := 2) (d := 31) (b := true) rfl rfl (hp.fact 2 31 (by kernel_rfl) rfl)) ?_
      unfold Does
      go_simp
      refine (mag_any _ _ (by decide) (by decide)).mono ?_
      rintro e w' ⟨A8, zs8, rfl, R8, V8, P8⟩
      exact ⟨_, rfl, P8, _, _, _, rfl, zs8, R8, clean_two R8.len V8 R8.ok, V8, by decide⟩
    · refine .inr fun a w hp => ob_yes (wanted_yes (P := Tryz.prog) (j := 2) (d := 31) (b := true) rfl rfl (hp.fact 2 31 (by kernel_rfl) rfl)) ?_
      have h33 : a.tmps.getD 33 undef = .slice Q1 Qn Qc := (hp.fact 4 33 (by kernel_rfl) rfl)
      obtain ⟨A34, n34, c34, e34, h34⟩ : ∃ A n c, a.tmps.getD 34 undef = .slice A n c ∧ Nm w A n c (9223372036854775808) (2) := (hp.fact 5 34 (by kernel_rfl) rfl)
      unfold Does
      go_simp
      obtain ⟨zs, RZ, CZ, VZ, LZ⟩ := h34
      refine (cmp_any _ _ _ _ _ _ _ _ _ (RX1.kept hp.kept) RZ).mono ?_
      rintro e w' ⟨rfl, P8⟩
      rw [VZ, HVX.out, HK.out, HC.out]
      exact ⟨_, rfl, P8, rfl⟩
    · refine .inr fun a w hp => ob_yes (wanted_yes (P := Tryz.prog) (j := 2) (d := 31) (b := true) rfl rfl (hp.fact 2 31 (by kernel_rfl) rfl)) ?_
      have h35 : a.tmps.getD 35 undef = .int .i64 1 := (hp.fact 6 35 (by kernel_rfl) rfl)
      unfold Does
      go_simp
      exact ⟨_, rfl, On.refl _, by show Value.bool _ = Value.bool _; first | rfl | (simp; done)⟩
    · refine .inr fun a w hp => ob_yes rfl ?_
      have h31 : a.tmps.getD 31 undef = .bool true := (hp.fact 2 31 (by kernel_rfl) rfl)
      have h36 : a.tmps.getD 36 undef = .bool false := (hp.fact 7 36 (by kernel_rfl) rfl)
      unfold Does
      go_simp
      exact ⟨_, rfl, On.refl _, rfl⟩
    · exact .inr fun a w hp => ob_yes rfl (ob_assign (hp.fact 8 37 (by kernel_rfl) rfl))
  · intro f wr hon hk hf hb hap
    obtain ⟨q0, qz⟩ := hb
    clear qz
    have O1 : Own wr (w.heap.size) 24 #[.bool true, .slice Q1 Qn Qc, .slice Q2 Qm Qd] := q0
    have c1_0 : wr.cell? ⟨w.heap.size, 0, none⟩ = some (.bool true) := O1.cell 0
    have z1_0 := O1.frozen 0
    have c1_1 : wr.cell? ⟨w.heap.size, 1, none⟩ = some (.slice Q1 Qn Qc) := O1.cell 1
    have z1_1 := O1.frozen 1
    have c1_2 : wr.cell? ⟨w.heap.size, 2, none⟩ = some (.slice Q2 Qm Qd) := O1.cell 2
    have z1_2 := O1.frozen 2
    clear q0
    have e28 : f 28 = .bool false := hf 9 28 rfl
    clear hf hap
    simp only [fillL, e28]
    clear e28
    go_wp2
    go_ret2
    exact ⟨rfl, hon⟩
set_option maxRecDepth 100000 in
set_option maxHeartbeats 1600000 in
theorem sint_nd (w : World) (v : Value) (r : Rat) (L : Nat) (h : Fld w v r L) (hL1 : 1 ≤ L) (hL : L ≤ 4000) (hd : r.den ≠ 1) :
    Calls Tryz.prog 38 #[v] w fun e w' => e = .returned (.tuple #[.int .i64 0, .bool false]) ∧ On w w' := by
  obtain ⟨b, A, n, c, A', n', c', xs, ys, rfl, R, R', h1, h2, h3⟩ := id h
  clear h3
  have hdp := r.den_pos
  have HDC : Hid (cmpI r.den 1 = 1) := Lib.hid (cmpI_gt (by omega))
  clear hdp hd
  have B : On w (w.alloc (.cells #[.bool b, .slice A n c, .slice A' n' c'] 24)) := On.alloc (On.refl w) _
  have OB1 : w.heap.size ≤ w.heap.size ∧ Own (w.alloc (.cells #[.bool b, .slice A n c, .slice A' n' c'] 24)) (w.heap.size) 24 #[.bool b, .slice A n c, .slice A' n' c'] := ⟨by omega, (Own.at_ w (w.heap.size) (by simp) 24 #[.bool b, .slice A n c, .slice A' n' c'])⟩
  go_enter Tryz.func38, Tryz.ntmps38
  go_wp2_with fail
  refine (parts_any _ _ r L (h.on B) hL1 (by omega)).mono ?_
  rintro e w1 ⟨E1, m1, o1, E2, m2, o2, us, vs, rfl, U, U', CU, k1, k2, V1, V2, P1⟩
  have HV1 := Lib.hid V1
  have HV2 := Lib.hid V2
  clear V1 V2
  replace B := B.trans P1
  clear P1
  have PA := (On.refl w1).alloc (.cells #[.int .u32 1] 65)
  have R1 := rd_one w1 65 1 (by decide)
  replace U := U.on PA
  replace U' := U'.on PA
  replace B := B.trans PA
  go_wp2_with fail
  refine (rcmp_any _ _ _ _ _ _ _ _ _ U' R1 (by omega) (by omega)).mono ?_
  rintro e w2 ⟨rfl, rfl⟩
  rw [show val [1] = 1 from rfl, HV2.out, HDC.out]
  go_wp2
  go_ret2
  exact ⟨rfl, B⟩
set_option maxRecDepth 100000 in
set_option maxHeartbeats 1600000 in
theorem sint_sn (w : World) (v : Value) (r : Rat) (L : Nat) (h : Fld w v r L) (hL1 : 1 ≤ L) (hL : L ≤ 4000) (hd : r.den = 1) (hn : decide (r < 0) = true) (hv : r.num.natAbs < 9223372036854775808) :
    Calls Tryz.prog 38 #[v] w fun e w' => e = .returned (.tuple #[.int .i64 (-(r.num.natAbs : Int)), .bool true]) ∧ On w w' := by
  obtain ⟨b, A, n, c, A', n', c', xs, ys, rfl, R, R', h1, h2, h3⟩ := id h
  clear h3
  have hdp := r.den_pos
  have HDC : Hid (cmpI r.den 1 = 0) := Lib.hid (cmpI_eq hd)
  clear hdp hd
  have HIV : Hid (intOfV r.num.natAbs = .tuple #[.int .i64 (r.num.natAbs : Int), .bool true]) := Lib.hid (by unfold intOfV; rw [if_pos hv])
  have HC : Hid (cmpI r.num.natAbs 9223372036854775808 = -1) := Lib.hid (cmpI_lt hv)
  have HS := Lib.hid hn
  clear hn
  obtain ⟨k, hk⟩ : ∃ x, r.num.natAbs = x := ⟨_, rfl⟩
  rw [hk] at hv HIV
  try rw [hk]
  have HK := Lib.hid hk
  clear hk
  rw [HK.out] at HC
  have B : On w (w.alloc (.cells #[.bool b, .slice A n c, .slice A' n' c'] 24)) := On.alloc (On.refl w) _
  have OB1 : w.heap.size ≤ w.heap.size ∧ Own (w.alloc (.cells #[.bool b, .slice A n c, .slice A' n' c'] 24)) (w.heap.size) 24 #[.bool b, .slice A n c, .slice A' n' c'] := ⟨by omega, (Own.at_ w (w.heap.size) (by simp) 24 #[.bool b, .slice A n c, .slice A' n' c'])⟩
  go_enter Tryz.func38, Tryz.ntmps38
  go_wp2_with fail
  refine (parts_any _ _ r L (h.on B) hL1 (by omega)).mono ?_
  rintro e w1 ⟨E1, m1, o1, E2, m2, o2, us, vs, rfl, U, U', CU, k1, k2, V1, V2, P1⟩
  rw [HS.out]
  have HV1 := Lib.hid V1
  have HV2 := Lib.hid V2
  clear V1 V2
  replace B := B.trans P1
  clear P1
  have PA := (On.refl w1).alloc (.cells #[.int .u32 1] 65)
  have R1 := rd_one w1 65 1 (by decide)
  replace U := U.on PA
  replace U' := U'.on PA
  replace B := B.trans PA
  go_wp2_with fail
  refine (rcmp_any _ _ _ _ _ _ _ _ _ U' R1 (by omega) (by omega)).mono ?_
  rintro e w2 ⟨rfl, rfl⟩
  rw [show val [1] = 1 from rfl, HV2.out, HDC.out]
  have PB := (On.refl (w1.alloc (.cells #[.int .u32 1] 65))).alloc (.cells #[.int .u32 0, .int .u32 2147483648] 65)
  obtain ⟨ms, R2, VM⟩ : ∃ ms, Rd ((w1.alloc (.cells #[.int .u32 1] 65)).alloc (.cells #[.int .u32 0, .int .u32 2147483648] 65)) (some ⟨w1.heap.size + 1, 0, none⟩) 2 2 ms ∧ val ms = 9223372036854775808 := by
    have h := rd_min (w1.alloc (.cells #[.int .u32 1] 65)) 65
    rw [show ((w1.alloc (.cells #[.int .u32 1] 65))).heap.size = w1.heap.size + 1 from by simp] at h
    exact ⟨_, h, val_min⟩
  have HVM := Lib.hid VM
  clear VM
  replace U := U.on PB
  replace B := B.trans PB
  go_wp2_with fail
  refine (rcmp_any _ _ _ _ _ _ _ _ _ U R2 (by omega) (by omega)).mono ?_
  rintro e w2 ⟨rfl, rfl⟩
  rw [HVM.out, HV1.out, HK.out, HC.out]
  go_wp2_with fail
  refine (rint_any _ _ _ _ _ U (by omega)).mono ?_
  rintro e w2 ⟨rfl, rfl⟩
  rw [HV1.out, HK.out, HIV.out]
  go_wp2
  go_ret2
  exact ⟨rfl, B⟩
set_option maxRecDepth 100000 in
set_option maxHeartbeats 1600000 in
theorem sint_ps (w : World) (v : Value) (r : Rat) (L : Nat) (h : Fld w v r L) (hL1 : 1 ≤ L) (hL : L ≤ 4000) (hd : r.den = 1) (hn : decide (r < 0) = false) (hv : r.num.natAbs < 9223372036854775808) :
    Calls Tryz.prog 38 #[v] w fun e w' => e = .returned (.tuple #[.int .i64 (r.num.natAbs : Int), .bool true]) ∧ On w w' := by
  obtain ⟨b, A, n, c, A', n', c', xs, ys, rfl, R, R', h1, h2, h3⟩ := id h
  clear h3
  have hdp := r.den_pos
  have HDC : Hid (cmpI r.den 1 = 0) := Lib.hid (cmpI_eq hd)
  clear hdp hd
  have HIV : Hid (intOfV r.num.natAbs = .tuple #[.int .i64 (r.num.natAbs : Int), .bool true]) := Lib.hid (by unfold intOfV; rw [if_pos hv])
  have HS := Lib.hid hn
  clear hn
  obtain ⟨k, hk⟩ : ∃ x, r.num.natAbs = x := ⟨_, rfl⟩
  rw [hk] at hv HIV
  try rw [hk]
  have HK := Lib.hid hk
  clear hk
  have B : On w (w.alloc (.cells #[.bool b, .slice A n c, .slice A' n' c'] 24)) := On.alloc (On.refl w) _
  have OB1 : w.heap.size ≤ w.heap.size ∧ Own (w.alloc (.cells #[.bool b, .slice A n c, .slice A' n' c'] 24)) (w.heap.size) 24 #[.bool b, .slice A n c, .slice A' n' c'] := ⟨by omega, (Own.at_ w (w.heap.size) (by simp) 24 #[.bool b, .slice A n c, .slice A' n' c'])⟩
  go_enter Tryz.func38, Tryz.ntmps38
  go_wp2_with fail
  refine (parts_any _ _ r L (h.on B) hL1 (by omega)).mono ?_
  rintro e w1 ⟨E1, m1, o1, E2, m2, o2, us, vs, rfl, U, U', CU, k1, k2, V1, V2, P1⟩
  rw [HS.out]
  have HV1 := Lib.hid V1
  have HV2 := Lib.hid V2
  clear V1 V2
  replace B := B.trans P1
  clear P1
  have PA := (On.refl w1).alloc (.cells #[.int .u32 1] 65)
  have R1 := rd_one w1 65 1 (by decide)
  replace U := U.on PA
  replace U' := U'.on PA
  replace B := B.trans PA
  go_wp2_with fail
  refine (rcmp_any _ _ _ _ _ _ _ _ _ U' R1 (by omega) (by omega)).mono ?_
  rintro e w2 ⟨rfl, rfl⟩
  rw [show val [1] = 1 from rfl, HV2.out, HDC.out]
  go_wp2_with fail
  refine (rint_any _ _ _ _ _ U (by omega)).mono ?_
  rintro e w2 ⟨rfl, rfl⟩
  rw [HV1.out, HK.out, HIV.out]
  go_wp2
  go_ret2
  exact ⟨rfl, B⟩
set_option maxRecDepth 100000 in
set_option maxHeartbeats 1600000 in
theorem sint_pb (w : World) (v : Value) (r : Rat) (L : Nat) (h : Fld w v r L) (hL1 : 1 ≤ L) (hL : L ≤ 4000) (hd : r.den = 1) (hn : decide (r < 0) = false) (hv : 9223372036854775808 ≤ r.num.natAbs) :
    Calls Tryz.prog 38 #[v] w fun e w' => e = .returned (.tuple #[.int .i64 0, .bool false]) ∧ On w w' := by
  obtain ⟨b, A, n, c, A', n', c', xs, ys, rfl, R, R', h1, h2, h3⟩ := id h
  clear h3
  have hdp := r.den_pos
  have HDC : Hid (cmpI r.den 1 = 0) := Lib.hid (cmpI_eq hd)
  clear hdp hd
  have HIV : Hid (intOfV r.num.natAbs = .tuple #[.int .i64 0, .bool false]) := Lib.hid (by unfold intOfV; rw [if_neg (by omega)])
  have HS := Lib.hid hn
  clear hn
  obtain ⟨k, hk⟩ : ∃ x, r.num.natAbs = x := ⟨_, rfl⟩
  rw [hk] at hv HIV
  try rw [hk]
  have HK := Lib.hid hk
  clear hk
  clear hv
  have B : On w (w.alloc (.cells #[.bool b, .slice A n c, .slice A' n' c'] 24)) := On.alloc (On.refl w) _
  have OB1 : w.heap.size ≤ w.heap.size ∧ Own (w.alloc (.cells #[.bool b, .slice A n c, .slice A' n' c'] 24)) (w.heap.size) 24 #[.bool b, .slice A n c, .slice A' n' c'] := ⟨by omega, (Own.at_ w (w.heap.size) (by simp) 24 #[.bool b, .slice A n c, .slice A' n' c'])⟩
  go_enter Tryz.func38, Tryz.ntmps38
  go_wp2_with fail
  refine (parts_any _ _ r L (h.on B) hL1 (by omega)).mono ?_
  rintro e w1 ⟨E1, m1, o1, E2, m2, o2, us, vs, rfl, U, U', CU, k1, k2, V1, V2, P1⟩
  rw [HS.out]
  have HV1 := Lib.hid V1
  have HV2 := Lib.hid V2
  clear V1 V2
  replace B := B.trans P1
  clear P1
  have PA := (On.refl w1).alloc (.cells #[.int .u32 1] 65)
  have R1 := rd_one w1 65 1 (by decide)
  replace U := U.on PA
  replace U' := U'.on PA
  replace B := B.trans PA
  go_wp2_with fail
  refine (rcmp_any _ _ _ _ _ _ _ _ _ U' R1 (by omega) (by omega)).mono ?_
  rintro e w2 ⟨rfl, rfl⟩
  rw [show val [1] = 1 from rfl, HV2.out, HDC.out]
  go_wp2_with fail
  refine (rint_any _ _ _ _ _ U (by omega)).mono ?_
  rintro e w2 ⟨rfl, rfl⟩
  rw [HV1.out, HK.out, HIV.out]
  go_wp2
  go_ret2
  exact ⟨rfl, B⟩
set_option maxRecDepth 100000 in
set_option maxHeartbeats 1600000 in
theorem sint_mn (w : World) (v : Value) (r : Rat) (L : Nat) (h : Fld w v r L) (hL1 : 1 ≤ L) (hL : L ≤ 4000) (hd : r.den = 1) (hn : decide (r < 0) = true) (hv : r.num.natAbs = 9223372036854775808) :
    Calls Tryz.prog 38 #[v] w fun e w' => e = .returned (.tuple #[.int .i64 (-9223372036854775808), .bool true]) ∧ On w w' := by
  obtain ⟨b, A, n, c, A', n', c', xs, ys, rfl, R, R', h1, h2, h3⟩ := id h
  clear h3
  have hdp := r.den_pos
  have HDC : Hid (cmpI r.den 1 = 0) := Lib.hid (cmpI_eq hd)
  clear hdp hd
  have HIV : Hid (intOfV r.num.natAbs = .tuple #[.int .i64 0, .bool false]) := Lib.hid (by unfold intOfV; rw [if_neg (by omega)])
  have HC : Hid (cmpI r.num.natAbs 9223372036854775808 = 0) := Lib.hid (cmpI_eq hv)
  have HS := Lib.hid hn
  clear hn
  obtain ⟨k, hk⟩ : ∃ x, r.num.natAbs = x := ⟨_, rfl⟩
  rw [hk] at hv HIV
  try rw [hk]
  have HK := Lib.hid hk
  clear hk
  rw [HK.out] at HC
  clear hv
  have B : On w (w.alloc (.cells #[.bool b, .slice A n c, .slice A' n' c'] 24)) := On.alloc (On.refl w) _
  have OB1 : w.heap.size ≤ w.heap.size ∧ Own (w.alloc (.cells #[.bool b, .slice A n c, .slice A' n' c'] 24)) (w.heap.size) 24 #[.bool b, .slice A n c, .slice A' n' c'] := ⟨by omega, (Own.at_ w (w.heap.size) (by simp) 24 #[.bool b, .slice A n c, .slice A' n' c'])⟩
  go_enter Tryz.func38, Tryz.ntmps38
  go_wp2_with fail
  refine (parts_any _ _ r L (h.on B) hL1 (by omega)).mono ?_
  rintro e w1 ⟨E1, m1, o1, E2, m2, o2, us, vs, rfl, U, U', CU, k1, k2, V1, V2, P1⟩
  rw [HS.out]
  have HV1 := Lib.hid V1
  have HV2 := Lib.hid V2
  clear V1 V2
  replace B := B.trans P1
  clear P1
  have PA := (On.refl w1).alloc (.cells #[.int .u32 1] 65)
  have R1 := rd_one w1 65 1 (by decide)
  replace U := U.on PA
  replace U' := U'.on PA
  replace B := B.trans PA
  go_wp2_with fail
  refine (rcmp_any _ _ _ _ _ _ _ _ _ U' R1 (by omega) (by omega)).mono ?_
  rintro e w2 ⟨rfl, rfl⟩
  rw [show val [1] = 1 from rfl, HV2.out, HDC.out]
  have PB := (On.refl (w1.alloc (.cells #[.int .u32 1] 65))).alloc (.cells #[.int .u32 0, .int .u32 2147483648] 65)
  obtain ⟨ms, R2, VM⟩ : ∃ ms, Rd ((w1.alloc (.cells #[.int .u32 1] 65)).alloc (.cells #[.int .u32 0, .int .u32 2147483648] 65)) (some ⟨w1.heap.size + 1, 0, none⟩) 2 2 ms ∧ val ms = 9223372036854775808 := by
    have h := rd_min (w1.alloc (.cells #[.int .u32 1] 65)) 65
    rw [show ((w1.alloc (.cells #[.int .u32 1] 65))).heap.size = w1.heap.size + 1 from by simp] at h
    exact ⟨_, h, val_min⟩
  have HVM := Lib.hid VM
  clear VM
  replace U := U.on PB
  replace B := B.trans PB
  go_wp2_with fail
  refine (rcmp_any _ _ _ _ _ _ _ _ _ U R2 (by omega) (by omega)).mono ?_
  rintro e w2 ⟨rfl, rfl⟩
  rw [HVM.out, HV1.out, HK.out, HC.out]
  go_wp2
  go_ret2
  exact ⟨rfl, B⟩
set_option maxRecDepth 100000 in
set_option maxHeartbeats 1600000 in
theorem sint_bn (w : World) (v : Value) (r : Rat) (L : Nat) (h : Fld w v r L) (hL1 : 1 ≤ L) (hL : L ≤ 4000) (hd : r.den = 1) (hn : decide (r < 0) = true) (hv : 9223372036854775808 < r.num.natAbs) :
    Calls Tryz.prog 38 #[v] w fun e w' => e = .returned (.tuple #[.int .i64 0, .bool false]) ∧ On w w' := by
  obtain ⟨b, A, n, c, A', n', c', xs, ys, rfl, R, R', h1, h2, h3⟩ := id h
  clear h3
  have hdp := r.den_pos
  have HDC : Hid (cmpI r.den 1 = 0) := Lib.hid (cmpI_eq hd)
  clear hdp hd
  have HIV : Hid (intOfV r.num.natAbs = .tuple #[.int .i64 0, .bool false]) := Lib.hid (by unfold intOfV; rw [if_neg (by omega)])
  have HC : Hid (cmpI r.num.natAbs 9223372036854775808 = 1) := Lib.hid (cmpI_gt hv)
  have HS := Lib.hid hn
  clear hn
  obtain ⟨k, hk⟩ : ∃ x, r.num.natAbs = x := ⟨_, rfl⟩
  rw [hk] at hv HIV
  try rw [hk]
  have HK := Lib.hid hk
  clear hk
  rw [HK.out] at HC
  clear hv
  have B : On w (w.alloc (.cells #[.bool b, .slice A n c, .slice A' n' c'] 24)) := On.alloc (On.refl w) _
  have OB1 : w.heap.size ≤ w.heap.size ∧ Own (w.alloc (.cells #[.bool b, .slice A n c, .slice A' n' c'] 24)) (w.heap.size) 24 #[.bool b, .slice A n c, .slice A' n' c'] := ⟨by omega, (Own.at_ w (w.heap.size) (by simp) 24 #[.bool b, .slice A n c, .slice A' n' c'])⟩
  go_enter Tryz.func38, Tryz.ntmps38
  go_wp2_with fail
  refine (parts_any _ _ r L (h.on B) hL1 (by omega)).mono ?_
  rintro e w1 ⟨E1, m1, o1, E2, m2, o2, us, vs, rfl, U, U', CU, k1, k2, V1, V2, P1⟩
  rw [HS.out]
  have HV1 := Lib.hid V1
  have HV2 := Lib.hid V2
  clear V1 V2
  replace B := B.trans P1
  clear P1
  have PA := (On.refl w1).alloc (.cells #[.int .u32 1] 65)
  have R1 := rd_one w1 65 1 (by decide)
  replace U := U.on PA
  replace U' := U'.on PA
  replace B := B.trans PA
  go_wp2_with fail
  refine (rcmp_any _ _ _ _ _ _ _ _ _ U' R1 (by omega) (by omega)).mono ?_
  rintro e w2 ⟨rfl, rfl⟩
  rw [show val [1] = 1 from rfl, HV2.out, HDC.out]
  have PB := (On.refl (w1.alloc (.cells #[.int .u32 1] 65))).alloc (.cells #[.int .u32 0, .int .u32 2147483648] 65)
  obtain ⟨ms, R2, VM⟩ : ∃ ms, Rd ((w1.alloc (.cells #[.int .u32 1] 65)).alloc (.cells #[.int .u32 0, .int .u32 2147483648] 65)) (some ⟨w1.heap.size + 1, 0, none⟩) 2 2 ms ∧ val ms = 9223372036854775808 := by
    have h := rd_min (w1.alloc (.cells #[.int .u32 1] 65)) 65
    rw [show ((w1.alloc (.cells #[.int .u32 1] 65))).heap.size = w1.heap.size + 1 from by simp] at h
    exact ⟨_, h, val_min⟩
  have HVM := Lib.hid VM
  clear VM
  replace U := U.on PB
  replace B := B.trans PB
  go_wp2_with fail
  refine (rcmp_any _ _ _ _ _ _ _ _ _ U R2 (by omega) (by omega)).mono ?_
  rintro e w2 ⟨rfl, rfl⟩
  rw [HVM.out, HV1.out, HK.out, HC.out]
  go_wp2_with fail
  refine (rint_any _ _ _ _ _ U (by omega)).mono ?_
  rintro e w2 ⟨rfl, rfl⟩
  rw [HV1.out, HK.out, HIV.out]
  go_wp2
  go_ret2
  exact ⟨rfl, B⟩
theorem int_twin (r : Rat) (L : Nat) (hL1 : 1 ≤ L) (hL : L ≤ 4000) : ∃ (z : Int) (ok : Bool), (∀ w v, Fld w v r L → Calls Tryz.prog 37 #[v] w fun e w' => e = .returned (.tuple #[.int .i64 z, .bool ok]) ∧ On w w') ∧ (∀ w v, Fld w v r L → Calls Tryz.prog 38 #[v] w fun e w' => e = .returned (.tuple #[.int .i64 z, .bool ok]) ∧ On w w') := by
  by_cases hr : r = 0
  · refine ⟨0, true, fun w v h => pint_z w v r L h hL hr, fun w v h => ?_⟩
    have := sint_ps w v r L h hL1 hL (by rw [hr]; rfl) (by rw [hr]; rfl) (by rw [hr]; decide)
    rw [show r.num.natAbs = 0 from by rw [hr]; rfl] at this
    exact this
  · by_cases hd : r.den = 1
    · cases hn : decide (r < 0)
      · rcases Nat.lt_or_ge r.num.natAbs 9223372036854775808 with hv | hv
        · exact ⟨_, _, fun w v h => pint_ps w v r L h hL hr hd hn hv, fun w v h => sint_ps w v r L h hL1 hL hd hn hv⟩
        · exact ⟨_, _, fun w v h => pint_pb w v r L h hL hr hd hn hv, fun w v h => sint_pb w v r L h hL1 hL hd hn hv⟩
      · rcases Nat.lt_trichotomy r.num.natAbs 9223372036854775808 with hv | hv | hv
        · exact ⟨_, _, fun w v h => pint_sn w v r L h hL hr hd hn hv, fun w v h => sint_sn w v r L h hL1 hL hd hn hv⟩
        · exact ⟨_, _, fun w v h => pint_mn w v r L h hL hr hd hn hv, fun w v h => sint_mn w v r L h hL1 hL hd hn hv⟩
        · exact ⟨_, _, fun w v h => pint_bn w v r L h hL hr hd hn hv, fun w v h => sint_bn w v r L h hL1 hL hd hn hv⟩
    · exact ⟨_, _, fun w v h => pint_nd w v r L h hL hr hd, fun w v h => sint_nd w v r L h hL1 hL hd⟩
end Num
end Go.Proofs.YtikmjlaeadockaaGreat
