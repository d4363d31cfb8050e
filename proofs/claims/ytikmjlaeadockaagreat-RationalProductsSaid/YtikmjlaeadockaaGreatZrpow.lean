/-
  The program's Power of fractions.
-/
import Derived.Test.YtikmjlaeadockaaGreatZpow
namespace Go.Proofs.YtikmjlaeadockaaGreat
open Go.RowKit
set_option linter.unusedVariables false
namespace Num
theorem rsg_pow (r : Rat) (m : Nat) (h : r ≠ 0) : rsg (r ^ m) = if r < 0 ∧ m % 2 = 1 then -1 else 1 := by
  induction m with
  | zero => rw [Rat.pow_zero, if_neg (by omega)]; rfl
  | succ k ih =>
    rw [Rat.pow_succ, rsg_mul, ih]
    by_cases hn : r < 0
    · have h1 : rsg r = -1 := by unfold rsg; grind
      rw [h1]
      by_cases hk : k % 2 = 1
      · rw [if_pos ⟨hn, hk⟩, if_neg (by omega)]; rfl
      · rw [if_neg (fun e => hk e.2), if_pos ⟨hn, by omega⟩]; rfl
    · have h1 : rsg r = 1 := by unfold rsg; grind
      rw [h1, if_neg (fun e => hn e.1), if_neg (fun e => hn e.1)]; rfl
theorem pow_sign (r : Rat) (m : Nat) (h : r ≠ 0) : decide (r ^ m < 0) = (decide (r < 0) && decide (m % 2 = 1)) := by
  have h1 := rsg_pow r m h
  have h2 : r ^ m < 0 ↔ rsg (r ^ m) = -1 := by unfold rsg; grind
  rw [Bool.eq_iff_iff, decide_eq_true_iff, h2, h1, Bool.and_eq_true, decide_eq_true_iff, decide_eq_true_iff]
  constructor
  · intro e
    by_cases hc : r < 0 ∧ m % 2 = 1
    · exact hc
    · rw [if_neg hc] at e; omega
  · intro e
    rw [if_pos e]
theorem isR_pow {w : World} {r : Rat} {s : Bool} {A A' : Option Addr} {n c n' c' L m : Nat} (h : r ≠ 0) (hs : decide (r ^ m < 0) = s) (h1 : Nm w A n c (r.num.natAbs ^ m) L) (h2 : Nm w A' n' c' (r.den ^ m) L) : IsR w (.agg #[.bool s, .slice A n c, .slice A' n' c']) (r ^ m) L := by
  obtain ⟨xs, R, C, V, l⟩ := h1
  obtain ⟨ys, R', C', V', l'⟩ := h2
  exact ⟨A, n, c, xs, A', n', c', ys, by rw [hs], R, R', C, C', l, l', by rw [V, Rat.num_pow, Int.natAbs_pow], by rw [V', dn_ne (rpow_ne h m), Rat.den_pow]⟩
theorem inv_pow' (r : Rat) (h : r ≠ 0) (m : Nat) : (r⁻¹) ^ m = (r ^ m)⁻¹ := by
  have h1 : ∀ k : Nat, r⁻¹ ^ k * r ^ k = 1 := by
    intro k
    induction k with
    | zero => rw [Rat.pow_zero, Rat.pow_zero, Rat.mul_one]
    | succ j ih =>
      rw [Rat.pow_succ, Rat.pow_succ]
      have := Rat.mul_inv_cancel r h
      grind
  have h2 := h1 m
  have h3 := Rat.mul_inv_cancel _ (rpow_ne h m)
  grind
theorem zero_pow' {m : Nat} (h : 0 < m) : (0 : Rat) ^ m = 0 := by
  obtain ⟨j, rfl⟩ : ∃ j, m = j + 1 := ⟨m - 1, by omega⟩
  rw [Rat.pow_succ, Rat.mul_zero]
theorem inv_ne' {r : Rat} (h : r ≠ 0) : r⁻¹ ≠ 0 := by
  intro e
  have := Rat.mul_inv_cancel r h
  rw [e, Rat.mul_zero] at this
  exact absurd this (by decide)
set_option maxRecDepth 100000 in
set_option maxHeartbeats 1600000 in
theorem ppow_range (w : World) (v : Value) (r : Rat) (L : Nat) (h : Fld w v r L) (a : Int) (ha : a < -64 ∨ 64 < a) :
    Calls Tryz.prog 23 #[v, .int .i64 a] w (RatPost2 w 0 2 (.iface 58 (.int .i64 3))) := by
  obtain ⟨b, A, n, c, A', n', c', xs, ys, rfl, R, R', h1, h2, h3⟩ := id h
  clear h3
  have hd : decide (a < -64) = true ∨ (decide (a < -64) = false ∧ decide (64 < a) = true) := by
    rcases ha with e | e
    · exact .inl (decide_eq_true e)
    · exact .inr ⟨decide_eq_false (by omega), decide_eq_true e⟩
  clear ha
  have B : On w ((w.alloc (.cells #[.bool b, .slice A n c, .slice A' n' c'] 24)).alloc (.cells #[.bool false, .slice none 0 0, .slice none 0 0] 24)) := On.alloc (On.alloc (On.refl w) _) _
  have OB2 : w.heap.size ≤ w.heap.size ∧ Own ((w.alloc (.cells #[.bool b, .slice A n c, .slice A' n' c'] 24)).alloc (.cells #[.bool false, .slice none 0 0, .slice none 0 0] 24)) (w.heap.size) 24 #[.bool b, .slice A n c, .slice A' n' c'] := ⟨by omega, ((Own.at_ w (w.heap.size) (by simp) 24 #[.bool b, .slice A n c, .slice A' n' c']).alloc (.cells #[.bool false, .slice none 0 0, .slice none 0 0] 24))⟩
  have OB4 : w.heap.size ≤ w.heap.size + 1 ∧ Own ((w.alloc (.cells #[.bool b, .slice A n c, .slice A' n' c'] 24)).alloc (.cells #[.bool false, .slice none 0 0, .slice none 0 0] 24)) (w.heap.size + 1) 24 #[.bool false, .slice none 0 0, .slice none 0 0] := ⟨by omega, (Own.at_ (w.alloc (.cells #[.bool b, .slice A n c, .slice A' n' c'] 24)) (w.heap.size + 1) (by simp) 24 #[.bool false, .slice none 0 0, .slice none 0 0])⟩
  rcases hd with h1 | ⟨h1, h2⟩
  all_goals
    go_enter Tryz.func23, Tryz.ntmps23
    have y4_0 : ((w.alloc (.cells #[.bool b, .slice A n c, .slice A' n' c'] 24)).alloc (.cells #[.bool false, .slice none 0 0, .slice none 0 0] 24)).cell? ⟨w.heap.size + 1, 0, none⟩ = some (.bool false) := OB4.2.cell 0
    have y4_1 : ((w.alloc (.cells #[.bool b, .slice A n c, .slice A' n' c'] 24)).alloc (.cells #[.bool false, .slice none 0 0, .slice none 0 0] 24)).cell? ⟨w.heap.size + 1, 1, none⟩ = some (.slice none 0 0) := OB4.2.cell 1
    have y4_2 : ((w.alloc (.cells #[.bool b, .slice A n c, .slice A' n' c'] 24)).alloc (.cells #[.bool false, .slice none 0 0, .slice none 0 0] 24)).cell? ⟨w.heap.size + 1, 2, none⟩ = some (.slice none 0 0) := OB4.2.cell 2
    have y4_f0 := OB4.2.frozen 0
    have y4_f1 := OB4.2.frozen 1
    have y4_f2 := OB4.2.frozen 2
    go_wp2
    exact bodyPost_ret (v := .tuple #[.agg #[.bool false, .slice none 0 0, .slice none 0 0], .iface 58 (.int .i64 3)]) (by simp [results, Tryz.results23, go_sem, y4_0, y4_1, y4_2]) rfl ⟨_, rfl, isR_zero _ _, B⟩
set_option maxRecDepth 100000 in
set_option maxHeartbeats 1600000 in
theorem ppow_one (w : World) (v : Value) (r : Rat) (L : Nat) (h : Fld w v r L) (hL1 : 1 ≤ L) (hL : L ≤ 12) (m : Nat) (hm : m ≤ 64) (hLm : L * m < 193) :
    Calls Tryz.prog 23 #[v, .int .i64 (0 : Int)] w (RatPost2 w (r ^ 0) 193 (.nilIface)) := by
  obtain ⟨b, A, n, c, A', n', c', xs, ys, rfl, R, R', h1, h2, h3⟩ := id h
  clear h3
  have HLM := Lib.hid hLm
  clear hLm
  have B : On w ((w.alloc (.cells #[.bool b, .slice A n c, .slice A' n' c'] 24)).alloc (.cells #[.bool false, .slice none 0 0, .slice none 0 0] 24)) := On.alloc (On.alloc (On.refl w) _) _
  have OB2 : w.heap.size ≤ w.heap.size ∧ Own ((w.alloc (.cells #[.bool b, .slice A n c, .slice A' n' c'] 24)).alloc (.cells #[.bool false, .slice none 0 0, .slice none 0 0] 24)) (w.heap.size) 24 #[.bool b, .slice A n c, .slice A' n' c'] := ⟨by omega, ((Own.at_ w (w.heap.size) (by simp) 24 #[.bool b, .slice A n c, .slice A' n' c']).alloc (.cells #[.bool false, .slice none 0 0, .slice none 0 0] 24))⟩
  have OB4 : w.heap.size ≤ w.heap.size + 1 ∧ Own ((w.alloc (.cells #[.bool b, .slice A n c, .slice A' n' c'] 24)).alloc (.cells #[.bool false, .slice none 0 0, .slice none 0 0] 24)) (w.heap.size + 1) 24 #[.bool false, .slice none 0 0, .slice none 0 0] := ⟨by omega, (Own.at_ (w.alloc (.cells #[.bool b, .slice A n c, .slice A' n' c'] 24)) (w.heap.size + 1) (by simp) 24 #[.bool false, .slice none 0 0, .slice none 0 0])⟩
  go_enter Tryz.func23, Tryz.ntmps23
  go_wp2_with fail
  refine (value_fld _ _ r L (h.on B) (by omega)).mono ?_
  rintro e w1 ⟨v1, rfl, I1, P1⟩
  obtain ⟨Q1, Qn, Qc, X1, Q2, Qm, Qd, X2, rfl, _⟩ := id I1
  obtain ⟨sb, hsb⟩ : ∃ x, decide (r < 0) = x := ⟨_, rfl⟩
  rw [hsb] at I1
  try rw [hsb]
  clear hsb
  replace OB2 := And.intro OB2.1 (OB2.2.on P1)
  replace OB4 := And.intro OB4.1 (OB4.2.on P1)
  replace B := B.trans P1
  have y2_0 : w1.cell? ⟨w.heap.size, 0, none⟩ = some (.bool b) := OB2.2.cell 0
  have y2_1 : w1.cell? ⟨w.heap.size, 1, none⟩ = some (.slice A n c) := OB2.2.cell 1
  have y2_2 : w1.cell? ⟨w.heap.size, 2, none⟩ = some (.slice A' n' c') := OB2.2.cell 2
  have y2_f0 := OB2.2.frozen 0
  have y2_f1 := OB2.2.frozen 1
  have y2_f2 := OB2.2.frozen 2
  have oo1 := only3 (w := w1) (g := w.heap.size) (.bool sb) (.slice Q1 Qn Qc) (.slice Q2 Qm Qd)
  have J := isR_put I1 OB2.2 (.bool sb) (.slice Q1 Qn Qc) (.slice Q2 Qm Qd)
  replace B := B.only oo1 (Nat.le_refl _)
  replace OB4 := And.intro OB4.1 (OB4.2.only oo1 (by omega))
  have O2 : Own (((w1.setCell ⟨w.heap.size, 0, none⟩ (.bool sb)).setCell ⟨w.heap.size, 1, none⟩ (.slice Q1 Qn Qc)).setCell ⟨w.heap.size, 2, none⟩ (.slice Q2 Qm Qd)) (w.heap.size) 24 #[.bool sb, .slice Q1 Qn Qc, .slice Q2 Qm Qd] := ((OB2.2.set_ 0 (.bool sb)).set_ 1 (.slice Q1 Qn Qc)).set_ 2 (.slice Q2 Qm Qd)
  replace OB2 := And.intro OB2.1 O2
  clear O2 oo1
  go_wp2_with fail
  refine (ofr_any _ 1 (by decide) (by decide)).mono ?_
  rintro e w3 ⟨v3, rfl, I3, P3⟩
  obtain ⟨S1, Sn, Sc, _, S2, Sm, Sd, _, rfl, _⟩ := id I3
  obtain ⟨s3, hs3⟩ : ∃ x, decide (((1 : Int) : Rat) < 0) = x := ⟨_, rfl⟩
  rw [hs3] at I3
  try rw [hs3]
  clear hs3 y2_0 y2_1 y2_2 y2_f0 y2_f1 y2_f2
  replace OB2 := And.intro OB2.1 (OB2.2.on P3)
  replace OB4 := And.intro OB4.1 (OB4.2.on P3)
  replace B := B.trans P3
  have y4_0 : w3.cell? ⟨w.heap.size + 1, 0, none⟩ = some (.bool false) := OB4.2.cell 0
  have y4_1 : w3.cell? ⟨w.heap.size + 1, 1, none⟩ = some (.slice none 0 0) := OB4.2.cell 1
  have y4_2 : w3.cell? ⟨w.heap.size + 1, 2, none⟩ = some (.slice none 0 0) := OB4.2.cell 2
  have y4_f0 := OB4.2.frozen 0
  have y4_f1 := OB4.2.frozen 1
  have y4_f2 := OB4.2.frozen 2
  go_wp2
  have hon := on3 (g := w.heap.size + 1) B (by omega) (.bool s3) (.slice S1 Sn Sc) (.slice S2 Sm Sd)
  exact bodyPost_ret (v := .tuple #[.agg #[.bool s3, .slice S1 Sn Sc, .slice S2 Sm Sd], .nilIface]) (by simp [results, Tryz.results23, go_sem, y4_0, y4_1, y4_2]) rfl ⟨_, rfl, by rw [Rat.pow_zero]; exact (isR_put I3 OB4.2 _ _ _).wide (by decide), hon⟩
set_option maxRecDepth 100000 in
set_option maxHeartbeats 1600000 in
theorem ppow_zneg (w : World) (v : Value) (r : Rat) (L : Nat) (h : Fld w v r L) (hL1 : 1 ≤ L) (hL : L ≤ 12) (m : Nat) (hm : m ≤ 64) (hLm : L * m < 193) (h0 : 0 < m) (hr : r = 0) :
    Calls Tryz.prog 23 #[v, .int .i64 (-(m : Int))] w (RatPost2 w (0) 193 (.iface 58 (.int .i64 8))) := by
  obtain ⟨b, A, n, c, A', n', c', xs, ys, rfl, R, R', h1, h2, h3⟩ := id h
  clear h3
  have HLM := Lib.hid hLm
  clear hLm
  have HR := Lib.hid hr
  have HD : Hid (decide (r = 0) = true) := Lib.hid (by first | exact decide_eq_true hr | exact decide_eq_false hr)
  clear hr
  have B : On w ((w.alloc (.cells #[.bool b, .slice A n c, .slice A' n' c'] 24)).alloc (.cells #[.bool false, .slice none 0 0, .slice none 0 0] 24)) := On.alloc (On.alloc (On.refl w) _) _
  have OB2 : w.heap.size ≤ w.heap.size ∧ Own ((w.alloc (.cells #[.bool b, .slice A n c, .slice A' n' c'] 24)).alloc (.cells #[.bool false, .slice none 0 0, .slice none 0 0] 24)) (w.heap.size) 24 #[.bool b, .slice A n c, .slice A' n' c'] := ⟨by omega, ((Own.at_ w (w.heap.size) (by simp) 24 #[.bool b, .slice A n c, .slice A' n' c']).alloc (.cells #[.bool false, .slice none 0 0, .slice none 0 0] 24))⟩
  have OB4 : w.heap.size ≤ w.heap.size + 1 ∧ Own ((w.alloc (.cells #[.bool b, .slice A n c, .slice A' n' c'] 24)).alloc (.cells #[.bool false, .slice none 0 0, .slice none 0 0] 24)) (w.heap.size + 1) 24 #[.bool false, .slice none 0 0, .slice none 0 0] := ⟨by omega, (Own.at_ (w.alloc (.cells #[.bool b, .slice A n c, .slice A' n' c'] 24)) (w.heap.size + 1) (by simp) 24 #[.bool false, .slice none 0 0, .slice none 0 0])⟩
  go_enter Tryz.func23, Tryz.ntmps23
  go_wp2_with fail
  refine (value_fld _ _ r L (h.on B) (by omega)).mono ?_
  rintro e w1 ⟨v1, rfl, I1, P1⟩
  obtain ⟨Q1, Qn, Qc, X1, Q2, Qm, Qd, X2, rfl, _⟩ := id I1
  obtain ⟨sb, hsb⟩ : ∃ x, decide (r < 0) = x := ⟨_, rfl⟩
  rw [hsb] at I1
  try rw [hsb]
  clear hsb
  replace OB2 := And.intro OB2.1 (OB2.2.on P1)
  replace OB4 := And.intro OB4.1 (OB4.2.on P1)
  replace B := B.trans P1
  have y2_0 : w1.cell? ⟨w.heap.size, 0, none⟩ = some (.bool b) := OB2.2.cell 0
  have y2_1 : w1.cell? ⟨w.heap.size, 1, none⟩ = some (.slice A n c) := OB2.2.cell 1
  have y2_2 : w1.cell? ⟨w.heap.size, 2, none⟩ = some (.slice A' n' c') := OB2.2.cell 2
  have y2_f0 := OB2.2.frozen 0
  have y2_f1 := OB2.2.frozen 1
  have y2_f2 := OB2.2.frozen 2
  have oo1 := only3 (w := w1) (g := w.heap.size) (.bool sb) (.slice Q1 Qn Qc) (.slice Q2 Qm Qd)
  have J := isR_put I1 OB2.2 (.bool sb) (.slice Q1 Qn Qc) (.slice Q2 Qm Qd)
  replace B := B.only oo1 (Nat.le_refl _)
  replace OB4 := And.intro OB4.1 (OB4.2.only oo1 (by omega))
  have O2 : Own (((w1.setCell ⟨w.heap.size, 0, none⟩ (.bool sb)).setCell ⟨w.heap.size, 1, none⟩ (.slice Q1 Qn Qc)).setCell ⟨w.heap.size, 2, none⟩ (.slice Q2 Qm Qd)) (w.heap.size) 24 #[.bool sb, .slice Q1 Qn Qc, .slice Q2 Qm Qd] := ((OB2.2.set_ 0 (.bool sb)).set_ 1 (.slice Q1 Qn Qc)).set_ 2 (.slice Q2 Qm Qd)
  replace OB2 := And.intro OB2.1 O2
  clear O2 oo1
  go_wp2_with fail
  refine (iszero_any _ _ r L J).mono ?_
  rintro e w3 ⟨rfl, P3⟩
  rw [HD.out]
  clear y2_0 y2_1 y2_2 y2_f0 y2_f1 y2_f2
  replace OB2 := And.intro OB2.1 (OB2.2.on P3)
  replace OB4 := And.intro OB4.1 (OB4.2.on P3)
  replace B := B.trans P3
  replace J := J.on P3
  have y2_0 : w3.cell? ⟨w.heap.size, 0, none⟩ = some (.bool sb) := OB2.2.cell 0
  have y2_1 : w3.cell? ⟨w.heap.size, 1, none⟩ = some (.slice Q1 Qn Qc) := OB2.2.cell 1
  have y2_2 : w3.cell? ⟨w.heap.size, 2, none⟩ = some (.slice Q2 Qm Qd) := OB2.2.cell 2
  have y2_f0 := OB2.2.frozen 0
  have y2_f1 := OB2.2.frozen 1
  have y2_f2 := OB2.2.frozen 2
  have y4_0 : w3.cell? ⟨w.heap.size + 1, 0, none⟩ = some (.bool false) := OB4.2.cell 0
  have y4_1 : w3.cell? ⟨w.heap.size + 1, 1, none⟩ = some (.slice none 0 0) := OB4.2.cell 1
  have y4_2 : w3.cell? ⟨w.heap.size + 1, 2, none⟩ = some (.slice none 0 0) := OB4.2.cell 2
  have y4_f0 := OB4.2.frozen 0
  have y4_f1 := OB4.2.frozen 1
  have y4_f2 := OB4.2.frozen 2
  go_wp2
  exact bodyPost_ret (v := .tuple #[.agg #[.bool false, .slice none 0 0, .slice none 0 0], .iface 58 (.int .i64 8)]) (by simp [results, Tryz.results23, go_sem, y4_0, y4_1, y4_2]) rfl ⟨_, rfl, isR_zero _ _, on3 (g := w.heap.size + 1) B (by omega) (.bool false) (.slice none 0 0) (.slice none 0 0)⟩
set_option maxRecDepth 100000 in
set_option maxHeartbeats 1600000 in
theorem ppow_zpos (w : World) (v : Value) (r : Rat) (L : Nat) (h : Fld w v r L) (hL1 : 1 ≤ L) (hL : L ≤ 12) (m : Nat) (hm : m ≤ 64) (hLm : L * m < 193) (h0 : 0 < m) (hr : r = 0) :
    Calls Tryz.prog 23 #[v, .int .i64 (m : Int)] w (RatPost2 w (0) 193 (.nilIface)) := by
  obtain ⟨b, A, n, c, A', n', c', xs, ys, rfl, R, R', h1, h2, h3⟩ := id h
  clear h3
  have HLM := Lib.hid hLm
  clear hLm
  have HR := Lib.hid hr
  have HD : Hid (decide (r = 0) = true) := Lib.hid (by first | exact decide_eq_true hr | exact decide_eq_false hr)
  clear hr
  have B : On w ((w.alloc (.cells #[.bool b, .slice A n c, .slice A' n' c'] 24)).alloc (.cells #[.bool false, .slice none 0 0, .slice none 0 0] 24)) := On.alloc (On.alloc (On.refl w) _) _
  have OB2 : w.heap.size ≤ w.heap.size ∧ Own ((w.alloc (.cells #[.bool b, .slice A n c, .slice A' n' c'] 24)).alloc (.cells #[.bool false, .slice none 0 0, .slice none 0 0] 24)) (w.heap.size) 24 #[.bool b, .slice A n c, .slice A' n' c'] := ⟨by omega, ((Own.at_ w (w.heap.size) (by simp) 24 #[.bool b, .slice A n c, .slice A' n' c']).alloc (.cells #[.bool false, .slice none 0 0, .slice none 0 0] 24))⟩
  have OB4 : w.heap.size ≤ w.heap.size + 1 ∧ Own ((w.alloc (.cells #[.bool b, .slice A n c, .slice A' n' c'] 24)).alloc (.cells #[.bool false, .slice none 0 0, .slice none 0 0] 24)) (w.heap.size + 1) 24 #[.bool false, .slice none 0 0, .slice none 0 0] := ⟨by omega, (Own.at_ (w.alloc (.cells #[.bool b, .slice A n c, .slice A' n' c'] 24)) (w.heap.size + 1) (by simp) 24 #[.bool false, .slice none 0 0, .slice none 0 0])⟩
  go_enter Tryz.func23, Tryz.ntmps23
  go_wp2_with fail
  refine (value_fld _ _ r L (h.on B) (by omega)).mono ?_
  rintro e w1 ⟨v1, rfl, I1, P1⟩
  obtain ⟨Q1, Qn, Qc, X1, Q2, Qm, Qd, X2, rfl, _⟩ := id I1
  obtain ⟨sb, hsb⟩ : ∃ x, decide (r < 0) = x := ⟨_, rfl⟩
  rw [hsb] at I1
  try rw [hsb]
  clear hsb
  replace OB2 := And.intro OB2.1 (OB2.2.on P1)
  replace OB4 := And.intro OB4.1 (OB4.2.on P1)
  replace B := B.trans P1
  have y2_0 : w1.cell? ⟨w.heap.size, 0, none⟩ = some (.bool b) := OB2.2.cell 0
  have y2_1 : w1.cell? ⟨w.heap.size, 1, none⟩ = some (.slice A n c) := OB2.2.cell 1
  have y2_2 : w1.cell? ⟨w.heap.size, 2, none⟩ = some (.slice A' n' c') := OB2.2.cell 2
  have y2_f0 := OB2.2.frozen 0
  have y2_f1 := OB2.2.frozen 1
  have y2_f2 := OB2.2.frozen 2
  have oo1 := only3 (w := w1) (g := w.heap.size) (.bool sb) (.slice Q1 Qn Qc) (.slice Q2 Qm Qd)
  have J := isR_put I1 OB2.2 (.bool sb) (.slice Q1 Qn Qc) (.slice Q2 Qm Qd)
  replace B := B.only oo1 (Nat.le_refl _)
  replace OB4 := And.intro OB4.1 (OB4.2.only oo1 (by omega))
  have O2 : Own (((w1.setCell ⟨w.heap.size, 0, none⟩ (.bool sb)).setCell ⟨w.heap.size, 1, none⟩ (.slice Q1 Qn Qc)).setCell ⟨w.heap.size, 2, none⟩ (.slice Q2 Qm Qd)) (w.heap.size) 24 #[.bool sb, .slice Q1 Qn Qc, .slice Q2 Qm Qd] := ((OB2.2.set_ 0 (.bool sb)).set_ 1 (.slice Q1 Qn Qc)).set_ 2 (.slice Q2 Qm Qd)
  replace OB2 := And.intro OB2.1 O2
  clear O2 oo1
  go_wp2_with fail
  refine (iszero_any _ _ r L J).mono ?_
  rintro e w3 ⟨rfl, P3⟩
  rw [HD.out]
  clear y2_0 y2_1 y2_2 y2_f0 y2_f1 y2_f2
  replace OB2 := And.intro OB2.1 (OB2.2.on P3)
  replace OB4 := And.intro OB4.1 (OB4.2.on P3)
  replace B := B.trans P3
  replace J := J.on P3
  have y2_0 : w3.cell? ⟨w.heap.size, 0, none⟩ = some (.bool sb) := OB2.2.cell 0
  have y2_1 : w3.cell? ⟨w.heap.size, 1, none⟩ = some (.slice Q1 Qn Qc) := OB2.2.cell 1
  have y2_2 : w3.cell? ⟨w.heap.size, 2, none⟩ = some (.slice Q2 Qm Qd) := OB2.2.cell 2
  have y2_f0 := OB2.2.frozen 0
  have y2_f1 := OB2.2.frozen 1
  have y2_f2 := OB2.2.frozen 2
  go_wp2_with fail
  refine (iszero_any _ _ r L J).mono ?_
  rintro e w4 ⟨rfl, P4⟩
  rw [HD.out]
  clear y2_0 y2_1 y2_2 y2_f0 y2_f1 y2_f2
  replace OB2 := And.intro OB2.1 (OB2.2.on P4)
  replace OB4 := And.intro OB4.1 (OB4.2.on P4)
  replace B := B.trans P4
  replace J := J.on P4
  have y2_0 : w4.cell? ⟨w.heap.size, 0, none⟩ = some (.bool sb) := OB2.2.cell 0
  have y2_1 : w4.cell? ⟨w.heap.size, 1, none⟩ = some (.slice Q1 Qn Qc) := OB2.2.cell 1
  have y2_2 : w4.cell? ⟨w.heap.size, 2, none⟩ = some (.slice Q2 Qm Qd) := OB2.2.cell 2
  have y2_f0 := OB2.2.frozen 0
  have y2_f1 := OB2.2.frozen 1
  have y2_f2 := OB2.2.frozen 2
  have y4_0 : w4.cell? ⟨w.heap.size + 1, 0, none⟩ = some (.bool false) := OB4.2.cell 0
  have y4_1 : w4.cell? ⟨w.heap.size + 1, 1, none⟩ = some (.slice none 0 0) := OB4.2.cell 1
  have y4_2 : w4.cell? ⟨w.heap.size + 1, 2, none⟩ = some (.slice none 0 0) := OB4.2.cell 2
  have y4_f0 := OB4.2.frozen 0
  have y4_f1 := OB4.2.frozen 1
  have y4_f2 := OB4.2.frozen 2
  go_wp2
  exact bodyPost_ret (v := .tuple #[.agg #[.bool false, .slice none 0 0, .slice none 0 0], .nilIface]) (by simp [results, Tryz.results23, go_sem, y4_0, y4_1, y4_2]) rfl ⟨_, rfl, isR_zero _ _, on3 (g := w.heap.size + 1) B (by omega) (.bool false) (.slice none 0 0) (.slice none 0 0)⟩
set_option maxRecDepth 100000 in
set_option maxHeartbeats 1600000 in
theorem ppow_pos0 (w : World) (v : Value) (r : Rat) (L : Nat) (h : Fld w v r L) (hL1 : 1 ≤ L) (hL : L ≤ 12) (m : Nat) (hm : m ≤ 64) (hLm : L * m < 193) (h0 : 0 < m) (hr : r ≠ 0) (hs : decide (r < 0) = false) :
    Calls Tryz.prog 23 #[v, .int .i64 (m : Int)] w (RatPost2 w (r ^ m) 193 (.nilIface)) := by
  obtain ⟨b, A, n, c, A', n', c', xs, ys, rfl, R, R', h1, h2, h3⟩ := id h
  clear h3
  have HLM := Lib.hid hLm
  clear hLm
  have HR := Lib.hid hr
  have HD : Hid (decide (r = 0) = false) := Lib.hid (by first | exact decide_eq_true hr | exact decide_eq_false hr)
  clear hr
  have HS := Lib.hid hs
  clear hs
  have B : On w ((w.alloc (.cells #[.bool b, .slice A n c, .slice A' n' c'] 24)).alloc (.cells #[.bool false, .slice none 0 0, .slice none 0 0] 24)) := On.alloc (On.alloc (On.refl w) _) _
  have OB2 : w.heap.size ≤ w.heap.size ∧ Own ((w.alloc (.cells #[.bool b, .slice A n c, .slice A' n' c'] 24)).alloc (.cells #[.bool false, .slice none 0 0, .slice none 0 0] 24)) (w.heap.size) 24 #[.bool b, .slice A n c, .slice A' n' c'] := ⟨by omega, ((Own.at_ w (w.heap.size) (by simp) 24 #[.bool b, .slice A n c, .slice A' n' c']).alloc (.cells #[.bool false, .slice none 0 0, .slice none 0 0] 24))⟩
  have OB4 : w.heap.size ≤ w.heap.size + 1 ∧ Own ((w.alloc (.cells #[.bool b, .slice A n c, .slice A' n' c'] 24)).alloc (.cells #[.bool false, .slice none 0 0, .slice none 0 0] 24)) (w.heap.size + 1) 24 #[.bool false, .slice none 0 0, .slice none 0 0] := ⟨by omega, (Own.at_ (w.alloc (.cells #[.bool b, .slice A n c, .slice A' n' c'] 24)) (w.heap.size + 1) (by simp) 24 #[.bool false, .slice none 0 0, .slice none 0 0])⟩
  go_enter Tryz.func23, Tryz.ntmps23
  go_wp2_with fail
  refine (value_fld _ _ r L (h.on B) (by omega)).mono ?_
  rintro e w1 ⟨v1, rfl, I1, P1⟩
  obtain ⟨Q1, Qn, Qc, X1, Q2, Qm, Qd, X2, rfl, _⟩ := id I1
  rw [HS.out] at I1
  try rw [HS.out]
  replace OB2 := And.intro OB2.1 (OB2.2.on P1)
  replace OB4 := And.intro OB4.1 (OB4.2.on P1)
  replace B := B.trans P1
  have y2_0 : w1.cell? ⟨w.heap.size, 0, none⟩ = some (.bool b) := OB2.2.cell 0
  have y2_1 : w1.cell? ⟨w.heap.size, 1, none⟩ = some (.slice A n c) := OB2.2.cell 1
  have y2_2 : w1.cell? ⟨w.heap.size, 2, none⟩ = some (.slice A' n' c') := OB2.2.cell 2
  have y2_f0 := OB2.2.frozen 0
  have y2_f1 := OB2.2.frozen 1
  have y2_f2 := OB2.2.frozen 2
  have oo1 := only3 (w := w1) (g := w.heap.size) (.bool false) (.slice Q1 Qn Qc) (.slice Q2 Qm Qd)
  have J := isR_put I1 OB2.2 (.bool false) (.slice Q1 Qn Qc) (.slice Q2 Qm Qd)
  replace B := B.only oo1 (Nat.le_refl _)
  replace OB4 := And.intro OB4.1 (OB4.2.only oo1 (by omega))
  have O2 : Own (((w1.setCell ⟨w.heap.size, 0, none⟩ (.bool false)).setCell ⟨w.heap.size, 1, none⟩ (.slice Q1 Qn Qc)).setCell ⟨w.heap.size, 2, none⟩ (.slice Q2 Qm Qd)) (w.heap.size) 24 #[.bool false, .slice Q1 Qn Qc, .slice Q2 Qm Qd] := ((OB2.2.set_ 0 (.bool false)).set_ 1 (.slice Q1 Qn Qc)).set_ 2 (.slice Q2 Qm Qd)
  replace OB2 := And.intro OB2.1 O2
  clear O2 oo1
  go_wp2_with fail
  refine (iszero_any _ _ r L J).mono ?_
  rintro e w3 ⟨rfl, P3⟩
  rw [HD.out]
  clear y2_0 y2_1 y2_2 y2_f0 y2_f1 y2_f2
  replace OB2 := And.intro OB2.1 (OB2.2.on P3)
  replace OB4 := And.intro OB4.1 (OB4.2.on P3)
  replace B := B.trans P3
  replace J := J.on P3
  have y2_0 : w3.cell? ⟨w.heap.size, 0, none⟩ = some (.bool false) := OB2.2.cell 0
  have y2_1 : w3.cell? ⟨w.heap.size, 1, none⟩ = some (.slice Q1 Qn Qc) := OB2.2.cell 1
  have y2_2 : w3.cell? ⟨w.heap.size, 2, none⟩ = some (.slice Q2 Qm Qd) := OB2.2.cell 2
  have y2_f0 := OB2.2.frozen 0
  have y2_f1 := OB2.2.frozen 1
  have y2_f2 := OB2.2.frozen 2
  go_wp2_with fail
  refine (iszero_any _ _ r L J).mono ?_
  rintro e w4 ⟨rfl, P4⟩
  rw [HD.out]
  clear y2_0 y2_1 y2_2 y2_f0 y2_f1 y2_f2
  replace OB2 := And.intro OB2.1 (OB2.2.on P4)
  replace OB4 := And.intro OB4.1 (OB4.2.on P4)
  replace B := B.trans P4
  replace J := J.on P4
  have y2_0 : w4.cell? ⟨w.heap.size, 0, none⟩ = some (.bool false) := OB2.2.cell 0
  have y2_1 : w4.cell? ⟨w.heap.size, 1, none⟩ = some (.slice Q1 Qn Qc) := OB2.2.cell 1
  have y2_2 : w4.cell? ⟨w.heap.size, 2, none⟩ = some (.slice Q2 Qm Qd) := OB2.2.cell 2
  have y2_f0 := OB2.2.frozen 0
  have y2_f1 := OB2.2.frozen 1
  have y2_f2 := OB2.2.frozen 2
  have HR2 := HR
  obtain ⟨q, hq⟩ : ∃ x, r = x := ⟨_, rfl⟩
  have HQ := Lib.hid hq
  rw [hq] at J
  have HR3 : Hid (q ≠ 0) := Lib.hid (by rw [← hq]; exact HR2.out)
  have HS3 : Hid (decide (q < 0) = false) := Lib.hid (by rw [← hq]; exact HS.out)
  clear hq HR2
  obtain ⟨od, hod⟩ : ∃ x, decide (m % 2 = 1) = x := ⟨_, rfl⟩
  have HOD := Lib.hid hod
  have HSG : Hid (decide (q ^ m < 0) = false) := Lib.hid (by rw [pow_sign q m HR3.out, HS3.out, hod]; simp)
  clear hod
  go_wp2
  refine wp_region_facts (by kernel_rfl) w [Fact.eq (.pointer (some ⟨w.heap.size, 0, none⟩)), Fact.eq (.bool false), Fact.eq (.bool false), Fact.eq (undef), Fact.eq (undef), Fact.eq (undef), Fact.eq (.bool false), Fact.eq (.pointer (some ⟨w.heap.size, 1, none⟩)), Fact.eq (.slice Q1 Qn Qc), Fact.eq (.int .i64 (m : Int)), Fact.nm (q.num.natAbs ^ m) (193), Fact.eq (.pointer (some ⟨w.heap.size, 2, none⟩)), Fact.eq (.slice Q2 Qm Qd), Fact.eq (.int .i64 (m : Int)), Fact.nm (q.den ^ m) (193), Fact.rat (q ^ m) (193), Fact.any, Fact.eq (.nilIface)] [Fact.any, Fact.rat (q ^ m) (193)] [⟨18, 2, 24, 18, #[.bool false, .slice Q1 Qn Qc, .slice Q2 Qm Qd]⟩, ⟨18, 4, 24, 16, #[.bool false, .slice none 0 0, .slice none 0 0]⟩] [w.heap.size, w.heap.size + 1] [none, none, none, none, none, some 5, none, none, none, none, none, none, none, none, none, none, none, none, none, none, none, none, none, none, none, none, none, none, none, none, none, none, none, none, none, none, none, none, none, none, some 40, some 41, some 42, some 43, some 44, some 45, some 46, some 47, some 48, some 49, some 50, some 51, some 52, some 53, some 54, some 55] (by kernel_rfl) (by kernel_rfl) (by kernel_rfl) rfl B ?_ ?_ ?_ ?_ ?_
  · exact ⟨fun _ => ⟨by simp, rfl, OB2⟩, fun _ => ⟨by simp, rfl, OB4⟩, trivial⟩
  · exact .inr (by simp <;> omega)
  · exact ⟨⟨noWords_R _ _ _ _ _ _ _, (.inl (Nat.le_refl _)), (.inl (Nat.le_refl _))⟩, ⟨noWords_R _ _ _ _ _ _ _, (.inl (Nat.le_refl _)), (.inr (store_ob (j := 15) (noWords_R _ _ _ _ _ _ _) rfl rfl rfl (by kernel_rfl) rfl rfl rfl))⟩, trivial⟩
  · refine ⟨?_, ?_, ?_, ?_, ?_, ?_, ?_, ?_, ?_, ?_, ?_, ?_, ?_, ?_, ?_, ?_, ?_, ?_, trivial⟩
    · exact .inr fun a w hp => ob_yes rfl (ob_fieldR (hp.box (k := 0) rfl (Nat.le_refl _) (.inl (Nat.le_refl _)) (by kernel_rfl) rfl).1 (by decide) rfl)
    · exact .inr fun a w hp => ob_yes rfl (ob_loadB (hp.fact 0 40 (by kernel_rfl) rfl) (hp.box (k := 0) rfl (Nat.le_refl _) (.inl (Nat.le_refl _)) (by kernel_rfl) rfl).2 rfl rfl)
    · exact .inr fun a w hp => ob_yes rfl (ob_move (hp.fact 1 41 (by kernel_rfl) rfl))
    · exact .inr fun a w hp => ob_no (wanted_no (P := Tryz.prog) (j := 2) (d := 42) (b := false) rfl rfl (hp.fact 2 42 (by kernel_rfl) rfl)) rfl
    · exact .inr fun a w hp => ob_no (wanted_no (P := Tryz.prog) (j := 2) (d := 42) (b := false) rfl rfl (hp.fact 2 42 (by kernel_rfl) rfl)) rfl
    · exact .inr fun a w hp => ob_no (wanted_no (P := Tryz.prog) (j := 2) (d := 42) (b := false) rfl rfl (hp.fact 2 42 (by kernel_rfl) rfl)) rfl
    · refine .inr fun a w hp => ob_yes rfl ?_
      have h42 : a.tmps.getD 42 undef = .bool false := (hp.fact 2 42 (by kernel_rfl) rfl)
      have h45 : a.tmps.getD 45 undef = undef := (hp.fact 5 45 (by kernel_rfl) rfl)
      unfold Does
      go_simp
      exact ⟨_, rfl, On.refl _, rfl⟩
    · exact .inr fun a w hp => ob_yes rfl (ob_fieldR (hp.box (k := 0) rfl (Nat.le_refl _) (.inl (Nat.le_refl _)) (by kernel_rfl) rfl).1 (by decide) rfl)
    · exact .inr fun a w hp => ob_yes rfl (ob_loadS (hp.fact 7 47 (by kernel_rfl) rfl) (hp.box (k := 0) rfl (Nat.le_refl _) (.inl (Nat.le_refl _)) (by kernel_rfl) rfl).2 rfl rfl)
    · exact .inr fun a w hp => ob_yes rfl (ob_move (hp.same 1 (by kernel_rfl)))
    · refine .inr fun a w hp => ob_yes rfl ?_
      have h48 : a.tmps.getD 48 undef = .slice Q1 Qn Qc := (hp.fact 8 48 (by kernel_rfl) rfl)
      have h49 : a.tmps.getD 49 undef = .int .i64 (m : Int) := (hp.fact 9 49 (by kernel_rfl) rfl)
      unfold Does
      go_simp
      obtain ⟨Y1, Yn, Yc, U1, Y2, Ym, Yd, U2, ez, RU, RV, CU, CV, lu, lv, vu, vv⟩ := J.kept hp.kept
      injection ez with ez
      have e1 : Value.slice Q1 Qn Qc = .slice Y1 Yn Yc := by have := congrArg (fun x : Array Value => x[1]?) ez; simpa using this
      have e2 : Value.slice Q2 Qm Qd = .slice Y2 Ym Yd := by have := congrArg (fun x : Array Value => x[2]?) ez; simpa using this
      injection e1 with p1 p2 p3
      injection e2 with p4 p5 p6
      subst p1 p2 p3 p4 p5 p6
      refine (rpowL _ _ _ _ U1 RU m (by omega) L 193 lu HLM.out (by decide) (by omega)).mono ?_
      rintro e w' ⟨A8, n8, c8, rfl, N8, P8⟩
      rw [vu] at N8
      exact ⟨_, rfl, P8, _, _, _, rfl, N8⟩
    · exact .inr fun a w hp => ob_yes rfl (ob_fieldR (hp.box (k := 0) rfl (Nat.le_refl _) (.inl (Nat.le_refl _)) (by kernel_rfl) rfl).1 (by decide) rfl)
    · exact .inr fun a w hp => ob_yes rfl (ob_loadS (hp.fact 11 51 (by kernel_rfl) rfl) (hp.box (k := 0) rfl (Nat.le_refl _) (.inl (Nat.le_refl _)) (by kernel_rfl) rfl).2 rfl rfl)
    · exact .inr fun a w hp => ob_yes rfl (ob_move (hp.same 1 (by kernel_rfl)))
    · refine .inr fun a w hp => ob_yes rfl ?_
      have h52 : a.tmps.getD 52 undef = .slice Q2 Qm Qd := (hp.fact 12 52 (by kernel_rfl) rfl)
      have h53 : a.tmps.getD 53 undef = .int .i64 (m : Int) := (hp.fact 13 53 (by kernel_rfl) rfl)
      unfold Does
      go_simp
      obtain ⟨Y1, Yn, Yc, U1, Y2, Ym, Yd, U2, ez, RU, RV, CU, CV, lu, lv, vu, vv⟩ := J.kept hp.kept
      injection ez with ez
      have e1 : Value.slice Q1 Qn Qc = .slice Y1 Yn Yc := by have := congrArg (fun x : Array Value => x[1]?) ez; simpa using this
      have e2 : Value.slice Q2 Qm Qd = .slice Y2 Ym Yd := by have := congrArg (fun x : Array Value => x[2]?) ez; simpa using this
      injection e1 with p1 p2 p3
      injection e2 with p4 p5 p6
      subst p1 p2 p3 p4 p5 p6
      refine (rpowL _ _ _ _ U2 RV m (by omega) L 193 lv HLM.out (by decide) (by omega)).mono ?_
      rintro e w' ⟨A8, n8, c8, rfl, N8, P8⟩
      rw [vv, dn_ne HR3.out] at N8
      exact ⟨_, rfl, P8, _, _, _, rfl, N8⟩
    · refine .inr fun a w hp => ob_yes rfl ?_
      have h46 : a.tmps.getD 46 undef = .bool false := (hp.fact 6 46 (by kernel_rfl) rfl)
      obtain ⟨A50, n50, c50, e50, h50⟩ : ∃ A n c, a.tmps.getD 50 undef = .slice A n c ∧ Nm w A n c (q.num.natAbs ^ m) (193) := (hp.fact 10 50 (by kernel_rfl) rfl)
      obtain ⟨A54, n54, c54, e54, h54⟩ : ∃ A n c, a.tmps.getD 54 undef = .slice A n c ∧ Nm w A n c (q.den ^ m) (193) := (hp.fact 14 54 (by kernel_rfl) rfl)
      refine ob_buildR h46 e50 e54 ?_
      exact isR_pow HR3.out HSG.out h50 h54
    · exact .inl rfl
    · exact .inr fun a w hp => ob_yes rfl (does_value rfl rfl)
  · intro f wr hon hk hf hb hap
    obtain ⟨q0, q1, qz⟩ := hb
    clear qz
    have O2 : Own wr (w.heap.size) 24 #[.bool false, .slice Q1 Qn Qc, .slice Q2 Qm Qd] := q0
    have c2_0 : wr.cell? ⟨w.heap.size, 0, none⟩ = some (.bool false) := O2.cell 0
    have z2_0 := O2.frozen 0
    have c2_1 : wr.cell? ⟨w.heap.size, 1, none⟩ = some (.slice Q1 Qn Qc) := O2.cell 1
    have z2_1 := O2.frozen 1
    have c2_2 : wr.cell? ⟨w.heap.size, 2, none⟩ = some (.slice Q2 Qm Qd) := O2.cell 2
    have z2_2 := O2.frozen 2
    clear q0
    obtain ⟨cur4, O4, I4⟩ : ∃ cur, Own wr (w.heap.size + 1) 24 cur ∧ IsR wr (.agg cur) (q ^ m) (193) := q1
    obtain ⟨P4, Pn4, Pc4, _, R4, Rn4, Rc4, _, hz4, _⟩ := id I4
    injection hz4 with hz4
    subst hz4
    have c4_0 : wr.cell? ⟨w.heap.size + 1, 0, none⟩ = some (.bool (decide (q ^ m < 0))) := O4.cell 0
    have z4_0 := O4.frozen 0
    have c4_1 : wr.cell? ⟨w.heap.size + 1, 1, none⟩ = some (.slice P4 Pn4 Pc4) := O4.cell 1
    have z4_1 := O4.frozen 1
    have c4_2 : wr.cell? ⟨w.heap.size + 1, 2, none⟩ = some (.slice R4 Rn4 Rc4) := O4.cell 2
    have z4_2 := O4.frozen 2
    have e5 : f 5 = .nilIface := hf 17 5 rfl
    clear hf hap
    simp only [fillL, e5]
    clear e5
    go_wp2
    exact bodyPost_ret (v := .tuple #[.agg #[.bool (decide (q ^ m < 0)), .slice P4 Pn4 Pc4, .slice R4 Rn4 Rc4], .nilIface]) (by simp [results, Tryz.results23, go_sem, c4_0, c4_1, c4_2]) rfl ⟨_, rfl, by rw [HQ.out]; exact I4, hon⟩
set_option maxRecDepth 100000 in
set_option maxHeartbeats 1600000 in
theorem ppow_pos1 (w : World) (v : Value) (r : Rat) (L : Nat) (h : Fld w v r L) (hL1 : 1 ≤ L) (hL : L ≤ 12) (m : Nat) (hm : m ≤ 64) (hLm : L * m < 193) (h0 : 0 < m) (hr : r ≠ 0) (hs : decide (r < 0) = true) :
    Calls Tryz.prog 23 #[v, .int .i64 (m : Int)] w (RatPost2 w (r ^ m) 193 (.nilIface)) := by
  obtain ⟨b, A, n, c, A', n', c', xs, ys, rfl, R, R', h1, h2, h3⟩ := id h
  clear h3
  have HLM := Lib.hid hLm
  clear hLm
  have HR := Lib.hid hr
  have HD : Hid (decide (r = 0) = false) := Lib.hid (by first | exact decide_eq_true hr | exact decide_eq_false hr)
  clear hr
  have HS := Lib.hid hs
  clear hs
  have B : On w ((w.alloc (.cells #[.bool b, .slice A n c, .slice A' n' c'] 24)).alloc (.cells #[.bool false, .slice none 0 0, .slice none 0 0] 24)) := On.alloc (On.alloc (On.refl w) _) _
  have OB2 : w.heap.size ≤ w.heap.size ∧ Own ((w.alloc (.cells #[.bool b, .slice A n c, .slice A' n' c'] 24)).alloc (.cells #[.bool false, .slice none 0 0, .slice none 0 0] 24)) (w.heap.size) 24 #[.bool b, .slice A n c, .slice A' n' c'] := ⟨by omega, ((Own.at_ w (w.heap.size) (by simp) 24 #[.bool b, .slice A n c, .slice A' n' c']).alloc (.cells #[.bool false, .slice none 0 0, .slice none 0 0] 24))⟩
  have OB4 : w.heap.size ≤ w.heap.size + 1 ∧ Own ((w.alloc (.cells #[.bool b, .slice A n c, .slice A' n' c'] 24)).alloc (.cells #[.bool false, .slice none 0 0, .slice none 0 0] 24)) (w.heap.size + 1) 24 #[.bool false, .slice none 0 0, .slice none 0 0] := ⟨by omega, (Own.at_ (w.alloc (.cells #[.bool b, .slice A n c, .slice A' n' c'] 24)) (w.heap.size + 1) (by simp) 24 #[.bool false, .slice none 0 0, .slice none 0 0])⟩
  go_enter Tryz.func23, Tryz.ntmps23
  go_wp2_with fail
  refine (value_fld _ _ r L (h.on B) (by omega)).mono ?_
  rintro e w1 ⟨v1, rfl, I1, P1⟩
  obtain ⟨Q1, Qn, Qc, X1, Q2, Qm, Qd, X2, rfl, _⟩ := id I1
  rw [HS.out] at I1
  try rw [HS.out]
  replace OB2 := And.intro OB2.1 (OB2.2.on P1)
  replace OB4 := And.intro OB4.1 (OB4.2.on P1)
  replace B := B.trans P1
  have y2_0 : w1.cell? ⟨w.heap.size, 0, none⟩ = some (.bool b) := OB2.2.cell 0
  have y2_1 : w1.cell? ⟨w.heap.size, 1, none⟩ = some (.slice A n c) := OB2.2.cell 1
  have y2_2 : w1.cell? ⟨w.heap.size, 2, none⟩ = some (.slice A' n' c') := OB2.2.cell 2
  have y2_f0 := OB2.2.frozen 0
  have y2_f1 := OB2.2.frozen 1
  have y2_f2 := OB2.2.frozen 2
  have oo1 := only3 (w := w1) (g := w.heap.size) (.bool true) (.slice Q1 Qn Qc) (.slice Q2 Qm Qd)
  have J := isR_put I1 OB2.2 (.bool true) (.slice Q1 Qn Qc) (.slice Q2 Qm Qd)
  replace B := B.only oo1 (Nat.le_refl _)
  replace OB4 := And.intro OB4.1 (OB4.2.only oo1 (by omega))
  have O2 : Own (((w1.setCell ⟨w.heap.size, 0, none⟩ (.bool true)).setCell ⟨w.heap.size, 1, none⟩ (.slice Q1 Qn Qc)).setCell ⟨w.heap.size, 2, none⟩ (.slice Q2 Qm Qd)) (w.heap.size) 24 #[.bool true, .slice Q1 Qn Qc, .slice Q2 Qm Qd] := ((OB2.2.set_ 0 (.bool true)).set_ 1 (.slice Q1 Qn Qc)).set_ 2 (.slice Q2 Qm Qd)
  replace OB2 := And.intro OB2.1 O2
  clear O2 oo1
  go_wp2_with fail
  refine (iszero_any _ _ r L J).mono ?_
  rintro e w3 ⟨rfl, P3⟩
  rw [HD.out]
  clear y2_0 y2_1 y2_2 y2_f0 y2_f1 y2_f2
  replace OB2 := And.intro OB2.1 (OB2.2.on P3)
  replace OB4 := And.intro OB4.1 (OB4.2.on P3)
  replace B := B.trans P3
  replace J := J.on P3
  have y2_0 : w3.cell? ⟨w.heap.size, 0, none⟩ = some (.bool true) := OB2.2.cell 0
  have y2_1 : w3.cell? ⟨w.heap.size, 1, none⟩ = some (.slice Q1 Qn Qc) := OB2.2.cell 1
  have y2_2 : w3.cell? ⟨w.heap.size, 2, none⟩ = some (.slice Q2 Qm Qd) := OB2.2.cell 2
  have y2_f0 := OB2.2.frozen 0
  have y2_f1 := OB2.2.frozen 1
  have y2_f2 := OB2.2.frozen 2
  go_wp2_with fail
  refine (iszero_any _ _ r L J).mono ?_
  rintro e w4 ⟨rfl, P4⟩
  rw [HD.out]
  clear y2_0 y2_1 y2_2 y2_f0 y2_f1 y2_f2
  replace OB2 := And.intro OB2.1 (OB2.2.on P4)
  replace OB4 := And.intro OB4.1 (OB4.2.on P4)
  replace B := B.trans P4
  replace J := J.on P4
  have y2_0 : w4.cell? ⟨w.heap.size, 0, none⟩ = some (.bool true) := OB2.2.cell 0
  have y2_1 : w4.cell? ⟨w.heap.size, 1, none⟩ = some (.slice Q1 Qn Qc) := OB2.2.cell 1
  have y2_2 : w4.cell? ⟨w.heap.size, 2, none⟩ = some (.slice Q2 Qm Qd) := OB2.2.cell 2
  have y2_f0 := OB2.2.frozen 0
  have y2_f1 := OB2.2.frozen 1
  have y2_f2 := OB2.2.frozen 2
  have HR2 := HR
  obtain ⟨q, hq⟩ : ∃ x, r = x := ⟨_, rfl⟩
  have HQ := Lib.hid hq
  rw [hq] at J
  have HR3 : Hid (q ≠ 0) := Lib.hid (by rw [← hq]; exact HR2.out)
  have HS3 : Hid (decide (q < 0) = true) := Lib.hid (by rw [← hq]; exact HS.out)
  clear hq HR2
  obtain ⟨od, hod⟩ : ∃ x, decide (m % 2 = 1) = x := ⟨_, rfl⟩
  have HOD := Lib.hid hod
  have HSG : Hid (decide (q ^ m < 0) = od) := Lib.hid (by rw [pow_sign q m HR3.out, HS3.out, hod]; simp)
  clear hod
  go_wp2
  refine wp_region_facts (by kernel_rfl) w [Fact.eq (.pointer (some ⟨w.heap.size, 0, none⟩)), Fact.eq (.bool true), Fact.eq (.bool true), Fact.eq (.int .i64 (m : Int)), Fact.eq (.int .i64 ((m % 2 : Nat) : Int)), Fact.eq (.bool od), Fact.eq (.bool od), Fact.eq (.pointer (some ⟨w.heap.size, 1, none⟩)), Fact.eq (.slice Q1 Qn Qc), Fact.eq (.int .i64 (m : Int)), Fact.nm (q.num.natAbs ^ m) (193), Fact.eq (.pointer (some ⟨w.heap.size, 2, none⟩)), Fact.eq (.slice Q2 Qm Qd), Fact.eq (.int .i64 (m : Int)), Fact.nm (q.den ^ m) (193), Fact.rat (q ^ m) (193), Fact.any, Fact.eq (.nilIface)] [Fact.any, Fact.rat (q ^ m) (193)] [⟨18, 2, 24, 18, #[.bool true, .slice Q1 Qn Qc, .slice Q2 Qm Qd]⟩, ⟨18, 4, 24, 16, #[.bool false, .slice none 0 0, .slice none 0 0]⟩] [w.heap.size, w.heap.size + 1] [none, none, none, none, none, some 5, none, none, none, none, none, none, none, none, none, none, none, none, none, none, none, none, none, none, none, none, none, none, none, none, none, none, none, none, none, none, none, none, none, none, some 40, some 41, some 42, some 43, some 44, some 45, some 46, some 47, some 48, some 49, some 50, some 51, some 52, some 53, some 54, some 55] (by kernel_rfl) (by kernel_rfl) (by kernel_rfl) rfl B ?_ ?_ ?_ ?_ ?_
  · exact ⟨fun _ => ⟨by simp, rfl, OB2⟩, fun _ => ⟨by simp, rfl, OB4⟩, trivial⟩
  · exact .inr (by simp <;> omega)
  · exact ⟨⟨noWords_R _ _ _ _ _ _ _, (.inl (Nat.le_refl _)), (.inl (Nat.le_refl _))⟩, ⟨noWords_R _ _ _ _ _ _ _, (.inl (Nat.le_refl _)), (.inr (store_ob (j := 15) (noWords_R _ _ _ _ _ _ _) rfl rfl rfl (by kernel_rfl) rfl rfl rfl))⟩, trivial⟩
  · refine ⟨?_, ?_, ?_, ?_, ?_, ?_, ?_, ?_, ?_, ?_, ?_, ?_, ?_, ?_, ?_, ?_, ?_, ?_, trivial⟩
    · exact .inr fun a w hp => ob_yes rfl (ob_fieldR (hp.box (k := 0) rfl (Nat.le_refl _) (.inl (Nat.le_refl _)) (by kernel_rfl) rfl).1 (by decide) rfl)
    · exact .inr fun a w hp => ob_yes rfl (ob_loadB (hp.fact 0 40 (by kernel_rfl) rfl) (hp.box (k := 0) rfl (Nat.le_refl _) (.inl (Nat.le_refl _)) (by kernel_rfl) rfl).2 rfl rfl)
    · exact .inr fun a w hp => ob_yes rfl (ob_move (hp.fact 1 41 (by kernel_rfl) rfl))
    · exact .inr fun a w hp => ob_yes (wanted_yes (P := Tryz.prog) (j := 2) (d := 42) (b := true) rfl rfl (hp.fact 2 42 (by kernel_rfl) rfl)) (ob_move (hp.same 1 (by kernel_rfl)))
    · refine .inr fun a w hp => ob_yes (wanted_yes (P := Tryz.prog) (j := 2) (d := 42) (b := true) rfl rfl (hp.fact 2 42 (by kernel_rfl) rfl)) ?_
      have h43 : a.tmps.getD 43 undef = .int .i64 (m : Int) := (hp.fact 3 43 (by kernel_rfl) rfl)
      unfold Does
      go_simp
      exact ⟨_, rfl, On.refl _, by show Value.int _ _ = Value.int _ _; go_num⟩
    · refine .inr fun a w hp => ob_yes (wanted_yes (P := Tryz.prog) (j := 2) (d := 42) (b := true) rfl rfl (hp.fact 2 42 (by kernel_rfl) rfl)) ?_
      have h44 : a.tmps.getD 44 undef = .int .i64 ((m % 2 : Nat) : Int) := (hp.fact 4 44 (by kernel_rfl) rfl)
      unfold Does
      go_simp
      exact ⟨_, rfl, On.refl _, by show Value.bool _ = Value.bool _; rw [← HOD.out]; congr 1; rw [Bool.eq_iff_iff, beq_iff_eq, decide_eq_true_iff]; omega⟩
    · refine .inr fun a w hp => ob_yes rfl ?_
      have h42 : a.tmps.getD 42 undef = .bool true := (hp.fact 2 42 (by kernel_rfl) rfl)
      have h45 : a.tmps.getD 45 undef = .bool od := (hp.fact 5 45 (by kernel_rfl) rfl)
      unfold Does
      go_simp
      exact ⟨_, rfl, On.refl _, rfl⟩
    · exact .inr fun a w hp => ob_yes rfl (ob_fieldR (hp.box (k := 0) rfl (Nat.le_refl _) (.inl (Nat.le_refl _)) (by kernel_rfl) rfl).1 (by decide) rfl)
    · exact .inr fun a w hp => ob_yes rfl (ob_loadS (hp.fact 7 47 (by kernel_rfl) rfl) (hp.box (k := 0) rfl (Nat.le_refl _) (.inl (Nat.le_refl _)) (by kernel_rfl) rfl).2 rfl rfl)
    · exact .inr fun a w hp => ob_yes rfl (ob_move (hp.same 1 (by kernel_rfl)))
    · refine .inr fun a w hp => ob_yes rfl ?_
      have h48 : a.tmps.getD 48 undef = .slice Q1 Qn Qc := (hp.fact 8 48 (by kernel_rfl) rfl)
      have h49 : a.tmps.getD 49 undef = .int .i64 (m : Int) := (hp.fact 9 49 (by kernel_rfl) rfl)
      unfold Does
      go_simp
      obtain ⟨Y1, Yn, Yc, U1, Y2, Ym, Yd, U2, ez, RU, RV, CU, CV, lu, lv, vu, vv⟩ := J.kept hp.kept
      injection ez with ez
      have e1 : Value.slice Q1 Qn Qc = .slice Y1 Yn Yc := by have := congrArg (fun x : Array Value => x[1]?) ez; simpa using this
      have e2 : Value.slice Q2 Qm Qd = .slice Y2 Ym Yd := by have := congrArg (fun x : Array Value => x[2]?) ez; simpa using this
      injection e1 with p1 p2 p3
      injection e2 with p4 p5 p6
      subst p1 p2 p3 p4 p5 p6
      refine (rpowL _ _ _ _ U1 RU m (by omega) L 193 lu HLM.out (by decide) (by omega)).mono ?_
      rintro e w' ⟨A8, n8, c8, rfl, N8, P8⟩
      rw [vu] at N8
      exact ⟨_, rfl, P8, _, _, _, rfl, N8⟩
    · exact .inr fun a w hp => ob_yes rfl (ob_fieldR (hp.box (k := 0) rfl (Nat.le_refl _) (.inl (Nat.le_refl _)) (by kernel_rfl) rfl).1 (by decide) rfl)
    · exact .inr fun a w hp => ob_yes rfl (ob_loadS (hp.fact 11 51 (by kernel_rfl) rfl) (hp.box (k := 0) rfl (Nat.le_refl _) (.inl (Nat.le_refl _)) (by kernel_rfl) rfl).2 rfl rfl)
    · exact .inr fun a w hp => ob_yes rfl (ob_move (hp.same 1 (by kernel_rfl)))
    · refine .inr fun a w hp => ob_yes rfl ?_
      have h52 : a.tmps.getD 52 undef = .slice Q2 Qm Qd := (hp.fact 12 52 (by kernel_rfl) rfl)
      have h53 : a.tmps.getD 53 undef = .int .i64 (m : Int) := (hp.fact 13 53 (by kernel_rfl) rfl)
      unfold Does
      go_simp
      obtain ⟨Y1, Yn, Yc, U1, Y2, Ym, Yd, U2, ez, RU, RV, CU, CV, lu, lv, vu, vv⟩ := J.kept hp.kept
      injection ez with ez
      have e1 : Value.slice Q1 Qn Qc = .slice Y1 Yn Yc := by have := congrArg (fun x : Array Value => x[1]?) ez; simpa using this
      have e2 : Value.slice Q2 Qm Qd = .slice Y2 Ym Yd := by have := congrArg (fun x : Array Value => x[2]?) ez; simpa using this
      injection e1 with p1 p2 p3
      injection e2 with p4 p5 p6
      subst p1 p2 p3 p4 p5 p6
      refine (rpowL _ _ _ _ U2 RV m (by omega) L 193 lv HLM.out (by decide) (by omega)).mono ?_
      rintro e w' ⟨A8, n8, c8, rfl, N8, P8⟩
      rw [vv, dn_ne HR3.out] at N8
      exact ⟨_, rfl, P8, _, _, _, rfl, N8⟩
    · refine .inr fun a w hp => ob_yes rfl ?_
      have h46 : a.tmps.getD 46 undef = .bool od := (hp.fact 6 46 (by kernel_rfl) rfl)
      obtain ⟨A50, n50, c50, e50, h50⟩ : ∃ A n c, a.tmps.getD 50 undef = .slice A n c ∧ Nm w A n c (q.num.natAbs ^ m) (193) := (hp.fact 10 50 (by kernel_rfl) rfl)
      obtain ⟨A54, n54, c54, e54, h54⟩ : ∃ A n c, a.tmps.getD 54 undef = .slice A n c ∧ Nm w A n c (q.den ^ m) (193) := (hp.fact 14 54 (by kernel_rfl) rfl)
      refine ob_buildR h46 e50 e54 ?_
      exact isR_pow HR3.out HSG.out h50 h54
    · exact .inl rfl
    · exact .inr fun a w hp => ob_yes rfl (does_value rfl rfl)
  · intro f wr hon hk hf hb hap
    obtain ⟨q0, q1, qz⟩ := hb
    clear qz
    have O2 : Own wr (w.heap.size) 24 #[.bool true, .slice Q1 Qn Qc, .slice Q2 Qm Qd] := q0
    have c2_0 : wr.cell? ⟨w.heap.size, 0, none⟩ = some (.bool true) := O2.cell 0
    have z2_0 := O2.frozen 0
    have c2_1 : wr.cell? ⟨w.heap.size, 1, none⟩ = some (.slice Q1 Qn Qc) := O2.cell 1
    have z2_1 := O2.frozen 1
    have c2_2 : wr.cell? ⟨w.heap.size, 2, none⟩ = some (.slice Q2 Qm Qd) := O2.cell 2
    have z2_2 := O2.frozen 2
    clear q0
    obtain ⟨cur4, O4, I4⟩ : ∃ cur, Own wr (w.heap.size + 1) 24 cur ∧ IsR wr (.agg cur) (q ^ m) (193) := q1
    obtain ⟨P4, Pn4, Pc4, _, R4, Rn4, Rc4, _, hz4, _⟩ := id I4
    injection hz4 with hz4
    subst hz4
    have c4_0 : wr.cell? ⟨w.heap.size + 1, 0, none⟩ = some (.bool (decide (q ^ m < 0))) := O4.cell 0
    have z4_0 := O4.frozen 0
    have c4_1 : wr.cell? ⟨w.heap.size + 1, 1, none⟩ = some (.slice P4 Pn4 Pc4) := O4.cell 1
    have z4_1 := O4.frozen 1
    have c4_2 : wr.cell? ⟨w.heap.size + 1, 2, none⟩ = some (.slice R4 Rn4 Rc4) := O4.cell 2
    have z4_2 := O4.frozen 2
    have e5 : f 5 = .nilIface := hf 17 5 rfl
    clear hf hap
    simp only [fillL, e5]
    clear e5
    go_wp2
    exact bodyPost_ret (v := .tuple #[.agg #[.bool (decide (q ^ m < 0)), .slice P4 Pn4 Pc4, .slice R4 Rn4 Rc4], .nilIface]) (by simp [results, Tryz.results23, go_sem, c4_0, c4_1, c4_2]) rfl ⟨_, rfl, by rw [HQ.out]; exact I4, hon⟩
set_option maxRecDepth 100000 in
set_option maxHeartbeats 1600000 in
theorem ppow_neg0 (w : World) (v : Value) (r : Rat) (L : Nat) (h : Fld w v r L) (hL1 : 1 ≤ L) (hL : L ≤ 12) (m : Nat) (hm : m ≤ 64) (hLm : L * m < 193) (h0 : 0 < m) (hr : r ≠ 0) (hs : decide (r⁻¹ < 0) = false) :
    Calls Tryz.prog 23 #[v, .int .i64 (-(m : Int))] w (RatPost2 w (r⁻¹ ^ m) 193 (.nilIface)) := by
  obtain ⟨b, A, n, c, A', n', c', xs, ys, rfl, R, R', h1, h2, h3⟩ := id h
  clear h3
  have HLM := Lib.hid hLm
  clear hLm
  have HR := Lib.hid hr
  have HD : Hid (decide (r = 0) = false) := Lib.hid (by first | exact decide_eq_true hr | exact decide_eq_false hr)
  clear hr
  have HS := Lib.hid hs
  clear hs
  have B : On w ((w.alloc (.cells #[.bool b, .slice A n c, .slice A' n' c'] 24)).alloc (.cells #[.bool false, .slice none 0 0, .slice none 0 0] 24)) := On.alloc (On.alloc (On.refl w) _) _
  have OB2 : w.heap.size ≤ w.heap.size ∧ Own ((w.alloc (.cells #[.bool b, .slice A n c, .slice A' n' c'] 24)).alloc (.cells #[.bool false, .slice none 0 0, .slice none 0 0] 24)) (w.heap.size) 24 #[.bool b, .slice A n c, .slice A' n' c'] := ⟨by omega, ((Own.at_ w (w.heap.size) (by simp) 24 #[.bool b, .slice A n c, .slice A' n' c']).alloc (.cells #[.bool false, .slice none 0 0, .slice none 0 0] 24))⟩
  have OB4 : w.heap.size ≤ w.heap.size + 1 ∧ Own ((w.alloc (.cells #[.bool b, .slice A n c, .slice A' n' c'] 24)).alloc (.cells #[.bool false, .slice none 0 0, .slice none 0 0] 24)) (w.heap.size + 1) 24 #[.bool false, .slice none 0 0, .slice none 0 0] := ⟨by omega, (Own.at_ (w.alloc (.cells #[.bool b, .slice A n c, .slice A' n' c'] 24)) (w.heap.size + 1) (by simp) 24 #[.bool false, .slice none 0 0, .slice none 0 0])⟩
  go_enter Tryz.func23, Tryz.ntmps23
  go_wp2_with fail
  refine (value_fld _ _ r L (h.on B) (by omega)).mono ?_
  rintro e w1 ⟨v1, rfl, I1, P1⟩
  obtain ⟨Q1, Qn, Qc, X1, Q2, Qm, Qd, X2, rfl, _⟩ := id I1
  obtain ⟨sb, hsb⟩ : ∃ x, decide (r < 0) = x := ⟨_, rfl⟩
  rw [hsb] at I1
  try rw [hsb]
  clear hsb
  replace OB2 := And.intro OB2.1 (OB2.2.on P1)
  replace OB4 := And.intro OB4.1 (OB4.2.on P1)
  replace B := B.trans P1
  have y2_0 : w1.cell? ⟨w.heap.size, 0, none⟩ = some (.bool b) := OB2.2.cell 0
  have y2_1 : w1.cell? ⟨w.heap.size, 1, none⟩ = some (.slice A n c) := OB2.2.cell 1
  have y2_2 : w1.cell? ⟨w.heap.size, 2, none⟩ = some (.slice A' n' c') := OB2.2.cell 2
  have y2_f0 := OB2.2.frozen 0
  have y2_f1 := OB2.2.frozen 1
  have y2_f2 := OB2.2.frozen 2
  have oo1 := only3 (w := w1) (g := w.heap.size) (.bool sb) (.slice Q1 Qn Qc) (.slice Q2 Qm Qd)
  have J := isR_put I1 OB2.2 (.bool sb) (.slice Q1 Qn Qc) (.slice Q2 Qm Qd)
  replace B := B.only oo1 (Nat.le_refl _)
  replace OB4 := And.intro OB4.1 (OB4.2.only oo1 (by omega))
  have O2 : Own (((w1.setCell ⟨w.heap.size, 0, none⟩ (.bool sb)).setCell ⟨w.heap.size, 1, none⟩ (.slice Q1 Qn Qc)).setCell ⟨w.heap.size, 2, none⟩ (.slice Q2 Qm Qd)) (w.heap.size) 24 #[.bool sb, .slice Q1 Qn Qc, .slice Q2 Qm Qd] := ((OB2.2.set_ 0 (.bool sb)).set_ 1 (.slice Q1 Qn Qc)).set_ 2 (.slice Q2 Qm Qd)
  replace OB2 := And.intro OB2.1 O2
  clear O2 oo1
  go_wp2_with fail
  refine (iszero_any _ _ r L J).mono ?_
  rintro e w3 ⟨rfl, P3⟩
  rw [HD.out]
  clear y2_0 y2_1 y2_2 y2_f0 y2_f1 y2_f2
  replace OB2 := And.intro OB2.1 (OB2.2.on P3)
  replace OB4 := And.intro OB4.1 (OB4.2.on P3)
  replace B := B.trans P3
  replace J := J.on P3
  have y2_0 : w3.cell? ⟨w.heap.size, 0, none⟩ = some (.bool sb) := OB2.2.cell 0
  have y2_1 : w3.cell? ⟨w.heap.size, 1, none⟩ = some (.slice Q1 Qn Qc) := OB2.2.cell 1
  have y2_2 : w3.cell? ⟨w.heap.size, 2, none⟩ = some (.slice Q2 Qm Qd) := OB2.2.cell 2
  have y2_f0 := OB2.2.frozen 0
  have y2_f1 := OB2.2.frozen 1
  have y2_f2 := OB2.2.frozen 2
  go_wp2_with fail
  refine (iszero_any _ _ r L J).mono ?_
  rintro e w4 ⟨rfl, P4⟩
  rw [HD.out]
  clear y2_0 y2_1 y2_2 y2_f0 y2_f1 y2_f2
  replace OB2 := And.intro OB2.1 (OB2.2.on P4)
  replace OB4 := And.intro OB4.1 (OB4.2.on P4)
  replace B := B.trans P4
  replace J := J.on P4
  have y2_0 : w4.cell? ⟨w.heap.size, 0, none⟩ = some (.bool sb) := OB2.2.cell 0
  have y2_1 : w4.cell? ⟨w.heap.size, 1, none⟩ = some (.slice Q1 Qn Qc) := OB2.2.cell 1
  have y2_2 : w4.cell? ⟨w.heap.size, 2, none⟩ = some (.slice Q2 Qm Qd) := OB2.2.cell 2
  have y2_f0 := OB2.2.frozen 0
  have y2_f1 := OB2.2.frozen 1
  have y2_f2 := OB2.2.frozen 2
  go_wp2_with fail
  refine (inverse_any _ _ r L J HR.out).mono ?_
  rintro e w5 ⟨v5, rfl, I5, P5⟩
  obtain ⟨T1, Tn, Tc, X3, T2, Tm, Td, X4, rfl, _⟩ := id I5
  rw [HS.out] at I5
  try rw [HS.out]
  clear J y2_0 y2_1 y2_2 y2_f0 y2_f1 y2_f2
  replace OB2 := And.intro OB2.1 (OB2.2.on P5)
  replace OB4 := And.intro OB4.1 (OB4.2.on P5)
  replace B := B.trans P5
  have y2_0 : w5.cell? ⟨w.heap.size, 0, none⟩ = some (.bool sb) := OB2.2.cell 0
  have y2_1 : w5.cell? ⟨w.heap.size, 1, none⟩ = some (.slice Q1 Qn Qc) := OB2.2.cell 1
  have y2_2 : w5.cell? ⟨w.heap.size, 2, none⟩ = some (.slice Q2 Qm Qd) := OB2.2.cell 2
  have y2_f0 := OB2.2.frozen 0
  have y2_f1 := OB2.2.frozen 1
  have y2_f2 := OB2.2.frozen 2
  have oo2 := only3 (w := w5) (g := w.heap.size) (.bool false) (.slice T1 Tn Tc) (.slice T2 Tm Td)
  have J := isR_put I5 OB2.2 (.bool false) (.slice T1 Tn Tc) (.slice T2 Tm Td)
  replace B := B.only oo2 (Nat.le_refl _)
  replace OB4 := And.intro OB4.1 (OB4.2.only oo2 (by omega))
  have O2 : Own (((w5.setCell ⟨w.heap.size, 0, none⟩ (.bool false)).setCell ⟨w.heap.size, 1, none⟩ (.slice T1 Tn Tc)).setCell ⟨w.heap.size, 2, none⟩ (.slice T2 Tm Td)) (w.heap.size) 24 #[.bool false, .slice T1 Tn Tc, .slice T2 Tm Td] := ((OB2.2.set_ 0 (.bool false)).set_ 1 (.slice T1 Tn Tc)).set_ 2 (.slice T2 Tm Td)
  replace OB2 := And.intro OB2.1 O2
  clear O2 oo2
  have HR2 := Lib.hid (inv_ne' HR.out)
  obtain ⟨q, hq⟩ : ∃ x, r⁻¹ = x := ⟨_, rfl⟩
  have HQ := Lib.hid hq
  rw [hq] at J
  have HR3 : Hid (q ≠ 0) := Lib.hid (by rw [← hq]; exact HR2.out)
  have HS3 : Hid (decide (q < 0) = false) := Lib.hid (by rw [← hq]; exact HS.out)
  clear hq HR2
  obtain ⟨od, hod⟩ : ∃ x, decide (m % 2 = 1) = x := ⟨_, rfl⟩
  have HOD := Lib.hid hod
  have HSG : Hid (decide (q ^ m < 0) = false) := Lib.hid (by rw [pow_sign q m HR3.out, HS3.out, hod]; simp)
  clear hod
  go_wp2
  refine wp_region_facts (by kernel_rfl) w [Fact.eq (.pointer (some ⟨w.heap.size, 0, none⟩)), Fact.eq (.bool false), Fact.eq (.bool false), Fact.eq (undef), Fact.eq (undef), Fact.eq (undef), Fact.eq (.bool false), Fact.eq (.pointer (some ⟨w.heap.size, 1, none⟩)), Fact.eq (.slice T1 Tn Tc), Fact.eq (.int .i64 (m : Int)), Fact.nm (q.num.natAbs ^ m) (193), Fact.eq (.pointer (some ⟨w.heap.size, 2, none⟩)), Fact.eq (.slice T2 Tm Td), Fact.eq (.int .i64 (m : Int)), Fact.nm (q.den ^ m) (193), Fact.rat (q ^ m) (193), Fact.any, Fact.eq (.nilIface)] [Fact.any, Fact.rat (q ^ m) (193)] [⟨18, 2, 24, 18, #[.bool false, .slice T1 Tn Tc, .slice T2 Tm Td]⟩, ⟨18, 4, 24, 16, #[.bool false, .slice none 0 0, .slice none 0 0]⟩] [w.heap.size, w.heap.size + 1] [none, none, none, none, none, some 5, none, none, none, none, none, none, none, none, none, none, none, none, none, none, none, none, none, none, none, none, none, none, none, none, none, none, none, none, none, none, none, none, none, none, some 40, some 41, some 42, some 43, some 44, some 45, some 46, some 47, some 48, some 49, some 50, some 51, some 52, some 53, some 54, some 55] (by kernel_rfl) (by kernel_rfl) (by kernel_rfl) rfl B ?_ ?_ ?_ ?_ ?_
  · exact ⟨fun _ => ⟨by simp, rfl, OB2⟩, fun _ => ⟨by simp, rfl, OB4⟩, trivial⟩
  · exact .inr (by simp <;> omega)
  · exact ⟨⟨noWords_R _ _ _ _ _ _ _, (.inl (Nat.le_refl _)), (.inl (Nat.le_refl _))⟩, ⟨noWords_R _ _ _ _ _ _ _, (.inl (Nat.le_refl _)), (.inr (store_ob (j := 15) (noWords_R _ _ _ _ _ _ _) rfl rfl rfl (by kernel_rfl) rfl rfl rfl))⟩, trivial⟩
  · refine ⟨?_, ?_, ?_, ?_, ?_, ?_, ?_, ?_, ?_, ?_, ?_, ?_, ?_, ?_, ?_, ?_, ?_, ?_, trivial⟩
    · exact .inr fun a w hp => ob_yes rfl (ob_fieldR (hp.box (k := 0) rfl (Nat.le_refl _) (.inl (Nat.le_refl _)) (by kernel_rfl) rfl).1 (by decide) rfl)
    · exact .inr fun a w hp => ob_yes rfl (ob_loadB (hp.fact 0 40 (by kernel_rfl) rfl) (hp.box (k := 0) rfl (Nat.le_refl _) (.inl (Nat.le_refl _)) (by kernel_rfl) rfl).2 rfl rfl)
    · exact .inr fun a w hp => ob_yes rfl (ob_move (hp.fact 1 41 (by kernel_rfl) rfl))
    · exact .inr fun a w hp => ob_no (wanted_no (P := Tryz.prog) (j := 2) (d := 42) (b := false) rfl rfl (hp.fact 2 42 (by kernel_rfl) rfl)) rfl
    · exact .inr fun a w hp => ob_no (wanted_no (P := Tryz.prog) (j := 2) (d := 42) (b := false) rfl rfl (hp.fact 2 42 (by kernel_rfl) rfl)) rfl
    · exact .inr fun a w hp => ob_no (wanted_no (P := Tryz.prog) (j := 2) (d := 42) (b := false) rfl rfl (hp.fact 2 42 (by kernel_rfl) rfl)) rfl
    · refine .inr fun a w hp => ob_yes rfl ?_
      have h42 : a.tmps.getD 42 undef = .bool false := (hp.fact 2 42 (by kernel_rfl) rfl)
      have h45 : a.tmps.getD 45 undef = undef := (hp.fact 5 45 (by kernel_rfl) rfl)
      unfold Does
      go_simp
      exact ⟨_, rfl, On.refl _, rfl⟩
    · exact .inr fun a w hp => ob_yes rfl (ob_fieldR (hp.box (k := 0) rfl (Nat.le_refl _) (.inl (Nat.le_refl _)) (by kernel_rfl) rfl).1 (by decide) rfl)
    · exact .inr fun a w hp => ob_yes rfl (ob_loadS (hp.fact 7 47 (by kernel_rfl) rfl) (hp.box (k := 0) rfl (Nat.le_refl _) (.inl (Nat.le_refl _)) (by kernel_rfl) rfl).2 rfl rfl)
    · exact .inr fun a w hp => ob_yes rfl (ob_move (hp.same 1 (by kernel_rfl)))
    · refine .inr fun a w hp => ob_yes rfl ?_
      have h48 : a.tmps.getD 48 undef = .slice T1 Tn Tc := (hp.fact 8 48 (by kernel_rfl) rfl)
      have h49 : a.tmps.getD 49 undef = .int .i64 (m : Int) := (hp.fact 9 49 (by kernel_rfl) rfl)
      unfold Does
      go_simp
      obtain ⟨Y1, Yn, Yc, U1, Y2, Ym, Yd, U2, ez, RU, RV, CU, CV, lu, lv, vu, vv⟩ := J.kept hp.kept
      injection ez with ez
      have e1 : Value.slice T1 Tn Tc = .slice Y1 Yn Yc := by have := congrArg (fun x : Array Value => x[1]?) ez; simpa using this
      have e2 : Value.slice T2 Tm Td = .slice Y2 Ym Yd := by have := congrArg (fun x : Array Value => x[2]?) ez; simpa using this
      injection e1 with p1 p2 p3
      injection e2 with p4 p5 p6
      subst p1 p2 p3 p4 p5 p6
      refine (rpowL _ _ _ _ U1 RU m (by omega) L 193 lu HLM.out (by decide) (by omega)).mono ?_
      rintro e w' ⟨A8, n8, c8, rfl, N8, P8⟩
      rw [vu] at N8
      exact ⟨_, rfl, P8, _, _, _, rfl, N8⟩
    · exact .inr fun a w hp => ob_yes rfl (ob_fieldR (hp.box (k := 0) rfl (Nat.le_refl _) (.inl (Nat.le_refl _)) (by kernel_rfl) rfl).1 (by decide) rfl)
    · exact .inr fun a w hp => ob_yes rfl (ob_loadS (hp.fact 11 51 (by kernel_rfl) rfl) (hp.box (k := 0) rfl (Nat.le_refl _) (.inl (Nat.le_refl _)) (by kernel_rfl) rfl).2 rfl rfl)
    · exact .inr fun a w hp => ob_yes rfl (ob_move (hp.same 1 (by kernel_rfl)))
    · refine .inr fun a w hp => ob_yes rfl ?_
      have h52 : a.tmps.getD 52 undef = .slice T2 Tm Td := (hp.fact 12 52 (by kernel_rfl) rfl)
      have h53 : a.tmps.getD 53 undef = .int .i64 (m : Int) := (hp.fact 13 53 (by kernel_rfl) rfl)
      unfold Does
      go_simp
      obtain ⟨Y1, Yn, Yc, U1, Y2, Ym, Yd, U2, ez, RU, RV, CU, CV, lu, lv, vu, vv⟩ := J.kept hp.kept
      injection ez with ez
      have e1 : Value.slice T1 Tn Tc = .slice Y1 Yn Yc := by have := congrArg (fun x : Array Value => x[1]?) ez; simpa using this
      have e2 : Value.slice T2 Tm Td = .slice Y2 Ym Yd := by have := congrArg (fun x : Array Value => x[2]?) ez; simpa using this
      injection e1 with p1 p2 p3
      injection e2 with p4 p5 p6
      subst p1 p2 p3 p4 p5 p6
      refine (rpowL _ _ _ _ U2 RV m (by omega) L 193 lv HLM.out (by decide) (by omega)).mono ?_
      rintro e w' ⟨A8, n8, c8, rfl, N8, P8⟩
      rw [vv, dn_ne HR3.out] at N8
      exact ⟨_, rfl, P8, _, _, _, rfl, N8⟩
    · refine .inr fun a w hp => ob_yes rfl ?_
      have h46 : a.tmps.getD 46 undef = .bool false := (hp.fact 6 46 (by kernel_rfl) rfl)
      obtain ⟨A50, n50, c50, e50, h50⟩ : ∃ A n c, a.tmps.getD 50 undef = .slice A n c ∧ Nm w A n c (q.num.natAbs ^ m) (193) := (hp.fact 10 50 (by kernel_rfl) rfl)
      obtain ⟨A54, n54, c54, e54, h54⟩ : ∃ A n c, a.tmps.getD 54 undef = .slice A n c ∧ Nm w A n c (q.den ^ m) (193) := (hp.fact 14 54 (by kernel_rfl) rfl)
      refine ob_buildR h46 e50 e54 ?_
      exact isR_pow HR3.out HSG.out h50 h54
    · exact .inl rfl
    · exact .inr fun a w hp => ob_yes rfl (does_value rfl rfl)
  · intro f wr hon hk hf hb hap
    obtain ⟨q0, q1, qz⟩ := hb
    clear qz
    have O2 : Own wr (w.heap.size) 24 #[.bool false, .slice T1 Tn Tc, .slice T2 Tm Td] := q0
    have c2_0 : wr.cell? ⟨w.heap.size, 0, none⟩ = some (.bool false) := O2.cell 0
    have z2_0 := O2.frozen 0
    have c2_1 : wr.cell? ⟨w.heap.size, 1, none⟩ = some (.slice T1 Tn Tc) := O2.cell 1
    have z2_1 := O2.frozen 1
    have c2_2 : wr.cell? ⟨w.heap.size, 2, none⟩ = some (.slice T2 Tm Td) := O2.cell 2
    have z2_2 := O2.frozen 2
    clear q0
    obtain ⟨cur4, O4, I4⟩ : ∃ cur, Own wr (w.heap.size + 1) 24 cur ∧ IsR wr (.agg cur) (q ^ m) (193) := q1
    obtain ⟨P4, Pn4, Pc4, _, R4, Rn4, Rc4, _, hz4, _⟩ := id I4
    injection hz4 with hz4
    subst hz4
    have c4_0 : wr.cell? ⟨w.heap.size + 1, 0, none⟩ = some (.bool (decide (q ^ m < 0))) := O4.cell 0
    have z4_0 := O4.frozen 0
    have c4_1 : wr.cell? ⟨w.heap.size + 1, 1, none⟩ = some (.slice P4 Pn4 Pc4) := O4.cell 1
    have z4_1 := O4.frozen 1
    have c4_2 : wr.cell? ⟨w.heap.size + 1, 2, none⟩ = some (.slice R4 Rn4 Rc4) := O4.cell 2
    have z4_2 := O4.frozen 2
    have e5 : f 5 = .nilIface := hf 17 5 rfl
    clear hf hap
    simp only [fillL, e5]
    clear e5
    go_wp2
    exact bodyPost_ret (v := .tuple #[.agg #[.bool (decide (q ^ m < 0)), .slice P4 Pn4 Pc4, .slice R4 Rn4 Rc4], .nilIface]) (by simp [results, Tryz.results23, go_sem, c4_0, c4_1, c4_2]) rfl ⟨_, rfl, by rw [HQ.out]; exact I4, hon⟩
set_option maxRecDepth 100000 in
set_option maxHeartbeats 1600000 in
theorem ppow_neg1 (w : World) (v : Value) (r : Rat) (L : Nat) (h : Fld w v r L) (hL1 : 1 ≤ L) (hL : L ≤ 12) (m : Nat) (hm : m ≤ 64) (hLm : L * m < 193) (h0 : 0 < m) (hr : r ≠ 0) (hs : decide (r⁻¹ < 0) = true) :
    Calls Tryz.prog 23 #[v, .int .i64 (-(m : Int))] w (RatPost2 w (r⁻¹ ^ m) 193 (.nilIface)) := by
  obtain ⟨b, A, n, c, A', n', c', xs, ys, rfl, R, R', h1, h2, h3⟩ := id h
  clear h3
  have HLM := Lib.hid hLm
  clear hLm
  have HR := Lib.hid hr
  have HD : Hid (decide (r = 0) = false) := Lib.hid (by first | exact decide_eq_true hr | exact decide_eq_false hr)
  clear hr
  have HS := Lib.hid hs
  clear hs
  have B : On w ((w.alloc (.cells #[.bool b, .slice A n c, .slice A' n' c'] 24)).alloc (.cells #[.bool false, .slice none 0 0, .slice none 0 0] 24)) := On.alloc (On.alloc (On.refl w) _) _
  have OB2 : w.heap.size ≤ w.heap.size ∧ Own ((w.alloc (.cells #[.bool b, .slice A n c, .slice A' n' c'] 24)).alloc (.cells #[.bool false, .slice none 0 0, .slice none 0 0] 24)) (w.heap.size) 24 #[.bool b, .slice A n c, .slice A' n' c'] := ⟨by omega, ((Own.at_ w (w.heap.size) (by simp) 24 #[.bool b, .slice A n c, .slice A' n' c']).alloc (.cells #[.bool false, .slice none 0 0, .slice none 0 0] 24))⟩
  have OB4 : w.heap.size ≤ w.heap.size + 1 ∧ Own ((w.alloc (.cells #[.bool b, .slice A n c, .slice A' n' c'] 24)).alloc (.cells #[.bool false, .slice none 0 0, .slice none 0 0] 24)) (w.heap.size + 1) 24 #[.bool false, .slice none 0 0, .slice none 0 0] := ⟨by omega, (Own.at_ (w.alloc (.cells #[.bool b, .slice A n c, .slice A' n' c'] 24)) (w.heap.size + 1) (by simp) 24 #[.bool false, .slice none 0 0, .slice none 0 0])⟩
  go_enter Tryz.func23, Tryz.ntmps23
  go_wp2_with fail
  refine (value_fld _ _ r L (h.on B) (by omega)).mono ?_
  rintro e w1 ⟨v1, rfl, I1, P1⟩
  obtain ⟨Q1, Qn, Qc, X1, Q2, Qm, Qd, X2, rfl, _⟩ := id I1
  obtain ⟨sb, hsb⟩ : ∃ x, decide (r < 0) = x := ⟨_, rfl⟩
  rw [hsb] at I1
  try rw [hsb]
  clear hsb
  replace OB2 := And.intro OB2.1 (OB2.2.on P1)
  replace OB4 := And.intro OB4.1 (OB4.2.on P1)
  replace B := B.trans P1
  have y2_0 : w1.cell? ⟨w.heap.size, 0, none⟩ = some (.bool b) := OB2.2.cell 0
  have y2_1 : w1.cell? ⟨w.heap.size, 1, none⟩ = some (.slice A n c) := OB2.2.cell 1
  have y2_2 : w1.cell? ⟨w.heap.size, 2, none⟩ = some (.slice A' n' c') := OB2.2.cell 2
  have y2_f0 := OB2.2.frozen 0
  have y2_f1 := OB2.2.frozen 1
  have y2_f2 := OB2.2.frozen 2
  have oo1 := only3 (w := w1) (g := w.heap.size) (.bool sb) (.slice Q1 Qn Qc) (.slice Q2 Qm Qd)
  have J := isR_put I1 OB2.2 (.bool sb) (.slice Q1 Qn Qc) (.slice Q2 Qm Qd)
  replace B := B.only oo1 (Nat.le_refl _)
  replace OB4 := And.intro OB4.1 (OB4.2.only oo1 (by omega))
  have O2 : Own (((w1.setCell ⟨w.heap.size, 0, none⟩ (.bool sb)).setCell ⟨w.heap.size, 1, none⟩ (.slice Q1 Qn Qc)).setCell ⟨w.heap.size, 2, none⟩ (.slice Q2 Qm Qd)) (w.heap.size) 24 #[.bool sb, .slice Q1 Qn Qc, .slice Q2 Qm Qd] := ((OB2.2.set_ 0 (.bool sb)).set_ 1 (.slice Q1 Qn Qc)).set_ 2 (.slice Q2 Qm Qd)
  replace OB2 := And.intro OB2.1 O2
  clear O2 oo1
  go_wp2_with fail
  refine (iszero_any _ _ r L J).mono ?_
  rintro e w3 ⟨rfl, P3⟩
  rw [HD.out]
  clear y2_0 y2_1 y2_2 y2_f0 y2_f1 y2_f2
  replace OB2 := And.intro OB2.1 (OB2.2.on P3)
  replace OB4 := And.intro OB4.1 (OB4.2.on P3)
  replace B := B.trans P3
  replace J := J.on P3
  have y2_0 : w3.cell? ⟨w.heap.size, 0, none⟩ = some (.bool sb) := OB2.2.cell 0
  have y2_1 : w3.cell? ⟨w.heap.size, 1, none⟩ = some (.slice Q1 Qn Qc) := OB2.2.cell 1
  have y2_2 : w3.cell? ⟨w.heap.size, 2, none⟩ = some (.slice Q2 Qm Qd) := OB2.2.cell 2
  have y2_f0 := OB2.2.frozen 0
  have y2_f1 := OB2.2.frozen 1
  have y2_f2 := OB2.2.frozen 2
  go_wp2_with fail
  refine (iszero_any _ _ r L J).mono ?_
  rintro e w4 ⟨rfl, P4⟩
  rw [HD.out]
  clear y2_0 y2_1 y2_2 y2_f0 y2_f1 y2_f2
  replace OB2 := And.intro OB2.1 (OB2.2.on P4)
  replace OB4 := And.intro OB4.1 (OB4.2.on P4)
  replace B := B.trans P4
  replace J := J.on P4
  have y2_0 : w4.cell? ⟨w.heap.size, 0, none⟩ = some (.bool sb) := OB2.2.cell 0
  have y2_1 : w4.cell? ⟨w.heap.size, 1, none⟩ = some (.slice Q1 Qn Qc) := OB2.2.cell 1
  have y2_2 : w4.cell? ⟨w.heap.size, 2, none⟩ = some (.slice Q2 Qm Qd) := OB2.2.cell 2
  have y2_f0 := OB2.2.frozen 0
  have y2_f1 := OB2.2.frozen 1
  have y2_f2 := OB2.2.frozen 2
  go_wp2_with fail
  refine (inverse_any _ _ r L J HR.out).mono ?_
  rintro e w5 ⟨v5, rfl, I5, P5⟩
  obtain ⟨T1, Tn, Tc, X3, T2, Tm, Td, X4, rfl, _⟩ := id I5
  rw [HS.out] at I5
  try rw [HS.out]
  clear J y2_0 y2_1 y2_2 y2_f0 y2_f1 y2_f2
  replace OB2 := And.intro OB2.1 (OB2.2.on P5)
  replace OB4 := And.intro OB4.1 (OB4.2.on P5)
  replace B := B.trans P5
  have y2_0 : w5.cell? ⟨w.heap.size, 0, none⟩ = some (.bool sb) := OB2.2.cell 0
  have y2_1 : w5.cell? ⟨w.heap.size, 1, none⟩ = some (.slice Q1 Qn Qc) := OB2.2.cell 1
  have y2_2 : w5.cell? ⟨w.heap.size, 2, none⟩ = some (.slice Q2 Qm Qd) := OB2.2.cell 2
  have y2_f0 := OB2.2.frozen 0
  have y2_f1 := OB2.2.frozen 1
  have y2_f2 := OB2.2.frozen 2
  have oo2 := only3 (w := w5) (g := w.heap.size) (.bool true) (.slice T1 Tn Tc) (.slice T2 Tm Td)
  have J := isR_put I5 OB2.2 (.bool true) (.slice T1 Tn Tc) (.slice T2 Tm Td)
  replace B := B.only oo2 (Nat.le_refl _)
  replace OB4 := And.intro OB4.1 (OB4.2.only oo2 (by omega))
  have O2 : Own (((w5.setCell ⟨w.heap.size, 0, none⟩ (.bool true)).setCell ⟨w.heap.size, 1, none⟩ (.slice T1 Tn Tc)).setCell ⟨w.heap.size, 2, none⟩ (.slice T2 Tm Td)) (w.heap.size) 24 #[.bool true, .slice T1 Tn Tc, .slice T2 Tm Td] := ((OB2.2.set_ 0 (.bool true)).set_ 1 (.slice T1 Tn Tc)).set_ 2 (.slice T2 Tm Td)
  replace OB2 := And.intro OB2.1 O2
  clear O2 oo2
  have HR2 := Lib.hid (inv_ne' HR.out)
  obtain ⟨q, hq⟩ : ∃ x, r⁻¹ = x := ⟨_, rfl⟩
  have HQ := Lib.hid hq
  rw [hq] at J
  have HR3 : Hid (q ≠ 0) := Lib.hid (by rw [← hq]; exact HR2.out)
  have HS3 : Hid (decide (q < 0) = true) := Lib.hid (by rw [← hq]; exact HS.out)
  clear hq HR2
  obtain ⟨od, hod⟩ : ∃ x, decide (m % 2 = 1) = x := ⟨_, rfl⟩
  have HOD := Lib.hid hod
  have HSG : Hid (decide (q ^ m < 0) = od) := Lib.hid (by rw [pow_sign q m HR3.out, HS3.out, hod]; simp)
  clear hod
  go_wp2
  refine wp_region_facts (by kernel_rfl) w [Fact.eq (.pointer (some ⟨w.heap.size, 0, none⟩)), Fact.eq (.bool true), Fact.eq (.bool true), Fact.eq (.int .i64 (m : Int)), Fact.eq (.int .i64 ((m % 2 : Nat) : Int)), Fact.eq (.bool od), Fact.eq (.bool od), Fact.eq (.pointer (some ⟨w.heap.size, 1, none⟩)), Fact.eq (.slice T1 Tn Tc), Fact.eq (.int .i64 (m : Int)), Fact.nm (q.num.natAbs ^ m) (193), Fact.eq (.pointer (some ⟨w.heap.size, 2, none⟩)), Fact.eq (.slice T2 Tm Td), Fact.eq (.int .i64 (m : Int)), Fact.nm (q.den ^ m) (193), Fact.rat (q ^ m) (193), Fact.any, Fact.eq (.nilIface)] [Fact.any, Fact.rat (q ^ m) (193)] [⟨18, 2, 24, 18, #[.bool true, .slice T1 Tn Tc, .slice T2 Tm Td]⟩, ⟨18, 4, 24, 16, #[.bool false, .slice none 0 0, .slice none 0 0]⟩] [w.heap.size, w.heap.size + 1] [none, none, none, none, none, some 5, none, none, none, none, none, none, none, none, none, none, none, none, none, none, none, none, none, none, none, none, none, none, none, none, none, none, none, none, none, none, none, none, none, none, some 40, some 41, some 42, some 43, some 44, some 45, some 46, some 47, some 48, some 49, some 50, some 51, some 52, some 53, some 54, some 55] (by kernel_rfl) (by kernel_rfl) (by kernel_rfl) rfl B ?_ ?_ ?_ ?_ ?_
  · exact ⟨fun _ => ⟨by simp, rfl, OB2⟩, fun _ => ⟨by simp, rfl, OB4⟩, trivial⟩
  · exact .inr (by simp <;> omega)
  · exact ⟨⟨noWords_R _ _ _ _ _ _ _, (.inl (Nat.le_refl _)), (.inl (Nat.le_refl _))⟩, ⟨noWords_R _ _ _ _ _ _ _, (.inl (Nat.le_refl _)), (.inr (store_ob (j := 15) (noWords_R _ _ _ _ _ _ _) rfl rfl rfl (by kernel_rfl) rfl rfl rfl))⟩, trivial⟩
  · refine ⟨?_, ?_, ?_, ?_, ?_, ?_, ?_, ?_, ?_, ?_, ?_, ?_, ?_, ?_, ?_, ?_, ?_, ?_, trivial⟩
    · exact .inr fun a w hp => ob_yes rfl (ob_fieldR (hp.box (k := 0) rfl (Nat.le_refl _) (.inl (Nat.le_refl _)) (by kernel_rfl) rfl).1 (by decide) rfl)
    · exact .inr fun a w hp => ob_yes rfl (ob_loadB (hp.fact 0 40 (by kernel_rfl) rfl) (hp.box (k := 0) rfl (Nat.le_refl _) (.inl (Nat.le_refl _)) (by kernel_rfl) rfl).2 rfl rfl)
    · exact .inr fun a w hp => ob_yes rfl (ob_move (hp.fact 1 41 (by kernel_rfl) rfl))
    · exact .inr fun a w hp => ob_yes (wanted_yes (P := Tryz.prog) (j := 2) (d := 42) (b := true) rfl rfl (hp.fact 2 42 (by kernel_rfl) rfl)) (ob_move (hp.same 1 (by kernel_rfl)))
    · refine .inr fun a w hp => ob_yes (wanted_yes (P := Tryz.prog) (j := 2) (d := 42) (b := true) rfl rfl (hp.fact 2 42 (by kernel_rfl) rfl)) ?_
      have h43 : a.tmps.getD 43 undef = .int .i64 (m : Int) := (hp.fact 3 43 (by kernel_rfl) rfl)
      unfold Does
      go_simp
      exact ⟨_, rfl, On.refl _, by show Value.int _ _ = Value.int _ _; go_num⟩
    · refine .inr fun a w hp => ob_yes (wanted_yes (P := Tryz.prog) (j := 2) (d := 42) (b := true) rfl rfl (hp.fact 2 42 (by kernel_rfl) rfl)) ?_
      have h44 : a.tmps.getD 44 undef = .int .i64 ((m % 2 : Nat) : Int) := (hp.fact 4 44 (by kernel_rfl) rfl)
      unfold Does
      go_simp
      exact ⟨_, rfl, On.refl _, by show Value.bool _ = Value.bool _; rw [← HOD.out]; congr 1; rw [Bool.eq_iff_iff, beq_iff_eq, decide_eq_true_iff]; omega⟩
    · refine .inr fun a w hp => ob_yes rfl ?_
      have h42 : a.tmps.getD 42 undef = .bool true := (hp.fact 2 42 (by kernel_rfl) rfl)
      have h45 : a.tmps.getD 45 undef = .bool od := (hp.fact 5 45 (by kernel_rfl) rfl)
      unfold Does
      go_simp
      exact ⟨_, rfl, On.refl _, rfl⟩
    · exact .inr fun a w hp => ob_yes rfl (ob_fieldR (hp.box (k := 0) rfl (Nat.le_refl _) (.inl (Nat.le_refl _)) (by kernel_rfl) rfl).1 (by decide) rfl)
    · exact .inr fun a w hp => ob_yes rfl (ob_loadS (hp.fact 7 47 (by kernel_rfl) rfl) (hp.box (k := 0) rfl (Nat.le_refl _) (.inl (Nat.le_refl _)) (by kernel_rfl) rfl).2 rfl rfl)
    · exact .inr fun a w hp => ob_yes rfl (ob_move (hp.same 1 (by kernel_rfl)))
    · refine .inr fun a w hp => ob_yes rfl ?_
      have h48 : a.tmps.getD 48 undef = .slice T1 Tn Tc := (hp.fact 8 48 (by kernel_rfl) rfl)
      have h49 : a.tmps.getD 49 undef = .int .i64 (m : Int) := (hp.fact 9 49 (by kernel_rfl) rfl)
      unfold Does
      go_simp
      obtain ⟨Y1, Yn, Yc, U1, Y2, Ym, Yd, U2, ez, RU, RV, CU, CV, lu, lv, vu, vv⟩ := J.kept hp.kept
      injection ez with ez
      have e1 : Value.slice T1 Tn Tc = .slice Y1 Yn Yc := by have := congrArg (fun x : Array Value => x[1]?) ez; simpa using this
      have e2 : Value.slice T2 Tm Td = .slice Y2 Ym Yd := by have := congrArg (fun x : Array Value => x[2]?) ez; simpa using this
      injection e1 with p1 p2 p3
      injection e2 with p4 p5 p6
      subst p1 p2 p3 p4 p5 p6
      refine (rpowL _ _ _ _ U1 RU m (by omega) L 193 lu HLM.out (by decide) (by omega)).mono ?_
      rintro e w' ⟨A8, n8, c8, rfl, N8, P8⟩
      rw [vu] at N8
      exact ⟨_, rfl, P8, _, _, _, rfl, N8⟩
    · exact .inr fun a w hp => ob_yes rfl (ob_fieldR (hp.box (k := 0) rfl (Nat.le_refl _) (.inl (Nat.le_refl _)) (by kernel_rfl) rfl).1 (by decide) rfl)
    · exact .inr fun a w hp => ob_yes rfl (ob_loadS (hp.fact 11 51 (by kernel_rfl) rfl) (hp.box (k := 0) rfl (Nat.le_refl _) (.inl (Nat.le_refl _)) (by kernel_rfl) rfl).2 rfl rfl)
    · exact .inr fun a w hp => ob_yes rfl (ob_move (hp.same 1 (by kernel_rfl)))
    · refine .inr fun a w hp => ob_yes rfl ?_
      have h52 : a.tmps.getD 52 undef = .slice T2 Tm Td := (hp.fact 12 52 (by kernel_rfl) rfl)
      have h53 : a.tmps.getD 53 undef = .int .i64 (m : Int) := (hp.fact 13 53 (by kernel_rfl) rfl)
      unfold Does
      go_simp
      obtain ⟨Y1, Yn, Yc, U1, Y2, Ym, Yd, U2, ez, RU, RV, CU, CV, lu, lv, vu, vv⟩ := J.kept hp.kept
      injection ez with ez
      have e1 : Value.slice T1 Tn Tc = .slice Y1 Yn Yc := by have := congrArg (fun x : Array Value => x[1]?) ez; simpa using this
      have e2 : Value.slice T2 Tm Td = .slice Y2 Ym Yd := by have := congrArg (fun x : Array Value => x[2]?) ez; simpa using this
      injection e1 with p1 p2 p3
      injection e2 with p4 p5 p6
      subst p1 p2 p3 p4 p5 p6
      refine (rpowL _ _ _ _ U2 RV m (by omega) L 193 lv HLM.out (by decide) (by omega)).mono ?_
      rintro e w' ⟨A8, n8, c8, rfl, N8, P8⟩
      rw [vv, dn_ne HR3.out] at N8
      exact ⟨_, rfl, P8, _, _, _, rfl, N8⟩
    · refine .inr fun a w hp => ob_yes rfl ?_
      have h46 : a.tmps.getD 46 undef = .bool od := (hp.fact 6 46 (by kernel_rfl) rfl)
      obtain ⟨A50, n50, c50, e50, h50⟩ : ∃ A n c, a.tmps.getD 50 undef = .slice A n c ∧ Nm w A n c (q.num.natAbs ^ m) (193) := (hp.fact 10 50 (by kernel_rfl) rfl)
      obtain ⟨A54, n54, c54, e54, h54⟩ : ∃ A n c, a.tmps.getD 54 undef = .slice A n c ∧ Nm w A n c (q.den ^ m) (193) := (hp.fact 14 54 (by kernel_rfl) rfl)
      refine ob_buildR h46 e50 e54 ?_
      exact isR_pow HR3.out HSG.out h50 h54
    · exact .inl rfl
    · exact .inr fun a w hp => ob_yes rfl (does_value rfl rfl)
  · intro f wr hon hk hf hb hap
    obtain ⟨q0, q1, qz⟩ := hb
    clear qz
    have O2 : Own wr (w.heap.size) 24 #[.bool true, .slice T1 Tn Tc, .slice T2 Tm Td] := q0
    have c2_0 : wr.cell? ⟨w.heap.size, 0, none⟩ = some (.bool true) := O2.cell 0
    have z2_0 := O2.frozen 0
    have c2_1 : wr.cell? ⟨w.heap.size, 1, none⟩ = some (.slice T1 Tn Tc) := O2.cell 1
    have z2_1 := O2.frozen 1
    have c2_2 : wr.cell? ⟨w.heap.size, 2, none⟩ = some (.slice T2 Tm Td) := O2.cell 2
    have z2_2 := O2.frozen 2
    clear q0
    obtain ⟨cur4, O4, I4⟩ : ∃ cur, Own wr (w.heap.size + 1) 24 cur ∧ IsR wr (.agg cur) (q ^ m) (193) := q1
    obtain ⟨P4, Pn4, Pc4, _, R4, Rn4, Rc4, _, hz4, _⟩ := id I4
    injection hz4 with hz4
    subst hz4
    have c4_0 : wr.cell? ⟨w.heap.size + 1, 0, none⟩ = some (.bool (decide (q ^ m < 0))) := O4.cell 0
    have z4_0 := O4.frozen 0
    have c4_1 : wr.cell? ⟨w.heap.size + 1, 1, none⟩ = some (.slice P4 Pn4 Pc4) := O4.cell 1
    have z4_1 := O4.frozen 1
    have c4_2 : wr.cell? ⟨w.heap.size + 1, 2, none⟩ = some (.slice R4 Rn4 Rc4) := O4.cell 2
    have z4_2 := O4.frozen 2
    have e5 : f 5 = .nilIface := hf 17 5 rfl
    clear hf hap
    simp only [fillL, e5]
    clear e5
    go_wp2
    exact bodyPost_ret (v := .tuple #[.agg #[.bool (decide (q ^ m < 0)), .slice P4 Pn4 Pc4, .slice R4 Rn4 Rc4], .nilIface]) (by simp [results, Tryz.results23, go_sem, c4_0, c4_1, c4_2]) rfl ⟨_, rfl, by rw [HQ.out]; exact I4, hon⟩
end Num
end Go.Proofs.YtikmjlaeadockaaGreat
