/-
  Sign, Cmp, Min, Max, Prob: the specification's and the program's.
-/
import Derived.Test.YtkchpagjkgmpmaaGreatZsums
namespace Go.Proofs.YtkchpagjkgmpmaaGreat
open Go.RowKit
set_option linter.unusedVariables false
namespace Num
def rmin (r q : Rat) : Rat := if q < r then q else r
def rmax (r q : Rat) : Rat := if r < q then q else r
theorem max_min (r q : Rat) : -(rmin (-r) (-q)) = rmax r q := by unfold rmin rmax; grind
theorem add_zero' (r : Rat) : r + 0 = r := Rat.add_zero r
theorem rsg_gt (r q : Rat) (h : q < r) : rsg (r - q) = 1 := by unfold rsg; grind
theorem rsg_ngt (r q : Rat) (h : ¬ q < r) : rsg (r - q) = -1 ∨ rsg (r - q) = 0 := by unfold rsg; grind
theorem rsg_lt' (r q : Rat) (h : r < q) : rsg (r - q) = -1 := by unfold rsg; grind
theorem rsg_nlt (r q : Rat) (h : ¬ r < q) : rsg (r - q) = 1 ∨ rsg (r - q) = 0 := by unfold rsg; grind
set_option maxRecDepth 100000 in
set_option maxHeartbeats 1600000 in
theorem ssign_any (w : World) (v : Value) (r : Rat) (L : Nat) (h : Fld w v r L) (hL1 : 1 ≤ L) (hL : L ≤ 4000) :
    Calls Tryz.prog 75 #[v] w fun e w' => e = .returned (.int .i64 (rsg r)) ∧ On w w' := by
  obtain ⟨b, A, n, c, A', n', c', xs, ys, rfl, R, R', h1, h2, h3⟩ := id h
  clear h3
  have B := (On.refl w).alloc (.cells #[.bool b, .slice A n c, .slice A' n' c'] 24)
  by_cases h0 : r = 0
  · have HZ : Hid (rsg r = 0) := Lib.hid ((rsg_zero_iff r).2 h0)
    have H0 := Lib.hid h0
    clear h0
    go_enter Tryz.func75, Tryz.ntmps75
    go_wp2_with fail
    refine (parts_any _ _ r L (h.on B) hL1 (by omega)).mono ?_
    rintro e w1 ⟨E1, m1, o1, E2, m2, o2, us, vs, rfl, U, U', CU, k1, k2, V1, V2, P1⟩
    have hm : m1 = 0 := (len_zero_iff U CU V1).2 H0.out
    subst hm
    have hc := U.max
    clear V1 V2
    go_wp2
    go_ret
    exact ⟨by rw [HZ.out]; rfl, B.trans P1⟩
  · have H0 := Lib.hid h0
    by_cases hn : r < 0
    all_goals
      have HN := Lib.hid hn
      have HZ : Hid (rsg r = if r < 0 then -1 else 1) := Lib.hid (by unfold rsg; rw [if_neg h0])
      clear h0 hn
      go_enter Tryz.func75, Tryz.ntmps75
      go_wp2_with fail
      refine (parts_any _ _ r L (h.on B) hL1 (by omega)).mono ?_
      rintro e w1 ⟨E1, m1, o1, E2, m2, o2, us, vs, rfl, U, U', CU, k1, k2, V1, V2, P1⟩
      have hm : ((m1 : Int) == 0) = false := by have := mt (len_zero_iff U CU V1).1 H0.out; simp; omega
      have hc := U.max
      have hcp := U.cap
      clear V1 V2
      first | rw [show decide (r < 0) = true from decide_eq_true HN.out] | rw [show decide (r < 0) = false from decide_eq_false HN.out]
      go_wp2
      go_ret
      exact ⟨by rw [HZ.out]; first | (rw [if_pos HN.out]; rfl) | (rw [if_neg HN.out]; rfl), B.trans P1⟩
set_option maxRecDepth 100000 in
set_option maxHeartbeats 1600000 in
theorem scmp_any (w : World) (v v' : Value) (r q : Rat) (L : Nat) (h : Fld w v r L) (k : Fld w v' q L) (hL2 : 2 ≤ L) (hL : L ≤ 1000) :
    Calls Tryz.prog 47 #[v, v'] w fun e w' => e = .returned (.int .i64 (rsg (r - q))) ∧ On w w' := by
  obtain ⟨z, ez⟩ : ∃ x, rsg (r - q) = x := ⟨_, rfl⟩
  rw [ez]
  have HZ := Lib.hid ez
  clear ez
  obtain ⟨b, A, n, c, A', n', c', xs, ys, rfl, R, R', h1, h2, h3⟩ := id h
  obtain ⟨d, E, m, o, E', m', o', us, vs, rfl, U, U', k1, k2, k3⟩ := id k
  clear h3 k3
  have B : On w ((w.alloc (.cells #[.bool b, .slice A n c, .slice A' n' c'] 24)).alloc (.cells #[.bool d, .slice E m o, .slice E' m' o'] 24)) := On.alloc (On.alloc (On.refl w) _) _
  have OB2 : w.heap.size ≤ w.heap.size ∧ Own ((w.alloc (.cells #[.bool b, .slice A n c, .slice A' n' c'] 24)).alloc (.cells #[.bool d, .slice E m o, .slice E' m' o'] 24)) (w.heap.size) 24 #[.bool b, .slice A n c, .slice A' n' c'] := ⟨by omega, ((Own.at_ w (w.heap.size) (by simp) 24 #[.bool b, .slice A n c, .slice A' n' c']).alloc (.cells #[.bool d, .slice E m o, .slice E' m' o'] 24))⟩
  have OB3 : w.heap.size ≤ w.heap.size + 1 ∧ Own ((w.alloc (.cells #[.bool b, .slice A n c, .slice A' n' c'] 24)).alloc (.cells #[.bool d, .slice E m o, .slice E' m' o'] 24)) (w.heap.size + 1) 24 #[.bool d, .slice E m o, .slice E' m' o'] := ⟨by omega, (Own.at_ (w.alloc (.cells #[.bool b, .slice A n c, .slice A' n' c'] 24)) (w.heap.size + 1) (by simp) 24 #[.bool d, .slice E m o, .slice E' m' o'])⟩
  go_enter Tryz.func47, Tryz.ntmps47
  go_wp2_with fail
  refine (ssub_any _ _ _ r q L (h.on B) (k.on B) hL2 hL).mono ?_
  rintro e w1 ⟨v1, rfl, I1, P1⟩
  go_wp2_with fail
  refine (ssign_any _ _ (r - q) (L + L + 1) (IsR.fld I1) (by omega) (by omega)).mono ?_
  rintro e w2 ⟨rfl, P2⟩
  rw [HZ.out]
  go_wp2
  go_ret
  exact ⟨rfl, (B.trans P1).trans P2⟩
set_option maxRecDepth 100000 in
set_option maxHeartbeats 1600000 in
theorem smin_gt (w : World) (v v' : Value) (r q : Rat) (L : Nat) (h : Fld w v r L) (k : Fld w v' q L) (hL2 : 2 ≤ L) (hL : L ≤ 1000) (hc :  q < r) :
    Calls Tryz.prog 64 #[v, v'] w (RatPost w q (L + L + 1)) := by
  have HC := Lib.hid (rsg_gt r q hc)
  clear hc
  obtain ⟨b, A, n, c, A', n', c', xs, ys, rfl, R, R', h1, h2, h3⟩ := id h
  obtain ⟨d, E, m, o, E', m', o', us, vs, rfl, U, U', k1, k2, k3⟩ := id k
  clear h3 k3
  have B : On w (((w.alloc (.cells #[.bool b, .slice A n c, .slice A' n' c'] 24)).alloc (.cells #[.bool d, .slice E m o, .slice E' m' o'] 24)).alloc (.cells #[.bool false, .slice none 0 0, .slice none 0 0] 24)) := On.alloc (On.alloc (On.alloc (On.refl w) _) _) _
  have OB2 : w.heap.size ≤ w.heap.size ∧ Own (((w.alloc (.cells #[.bool b, .slice A n c, .slice A' n' c'] 24)).alloc (.cells #[.bool d, .slice E m o, .slice E' m' o'] 24)).alloc (.cells #[.bool false, .slice none 0 0, .slice none 0 0] 24)) (w.heap.size) 24 #[.bool b, .slice A n c, .slice A' n' c'] := ⟨by omega, (((Own.at_ w (w.heap.size) (by simp) 24 #[.bool b, .slice A n c, .slice A' n' c']).alloc (.cells #[.bool d, .slice E m o, .slice E' m' o'] 24)).alloc (.cells #[.bool false, .slice none 0 0, .slice none 0 0] 24))⟩
  have OB3 : w.heap.size ≤ w.heap.size + 1 ∧ Own (((w.alloc (.cells #[.bool b, .slice A n c, .slice A' n' c'] 24)).alloc (.cells #[.bool d, .slice E m o, .slice E' m' o'] 24)).alloc (.cells #[.bool false, .slice none 0 0, .slice none 0 0] 24)) (w.heap.size + 1) 24 #[.bool d, .slice E m o, .slice E' m' o'] := ⟨by omega, ((Own.at_ (w.alloc (.cells #[.bool b, .slice A n c, .slice A' n' c'] 24)) (w.heap.size + 1) (by simp) 24 #[.bool d, .slice E m o, .slice E' m' o']).alloc (.cells #[.bool false, .slice none 0 0, .slice none 0 0] 24))⟩
  have OB4 : w.heap.size ≤ w.heap.size + 2 ∧ Own (((w.alloc (.cells #[.bool b, .slice A n c, .slice A' n' c'] 24)).alloc (.cells #[.bool d, .slice E m o, .slice E' m' o'] 24)).alloc (.cells #[.bool false, .slice none 0 0, .slice none 0 0] 24)) (w.heap.size + 2) 24 #[.bool false, .slice none 0 0, .slice none 0 0] := ⟨by omega, (Own.at_ ((w.alloc (.cells #[.bool b, .slice A n c, .slice A' n' c'] 24)).alloc (.cells #[.bool d, .slice E m o, .slice E' m' o'] 24)) (w.heap.size + 2) (by simp) 24 #[.bool false, .slice none 0 0, .slice none 0 0])⟩
  go_enter Tryz.func64, Tryz.ntmps64
  go_wp2_with fail
  refine (scmp_any _ _ _ r q L (h.on B) (k.on B) hL2 hL).mono ?_
  rintro e w1 ⟨rfl, P1⟩
  rw [HC.out]
  replace OB2 := And.intro OB2.1 (OB2.2.on P1)
  replace OB3 := And.intro OB3.1 (OB3.2.on P1)
  replace OB4 := And.intro OB4.1 (OB4.2.on P1)
  replace B := B.trans P1
  have y2_0 : w1.cell? ⟨w.heap.size, 0, none⟩ = some (.bool b) := OB2.2.cell 0
  have y2_1 : w1.cell? ⟨w.heap.size, 1, none⟩ = some (.slice A n c) := OB2.2.cell 1
  have y2_2 : w1.cell? ⟨w.heap.size, 2, none⟩ = some (.slice A' n' c') := OB2.2.cell 2
  have y2_f0 := OB2.2.frozen 0
  have y2_f1 := OB2.2.frozen 1
  have y2_f2 := OB2.2.frozen 2
  have y3_0 : w1.cell? ⟨w.heap.size + 1, 0, none⟩ = some (.bool d) := OB3.2.cell 0
  have y3_1 : w1.cell? ⟨w.heap.size + 1, 1, none⟩ = some (.slice E m o) := OB3.2.cell 1
  have y3_2 : w1.cell? ⟨w.heap.size + 1, 2, none⟩ = some (.slice E' m' o') := OB3.2.cell 2
  have y3_f0 := OB3.2.frozen 0
  have y3_f1 := OB3.2.frozen 1
  have y3_f2 := OB3.2.frozen 2
  have oo := only3 (w := w1) (g := w.heap.size) (.bool d) (.slice E m o) (.slice E' m' o')
  have hk := Kept.only oo OB2.2 (noWords_R _ _ _ _ _ _ _)
  have B2 := B.only oo (Nat.le_refl _)
  have k2 := (k.on B).kept hk
  have O4 := OB4.2.only oo (by omega)
  go_wp2_with fail
  refine (sadd_any _ _ _ q 0 L k2 ((IsR.fld (isR_zero _ 2)).wide hL2) hL2 hL).mono ?_
  rintro e w2 ⟨v2, rfl, I2, P2⟩
  rw [add_zero'] at I2
  obtain ⟨Q1, Qn, Qc, _, Q2, Qm, Qd, _, rfl, _⟩ := id I2
  have O5 := O4.on P2
  have BB_ := B2.trans P2
  have z0 : w2.cell? ⟨w.heap.size + 2, 0, none⟩ = some (.bool false) := O5.cell 0
  have z1 : w2.cell? ⟨w.heap.size + 2, 1, none⟩ = some (.slice none 0 0) := O5.cell 1
  have z2 : w2.cell? ⟨w.heap.size + 2, 2, none⟩ = some (.slice none 0 0) := O5.cell 2
  have zf0 := O5.frozen 0
  have zf1 := O5.frozen 1
  have zf2 := O5.frozen 2
  go_wp2
  have hon := on3 (g := w.heap.size + 2) BB_ (by omega) (.bool (decide (q < 0))) (.slice Q1 Qn Qc) (.slice Q2 Qm Qd)
  exact bodyPost_ret (v := .agg #[.bool (decide (q < 0)), .slice Q1 Qn Qc, .slice Q2 Qm Qd]) (by simp [results, Tryz.results64, go_sem, z0, z1, z2]) rfl ⟨_, rfl, isR_put I2 O5 _ _ _, hon⟩
set_option maxRecDepth 100000 in
set_option maxHeartbeats 1600000 in
theorem smin_le (w : World) (v v' : Value) (r q : Rat) (L : Nat) (h : Fld w v r L) (k : Fld w v' q L) (hL2 : 2 ≤ L) (hL : L ≤ 1000) (hc : ¬ q < r) :
    Calls Tryz.prog 64 #[v, v'] w (RatPost w r (L + L + 1)) := by
  obtain ⟨kc, ekc⟩ : ∃ x, rsg (r - q) = x := ⟨_, rfl⟩
  have hk0 : kc = -1 ∨ kc = 0 := by rw [← ekc]; exact rsg_ngt r q hc
  have hk1 : ¬ 0 < kc := by omega
  have HC := Lib.hid ekc
  clear ekc hk0
  clear hc
  obtain ⟨b, A, n, c, A', n', c', xs, ys, rfl, R, R', h1, h2, h3⟩ := id h
  obtain ⟨d, E, m, o, E', m', o', us, vs, rfl, U, U', k1, k2, k3⟩ := id k
  clear h3 k3
  have B : On w (((w.alloc (.cells #[.bool b, .slice A n c, .slice A' n' c'] 24)).alloc (.cells #[.bool d, .slice E m o, .slice E' m' o'] 24)).alloc (.cells #[.bool false, .slice none 0 0, .slice none 0 0] 24)) := On.alloc (On.alloc (On.alloc (On.refl w) _) _) _
  have OB2 : w.heap.size ≤ w.heap.size ∧ Own (((w.alloc (.cells #[.bool b, .slice A n c, .slice A' n' c'] 24)).alloc (.cells #[.bool d, .slice E m o, .slice E' m' o'] 24)).alloc (.cells #[.bool false, .slice none 0 0, .slice none 0 0] 24)) (w.heap.size) 24 #[.bool b, .slice A n c, .slice A' n' c'] := ⟨by omega, (((Own.at_ w (w.heap.size) (by simp) 24 #[.bool b, .slice A n c, .slice A' n' c']).alloc (.cells #[.bool d, .slice E m o, .slice E' m' o'] 24)).alloc (.cells #[.bool false, .slice none 0 0, .slice none 0 0] 24))⟩
  have OB3 : w.heap.size ≤ w.heap.size + 1 ∧ Own (((w.alloc (.cells #[.bool b, .slice A n c, .slice A' n' c'] 24)).alloc (.cells #[.bool d, .slice E m o, .slice E' m' o'] 24)).alloc (.cells #[.bool false, .slice none 0 0, .slice none 0 0] 24)) (w.heap.size + 1) 24 #[.bool d, .slice E m o, .slice E' m' o'] := ⟨by omega, ((Own.at_ (w.alloc (.cells #[.bool b, .slice A n c, .slice A' n' c'] 24)) (w.heap.size + 1) (by simp) 24 #[.bool d, .slice E m o, .slice E' m' o']).alloc (.cells #[.bool false, .slice none 0 0, .slice none 0 0] 24))⟩
  have OB4 : w.heap.size ≤ w.heap.size + 2 ∧ Own (((w.alloc (.cells #[.bool b, .slice A n c, .slice A' n' c'] 24)).alloc (.cells #[.bool d, .slice E m o, .slice E' m' o'] 24)).alloc (.cells #[.bool false, .slice none 0 0, .slice none 0 0] 24)) (w.heap.size + 2) 24 #[.bool false, .slice none 0 0, .slice none 0 0] := ⟨by omega, (Own.at_ ((w.alloc (.cells #[.bool b, .slice A n c, .slice A' n' c'] 24)).alloc (.cells #[.bool d, .slice E m o, .slice E' m' o'] 24)) (w.heap.size + 2) (by simp) 24 #[.bool false, .slice none 0 0, .slice none 0 0])⟩
  go_enter Tryz.func64, Tryz.ntmps64
  go_wp2_with fail
  refine (scmp_any _ _ _ r q L (h.on B) (k.on B) hL2 hL).mono ?_
  rintro e w1 ⟨rfl, P1⟩
  rw [HC.out]
  replace OB2 := And.intro OB2.1 (OB2.2.on P1)
  replace OB3 := And.intro OB3.1 (OB3.2.on P1)
  replace OB4 := And.intro OB4.1 (OB4.2.on P1)
  replace B := B.trans P1
  have y2_0 : w1.cell? ⟨w.heap.size, 0, none⟩ = some (.bool b) := OB2.2.cell 0
  have y2_1 : w1.cell? ⟨w.heap.size, 1, none⟩ = some (.slice A n c) := OB2.2.cell 1
  have y2_2 : w1.cell? ⟨w.heap.size, 2, none⟩ = some (.slice A' n' c') := OB2.2.cell 2
  have y2_f0 := OB2.2.frozen 0
  have y2_f1 := OB2.2.frozen 1
  have y2_f2 := OB2.2.frozen 2
  go_wp2_with fail
  refine (sadd_any _ _ _ r 0 L (h.on B) ((IsR.fld (isR_zero _ 2)).wide hL2) hL2 hL).mono ?_
  rintro e w2 ⟨v2, rfl, I2, P2⟩
  rw [add_zero'] at I2
  obtain ⟨Q1, Qn, Qc, _, Q2, Qm, Qd, _, rfl, _⟩ := id I2
  have O5 := OB4.2.on P2
  have BB_ := B.trans P2
  have z0 : w2.cell? ⟨w.heap.size + 2, 0, none⟩ = some (.bool false) := O5.cell 0
  have z1 : w2.cell? ⟨w.heap.size + 2, 1, none⟩ = some (.slice none 0 0) := O5.cell 1
  have z2 : w2.cell? ⟨w.heap.size + 2, 2, none⟩ = some (.slice none 0 0) := O5.cell 2
  have zf0 := O5.frozen 0
  have zf1 := O5.frozen 1
  have zf2 := O5.frozen 2
  go_wp2
  have hon := on3 (g := w.heap.size + 2) BB_ (by omega) (.bool (decide (r < 0))) (.slice Q1 Qn Qc) (.slice Q2 Qm Qd)
  exact bodyPost_ret (v := .agg #[.bool (decide (r < 0)), .slice Q1 Qn Qc, .slice Q2 Qm Qd]) (by simp [results, Tryz.results64, go_sem, z0, z1, z2]) rfl ⟨_, rfl, isR_put I2 O5 _ _ _, hon⟩
theorem smin_any (w : World) (v v' : Value) (r q : Rat) (L : Nat) (h : Fld w v r L) (k : Fld w v' q L) (hL2 : 2 ≤ L) (hL : L ≤ 1000) :
    Calls Tryz.prog 64 #[v, v'] w (RatPost w (rmin r q) (L + L + 1)) := by
  unfold rmin
  by_cases hc : q < r
  · rw [if_pos hc]; exact smin_gt w v v' r q L h k hL2 hL hc
  · rw [if_neg hc]; exact smin_le w v v' r q L h k hL2 hL hc
set_option maxRecDepth 100000 in
set_option maxHeartbeats 1600000 in
theorem smax_any (w : World) (v v' : Value) (r q : Rat) (L : Nat) (h : Fld w v r L) (k : Fld w v' q L) (hL2 : 2 ≤ L) (hL : L ≤ 1000) :
    Calls Tryz.prog 63 #[v, v'] w (RatPost w (rmax r q) (L + L + 1)) := by
  obtain ⟨b, A, n, c, A', n', c', xs, ys, rfl, R, R', h1, h2, h3⟩ := id h
  obtain ⟨d, E, m, o, E', m', o', us, vs, rfl, U, U', k1, k2, k3⟩ := id k
  clear h3 k3
  obtain ⟨z, hz⟩ : ∃ x, rmax r q = x := ⟨_, rfl⟩
  rw [hz]
  have HZ : Hid (-(rmin (-r) (-q)) = z) := Lib.hid ((max_min r q).trans hz)
  clear hz
  have B : On w (((w.alloc (.cells #[.bool b, .slice A n c, .slice A' n' c'] 24)).alloc (.cells #[.bool d, .slice E m o, .slice E' m' o'] 24)).alloc (.cells #[.bool false, .slice none 0 0, .slice none 0 0] 24)) := On.alloc (On.alloc (On.alloc (On.refl w) _) _) _
  have OB2 : w.heap.size ≤ w.heap.size ∧ Own (((w.alloc (.cells #[.bool b, .slice A n c, .slice A' n' c'] 24)).alloc (.cells #[.bool d, .slice E m o, .slice E' m' o'] 24)).alloc (.cells #[.bool false, .slice none 0 0, .slice none 0 0] 24)) (w.heap.size) 24 #[.bool b, .slice A n c, .slice A' n' c'] := ⟨by omega, (((Own.at_ w (w.heap.size) (by simp) 24 #[.bool b, .slice A n c, .slice A' n' c']).alloc (.cells #[.bool d, .slice E m o, .slice E' m' o'] 24)).alloc (.cells #[.bool false, .slice none 0 0, .slice none 0 0] 24))⟩
  have OB3 : w.heap.size ≤ w.heap.size + 1 ∧ Own (((w.alloc (.cells #[.bool b, .slice A n c, .slice A' n' c'] 24)).alloc (.cells #[.bool d, .slice E m o, .slice E' m' o'] 24)).alloc (.cells #[.bool false, .slice none 0 0, .slice none 0 0] 24)) (w.heap.size + 1) 24 #[.bool d, .slice E m o, .slice E' m' o'] := ⟨by omega, ((Own.at_ (w.alloc (.cells #[.bool b, .slice A n c, .slice A' n' c'] 24)) (w.heap.size + 1) (by simp) 24 #[.bool d, .slice E m o, .slice E' m' o']).alloc (.cells #[.bool false, .slice none 0 0, .slice none 0 0] 24))⟩
  have OB4 : w.heap.size ≤ w.heap.size + 2 ∧ Own (((w.alloc (.cells #[.bool b, .slice A n c, .slice A' n' c'] 24)).alloc (.cells #[.bool d, .slice E m o, .slice E' m' o'] 24)).alloc (.cells #[.bool false, .slice none 0 0, .slice none 0 0] 24)) (w.heap.size + 2) 24 #[.bool false, .slice none 0 0, .slice none 0 0] := ⟨by omega, (Own.at_ ((w.alloc (.cells #[.bool b, .slice A n c, .slice A' n' c'] 24)).alloc (.cells #[.bool d, .slice E m o, .slice E' m' o'] 24)) (w.heap.size + 2) (by simp) 24 #[.bool false, .slice none 0 0, .slice none 0 0])⟩
  go_enter Tryz.func63, Tryz.ntmps63
  go_wp2
  refine wp_region_facts (by kernel_rfl) w [Fact.eq (.agg #[.bool b, .slice A n c, .slice A' n' c']), Fact.rat (-r) (L), Fact.eq (.agg #[.bool d, .slice E m o, .slice E' m' o']), Fact.rat (-q) (L), Fact.rat (rmin (-r) (-q)) (L + L + 1), Fact.rat (z) (L + L + 1), Fact.any] [Fact.any, Fact.any, Fact.rat (z) (L + L + 1)] [⟨7, 2, 24, 7, #[.bool b, .slice A n c, .slice A' n' c']⟩, ⟨7, 3, 24, 7, #[.bool d, .slice E m o, .slice E' m' o']⟩, ⟨7, 4, 24, 6, #[.bool false, .slice none 0 0, .slice none 0 0]⟩] [w.heap.size, w.heap.size + 1, w.heap.size + 2] [none, none, none, none, none, some 5, some 6, some 7, some 8, some 9, some 10] (by kernel_rfl) (by kernel_rfl) (by kernel_rfl) rfl B ?_ ?_ ?_ ?_ ?_
  · exact ⟨fun _ => ⟨by simp, rfl, OB2⟩, fun _ => ⟨by simp, rfl, OB3⟩, fun _ => ⟨by simp, rfl, OB4⟩, trivial⟩
  · exact .inr (by simp <;> omega)
  · exact ⟨⟨noWords_R _ _ _ _ _ _ _, (.inl (Nat.le_refl _)), (.inl (Nat.le_refl _))⟩, ⟨noWords_R _ _ _ _ _ _ _, (.inl (Nat.le_refl _)), (.inl (Nat.le_refl _))⟩, ⟨noWords_R _ _ _ _ _ _ _, (.inl (Nat.le_refl _)), (.inr (store_ob (j := 5) (noWords_R _ _ _ _ _ _ _) rfl rfl rfl (by kernel_rfl) rfl rfl rfl))⟩, trivial⟩
  · refine ⟨?_, ?_, ?_, ?_, ?_, ?_, ?_, trivial⟩
    · exact .inr fun a w hp => ob_yes rfl (ob_loadR (hp.box (k := 0) rfl (Nat.le_refl _) (.inl (Nat.le_refl _)) (by kernel_rfl) rfl).1 (hp.box (k := 0) rfl (Nat.le_refl _) (.inl (Nat.le_refl _)) (by kernel_rfl) rfl).2 rfl)
    · refine .inr fun a w hp => ob_yes rfl ?_
      have h5 : a.tmps.getD 5 undef = .agg #[.bool b, .slice A n c, .slice A' n' c'] := (hp.fact 0 5 (by kernel_rfl) rfl)
      unfold Does
      go_simp
      refine (sneg_any _ _ _ L (h.on hp.on) hL2 (by omega)).mono ?_
      rintro e w' ⟨u, rfl, I8, P8⟩
      exact ⟨_, rfl, P8, I8⟩
    · exact .inr fun a w hp => ob_yes rfl (ob_loadR (hp.box (k := 1) rfl (Nat.le_refl _) (.inl (Nat.le_refl _)) (by kernel_rfl) rfl).1 (hp.box (k := 1) rfl (Nat.le_refl _) (.inl (Nat.le_refl _)) (by kernel_rfl) rfl).2 rfl)
    · refine .inr fun a w hp => ob_yes rfl ?_
      have h7 : a.tmps.getD 7 undef = .agg #[.bool d, .slice E m o, .slice E' m' o'] := (hp.fact 2 7 (by kernel_rfl) rfl)
      unfold Does
      go_simp
      refine (sneg_any _ _ _ L (k.on hp.on) hL2 (by omega)).mono ?_
      rintro e w' ⟨u, rfl, I8, P8⟩
      exact ⟨_, rfl, P8, I8⟩
    · refine .inr fun a w hp => ob_yes rfl ?_
      have h6 : IsR w (a.tmps.getD 6 undef) (-r) (L) := (hp.fact 1 6 (by kernel_rfl) rfl)
      obtain ⟨v6, e6⟩ : ∃ v, a.tmps.getD 6 undef = v := ⟨_, rfl⟩
      rw [e6] at h6
      have h8 : IsR w (a.tmps.getD 8 undef) (-q) (L) := (hp.fact 3 8 (by kernel_rfl) rfl)
      obtain ⟨v8, e8⟩ : ∃ v, a.tmps.getD 8 undef = v := ⟨_, rfl⟩
      rw [e8] at h8
      unfold Does
      go_simp
      refine (smin_any _ _ _ _ _ L (IsR.fld h6) (IsR.fld h8) hL2 hL).mono ?_
      rintro e w' ⟨u, rfl, I8, P8⟩
      exact ⟨_, rfl, P8, I8⟩
    · refine .inr fun a w hp => ob_yes rfl ?_
      have h9 : IsR w (a.tmps.getD 9 undef) (rmin (-r) (-q)) (L + L + 1) := (hp.fact 4 9 (by kernel_rfl) rfl)
      obtain ⟨v9, e9⟩ : ∃ v, a.tmps.getD 9 undef = v := ⟨_, rfl⟩
      rw [e9] at h9
      unfold Does
      go_simp
      refine (sneg_any _ _ _ (L + L + 1) (IsR.fld h9) (by omega) (by omega)).mono ?_
      rintro e w' ⟨u, rfl, I8, P8⟩
      rw [HZ.out] at I8
      exact ⟨_, rfl, P8, I8⟩
    · exact .inl rfl
  · intro f wr hon hk hf hb hap
    obtain ⟨q0, q1, q2, qz⟩ := hb
    clear qz
    have O2 : Own wr (w.heap.size) 24 #[.bool b, .slice A n c, .slice A' n' c'] := q0
    have c2_0 : wr.cell? ⟨w.heap.size, 0, none⟩ = some (.bool b) := O2.cell 0
    have z2_0 := O2.frozen 0
    have c2_1 : wr.cell? ⟨w.heap.size, 1, none⟩ = some (.slice A n c) := O2.cell 1
    have z2_1 := O2.frozen 1
    have c2_2 : wr.cell? ⟨w.heap.size, 2, none⟩ = some (.slice A' n' c') := O2.cell 2
    have z2_2 := O2.frozen 2
    clear q0
    have O3 : Own wr (w.heap.size + 1) 24 #[.bool d, .slice E m o, .slice E' m' o'] := q1
    have c3_0 : wr.cell? ⟨w.heap.size + 1, 0, none⟩ = some (.bool d) := O3.cell 0
    have z3_0 := O3.frozen 0
    have c3_1 : wr.cell? ⟨w.heap.size + 1, 1, none⟩ = some (.slice E m o) := O3.cell 1
    have z3_1 := O3.frozen 1
    have c3_2 : wr.cell? ⟨w.heap.size + 1, 2, none⟩ = some (.slice E' m' o') := O3.cell 2
    have z3_2 := O3.frozen 2
    clear q1
    obtain ⟨cur4, O4, I4⟩ : ∃ cur, Own wr (w.heap.size + 2) 24 cur ∧ IsR wr (.agg cur) (z) (L + L + 1) := q2
    obtain ⟨P4, Pn4, Pc4, _, R4, Rn4, Rc4, _, hz4, _⟩ := id I4
    injection hz4 with hz4
    subst hz4
    have c4_0 : wr.cell? ⟨w.heap.size + 2, 0, none⟩ = some (.bool (decide (z < 0))) := O4.cell 0
    have z4_0 := O4.frozen 0
    have c4_1 : wr.cell? ⟨w.heap.size + 2, 1, none⟩ = some (.slice P4 Pn4 Pc4) := O4.cell 1
    have z4_1 := O4.frozen 1
    have c4_2 : wr.cell? ⟨w.heap.size + 2, 2, none⟩ = some (.slice R4 Rn4 Rc4) := O4.cell 2
    have z4_2 := O4.frozen 2
    clear hf hap
    simp only [fillL]
    go_wp2
    exact bodyPost_ret (v := .agg #[.bool (decide (z < 0)), .slice P4 Pn4 Pc4, .slice R4 Rn4 Rc4]) (by simp [results, Tryz.results63, go_sem, c4_0, c4_1, c4_2]) rfl ⟨_, rfl, I4, hon⟩
set_option maxRecDepth 100000 in
set_option maxHeartbeats 1600000 in
theorem minr_1 (w : World) (v v' : Value) (r q : Rat) (L : Nat) (h : Fld w v r L) (k : Fld w v' q L) (hL : L ≤ 4000) (hc :  q < r) :
    Calls Tryz.prog 71 #[v, v'] w (RatPost w q L) := by
  have HC := Lib.hid (rsg_gt r q hc)
  clear hc
  obtain ⟨b, A, n, c, A', n', c', xs, ys, rfl, R, R', h1, h2, h3⟩ := id h
  obtain ⟨d, E, m, o, E', m', o', us, vs, rfl, U, U', k1, k2, k3⟩ := id k
  clear h3 k3
  have B : On w (((w.alloc (.cells #[.bool b, .slice A n c, .slice A' n' c'] 24)).alloc (.cells #[.bool d, .slice E m o, .slice E' m' o'] 24)).alloc (.cells #[.bool false, .slice none 0 0, .slice none 0 0] 24)) := On.alloc (On.alloc (On.alloc (On.refl w) _) _) _
  have OB2 : w.heap.size ≤ w.heap.size ∧ Own (((w.alloc (.cells #[.bool b, .slice A n c, .slice A' n' c'] 24)).alloc (.cells #[.bool d, .slice E m o, .slice E' m' o'] 24)).alloc (.cells #[.bool false, .slice none 0 0, .slice none 0 0] 24)) (w.heap.size) 24 #[.bool b, .slice A n c, .slice A' n' c'] := ⟨by omega, (((Own.at_ w (w.heap.size) (by simp) 24 #[.bool b, .slice A n c, .slice A' n' c']).alloc (.cells #[.bool d, .slice E m o, .slice E' m' o'] 24)).alloc (.cells #[.bool false, .slice none 0 0, .slice none 0 0] 24))⟩
  have OB3 : w.heap.size ≤ w.heap.size + 1 ∧ Own (((w.alloc (.cells #[.bool b, .slice A n c, .slice A' n' c'] 24)).alloc (.cells #[.bool d, .slice E m o, .slice E' m' o'] 24)).alloc (.cells #[.bool false, .slice none 0 0, .slice none 0 0] 24)) (w.heap.size + 1) 24 #[.bool d, .slice E m o, .slice E' m' o'] := ⟨by omega, ((Own.at_ (w.alloc (.cells #[.bool b, .slice A n c, .slice A' n' c'] 24)) (w.heap.size + 1) (by simp) 24 #[.bool d, .slice E m o, .slice E' m' o']).alloc (.cells #[.bool false, .slice none 0 0, .slice none 0 0] 24))⟩
  have OB4 : w.heap.size ≤ w.heap.size + 2 ∧ Own (((w.alloc (.cells #[.bool b, .slice A n c, .slice A' n' c'] 24)).alloc (.cells #[.bool d, .slice E m o, .slice E' m' o'] 24)).alloc (.cells #[.bool false, .slice none 0 0, .slice none 0 0] 24)) (w.heap.size + 2) 24 #[.bool false, .slice none 0 0, .slice none 0 0] := ⟨by omega, (Own.at_ ((w.alloc (.cells #[.bool b, .slice A n c, .slice A' n' c'] 24)).alloc (.cells #[.bool d, .slice E m o, .slice E' m' o'] 24)) (w.heap.size + 2) (by simp) 24 #[.bool false, .slice none 0 0, .slice none 0 0])⟩
  go_enter Tryz.func71, Tryz.ntmps71
  go_wp2
  refine wp_region_facts (by kernel_rfl) w [Fact.eq (.agg #[.bool b, .slice A n c, .slice A' n' c']), Fact.rat (r) (L), Fact.eq (.agg #[.bool d, .slice E m o, .slice E' m' o']), Fact.rat (q) (L), Fact.any, Fact.any] [Fact.rat (r) (L), Fact.rat (q) (L), Fact.any] [⟨6, 2, 24, 4, #[.bool b, .slice A n c, .slice A' n' c']⟩, ⟨6, 3, 24, 5, #[.bool d, .slice E m o, .slice E' m' o']⟩, ⟨6, 4, 24, 6, #[.bool false, .slice none 0 0, .slice none 0 0]⟩] [w.heap.size, w.heap.size + 1, w.heap.size + 2] [none, none, none, none, none, some 5, some 6, some 7, some 8, none, none, none, none, none, none, none, none] (by kernel_rfl) (by kernel_rfl) (by kernel_rfl) rfl B ?_ ?_ ?_ ?_ ?_
  · exact ⟨fun _ => ⟨by simp, rfl, OB2⟩, fun _ => ⟨by simp, rfl, OB3⟩, fun _ => ⟨by simp, rfl, OB4⟩, trivial⟩
  · exact .inr (by simp <;> omega)
  · exact ⟨⟨noWords_R _ _ _ _ _ _ _, (.inl (Nat.le_refl _)), (.inr (store_ob (j := 1) (noWords_R _ _ _ _ _ _ _) rfl rfl rfl (by kernel_rfl) rfl rfl rfl))⟩, ⟨noWords_R _ _ _ _ _ _ _, (.inl (Nat.le_refl _)), (.inr (store_ob (j := 3) (noWords_R _ _ _ _ _ _ _) rfl rfl rfl (by kernel_rfl) rfl rfl rfl))⟩, ⟨noWords_R _ _ _ _ _ _ _, (.inl (Nat.le_refl _)), (.inl (Nat.le_refl _))⟩, trivial⟩
  · refine ⟨?_, ?_, ?_, ?_, ?_, ?_, trivial⟩
    · exact .inr fun a w hp => ob_yes rfl (ob_loadR (hp.box (k := 0) rfl (Nat.le_refl _) (.inr (.inl (by kernel_rfl))) (by kernel_rfl) rfl).1 (hp.box (k := 0) rfl (Nat.le_refl _) (.inr (.inl (by kernel_rfl))) (by kernel_rfl) rfl).2 rfl)
    · refine .inr fun a w hp => ob_yes rfl ?_
      have h5 : a.tmps.getD 5 undef = .agg #[.bool b, .slice A n c, .slice A' n' c'] := (hp.fact 0 5 (by kernel_rfl) rfl)
      unfold Does
      go_simp
      refine (value_fld _ _ _ L (h.on hp.on) (by omega)).mono ?_
      rintro e w' ⟨u, rfl, I8, P8⟩
      exact ⟨_, rfl, P8, I8⟩
    · exact .inr fun a w hp => ob_yes rfl (ob_loadR (hp.box (k := 1) rfl (Nat.le_refl _) (.inr (.inl (by kernel_rfl))) (by kernel_rfl) rfl).1 (hp.box (k := 1) rfl (Nat.le_refl _) (.inr (.inl (by kernel_rfl))) (by kernel_rfl) rfl).2 rfl)
    · refine .inr fun a w hp => ob_yes rfl ?_
      have h7 : a.tmps.getD 7 undef = .agg #[.bool d, .slice E m o, .slice E' m' o'] := (hp.fact 2 7 (by kernel_rfl) rfl)
      unfold Does
      go_simp
      refine (value_fld _ _ _ L (k.on hp.on) (by omega)).mono ?_
      rintro e w' ⟨u, rfl, I8, P8⟩
      exact ⟨_, rfl, P8, I8⟩
    · exact .inl rfl
    · exact .inl rfl
  · intro f wr hon hk hf hb hap
    obtain ⟨q0, q1, q2, qz⟩ := hb
    clear qz
    obtain ⟨cur2, O2, I2⟩ : ∃ cur, Own wr (w.heap.size) 24 cur ∧ IsR wr (.agg cur) (r) (L) := q0
    obtain ⟨P2, Pn2, Pc2, _, R2, Rn2, Rc2, _, hz2, _⟩ := id I2
    injection hz2 with hz2
    subst hz2
    have c2_0 : wr.cell? ⟨w.heap.size, 0, none⟩ = some (.bool (decide (r < 0))) := O2.cell 0
    have z2_0 := O2.frozen 0
    have c2_1 : wr.cell? ⟨w.heap.size, 1, none⟩ = some (.slice P2 Pn2 Pc2) := O2.cell 1
    have z2_1 := O2.frozen 1
    have c2_2 : wr.cell? ⟨w.heap.size, 2, none⟩ = some (.slice R2 Rn2 Rc2) := O2.cell 2
    have z2_2 := O2.frozen 2
    obtain ⟨cur3, O3, I3⟩ : ∃ cur, Own wr (w.heap.size + 1) 24 cur ∧ IsR wr (.agg cur) (q) (L) := q1
    obtain ⟨P3, Pn3, Pc3, _, R3, Rn3, Rc3, _, hz3, _⟩ := id I3
    injection hz3 with hz3
    subst hz3
    have c3_0 : wr.cell? ⟨w.heap.size + 1, 0, none⟩ = some (.bool (decide (q < 0))) := O3.cell 0
    have z3_0 := O3.frozen 0
    have c3_1 : wr.cell? ⟨w.heap.size + 1, 1, none⟩ = some (.slice P3 Pn3 Pc3) := O3.cell 1
    have z3_1 := O3.frozen 1
    have c3_2 : wr.cell? ⟨w.heap.size + 1, 2, none⟩ = some (.slice R3 Rn3 Rc3) := O3.cell 2
    have z3_2 := O3.frozen 2
    have O4 : Own wr (w.heap.size + 2) 24 #[.bool false, .slice none 0 0, .slice none 0 0] := q2
    have c4_0 : wr.cell? ⟨w.heap.size + 2, 0, none⟩ = some (.bool false) := O4.cell 0
    have z4_0 := O4.frozen 0
    have c4_1 : wr.cell? ⟨w.heap.size + 2, 1, none⟩ = some (.slice none 0 0) := O4.cell 1
    have z4_1 := O4.frozen 1
    have c4_2 : wr.cell? ⟨w.heap.size + 2, 2, none⟩ = some (.slice none 0 0) := O4.cell 2
    have z4_2 := O4.frozen 2
    clear q2
    clear hf hap
    simp only [fillL]
    clear B
    have B := hon
    clear hon hk
    go_wp2_with fail
    refine (compare_any _ _ _ r q L I2 I3 (by omega)).mono ?_
    rintro e w5 ⟨rfl, P5⟩
    rw [HC.out]
    have OX := O3.on P5
    have x0 : w5.cell? ⟨w.heap.size + 1, 0, none⟩ = some (.bool (decide (q < 0))) := OX.cell 0
    have x1 : w5.cell? ⟨w.heap.size + 1, 1, none⟩ = some (.slice P3 Pn3 Pc3) := OX.cell 1
    have x2 : w5.cell? ⟨w.heap.size + 1, 2, none⟩ = some (.slice R3 Rn3 Rc3) := OX.cell 2
    go_wp2_with fail
    refine (own_any _ _ q L (I3.on P5) (by omega)).mono ?_
    rintro e w6 ⟨v6, rfl, I6, P6⟩
    obtain ⟨Q1, Qn, Qc, _, Q2, Qm, Qd, _, rfl, _⟩ := id I6
    have OZ := (O4.on P5).on P6
    have z0 : w6.cell? ⟨w.heap.size + 2, 0, none⟩ = some (.bool false) := OZ.cell 0
    have z1 : w6.cell? ⟨w.heap.size + 2, 1, none⟩ = some (.slice none 0 0) := OZ.cell 1
    have z2 : w6.cell? ⟨w.heap.size + 2, 2, none⟩ = some (.slice none 0 0) := OZ.cell 2
    have zf0 := OZ.frozen 0
    have zf1 := OZ.frozen 1
    have zf2 := OZ.frozen 2
    go_wp2
    have hon := on3 (g := w.heap.size + 2) ((B.trans P5).trans P6) (by omega) (.bool (decide (q < 0))) (.slice Q1 Qn Qc) (.slice Q2 Qm Qd)
    exact bodyPost_ret (v := .agg #[.bool (decide (q < 0)), .slice Q1 Qn Qc, .slice Q2 Qm Qd]) (by simp [results, Tryz.results71, go_sem, z0, z1, z2]) rfl ⟨_, rfl, isR_put I6 OZ _ _ _, hon⟩
set_option maxRecDepth 100000 in
set_option maxHeartbeats 1600000 in
theorem minr_0 (w : World) (v v' : Value) (r q : Rat) (L : Nat) (h : Fld w v r L) (k : Fld w v' q L) (hL : L ≤ 4000) (hc : ¬ q < r) :
    Calls Tryz.prog 71 #[v, v'] w (RatPost w r L) := by
  obtain ⟨kc, ekc⟩ : ∃ x, rsg (r - q) = x := ⟨_, rfl⟩
  have hk0 := rsg_ngt r q hc
  rw [ekc] at hk0
  have hk1 : ¬ 0 < kc := by omega
  have HC := Lib.hid ekc
  clear ekc hk0
  clear hc
  obtain ⟨b, A, n, c, A', n', c', xs, ys, rfl, R, R', h1, h2, h3⟩ := id h
  obtain ⟨d, E, m, o, E', m', o', us, vs, rfl, U, U', k1, k2, k3⟩ := id k
  clear h3 k3
  have B : On w (((w.alloc (.cells #[.bool b, .slice A n c, .slice A' n' c'] 24)).alloc (.cells #[.bool d, .slice E m o, .slice E' m' o'] 24)).alloc (.cells #[.bool false, .slice none 0 0, .slice none 0 0] 24)) := On.alloc (On.alloc (On.alloc (On.refl w) _) _) _
  have OB2 : w.heap.size ≤ w.heap.size ∧ Own (((w.alloc (.cells #[.bool b, .slice A n c, .slice A' n' c'] 24)).alloc (.cells #[.bool d, .slice E m o, .slice E' m' o'] 24)).alloc (.cells #[.bool false, .slice none 0 0, .slice none 0 0] 24)) (w.heap.size) 24 #[.bool b, .slice A n c, .slice A' n' c'] := ⟨by omega, (((Own.at_ w (w.heap.size) (by simp) 24 #[.bool b, .slice A n c, .slice A' n' c']).alloc (.cells #[.bool d, .slice E m o, .slice E' m' o'] 24)).alloc (.cells #[.bool false, .slice none 0 0, .slice none 0 0] 24))⟩
  have OB3 : w.heap.size ≤ w.heap.size + 1 ∧ Own (((w.alloc (.cells #[.bool b, .slice A n c, .slice A' n' c'] 24)).alloc (.cells #[.bool d, .slice E m o, .slice E' m' o'] 24)).alloc (.cells #[.bool false, .slice none 0 0, .slice none 0 0] 24)) (w.heap.size + 1) 24 #[.bool d, .slice E m o, .slice E' m' o'] := ⟨by omega, ((Own.at_ (w.alloc (.cells #[.bool b, .slice A n c, .slice A' n' c'] 24)) (w.heap.size + 1) (by simp) 24 #[.bool d, .slice E m o, .slice E' m' o']).alloc (.cells #[.bool false, .slice none 0 0, .slice none 0 0] 24))⟩
  have OB4 : w.heap.size ≤ w.heap.size + 2 ∧ Own (((w.alloc (.cells #[.bool b, .slice A n c, .slice A' n' c'] 24)).alloc (.cells #[.bool d, .slice E m o, .slice E' m' o'] 24)).alloc (.cells #[.bool false, .slice none 0 0, .slice none 0 0] 24)) (w.heap.size + 2) 24 #[.bool false, .slice none 0 0, .slice none 0 0] := ⟨by omega, (Own.at_ ((w.alloc (.cells #[.bool b, .slice A n c, .slice A' n' c'] 24)).alloc (.cells #[.bool d, .slice E m o, .slice E' m' o'] 24)) (w.heap.size + 2) (by simp) 24 #[.bool false, .slice none 0 0, .slice none 0 0])⟩
  go_enter Tryz.func71, Tryz.ntmps71
  go_wp2
  refine wp_region_facts (by kernel_rfl) w [Fact.eq (.agg #[.bool b, .slice A n c, .slice A' n' c']), Fact.rat (r) (L), Fact.eq (.agg #[.bool d, .slice E m o, .slice E' m' o']), Fact.rat (q) (L), Fact.any, Fact.any] [Fact.rat (r) (L), Fact.rat (q) (L), Fact.any] [⟨6, 2, 24, 4, #[.bool b, .slice A n c, .slice A' n' c']⟩, ⟨6, 3, 24, 5, #[.bool d, .slice E m o, .slice E' m' o']⟩, ⟨6, 4, 24, 6, #[.bool false, .slice none 0 0, .slice none 0 0]⟩] [w.heap.size, w.heap.size + 1, w.heap.size + 2] [none, none, none, none, none, some 5, some 6, some 7, some 8, none, none, none, none, none, none, none, none] (by kernel_rfl) (by kernel_rfl) (by kernel_rfl) rfl B ?_ ?_ ?_ ?_ ?_
  · exact ⟨fun _ => ⟨by simp, rfl, OB2⟩, fun _ => ⟨by simp, rfl, OB3⟩, fun _ => ⟨by simp, rfl, OB4⟩, trivial⟩
  · exact .inr (by simp <;> omega)
  · exact ⟨⟨noWords_R _ _ _ _ _ _ _, (.inl (Nat.le_refl _)), (.inr (store_ob (j := 1) (noWords_R _ _ _ _ _ _ _) rfl rfl rfl (by kernel_rfl) rfl rfl rfl))⟩, ⟨noWords_R _ _ _ _ _ _ _, (.inl (Nat.le_refl _)), (.inr (store_ob (j := 3) (noWords_R _ _ _ _ _ _ _) rfl rfl rfl (by kernel_rfl) rfl rfl rfl))⟩, ⟨noWords_R _ _ _ _ _ _ _, (.inl (Nat.le_refl _)), (.inl (Nat.le_refl _))⟩, trivial⟩
  · refine ⟨?_, ?_, ?_, ?_, ?_, ?_, trivial⟩
    · exact .inr fun a w hp => ob_yes rfl (ob_loadR (hp.box (k := 0) rfl (Nat.le_refl _) (.inr (.inl (by kernel_rfl))) (by kernel_rfl) rfl).1 (hp.box (k := 0) rfl (Nat.le_refl _) (.inr (.inl (by kernel_rfl))) (by kernel_rfl) rfl).2 rfl)
    · refine .inr fun a w hp => ob_yes rfl ?_
      have h5 : a.tmps.getD 5 undef = .agg #[.bool b, .slice A n c, .slice A' n' c'] := (hp.fact 0 5 (by kernel_rfl) rfl)
      unfold Does
      go_simp
      refine (value_fld _ _ _ L (h.on hp.on) (by omega)).mono ?_
      rintro e w' ⟨u, rfl, I8, P8⟩
      exact ⟨_, rfl, P8, I8⟩
    · exact .inr fun a w hp => ob_yes rfl (ob_loadR (hp.box (k := 1) rfl (Nat.le_refl _) (.inr (.inl (by kernel_rfl))) (by kernel_rfl) rfl).1 (hp.box (k := 1) rfl (Nat.le_refl _) (.inr (.inl (by kernel_rfl))) (by kernel_rfl) rfl).2 rfl)
    · refine .inr fun a w hp => ob_yes rfl ?_
      have h7 : a.tmps.getD 7 undef = .agg #[.bool d, .slice E m o, .slice E' m' o'] := (hp.fact 2 7 (by kernel_rfl) rfl)
      unfold Does
      go_simp
      refine (value_fld _ _ _ L (k.on hp.on) (by omega)).mono ?_
      rintro e w' ⟨u, rfl, I8, P8⟩
      exact ⟨_, rfl, P8, I8⟩
    · exact .inl rfl
    · exact .inl rfl
  · intro f wr hon hk hf hb hap
    obtain ⟨q0, q1, q2, qz⟩ := hb
    clear qz
    obtain ⟨cur2, O2, I2⟩ : ∃ cur, Own wr (w.heap.size) 24 cur ∧ IsR wr (.agg cur) (r) (L) := q0
    obtain ⟨P2, Pn2, Pc2, _, R2, Rn2, Rc2, _, hz2, _⟩ := id I2
    injection hz2 with hz2
    subst hz2
    have c2_0 : wr.cell? ⟨w.heap.size, 0, none⟩ = some (.bool (decide (r < 0))) := O2.cell 0
    have z2_0 := O2.frozen 0
    have c2_1 : wr.cell? ⟨w.heap.size, 1, none⟩ = some (.slice P2 Pn2 Pc2) := O2.cell 1
    have z2_1 := O2.frozen 1
    have c2_2 : wr.cell? ⟨w.heap.size, 2, none⟩ = some (.slice R2 Rn2 Rc2) := O2.cell 2
    have z2_2 := O2.frozen 2
    obtain ⟨cur3, O3, I3⟩ : ∃ cur, Own wr (w.heap.size + 1) 24 cur ∧ IsR wr (.agg cur) (q) (L) := q1
    obtain ⟨P3, Pn3, Pc3, _, R3, Rn3, Rc3, _, hz3, _⟩ := id I3
    injection hz3 with hz3
    subst hz3
    have c3_0 : wr.cell? ⟨w.heap.size + 1, 0, none⟩ = some (.bool (decide (q < 0))) := O3.cell 0
    have z3_0 := O3.frozen 0
    have c3_1 : wr.cell? ⟨w.heap.size + 1, 1, none⟩ = some (.slice P3 Pn3 Pc3) := O3.cell 1
    have z3_1 := O3.frozen 1
    have c3_2 : wr.cell? ⟨w.heap.size + 1, 2, none⟩ = some (.slice R3 Rn3 Rc3) := O3.cell 2
    have z3_2 := O3.frozen 2
    have O4 : Own wr (w.heap.size + 2) 24 #[.bool false, .slice none 0 0, .slice none 0 0] := q2
    have c4_0 : wr.cell? ⟨w.heap.size + 2, 0, none⟩ = some (.bool false) := O4.cell 0
    have z4_0 := O4.frozen 0
    have c4_1 : wr.cell? ⟨w.heap.size + 2, 1, none⟩ = some (.slice none 0 0) := O4.cell 1
    have z4_1 := O4.frozen 1
    have c4_2 : wr.cell? ⟨w.heap.size + 2, 2, none⟩ = some (.slice none 0 0) := O4.cell 2
    have z4_2 := O4.frozen 2
    clear q2
    clear hf hap
    simp only [fillL]
    clear B
    have B := hon
    clear hon hk
    go_wp2_with fail
    refine (compare_any _ _ _ r q L I2 I3 (by omega)).mono ?_
    rintro e w5 ⟨rfl, P5⟩
    rw [HC.out]
    have OX := O2.on P5
    have x0 : w5.cell? ⟨w.heap.size, 0, none⟩ = some (.bool (decide (r < 0))) := OX.cell 0
    have x1 : w5.cell? ⟨w.heap.size, 1, none⟩ = some (.slice P2 Pn2 Pc2) := OX.cell 1
    have x2 : w5.cell? ⟨w.heap.size, 2, none⟩ = some (.slice R2 Rn2 Rc2) := OX.cell 2
    go_wp2_with fail
    refine (own_any _ _ r L (I2.on P5) (by omega)).mono ?_
    rintro e w6 ⟨v6, rfl, I6, P6⟩
    obtain ⟨Q1, Qn, Qc, _, Q2, Qm, Qd, _, rfl, _⟩ := id I6
    have OZ := (O4.on P5).on P6
    have z0 : w6.cell? ⟨w.heap.size + 2, 0, none⟩ = some (.bool false) := OZ.cell 0
    have z1 : w6.cell? ⟨w.heap.size + 2, 1, none⟩ = some (.slice none 0 0) := OZ.cell 1
    have z2 : w6.cell? ⟨w.heap.size + 2, 2, none⟩ = some (.slice none 0 0) := OZ.cell 2
    have zf0 := OZ.frozen 0
    have zf1 := OZ.frozen 1
    have zf2 := OZ.frozen 2
    go_wp2
    have hon := on3 (g := w.heap.size + 2) ((B.trans P5).trans P6) (by omega) (.bool (decide (r < 0))) (.slice Q1 Qn Qc) (.slice Q2 Qm Qd)
    exact bodyPost_ret (v := .agg #[.bool (decide (r < 0)), .slice Q1 Qn Qc, .slice Q2 Qm Qd]) (by simp [results, Tryz.results71, go_sem, z0, z1, z2]) rfl ⟨_, rfl, isR_put I6 OZ _ _ _, hon⟩
theorem minr_any (w : World) (v v' : Value) (r q : Rat) (L : Nat) (h : Fld w v r L) (k : Fld w v' q L) (hL : L ≤ 4000) :
    Calls Tryz.prog 71 #[v, v'] w (RatPost w (rmin r q) L) := by
  unfold rmin
  by_cases hc : q < r
  · rw [if_pos hc]; exact minr_1 w v v' r q L h k hL hc
  · rw [if_neg hc]; exact minr_0 w v v' r q L h k hL hc
set_option maxRecDepth 100000 in
set_option maxHeartbeats 1600000 in
theorem maxr_1 (w : World) (v v' : Value) (r q : Rat) (L : Nat) (h : Fld w v r L) (k : Fld w v' q L) (hL : L ≤ 4000) (hc :  r < q) :
    Calls Tryz.prog 70 #[v, v'] w (RatPost w q L) := by
  have HC := Lib.hid (rsg_lt' r q hc)
  clear hc
  obtain ⟨b, A, n, c, A', n', c', xs, ys, rfl, R, R', h1, h2, h3⟩ := id h
  obtain ⟨d, E, m, o, E', m', o', us, vs, rfl, U, U', k1, k2, k3⟩ := id k
  clear h3 k3
  have B : On w (((w.alloc (.cells #[.bool b, .slice A n c, .slice A' n' c'] 24)).alloc (.cells #[.bool d, .slice E m o, .slice E' m' o'] 24)).alloc (.cells #[.bool false, .slice none 0 0, .slice none 0 0] 24)) := On.alloc (On.alloc (On.alloc (On.refl w) _) _) _
  have OB2 : w.heap.size ≤ w.heap.size ∧ Own (((w.alloc (.cells #[.bool b, .slice A n c, .slice A' n' c'] 24)).alloc (.cells #[.bool d, .slice E m o, .slice E' m' o'] 24)).alloc (.cells #[.bool false, .slice none 0 0, .slice none 0 0] 24)) (w.heap.size) 24 #[.bool b, .slice A n c, .slice A' n' c'] := ⟨by omega, (((Own.at_ w (w.heap.size) (by simp) 24 #[.bool b, .slice A n c, .slice A' n' c']).alloc (.cells #[.bool d, .slice E m o, .slice E' m' o'] 24)).alloc (.cells #[.bool false, .slice none 0 0, .slice none 0 0] 24))⟩
  have OB3 : w.heap.size ≤ w.heap.size + 1 ∧ Own (((w.alloc (.cells #[.bool b, .slice A n c, .slice A' n' c'] 24)).alloc (.cells #[.bool d, .slice E m o, .slice E' m' o'] 24)).alloc (.cells #[.bool false, .slice none 0 0, .slice none 0 0] 24)) (w.heap.size + 1) 24 #[.bool d, .slice E m o, .slice E' m' o'] := ⟨by omega, ((Own.at_ (w.alloc (.cells #[.bool b, .slice A n c, .slice A' n' c'] 24)) (w.heap.size + 1) (by simp) 24 #[.bool d, .slice E m o, .slice E' m' o']).alloc (.cells #[.bool false, .slice none 0 0, .slice none 0 0] 24))⟩
  have OB4 : w.heap.size ≤ w.heap.size + 2 ∧ Own (((w.alloc (.cells #[.bool b, .slice A n c, .slice A' n' c'] 24)).alloc (.cells #[.bool d, .slice E m o, .slice E' m' o'] 24)).alloc (.cells #[.bool false, .slice none 0 0, .slice none 0 0] 24)) (w.heap.size + 2) 24 #[.bool false, .slice none 0 0, .slice none 0 0] := ⟨by omega, (Own.at_ ((w.alloc (.cells #[.bool b, .slice A n c, .slice A' n' c'] 24)).alloc (.cells #[.bool d, .slice E m o, .slice E' m' o'] 24)) (w.heap.size + 2) (by simp) 24 #[.bool false, .slice none 0 0, .slice none 0 0])⟩
  go_enter Tryz.func70, Tryz.ntmps70
  go_wp2
  refine wp_region_facts (by kernel_rfl) w [Fact.eq (.agg #[.bool b, .slice A n c, .slice A' n' c']), Fact.rat (r) (L), Fact.eq (.agg #[.bool d, .slice E m o, .slice E' m' o']), Fact.rat (q) (L), Fact.any, Fact.any] [Fact.rat (r) (L), Fact.rat (q) (L), Fact.any] [⟨6, 2, 24, 4, #[.bool b, .slice A n c, .slice A' n' c']⟩, ⟨6, 3, 24, 5, #[.bool d, .slice E m o, .slice E' m' o']⟩, ⟨6, 4, 24, 6, #[.bool false, .slice none 0 0, .slice none 0 0]⟩] [w.heap.size, w.heap.size + 1, w.heap.size + 2] [none, none, none, none, none, some 5, some 6, some 7, some 8, none, none, none, none, none, none, none, none] (by kernel_rfl) (by kernel_rfl) (by kernel_rfl) rfl B ?_ ?_ ?_ ?_ ?_
  · exact ⟨fun _ => ⟨by simp, rfl, OB2⟩, fun _ => ⟨by simp, rfl, OB3⟩, fun _ => ⟨by simp, rfl, OB4⟩, trivial⟩
  · exact .inr (by simp <;> omega)
  · exact ⟨⟨noWords_R _ _ _ _ _ _ _, (.inl (Nat.le_refl _)), (.inr (store_ob (j := 1) (noWords_R _ _ _ _ _ _ _) rfl rfl rfl (by kernel_rfl) rfl rfl rfl))⟩, ⟨noWords_R _ _ _ _ _ _ _, (.inl (Nat.le_refl _)), (.inr (store_ob (j := 3) (noWords_R _ _ _ _ _ _ _) rfl rfl rfl (by kernel_rfl) rfl rfl rfl))⟩, ⟨noWords_R _ _ _ _ _ _ _, (.inl (Nat.le_refl _)), (.inl (Nat.le_refl _))⟩, trivial⟩
  · refine ⟨?_, ?_, ?_, ?_, ?_, ?_, trivial⟩
    · exact .inr fun a w hp => ob_yes rfl (ob_loadR (hp.box (k := 0) rfl (Nat.le_refl _) (.inr (.inl (by kernel_rfl))) (by kernel_rfl) rfl).1 (hp.box (k := 0) rfl (Nat.le_refl _) (.inr (.inl (by kernel_rfl))) (by kernel_rfl) rfl).2 rfl)
    · refine .inr fun a w hp => ob_yes rfl ?_
      have h5 : a.tmps.getD 5 undef = .agg #[.bool b, .slice A n c, .slice A' n' c'] := (hp.fact 0 5 (by kernel_rfl) rfl)
      unfold Does
      go_simp
      refine (value_fld _ _ _ L (h.on hp.on) (by omega)).mono ?_
      rintro e w' ⟨u, rfl, I8, P8⟩
      exact ⟨_, rfl, P8, I8⟩
    · exact .inr fun a w hp => ob_yes rfl (ob_loadR (hp.box (k := 1) rfl (Nat.le_refl _) (.inr (.inl (by kernel_rfl))) (by kernel_rfl) rfl).1 (hp.box (k := 1) rfl (Nat.le_refl _) (.inr (.inl (by kernel_rfl))) (by kernel_rfl) rfl).2 rfl)
    · refine .inr fun a w hp => ob_yes rfl ?_
      have h7 : a.tmps.getD 7 undef = .agg #[.bool d, .slice E m o, .slice E' m' o'] := (hp.fact 2 7 (by kernel_rfl) rfl)
      unfold Does
      go_simp
      refine (value_fld _ _ _ L (k.on hp.on) (by omega)).mono ?_
      rintro e w' ⟨u, rfl, I8, P8⟩
      exact ⟨_, rfl, P8, I8⟩
    · exact .inl rfl
    · exact .inl rfl
  · intro f wr hon hk hf hb hap
    obtain ⟨q0, q1, q2, qz⟩ := hb
    clear qz
    obtain ⟨cur2, O2, I2⟩ : ∃ cur, Own wr (w.heap.size) 24 cur ∧ IsR wr (.agg cur) (r) (L) := q0
    obtain ⟨P2, Pn2, Pc2, _, R2, Rn2, Rc2, _, hz2, _⟩ := id I2
    injection hz2 with hz2
    subst hz2
    have c2_0 : wr.cell? ⟨w.heap.size, 0, none⟩ = some (.bool (decide (r < 0))) := O2.cell 0
    have z2_0 := O2.frozen 0
    have c2_1 : wr.cell? ⟨w.heap.size, 1, none⟩ = some (.slice P2 Pn2 Pc2) := O2.cell 1
    have z2_1 := O2.frozen 1
    have c2_2 : wr.cell? ⟨w.heap.size, 2, none⟩ = some (.slice R2 Rn2 Rc2) := O2.cell 2
    have z2_2 := O2.frozen 2
    obtain ⟨cur3, O3, I3⟩ : ∃ cur, Own wr (w.heap.size + 1) 24 cur ∧ IsR wr (.agg cur) (q) (L) := q1
    obtain ⟨P3, Pn3, Pc3, _, R3, Rn3, Rc3, _, hz3, _⟩ := id I3
    injection hz3 with hz3
    subst hz3
    have c3_0 : wr.cell? ⟨w.heap.size + 1, 0, none⟩ = some (.bool (decide (q < 0))) := O3.cell 0
    have z3_0 := O3.frozen 0
    have c3_1 : wr.cell? ⟨w.heap.size + 1, 1, none⟩ = some (.slice P3 Pn3 Pc3) := O3.cell 1
    have z3_1 := O3.frozen 1
    have c3_2 : wr.cell? ⟨w.heap.size + 1, 2, none⟩ = some (.slice R3 Rn3 Rc3) := O3.cell 2
    have z3_2 := O3.frozen 2
    have O4 : Own wr (w.heap.size + 2) 24 #[.bool false, .slice none 0 0, .slice none 0 0] := q2
    have c4_0 : wr.cell? ⟨w.heap.size + 2, 0, none⟩ = some (.bool false) := O4.cell 0
    have z4_0 := O4.frozen 0
    have c4_1 : wr.cell? ⟨w.heap.size + 2, 1, none⟩ = some (.slice none 0 0) := O4.cell 1
    have z4_1 := O4.frozen 1
    have c4_2 : wr.cell? ⟨w.heap.size + 2, 2, none⟩ = some (.slice none 0 0) := O4.cell 2
    have z4_2 := O4.frozen 2
    clear q2
    clear hf hap
    simp only [fillL]
    clear B
    have B := hon
    clear hon hk
    go_wp2_with fail
    refine (compare_any _ _ _ r q L I2 I3 (by omega)).mono ?_
    rintro e w5 ⟨rfl, P5⟩
    rw [HC.out]
    have OX := O3.on P5
    have x0 : w5.cell? ⟨w.heap.size + 1, 0, none⟩ = some (.bool (decide (q < 0))) := OX.cell 0
    have x1 : w5.cell? ⟨w.heap.size + 1, 1, none⟩ = some (.slice P3 Pn3 Pc3) := OX.cell 1
    have x2 : w5.cell? ⟨w.heap.size + 1, 2, none⟩ = some (.slice R3 Rn3 Rc3) := OX.cell 2
    go_wp2_with fail
    refine (own_any _ _ q L (I3.on P5) (by omega)).mono ?_
    rintro e w6 ⟨v6, rfl, I6, P6⟩
    obtain ⟨Q1, Qn, Qc, _, Q2, Qm, Qd, _, rfl, _⟩ := id I6
    have OZ := (O4.on P5).on P6
    have z0 : w6.cell? ⟨w.heap.size + 2, 0, none⟩ = some (.bool false) := OZ.cell 0
    have z1 : w6.cell? ⟨w.heap.size + 2, 1, none⟩ = some (.slice none 0 0) := OZ.cell 1
    have z2 : w6.cell? ⟨w.heap.size + 2, 2, none⟩ = some (.slice none 0 0) := OZ.cell 2
    have zf0 := OZ.frozen 0
    have zf1 := OZ.frozen 1
    have zf2 := OZ.frozen 2
    go_wp2
    have hon := on3 (g := w.heap.size + 2) ((B.trans P5).trans P6) (by omega) (.bool (decide (q < 0))) (.slice Q1 Qn Qc) (.slice Q2 Qm Qd)
    exact bodyPost_ret (v := .agg #[.bool (decide (q < 0)), .slice Q1 Qn Qc, .slice Q2 Qm Qd]) (by simp [results, Tryz.results70, go_sem, z0, z1, z2]) rfl ⟨_, rfl, isR_put I6 OZ _ _ _, hon⟩
set_option maxRecDepth 100000 in
set_option maxHeartbeats 1600000 in
theorem maxr_0 (w : World) (v v' : Value) (r q : Rat) (L : Nat) (h : Fld w v r L) (k : Fld w v' q L) (hL : L ≤ 4000) (hc : ¬ r < q) :
    Calls Tryz.prog 70 #[v, v'] w (RatPost w r L) := by
  obtain ⟨kc, ekc⟩ : ∃ x, rsg (r - q) = x := ⟨_, rfl⟩
  have hk0 := rsg_nlt r q hc
  rw [ekc] at hk0
  have hk1 : ¬ kc < 0 := by omega
  have HC := Lib.hid ekc
  clear ekc hk0
  clear hc
  obtain ⟨b, A, n, c, A', n', c', xs, ys, rfl, R, R', h1, h2, h3⟩ := id h
  obtain ⟨d, E, m, o, E', m', o', us, vs, rfl, U, U', k1, k2, k3⟩ := id k
  clear h3 k3
  have B : On w (((w.alloc (.cells #[.bool b, .slice A n c, .slice A' n' c'] 24)).alloc (.cells #[.bool d, .slice E m o, .slice E' m' o'] 24)).alloc (.cells #[.bool false, .slice none 0 0, .slice none 0 0] 24)) := On.alloc (On.alloc (On.alloc (On.refl w) _) _) _
  have OB2 : w.heap.size ≤ w.heap.size ∧ Own (((w.alloc (.cells #[.bool b, .slice A n c, .slice A' n' c'] 24)).alloc (.cells #[.bool d, .slice E m o, .slice E' m' o'] 24)).alloc (.cells #[.bool false, .slice none 0 0, .slice none 0 0] 24)) (w.heap.size) 24 #[.bool b, .slice A n c, .slice A' n' c'] := ⟨by omega, (((Own.at_ w (w.heap.size) (by simp) 24 #[.bool b, .slice A n c, .slice A' n' c']).alloc (.cells #[.bool d, .slice E m o, .slice E' m' o'] 24)).alloc (.cells #[.bool false, .slice none 0 0, .slice none 0 0] 24))⟩
  have OB3 : w.heap.size ≤ w.heap.size + 1 ∧ Own (((w.alloc (.cells #[.bool b, .slice A n c, .slice A' n' c'] 24)).alloc (.cells #[.bool d, .slice E m o, .slice E' m' o'] 24)).alloc (.cells #[.bool false, .slice none 0 0, .slice none 0 0] 24)) (w.heap.size + 1) 24 #[.bool d, .slice E m o, .slice E' m' o'] := ⟨by omega, ((Own.at_ (w.alloc (.cells #[.bool b, .slice A n c, .slice A' n' c'] 24)) (w.heap.size + 1) (by simp) 24 #[.bool d, .slice E m o, .slice E' m' o']).alloc (.cells #[.bool false, .slice none 0 0, .slice none 0 0] 24))⟩
  have OB4 : w.heap.size ≤ w.heap.size + 2 ∧ Own (((w.alloc (.cells #[.bool b, .slice A n c, .slice A' n' c'] 24)).alloc (.cells #[.bool d, .slice E m o, .slice E' m' o'] 24)).alloc (.cells #[.bool false, .slice none 0 0, .slice none 0 0] 24)) (w.heap.size + 2) 24 #[.bool false, .slice none 0 0, .slice none 0 0] := ⟨by omega, (Own.at_ ((w.alloc (.cells #[.bool b, .slice A n c, .slice A' n' c'] 24)).alloc (.cells #[.bool d, .slice E m o, .slice E' m' o'] 24)) (w.heap.size + 2) (by simp) 24 #[.bool false, .slice none 0 0, .slice none 0 0])⟩
  go_enter Tryz.func70, Tryz.ntmps70
  go_wp2
  refine wp_region_facts (by kernel_rfl) w [Fact.eq (.agg #[.bool b, .slice A n c, .slice A' n' c']), Fact.rat (r) (L), Fact.eq (.agg #[.bool d, .slice E m o, .slice E' m' o']), Fact.rat (q) (L), Fact.any, Fact.any] [Fact.rat (r) (L), Fact.rat (q) (L), Fact.any] [⟨6, 2, 24, 4, #[.bool b, .slice A n c, .slice A' n' c']⟩, ⟨6, 3, 24, 5, #[.bool d, .slice E m o, .slice E' m' o']⟩, ⟨6, 4, 24, 6, #[.bool false, .slice none 0 0, .slice none 0 0]⟩] [w.heap.size, w.heap.size + 1, w.heap.size + 2] [none, none, none, none, none, some 5, some 6, some 7, some 8, none, none, none, none, none, none, none, none] (by kernel_rfl) (by kernel_rfl) (by kernel_rfl) rfl B ?_ ?_ ?_ ?_ ?_
  · exact ⟨fun _ => ⟨by simp, rfl, OB2⟩, fun _ => ⟨by simp, rfl, OB3⟩, fun _ => ⟨by simp, rfl, OB4⟩, trivial⟩
  · exact .inr (by simp <;> omega)
  · exact ⟨⟨noWords_R _ _ _ _ _ _ _, (.inl (Nat.le_refl _)), (.inr (store_ob (j := 1) (noWords_R _ _ _ _ _ _ _) rfl rfl rfl (by kernel_rfl) rfl rfl rfl))⟩, ⟨noWords_R _ _ _ _ _ _ _, (.inl (Nat.le_refl _)), (.inr (store_ob (j := 3) (noWords_R _ _ _ _ _ _ _) rfl rfl rfl (by kernel_rfl) rfl rfl rfl))⟩, ⟨noWords_R _ _ _ _ _ _ _, (.inl (Nat.le_refl _)), (.inl (Nat.le_refl _))⟩, trivial⟩
  · refine ⟨?_, ?_, ?_, ?_, ?_, ?_, trivial⟩
    · exact .inr fun a w hp => ob_yes rfl (ob_loadR (hp.box (k := 0) rfl (Nat.le_refl _) (.inr (.inl (by kernel_rfl))) (by kernel_rfl) rfl).1 (hp.box (k := 0) rfl (Nat.le_refl _) (.inr (.inl (by kernel_rfl))) (by kernel_rfl) rfl).2 rfl)
    · refine .inr fun a w hp => ob_yes rfl ?_
      have h5 : a.tmps.getD 5 undef = .agg #[.bool b, .slice A n c, .slice A' n' c'] := (hp.fact 0 5 (by kernel_rfl) rfl)
      unfold Does
      go_simp
      refine (value_fld _ _ _ L (h.on hp.on) (by omega)).mono ?_
      rintro e w' ⟨u, rfl, I8, P8⟩
      exact ⟨_, rfl, P8, I8⟩
    · exact .inr fun a w hp => ob_yes rfl (ob_loadR (hp.box (k := 1) rfl (Nat.le_refl _) (.inr (.inl (by kernel_rfl))) (by kernel_rfl) rfl).1 (hp.box (k := 1) rfl (Nat.le_refl _) (.inr (.inl (by kernel_rfl))) (by kernel_rfl) rfl).2 rfl)
    · refine .inr fun a w hp => ob_yes rfl ?_
      have h7 : a.tmps.getD 7 undef = .agg #[.bool d, .slice E m o, .slice E' m' o'] := (hp.fact 2 7 (by kernel_rfl) rfl)
      unfold Does
      go_simp
      refine (value_fld _ _ _ L (k.on hp.on) (by omega)).mono ?_
      rintro e w' ⟨u, rfl, I8, P8⟩
      exact ⟨_, rfl, P8, I8⟩
    · exact .inl rfl
    · exact .inl rfl
  · intro f wr hon hk hf hb hap
    obtain ⟨q0, q1, q2, qz⟩ := hb
    clear qz
    obtain ⟨cur2, O2, I2⟩ : ∃ cur, Own wr (w.heap.size) 24 cur ∧ IsR wr (.agg cur) (r) (L) := q0
    obtain ⟨P2, Pn2, Pc2, _, R2, Rn2, Rc2, _, hz2, _⟩ := id I2
    injection hz2 with hz2
    subst hz2
    have c2_0 : wr.cell? ⟨w.heap.size, 0, none⟩ = some (.bool (decide (r < 0))) := O2.cell 0
    have z2_0 := O2.frozen 0
    have c2_1 : wr.cell? ⟨w.heap.size, 1, none⟩ = some (.slice P2 Pn2 Pc2) := O2.cell 1
    have z2_1 := O2.frozen 1
    have c2_2 : wr.cell? ⟨w.heap.size, 2, none⟩ = some (.slice R2 Rn2 Rc2) := O2.cell 2
    have z2_2 := O2.frozen 2
    obtain ⟨cur3, O3, I3⟩ : ∃ cur, Own wr (w.heap.size + 1) 24 cur ∧ IsR wr (.agg cur) (q) (L) := q1
    obtain ⟨P3, Pn3, Pc3, _, R3, Rn3, Rc3, _, hz3, _⟩ := id I3
    injection hz3 with hz3
    subst hz3
    have c3_0 : wr.cell? ⟨w.heap.size + 1, 0, none⟩ = some (.bool (decide (q < 0))) := O3.cell 0
    have z3_0 := O3.frozen 0
    have c3_1 : wr.cell? ⟨w.heap.size + 1, 1, none⟩ = some (.slice P3 Pn3 Pc3) := O3.cell 1
    have z3_1 := O3.frozen 1
    have c3_2 : wr.cell? ⟨w.heap.size + 1, 2, none⟩ = some (.slice R3 Rn3 Rc3) := O3.cell 2
    have z3_2 := O3.frozen 2
    have O4 : Own wr (w.heap.size + 2) 24 #[.bool false, .slice none 0 0, .slice none 0 0] := q2
    have c4_0 : wr.cell? ⟨w.heap.size + 2, 0, none⟩ = some (.bool false) := O4.cell 0
    have z4_0 := O4.frozen 0
    have c4_1 : wr.cell? ⟨w.heap.size + 2, 1, none⟩ = some (.slice none 0 0) := O4.cell 1
    have z4_1 := O4.frozen 1
    have c4_2 : wr.cell? ⟨w.heap.size + 2, 2, none⟩ = some (.slice none 0 0) := O4.cell 2
    have z4_2 := O4.frozen 2
    clear q2
    clear hf hap
    simp only [fillL]
    clear B
    have B := hon
    clear hon hk
    go_wp2_with fail
    refine (compare_any _ _ _ r q L I2 I3 (by omega)).mono ?_
    rintro e w5 ⟨rfl, P5⟩
    rw [HC.out]
    have OX := O2.on P5
    have x0 : w5.cell? ⟨w.heap.size, 0, none⟩ = some (.bool (decide (r < 0))) := OX.cell 0
    have x1 : w5.cell? ⟨w.heap.size, 1, none⟩ = some (.slice P2 Pn2 Pc2) := OX.cell 1
    have x2 : w5.cell? ⟨w.heap.size, 2, none⟩ = some (.slice R2 Rn2 Rc2) := OX.cell 2
    go_wp2_with fail
    refine (own_any _ _ r L (I2.on P5) (by omega)).mono ?_
    rintro e w6 ⟨v6, rfl, I6, P6⟩
    obtain ⟨Q1, Qn, Qc, _, Q2, Qm, Qd, _, rfl, _⟩ := id I6
    have OZ := (O4.on P5).on P6
    have z0 : w6.cell? ⟨w.heap.size + 2, 0, none⟩ = some (.bool false) := OZ.cell 0
    have z1 : w6.cell? ⟨w.heap.size + 2, 1, none⟩ = some (.slice none 0 0) := OZ.cell 1
    have z2 : w6.cell? ⟨w.heap.size + 2, 2, none⟩ = some (.slice none 0 0) := OZ.cell 2
    have zf0 := OZ.frozen 0
    have zf1 := OZ.frozen 1
    have zf2 := OZ.frozen 2
    go_wp2
    have hon := on3 (g := w.heap.size + 2) ((B.trans P5).trans P6) (by omega) (.bool (decide (r < 0))) (.slice Q1 Qn Qc) (.slice Q2 Qm Qd)
    exact bodyPost_ret (v := .agg #[.bool (decide (r < 0)), .slice Q1 Qn Qc, .slice Q2 Qm Qd]) (by simp [results, Tryz.results70, go_sem, z0, z1, z2]) rfl ⟨_, rfl, isR_put I6 OZ _ _ _, hon⟩
theorem maxr_any (w : World) (v v' : Value) (r q : Rat) (L : Nat) (h : Fld w v r L) (k : Fld w v' q L) (hL : L ≤ 4000) :
    Calls Tryz.prog 70 #[v, v'] w (RatPost w (rmax r q) L) := by
  unfold rmax
  by_cases hc : r < q
  · rw [if_pos hc]; exact maxr_1 w v v' r q L h k hL hc
  · rw [if_neg hc]; exact maxr_0 w v v' r q L h k hL hc
end Num
end Go.Proofs.YtkchpagjkgmpmaaGreat
