/-
  sum: the sum of two fractions.
-/
import Derived.Test.YtkchpagjkgmpmaaGreatRss
namespace Go.Proofs.YtkchpagjkgmpmaaGreat
open Go.RowKit
set_option linter.unusedVariables false
namespace Num
set_option maxRecDepth 100000 in
set_option maxHeartbeats 1600000 in
theorem quotient_den (w : World) (A A' : Option Addr) (n c n' c' L M : Nat) (xs ys : List Nat) (h : Rd w A n c xs) (k : Rd w A' n' c' ys) (hv : 0 < val ys) (hn : n ≤ 10000) (hL : tl xs ≤ L) (hL' : tl ys ≤ M) (hL2 : 2 ≤ M) :
    Calls Tryz.prog 117 #[.slice A n c, .slice A' n' c'] w (Gives w (val xs / val ys) L) := by
  go_enter Tryz.func117, Tryz.ntmps117
  go_wp2_with fail
  refine (div_any _ _ _ _ _ _ _ L M _ _ h k hv hn hL hL' hL2).mono ?_
  rintro e w1 ⟨A1, n1, c1, A2, n2, c2, rfl, N1, N2, hon⟩
  go_wp2
  go_ret
  exact ⟨_, _, _, rfl, N1, hon⟩
theorem sgn_mul_nat (s : Bool) (x k : Nat) : sgn s (x * k) = sgn s x * (k : Int) := by
  cases s <;> simp [sgn, Int.natCast_mul, Int.neg_mul]
theorem num_sgn (r : Rat) : r.num = sgn (decide (r < 0)) r.num.natAbs := by
  have : decide (r < 0) = decide (r.num < 0) := by simp only [rat_neg_iff]
  rw [this, sgn_of]
/-- the numerator before it is reduced -/
theorem sum_num (r q : Rat) (g : Nat) (s : Bool) (z : Nat) (hs : ssS (decide (r < 0)) (r.num.natAbs * (q.den / g)) (decide (q < 0)) (q.num.natAbs * (r.den / g)) = s) (hz : ssN (decide (r < 0)) (r.num.natAbs * (q.den / g)) (decide (q < 0)) (q.num.natAbs * (r.den / g)) = z) : r.num * ((q.den / g : Nat) : Int) + q.num * ((r.den / g : Nat) : Int) = sgn s z := by
  rw [← hs, ← hz, ss_sgn, sgn_mul_nat, sgn_mul_nat, ← num_sgn, ← num_sgn]
theorem sum_zero {r q : Rat} {s : Bool} {z : Nat} (h : r.num * ((q.den / Nat.gcd r.den q.den : Nat) : Int) + q.num * ((r.den / Nat.gcd r.den q.den : Nat) : Int) = sgn s z) (hz : z = 0) : r + q = 0 := by
  have hm := add_fields r q
  simp only at hm
  rw [h, hz, sgn_zero] at hm
  apply Rat.num_eq_zero.1
  rw [hm.1]; simp
theorem isR_sum {W : World} {A1 A2 : Option Addr} {n1 c1 n2 c2 M : Nat} {r q : Rat} {s : Bool} {z g k : Nat} (hg : Nat.gcd r.den q.den = g) (h : r.num * ((q.den / g : Nat) : Int) + q.num * ((r.den / g : Nat) : Int) = sgn s z) (hz : z ≠ 0) (hk : Nat.gcd z g = k) (N1 : Nm W A1 n1 c1 (z / k) M) (N2 : Nm W A2 n2 c2 (r.den / g * (q.den / k)) M) :
    IsR W (.agg #[.bool s, .slice A1 n1 c1, .slice A2 n2 c2]) (r + q) M := by
  obtain ⟨x1, R1, C1, V1, L1⟩ := N1
  obtain ⟨x2, R2, C2, V2, L2⟩ := N2
  have hm := add_fields r q
  simp only at hm
  rw [hg, h, sgn_natAbs, hk] at hm
  have hkp : 0 < k := by rw [← hk]; exact Nat.gcd_pos_of_pos_left _ (by omega)
  have hkd : k ∣ z := by rw [← hk]; exact Nat.gcd_dvd_left _ _
  have hq : sgn s z / (k : Int) = sgn s (z / k) := by
    obtain ⟨t, rfl⟩ := hkd
    rw [Nat.mul_div_cancel_left _ hkp, Nat.mul_comm, sgn_mul_nat, Int.mul_ediv_cancel _ (by omega)]
  rw [hq] at hm
  have hp : 0 < z / k := Nat.div_pos (Nat.le_of_dvd (by omega) hkd) hkp
  have hne : r + q ≠ 0 := fun e => by
    have := Rat.num_eq_zero.2 e
    rw [hm.1] at this
    have h2 := sgn_natAbs s (z / k)
    rw [this] at h2; simp at h2; omega
  have hsg : decide (r + q < 0) = s := by
    have : decide (r + q < 0) = decide ((r + q).num < 0) := by simp only [rat_neg_iff]
    rw [this, hm.1, sgn_neg hp]
  exact ⟨A1, n1, c1, x1, A2, n2, c2, x2, by rw [hsg], R1, R2, C1, C2, L1, L2, by rw [V1, hm.1, sgn_natAbs], by rw [V2, dn_ne hne, hm.2]⟩
theorem nm_zero_iff {w : World} {A : Option Addr} {n c v L : Nat} (h : Nm w A n c v L) : n = 0 ↔ v = 0 := by
  obtain ⟨xs, R, C, V, _⟩ := h
  rw [← V, ← nil_iff C, ← R.len, List.length_eq_zero_iff]
set_option maxRecDepth 100000 in
set_option maxHeartbeats 1600000 in
theorem sum_z1 (w : World) (v v' : Value) (r q : Rat) (L : Nat) (h : IsR w v r L) (k : IsR w v' q L) (hL : L ≤ 100000) (hr0 : r = 0) :
    Calls Tryz.prog 87 #[v, v'] w (RatPost w q L) := by
  obtain ⟨A, n, c, xs, A', n', c', ys, rfl, R, R', C, C', h1, h2, h3, h4⟩ := id h
  obtain ⟨E, m, o, us, E', m', o', vs, rfl, U, U', D, D', k1, k2, k3, k4⟩ := id k
  obtain ⟨b, hb⟩ : ∃ x, decide (r < 0) = x := ⟨_, rfl⟩
  obtain ⟨d, hd⟩ : ∃ x, decide (q < 0) = x := ⟨_, rfl⟩
  rw [hb] at h
  rw [hd] at k
  rw [hb, hd]
  have HZ1 := Lib.hid (decide_eq_true hr0)
  clear hr0 h3 h4 k3 k4 hb hd
  have B : On w (((w.alloc (.cells #[.bool b, .slice A n c, .slice A' n' c'] 24)).alloc (.cells #[.bool d, .slice E m o, .slice E' m' o'] 24)).alloc (.cells #[.bool false, .slice none 0 0, .slice none 0 0] 24)) := On.alloc (On.alloc (On.alloc (On.refl w) _) _) _
  have OB2 : w.heap.size ≤ w.heap.size ∧ Own (((w.alloc (.cells #[.bool b, .slice A n c, .slice A' n' c'] 24)).alloc (.cells #[.bool d, .slice E m o, .slice E' m' o'] 24)).alloc (.cells #[.bool false, .slice none 0 0, .slice none 0 0] 24)) (w.heap.size) 24 #[.bool b, .slice A n c, .slice A' n' c'] := ⟨by omega, (((Own.at_ w (w.heap.size) (by simp) 24 #[.bool b, .slice A n c, .slice A' n' c']).alloc (.cells #[.bool d, .slice E m o, .slice E' m' o'] 24)).alloc (.cells #[.bool false, .slice none 0 0, .slice none 0 0] 24))⟩
  have OB3 : w.heap.size ≤ w.heap.size + 1 ∧ Own (((w.alloc (.cells #[.bool b, .slice A n c, .slice A' n' c'] 24)).alloc (.cells #[.bool d, .slice E m o, .slice E' m' o'] 24)).alloc (.cells #[.bool false, .slice none 0 0, .slice none 0 0] 24)) (w.heap.size + 1) 24 #[.bool d, .slice E m o, .slice E' m' o'] := ⟨by omega, ((Own.at_ (w.alloc (.cells #[.bool b, .slice A n c, .slice A' n' c'] 24)) (w.heap.size + 1) (by simp) 24 #[.bool d, .slice E m o, .slice E' m' o']).alloc (.cells #[.bool false, .slice none 0 0, .slice none 0 0] 24))⟩
  have OB4 : w.heap.size ≤ w.heap.size + 2 ∧ Own (((w.alloc (.cells #[.bool b, .slice A n c, .slice A' n' c'] 24)).alloc (.cells #[.bool d, .slice E m o, .slice E' m' o'] 24)).alloc (.cells #[.bool false, .slice none 0 0, .slice none 0 0] 24)) (w.heap.size + 2) 24 #[.bool false, .slice none 0 0, .slice none 0 0] := ⟨by omega, (Own.at_ ((w.alloc (.cells #[.bool b, .slice A n c, .slice A' n' c'] 24)).alloc (.cells #[.bool d, .slice E m o, .slice E' m' o'] 24)) (w.heap.size + 2) (by simp) 24 #[.bool false, .slice none 0 0, .slice none 0 0])⟩
  go_enter Tryz.func87, Tryz.ntmps87
  go_wp2_with fail
  refine (iszero_any _ _ _ _ (h.on B)).mono ?_
  rintro e w5 ⟨rfl, P5⟩
  rw [HZ1.out]
  replace OB2 := And.intro OB2.1 (OB2.2.on P5)
  replace OB3 := And.intro OB3.1 (OB3.2.on P5)
  replace OB4 := And.intro OB4.1 (OB4.2.on P5)
  replace B := B.trans P5
  have y3_0 : w5.cell? ⟨w.heap.size + 1, 0, none⟩ = some (.bool d) := OB3.2.cell 0
  have y3_1 : w5.cell? ⟨w.heap.size + 1, 1, none⟩ = some (.slice E m o) := OB3.2.cell 1
  have y3_2 : w5.cell? ⟨w.heap.size + 1, 2, none⟩ = some (.slice E' m' o') := OB3.2.cell 2
  have y3_f0 := OB3.2.frozen 0
  have y3_f1 := OB3.2.frozen 1
  have y3_f2 := OB3.2.frozen 2
  go_wp2_with fail
  refine (own_any _ _ _ L (k.on B) hL).mono ?_
  rintro e w7 ⟨v7, rfl, I7, P7⟩
  obtain ⟨P1, Pn, Pc, _, R1, Rn, Rc, _, rfl, _⟩ := id I7
  clear y3_0 y3_f0 y3_1 y3_f1 y3_2 y3_f2
  replace OB2 := And.intro OB2.1 (OB2.2.on P7)
  replace OB3 := And.intro OB3.1 (OB3.2.on P7)
  replace OB4 := And.intro OB4.1 (OB4.2.on P7)
  replace B := B.trans P7
  have y4_0 : w7.cell? ⟨w.heap.size + 2, 0, none⟩ = some (.bool false) := OB4.2.cell 0
  have y4_1 : w7.cell? ⟨w.heap.size + 2, 1, none⟩ = some (.slice none 0 0) := OB4.2.cell 1
  have y4_2 : w7.cell? ⟨w.heap.size + 2, 2, none⟩ = some (.slice none 0 0) := OB4.2.cell 2
  have y4_f0 := OB4.2.frozen 0
  have y4_f1 := OB4.2.frozen 1
  have y4_f2 := OB4.2.frozen 2
  go_wp2
  have hon := on3 (g := w.heap.size + 2) B (by omega) (.bool (decide (q < 0))) (.slice P1 Pn Pc) (.slice R1 Rn Rc)
  exact bodyPost_ret (v := .agg #[.bool (decide (q < 0)), .slice P1 Pn Pc, .slice R1 Rn Rc]) (by simp [results, Tryz.results87, go_sem, y4_0, y4_1, y4_2]) rfl ⟨_, rfl, isR_put I7 OB4.2 _ _ _, hon⟩
set_option maxRecDepth 100000 in
set_option maxHeartbeats 1600000 in
theorem sum_z2 (w : World) (v v' : Value) (r q : Rat) (L : Nat) (h : IsR w v r L) (k : IsR w v' q L) (hL : L ≤ 100000) (hr0 : r ≠ 0) (hq0 : q = 0) :
    Calls Tryz.prog 87 #[v, v'] w (RatPost w r L) := by
  obtain ⟨A, n, c, xs, A', n', c', ys, rfl, R, R', C, C', h1, h2, h3, h4⟩ := id h
  obtain ⟨E, m, o, us, E', m', o', vs, rfl, U, U', D, D', k1, k2, k3, k4⟩ := id k
  obtain ⟨b, hb⟩ : ∃ x, decide (r < 0) = x := ⟨_, rfl⟩
  obtain ⟨d, hd⟩ : ∃ x, decide (q < 0) = x := ⟨_, rfl⟩
  rw [hb] at h
  rw [hd] at k
  rw [hb, hd]
  have HZ1 := Lib.hid (decide_eq_false hr0)
  have HZ2 := Lib.hid (decide_eq_true hq0)
  clear hr0 h3 h4 k3 k4 hb hd hq0
  have B : On w (((w.alloc (.cells #[.bool b, .slice A n c, .slice A' n' c'] 24)).alloc (.cells #[.bool d, .slice E m o, .slice E' m' o'] 24)).alloc (.cells #[.bool false, .slice none 0 0, .slice none 0 0] 24)) := On.alloc (On.alloc (On.alloc (On.refl w) _) _) _
  have OB2 : w.heap.size ≤ w.heap.size ∧ Own (((w.alloc (.cells #[.bool b, .slice A n c, .slice A' n' c'] 24)).alloc (.cells #[.bool d, .slice E m o, .slice E' m' o'] 24)).alloc (.cells #[.bool false, .slice none 0 0, .slice none 0 0] 24)) (w.heap.size) 24 #[.bool b, .slice A n c, .slice A' n' c'] := ⟨by omega, (((Own.at_ w (w.heap.size) (by simp) 24 #[.bool b, .slice A n c, .slice A' n' c']).alloc (.cells #[.bool d, .slice E m o, .slice E' m' o'] 24)).alloc (.cells #[.bool false, .slice none 0 0, .slice none 0 0] 24))⟩
  have OB3 : w.heap.size ≤ w.heap.size + 1 ∧ Own (((w.alloc (.cells #[.bool b, .slice A n c, .slice A' n' c'] 24)).alloc (.cells #[.bool d, .slice E m o, .slice E' m' o'] 24)).alloc (.cells #[.bool false, .slice none 0 0, .slice none 0 0] 24)) (w.heap.size + 1) 24 #[.bool d, .slice E m o, .slice E' m' o'] := ⟨by omega, ((Own.at_ (w.alloc (.cells #[.bool b, .slice A n c, .slice A' n' c'] 24)) (w.heap.size + 1) (by simp) 24 #[.bool d, .slice E m o, .slice E' m' o']).alloc (.cells #[.bool false, .slice none 0 0, .slice none 0 0] 24))⟩
  have OB4 : w.heap.size ≤ w.heap.size + 2 ∧ Own (((w.alloc (.cells #[.bool b, .slice A n c, .slice A' n' c'] 24)).alloc (.cells #[.bool d, .slice E m o, .slice E' m' o'] 24)).alloc (.cells #[.bool false, .slice none 0 0, .slice none 0 0] 24)) (w.heap.size + 2) 24 #[.bool false, .slice none 0 0, .slice none 0 0] := ⟨by omega, (Own.at_ ((w.alloc (.cells #[.bool b, .slice A n c, .slice A' n' c'] 24)).alloc (.cells #[.bool d, .slice E m o, .slice E' m' o'] 24)) (w.heap.size + 2) (by simp) 24 #[.bool false, .slice none 0 0, .slice none 0 0])⟩
  go_enter Tryz.func87, Tryz.ntmps87
  go_wp2_with fail
  refine (iszero_any _ _ _ _ (h.on B)).mono ?_
  rintro e w5 ⟨rfl, P5⟩
  rw [HZ1.out]
  replace OB2 := And.intro OB2.1 (OB2.2.on P5)
  replace OB3 := And.intro OB3.1 (OB3.2.on P5)
  replace OB4 := And.intro OB4.1 (OB4.2.on P5)
  replace B := B.trans P5
  have y3_0 : w5.cell? ⟨w.heap.size + 1, 0, none⟩ = some (.bool d) := OB3.2.cell 0
  have y3_1 : w5.cell? ⟨w.heap.size + 1, 1, none⟩ = some (.slice E m o) := OB3.2.cell 1
  have y3_2 : w5.cell? ⟨w.heap.size + 1, 2, none⟩ = some (.slice E' m' o') := OB3.2.cell 2
  have y3_f0 := OB3.2.frozen 0
  have y3_f1 := OB3.2.frozen 1
  have y3_f2 := OB3.2.frozen 2
  go_wp2_with fail
  refine (iszero_any _ _ _ _ (k.on B)).mono ?_
  rintro e w6 ⟨rfl, P6⟩
  rw [HZ2.out]
  clear y3_0 y3_f0 y3_1 y3_f1 y3_2 y3_f2
  replace OB2 := And.intro OB2.1 (OB2.2.on P6)
  replace OB3 := And.intro OB3.1 (OB3.2.on P6)
  replace OB4 := And.intro OB4.1 (OB4.2.on P6)
  replace B := B.trans P6
  have y2_0 : w6.cell? ⟨w.heap.size, 0, none⟩ = some (.bool b) := OB2.2.cell 0
  have y2_1 : w6.cell? ⟨w.heap.size, 1, none⟩ = some (.slice A n c) := OB2.2.cell 1
  have y2_2 : w6.cell? ⟨w.heap.size, 2, none⟩ = some (.slice A' n' c') := OB2.2.cell 2
  have y2_f0 := OB2.2.frozen 0
  have y2_f1 := OB2.2.frozen 1
  have y2_f2 := OB2.2.frozen 2
  go_wp2_with fail
  refine (own_any _ _ _ L (h.on B) hL).mono ?_
  rintro e w7 ⟨v7, rfl, I7, P7⟩
  obtain ⟨P1, Pn, Pc, _, R1, Rn, Rc, _, rfl, _⟩ := id I7
  clear y2_0 y2_f0 y2_1 y2_f1 y2_2 y2_f2
  replace OB2 := And.intro OB2.1 (OB2.2.on P7)
  replace OB3 := And.intro OB3.1 (OB3.2.on P7)
  replace OB4 := And.intro OB4.1 (OB4.2.on P7)
  replace B := B.trans P7
  have y4_0 : w7.cell? ⟨w.heap.size + 2, 0, none⟩ = some (.bool false) := OB4.2.cell 0
  have y4_1 : w7.cell? ⟨w.heap.size + 2, 1, none⟩ = some (.slice none 0 0) := OB4.2.cell 1
  have y4_2 : w7.cell? ⟨w.heap.size + 2, 2, none⟩ = some (.slice none 0 0) := OB4.2.cell 2
  have y4_f0 := OB4.2.frozen 0
  have y4_f1 := OB4.2.frozen 1
  have y4_f2 := OB4.2.frozen 2
  go_wp2
  have hon := on3 (g := w.heap.size + 2) B (by omega) (.bool (decide (r < 0))) (.slice P1 Pn Pc) (.slice R1 Rn Rc)
  exact bodyPost_ret (v := .agg #[.bool (decide (r < 0)), .slice P1 Pn Pc, .slice R1 Rn Rc]) (by simp [results, Tryz.results87, go_sem, y4_0, y4_1, y4_2]) rfl ⟨_, rfl, isR_put I7 OB4.2 _ _ _, hon⟩
set_option maxRecDepth 100000 in
set_option maxHeartbeats 1600000 in
theorem sum_null (w : World) (v v' : Value) (r q : Rat) (L : Nat) (h : IsR w v r L) (k : IsR w v' q L) (hL2 : 2 ≤ L) (hL : L ≤ 4000) (hr0 : r ≠ 0) (hq0 : q ≠ 0) (hz : ssN (decide (r < 0)) (r.num.natAbs * (q.den / Nat.gcd r.den q.den)) (decide (q < 0)) (q.num.natAbs * (r.den / Nat.gcd r.den q.den)) = 0) :
    Calls Tryz.prog 87 #[v, v'] w (RatPost w (r + q) (L + L + 1)) := by
  obtain ⟨A, n, c, xs, A', n', c', ys, rfl, R, R', C, C', h1, h2, h3, h4⟩ := id h
  obtain ⟨E, m, o, us, E', m', o', vs, rfl, U, U', D, D', k1, k2, k3, k4⟩ := id k
  obtain ⟨b, hb⟩ : ∃ x, decide (r < 0) = x := ⟨_, rfl⟩
  obtain ⟨d, hd⟩ : ∃ x, decide (q < 0) = x := ⟨_, rfl⟩
  rw [hb] at h
  rw [hd] at k
  rw [hb, hd]
  have tx : tl xs ≤ L := Nat.le_trans (tl_le _) (by rw [R.len]; exact h1)
  have ty : tl ys ≤ L := Nat.le_trans (tl_le _) (by rw [R'.len]; exact h2)
  have tu : tl us ≤ L := Nat.le_trans (tl_le _) (by rw [U.len]; exact k1)
  have tv : tl vs ≤ L := Nat.le_trans (tl_le _) (by rw [U'.len]; exact k2)
  rw [dn_ne hr0] at h4
  rw [dn_ne hq0] at k4
  obtain ⟨g, eg⟩ : ∃ x, Nat.gcd r.den q.den = x := ⟨_, rfl⟩
  rw [eg] at hz
  obtain ⟨s, es⟩ : ∃ x, ssS (decide (r < 0)) (r.num.natAbs * (q.den / g)) (decide (q < 0)) (q.num.natAbs * (r.den / g)) = x := ⟨_, rfl⟩
  obtain ⟨z, ez⟩ : ∃ x, ssN (decide (r < 0)) (r.num.natAbs * (q.den / g)) (decide (q < 0)) (q.num.natAbs * (r.den / g)) = x := ⟨_, rfl⟩
  rw [ez] at hz
  have hsum := sum_num r q g s z es ez
  have GP : Hid (0 < g) := Lib.hid (by rw [← eg]; exact Nat.gcd_pos_of_pos_left _ r.den_pos)
  have EG : Hid (Nat.gcd (val ys) (val vs) = g) := Lib.hid (by rw [h4, k4]; exact eg)
  have ES : Hid (ssS b (val xs * (val vs / g)) d (val us * (val ys / g)) = s) := Lib.hid (by rw [← hb, ← hd, h3, h4, k3, k4]; exact es)
  have EZ : Hid (ssN b (val xs * (val vs / g)) d (val us * (val ys / g)) = z) := Lib.hid (by rw [← hb, ← hd, h3, h4, k3, k4]; exact ez)
  have HR : Hid (r + q = 0) := Lib.hid (sum_zero (by rw [eg]; exact hsum) hz)
  have HZ : Hid (z = 0) := Lib.hid hz
  have HZ1 := Lib.hid (decide_eq_false hr0)
  have HZ2 := Lib.hid (decide_eq_false hq0)
  clear hb hd hr0 hq0 eg es ez hz hsum h3 h4 k3 k4
  have B : On w (((w.alloc (.cells #[.bool b, .slice A n c, .slice A' n' c'] 24)).alloc (.cells #[.bool d, .slice E m o, .slice E' m' o'] 24)).alloc (.cells #[.bool false, .slice none 0 0, .slice none 0 0] 24)) := On.alloc (On.alloc (On.alloc (On.refl w) _) _) _
  have OB2 : w.heap.size ≤ w.heap.size ∧ Own (((w.alloc (.cells #[.bool b, .slice A n c, .slice A' n' c'] 24)).alloc (.cells #[.bool d, .slice E m o, .slice E' m' o'] 24)).alloc (.cells #[.bool false, .slice none 0 0, .slice none 0 0] 24)) (w.heap.size) 24 #[.bool b, .slice A n c, .slice A' n' c'] := ⟨by omega, (((Own.at_ w (w.heap.size) (by simp) 24 #[.bool b, .slice A n c, .slice A' n' c']).alloc (.cells #[.bool d, .slice E m o, .slice E' m' o'] 24)).alloc (.cells #[.bool false, .slice none 0 0, .slice none 0 0] 24))⟩
  have OB3 : w.heap.size ≤ w.heap.size + 1 ∧ Own (((w.alloc (.cells #[.bool b, .slice A n c, .slice A' n' c'] 24)).alloc (.cells #[.bool d, .slice E m o, .slice E' m' o'] 24)).alloc (.cells #[.bool false, .slice none 0 0, .slice none 0 0] 24)) (w.heap.size + 1) 24 #[.bool d, .slice E m o, .slice E' m' o'] := ⟨by omega, ((Own.at_ (w.alloc (.cells #[.bool b, .slice A n c, .slice A' n' c'] 24)) (w.heap.size + 1) (by simp) 24 #[.bool d, .slice E m o, .slice E' m' o']).alloc (.cells #[.bool false, .slice none 0 0, .slice none 0 0] 24))⟩
  have OB4 : w.heap.size ≤ w.heap.size + 2 ∧ Own (((w.alloc (.cells #[.bool b, .slice A n c, .slice A' n' c'] 24)).alloc (.cells #[.bool d, .slice E m o, .slice E' m' o'] 24)).alloc (.cells #[.bool false, .slice none 0 0, .slice none 0 0] 24)) (w.heap.size + 2) 24 #[.bool false, .slice none 0 0, .slice none 0 0] := ⟨by omega, (Own.at_ ((w.alloc (.cells #[.bool b, .slice A n c, .slice A' n' c'] 24)).alloc (.cells #[.bool d, .slice E m o, .slice E' m' o'] 24)) (w.heap.size + 2) (by simp) 24 #[.bool false, .slice none 0 0, .slice none 0 0])⟩
  go_enter Tryz.func87, Tryz.ntmps87
  go_wp2_with fail
  refine (iszero_any _ _ _ _ (h.on B)).mono ?_
  rintro e w5 ⟨rfl, P5⟩
  rw [HZ1.out]
  replace OB2 := And.intro OB2.1 (OB2.2.on P5)
  replace OB3 := And.intro OB3.1 (OB3.2.on P5)
  replace OB4 := And.intro OB4.1 (OB4.2.on P5)
  replace B := B.trans P5
  have y3_0 : w5.cell? ⟨w.heap.size + 1, 0, none⟩ = some (.bool d) := OB3.2.cell 0
  have y3_1 : w5.cell? ⟨w.heap.size + 1, 1, none⟩ = some (.slice E m o) := OB3.2.cell 1
  have y3_2 : w5.cell? ⟨w.heap.size + 1, 2, none⟩ = some (.slice E' m' o') := OB3.2.cell 2
  have y3_f0 := OB3.2.frozen 0
  have y3_f1 := OB3.2.frozen 1
  have y3_f2 := OB3.2.frozen 2
  go_wp2_with fail
  refine (iszero_any _ _ _ _ (k.on B)).mono ?_
  rintro e w6 ⟨rfl, P6⟩
  rw [HZ2.out]
  clear y3_0 y3_f0 y3_1 y3_f1 y3_2 y3_f2
  replace OB2 := And.intro OB2.1 (OB2.2.on P6)
  replace OB3 := And.intro OB3.1 (OB3.2.on P6)
  replace OB4 := And.intro OB4.1 (OB4.2.on P6)
  replace B := B.trans P6
  have y2_0 : w6.cell? ⟨w.heap.size, 0, none⟩ = some (.bool b) := OB2.2.cell 0
  have y2_1 : w6.cell? ⟨w.heap.size, 1, none⟩ = some (.slice A n c) := OB2.2.cell 1
  have y2_2 : w6.cell? ⟨w.heap.size, 2, none⟩ = some (.slice A' n' c') := OB2.2.cell 2
  have y2_f0 := OB2.2.frozen 0
  have y2_f1 := OB2.2.frozen 1
  have y2_f2 := OB2.2.frozen 2
  have y3_0 : w6.cell? ⟨w.heap.size + 1, 0, none⟩ = some (.bool d) := OB3.2.cell 0
  have y3_1 : w6.cell? ⟨w.heap.size + 1, 1, none⟩ = some (.slice E m o) := OB3.2.cell 1
  have y3_2 : w6.cell? ⟨w.heap.size + 1, 2, none⟩ = some (.slice E' m' o') := OB3.2.cell 2
  have y3_f0 := OB3.2.frozen 0
  have y3_f1 := OB3.2.frozen 1
  have y3_f2 := OB3.2.frozen 2
  go_wp2_with fail
  refine (gcd_any _ _ _ _ _ _ _ L _ _ (R'.on B) (U'.on B) (by omega) (by omega) ty tv hL2 (by omega)).mono ?_
  rintro e w7 ⟨A5, n5, c5, rfl, h5, P7⟩
  rw [EG.out] at h5
  clear y3_0 y3_f0 y3_1 y3_f1 y3_2 y3_f2
  clear y2_0 y2_f0 y2_1 y2_f1 y2_2 y2_f2
  replace OB2 := And.intro OB2.1 (OB2.2.on P7)
  replace OB3 := And.intro OB3.1 (OB3.2.on P7)
  replace OB4 := And.intro OB4.1 (OB4.2.on P7)
  replace B := B.trans P7
  clear P5 P6 P7
  go_wp2
  refine wp_region_facts (by kernel_rfl) w [Fact.eq (.pointer (some ⟨w.heap.size, 2, none⟩)), Fact.eq (.slice A' n' c'), Fact.nm (g) (L), Fact.nm (val ys / g) (L), Fact.eq (.pointer (some ⟨w.heap.size + 1, 2, none⟩)), Fact.eq (.slice E' m' o'), Fact.nm (g) (L), Fact.nm (val vs / g) (L), Fact.nm (val ys / g) (L), Fact.nm (val vs / g) (L)] [Fact.any, Fact.any, Fact.any] [⟨10, 2, 24, 10, #[.bool b, .slice A n c, .slice A' n' c']⟩, ⟨10, 3, 24, 10, #[.bool d, .slice E m o, .slice E' m' o']⟩, ⟨10, 4, 24, 10, #[.bool false, .slice none 0 0, .slice none 0 0]⟩] [w.heap.size, w.heap.size + 1, w.heap.size + 2] [none, none, none, none, none, none, some 6, some 7, none, none, none, none, none, none, none, none, none, none, none, none, none, none, none, none, some 24, some 25, some 26, some 27, some 28, some 29, some 30, some 31, none, none, none, none, none, none, none, none, none, none, none, none, none, none, none, none, none, none, none, none, none, none, none, none, none, none, none, none, none, none, none, none, none, none] (by kernel_rfl) (by kernel_rfl) (by kernel_rfl) rfl B ?_ ?_ ?_ ?_ ?_
  · exact ⟨fun _ => ⟨by simp, rfl, OB2⟩, fun _ => ⟨by simp, rfl, OB3⟩, fun _ => ⟨by simp, rfl, OB4⟩, trivial⟩
  · exact .inl ⟨Nat.le_refl _, Nat.le_refl _, Nat.le_refl _, trivial⟩
  · exact ⟨⟨noWords_R _ _ _ _ _ _ _, (.inl (Nat.le_refl _)), (.inl (Nat.le_refl _))⟩, ⟨noWords_R _ _ _ _ _ _ _, (.inl (Nat.le_refl _)), (.inl (Nat.le_refl _))⟩, ⟨noWords_R _ _ _ _ _ _ _, (.inl (Nat.le_refl _)), (.inl (Nat.le_refl _))⟩, trivial⟩
  · refine ⟨?_, ?_, ?_, ?_, ?_, ?_, ?_, ?_, ?_, ?_, trivial⟩
    · exact .inr fun a w hp => ob_yes rfl (ob_fieldR (hp.box (k := 0) rfl (Nat.le_refl _) (.inl (Nat.le_refl _)) (by kernel_rfl) rfl).1 (by decide) rfl)
    · exact .inr fun a w hp => ob_yes rfl (ob_loadS (hp.fact 0 24 (by kernel_rfl) rfl) (hp.box (k := 0) rfl (Nat.le_refl _) (.inl (Nat.le_refl _)) (by kernel_rfl) rfl).2 rfl rfl)
    · refine .inr fun a w hp => ob_yes rfl (ob_move ?_)
      rw [show a.tmps.getD 5 undef = _ from (hp.same 5 (by kernel_rfl))]
      exact ⟨_, _, _, rfl, h5.kept hp.kept⟩
    · refine .inr fun a w hp => ob_yes rfl ?_
      have h25 : a.tmps.getD 25 undef = .slice A' n' c' := (hp.fact 1 25 (by kernel_rfl) rfl)
      obtain ⟨A26, n26, c26, e26, h26⟩ : ∃ A n c, a.tmps.getD 26 undef = .slice A n c ∧ Nm w A n c (g) (L) := (hp.fact 2 26 (by kernel_rfl) rfl)
      unfold Does
      go_simp
      obtain ⟨gs, RG, CG, VG, LG⟩ := h26
      refine (quotient_any _ _ _ _ _ _ _ L _ _ (R'.on hp.on) RG (by rw [VG]; exact GP.out) (by omega) ty (Nat.le_trans (tl_le _) (by rw [RG.len]; exact LG)) hL2).mono ?_
      rintro e w' ⟨A8, n8, c8, rfl, N8, P8⟩
      rw [VG] at N8
      exact ⟨_, rfl, P8, A8, n8, c8, rfl, N8⟩
    · exact .inr fun a w hp => ob_yes rfl (ob_fieldR (hp.box (k := 1) rfl (Nat.le_refl _) (.inl (Nat.le_refl _)) (by kernel_rfl) rfl).1 (by decide) rfl)
    · exact .inr fun a w hp => ob_yes rfl (ob_loadS (hp.fact 4 28 (by kernel_rfl) rfl) (hp.box (k := 1) rfl (Nat.le_refl _) (.inl (Nat.le_refl _)) (by kernel_rfl) rfl).2 rfl rfl)
    · refine .inr fun a w hp => ob_yes rfl (ob_move ?_)
      rw [show a.tmps.getD 5 undef = _ from (hp.same 5 (by kernel_rfl))]
      exact ⟨_, _, _, rfl, h5.kept hp.kept⟩
    · refine .inr fun a w hp => ob_yes rfl ?_
      have h29 : a.tmps.getD 29 undef = .slice E' m' o' := (hp.fact 5 29 (by kernel_rfl) rfl)
      obtain ⟨A30, n30, c30, e30, h30⟩ : ∃ A n c, a.tmps.getD 30 undef = .slice A n c ∧ Nm w A n c (g) (L) := (hp.fact 6 30 (by kernel_rfl) rfl)
      unfold Does
      go_simp
      obtain ⟨gs, RG, CG, VG, LG⟩ := h30
      refine (quotient_any _ _ _ _ _ _ _ L _ _ (U'.on hp.on) RG (by rw [VG]; exact GP.out) (by omega) tv (Nat.le_trans (tl_le _) (by rw [RG.len]; exact LG)) hL2).mono ?_
      rintro e w' ⟨A8, n8, c8, rfl, N8, P8⟩
      rw [VG] at N8
      exact ⟨_, rfl, P8, A8, n8, c8, rfl, N8⟩
    · exact .inr fun a w hp => ob_yes rfl (ob_assign (hp.fact 3 27 (by kernel_rfl) rfl))
    · exact .inr fun a w hp => ob_yes rfl (ob_assign (hp.fact 7 31 (by kernel_rfl) rfl))
  · intro f wa hon hk hf hb hap
    obtain ⟨q0, q1, q2, qz⟩ := hb
    clear qz
    have O2 : Own wa (w.heap.size) 24 #[.bool b, .slice A n c, .slice A' n' c'] := q0
    have c2_0 : wa.cell? ⟨w.heap.size, 0, none⟩ = some (.bool b) := O2.cell 0
    have z2_0 := O2.frozen 0
    have c2_1 : wa.cell? ⟨w.heap.size, 1, none⟩ = some (.slice A n c) := O2.cell 1
    have z2_1 := O2.frozen 1
    have c2_2 : wa.cell? ⟨w.heap.size, 2, none⟩ = some (.slice A' n' c') := O2.cell 2
    have z2_2 := O2.frozen 2
    clear q0
    have O3 : Own wa (w.heap.size + 1) 24 #[.bool d, .slice E m o, .slice E' m' o'] := q1
    have c3_0 : wa.cell? ⟨w.heap.size + 1, 0, none⟩ = some (.bool d) := O3.cell 0
    have z3_0 := O3.frozen 0
    have c3_1 : wa.cell? ⟨w.heap.size + 1, 1, none⟩ = some (.slice E m o) := O3.cell 1
    have z3_1 := O3.frozen 1
    have c3_2 : wa.cell? ⟨w.heap.size + 1, 2, none⟩ = some (.slice E' m' o') := O3.cell 2
    have z3_2 := O3.frozen 2
    clear q1
    have O4 : Own wa (w.heap.size + 2) 24 #[.bool false, .slice none 0 0, .slice none 0 0] := q2
    have c4_0 : wa.cell? ⟨w.heap.size + 2, 0, none⟩ = some (.bool false) := O4.cell 0
    have z4_0 := O4.frozen 0
    have c4_1 : wa.cell? ⟨w.heap.size + 2, 1, none⟩ = some (.slice none 0 0) := O4.cell 1
    have z4_1 := O4.frozen 1
    have c4_2 : wa.cell? ⟨w.heap.size + 2, 2, none⟩ = some (.slice none 0 0) := O4.cell 2
    have z4_2 := O4.frozen 2
    clear q2
    obtain ⟨A6, n6, c6, e6, h6⟩ : ∃ A n c, f 6 = .slice A n c ∧ Nm wa A n c (val ys / g) (L) := hf 8 6 rfl
    obtain ⟨A7, n7, c7, e7, h7⟩ : ∃ A n c, f 7 = .slice A n c ∧ Nm wa A n c (val vs / g) (L) := hf 9 7 rfl
    clear hf hap
    simp only [fillL, e6, e7]
    clear e6 e7
    have OB2 : w.heap.size ≤ w.heap.size ∧ Own wa (w.heap.size) 24 #[.bool b, .slice A n c, .slice A' n' c'] := ⟨by omega, O2⟩
    clear c2_0 z2_0 c2_1 z2_1 c2_2 z2_2 O2
    have OB3 : w.heap.size ≤ w.heap.size + 1 ∧ Own wa (w.heap.size + 1) 24 #[.bool d, .slice E m o, .slice E' m' o'] := ⟨by omega, O3⟩
    clear c3_0 z3_0 c3_1 z3_1 c3_2 z3_2 O3
    have OB4 : w.heap.size ≤ w.heap.size + 2 ∧ Own wa (w.heap.size + 2) 24 #[.bool false, .slice none 0 0, .slice none 0 0] := ⟨by omega, O4⟩
    clear c4_0 z4_0 c4_1 z4_1 c4_2 z4_2 O4
    clear B
    have B := hon
    clear hon
    replace h5 := h5.kept hk
    clear hk
    go_wp2
    refine wp_region_facts (by kernel_rfl) w [Fact.eq (.pointer (some ⟨w.heap.size, 0, none⟩)), Fact.eq (.bool b), Fact.eq (.pointer (some ⟨w.heap.size, 1, none⟩)), Fact.eq (.slice A n c), Fact.nm (val vs / g) (L), Fact.nm (val xs * (val vs / g)) (L + L), Fact.eq (.pointer (some ⟨w.heap.size + 1, 0, none⟩)), Fact.eq (.bool d), Fact.eq (.pointer (some ⟨w.heap.size + 1, 1, none⟩)), Fact.eq (.slice E m o), Fact.nm (val ys / g) (L), Fact.nm (val us * (val ys / g)) (L + L), Fact.eNm (.bool s) (z) (L + L + 1), Fact.eNm (.bool s) (z) (L + L + 1), Fact.eq (.bool s), Fact.nm (z) (L + L + 1), Fact.eq (.bool s), Fact.nm (z) (L + L + 1)] [Fact.any, Fact.any, Fact.any] [⟨18, 2, 24, 18, #[.bool b, .slice A n c, .slice A' n' c']⟩, ⟨18, 3, 24, 18, #[.bool d, .slice E m o, .slice E' m' o']⟩, ⟨18, 4, 24, 18, #[.bool false, .slice none 0 0, .slice none 0 0]⟩] [w.heap.size, w.heap.size + 1, w.heap.size + 2] [none, none, none, none, none, none, none, none, some 8, some 9, none, none, none, none, none, none, none, none, none, none, none, none, none, none, none, none, none, none, none, none, none, none, some 32, some 33, some 34, some 35, some 36, some 37, some 38, some 39, some 40, some 41, some 42, some 43, some 44, some 45, some 46, some 47, none, none, none, none, none, none, none, none, none, none, none, none, none, none, none, none, none, none] (by kernel_rfl) (by kernel_rfl) (by kernel_rfl) rfl B ?_ ?_ ?_ ?_ ?_
    · exact ⟨fun _ => ⟨by simp, rfl, OB2⟩, fun _ => ⟨by simp, rfl, OB3⟩, fun _ => ⟨by simp, rfl, OB4⟩, trivial⟩
    · exact .inl ⟨Nat.le_refl _, Nat.le_refl _, Nat.le_refl _, trivial⟩
    · exact ⟨⟨noWords_R _ _ _ _ _ _ _, (.inl (Nat.le_refl _)), (.inl (Nat.le_refl _))⟩, ⟨noWords_R _ _ _ _ _ _ _, (.inl (Nat.le_refl _)), (.inl (Nat.le_refl _))⟩, ⟨noWords_R _ _ _ _ _ _ _, (.inl (Nat.le_refl _)), (.inl (Nat.le_refl _))⟩, trivial⟩
    · refine ⟨?_, ?_, ?_, ?_, ?_, ?_, ?_, ?_, ?_, ?_, ?_, ?_, ?_, ?_, ?_, ?_, ?_, ?_, trivial⟩
      · exact .inr fun a w hp => ob_yes rfl (ob_fieldR (hp.box (k := 0) rfl (Nat.le_refl _) (.inl (Nat.le_refl _)) (by kernel_rfl) rfl).1 (by decide) rfl)
      · exact .inr fun a w hp => ob_yes rfl (ob_loadB (hp.fact 0 33 (by kernel_rfl) rfl) (hp.box (k := 0) rfl (Nat.le_refl _) (.inl (Nat.le_refl _)) (by kernel_rfl) rfl).2 rfl rfl)
      · exact .inr fun a w hp => ob_yes rfl (ob_fieldR (hp.box (k := 0) rfl (Nat.le_refl _) (.inl (Nat.le_refl _)) (by kernel_rfl) rfl).1 (by decide) rfl)
      · exact .inr fun a w hp => ob_yes rfl (ob_loadS (hp.fact 2 35 (by kernel_rfl) rfl) (hp.box (k := 0) rfl (Nat.le_refl _) (.inl (Nat.le_refl _)) (by kernel_rfl) rfl).2 rfl rfl)
      · refine .inr fun a w hp => ob_yes rfl (ob_move ?_)
        rw [show a.tmps.getD 7 undef = _ from (hp.same 7 (by kernel_rfl))]
        exact ⟨_, _, _, rfl, h7.kept hp.kept⟩
      · refine .inr fun a w hp => ob_yes rfl ?_
        have h36 : a.tmps.getD 36 undef = .slice A n c := (hp.fact 3 36 (by kernel_rfl) rfl)
        obtain ⟨A37, n37, c37, e37, h37⟩ : ∃ A n c, a.tmps.getD 37 undef = .slice A n c ∧ Nm w A n c (val vs / g) (L) := (hp.fact 4 37 (by kernel_rfl) rfl)
        unfold Does
        go_simp
        obtain ⟨x2, RY, _, VY, LY⟩ := h37
        refine (mul_any _ _ _ _ _ _ _ L L _ _ (R.on hp.on) RY tx (Nat.le_trans (tl_le _) (by rw [RY.len]; exact LY)) (by omega) (by omega)).mono ?_
        rintro e w' ⟨A8, n8, c8, rfl, N8, P8⟩
        rw [VY] at N8
        exact ⟨_, rfl, P8, A8, n8, c8, rfl, N8⟩
      · exact .inr fun a w hp => ob_yes rfl (ob_fieldR (hp.box (k := 1) rfl (Nat.le_refl _) (.inl (Nat.le_refl _)) (by kernel_rfl) rfl).1 (by decide) rfl)
      · exact .inr fun a w hp => ob_yes rfl (ob_loadB (hp.fact 6 39 (by kernel_rfl) rfl) (hp.box (k := 1) rfl (Nat.le_refl _) (.inl (Nat.le_refl _)) (by kernel_rfl) rfl).2 rfl rfl)
      · exact .inr fun a w hp => ob_yes rfl (ob_fieldR (hp.box (k := 1) rfl (Nat.le_refl _) (.inl (Nat.le_refl _)) (by kernel_rfl) rfl).1 (by decide) rfl)
      · exact .inr fun a w hp => ob_yes rfl (ob_loadS (hp.fact 8 41 (by kernel_rfl) rfl) (hp.box (k := 1) rfl (Nat.le_refl _) (.inl (Nat.le_refl _)) (by kernel_rfl) rfl).2 rfl rfl)
      · refine .inr fun a w hp => ob_yes rfl (ob_move ?_)
        rw [show a.tmps.getD 6 undef = _ from (hp.same 6 (by kernel_rfl))]
        exact ⟨_, _, _, rfl, h6.kept hp.kept⟩
      · refine .inr fun a w hp => ob_yes rfl ?_
        have h42 : a.tmps.getD 42 undef = .slice E m o := (hp.fact 9 42 (by kernel_rfl) rfl)
        obtain ⟨A43, n43, c43, e43, h43⟩ : ∃ A n c, a.tmps.getD 43 undef = .slice A n c ∧ Nm w A n c (val ys / g) (L) := (hp.fact 10 43 (by kernel_rfl) rfl)
        unfold Does
        go_simp
        obtain ⟨x2, RY, _, VY, LY⟩ := h43
        refine (mul_any _ _ _ _ _ _ _ L L _ _ (U.on hp.on) RY tu (Nat.le_trans (tl_le _) (by rw [RY.len]; exact LY)) (by omega) (by omega)).mono ?_
        rintro e w' ⟨A8, n8, c8, rfl, N8, P8⟩
        rw [VY] at N8
        exact ⟨_, rfl, P8, A8, n8, c8, rfl, N8⟩
      · refine .inr fun a w hp => ob_yes rfl ?_
        have h34 : a.tmps.getD 34 undef = .bool b := (hp.fact 1 34 (by kernel_rfl) rfl)
        obtain ⟨A38, n38, c38, e38, h38⟩ : ∃ A n c, a.tmps.getD 38 undef = .slice A n c ∧ Nm w A n c (val xs * (val vs / g)) (L + L) := (hp.fact 5 38 (by kernel_rfl) rfl)
        have h40 : a.tmps.getD 40 undef = .bool d := (hp.fact 7 40 (by kernel_rfl) rfl)
        obtain ⟨A44, n44, c44, e44, h44⟩ : ∃ A n c, a.tmps.getD 44 undef = .slice A n c ∧ Nm w A n c (val us * (val ys / g)) (L + L) := (hp.fact 11 44 (by kernel_rfl) rfl)
        unfold Does
        go_simp
        obtain ⟨x1, RX, _, VX, LX⟩ := h38
        obtain ⟨x2, RY, _, VY, LY⟩ := h44
        refine (ssum_any _ _ _ _ _ _ _ _ _ (L + L) _ _ RX RY LX LY (by omega)).mono ?_
        rintro e w' ⟨A8, n8, c8, rfl, N8, P8⟩
        rw [VX, VY, EZ.out] at N8
        rw [VX, VY, ES.out]
        exact ⟨_, rfl, P8, A8, n8, c8, rfl, N8⟩
      · exact .inr fun a w hp => ob_yes rfl (ob_move (hp.fact 12 45 (by kernel_rfl) rfl))
      · refine .inr fun a w hp => ob_yes rfl ?_
        obtain ⟨A, n, c, e, h⟩ : ∃ A n c, a.tmps.getD 32 undef = .tuple #[.bool s, .slice A n c] ∧ Nm w A n c (z) (L + L + 1) := (hp.fact 13 32 (by kernel_rfl) rfl)
        exact ob_ext0 e rfl
      · refine .inr fun a w hp => ob_yes rfl ?_
        obtain ⟨A, n, c, e, h⟩ : ∃ A n c, a.tmps.getD 32 undef = .tuple #[.bool s, .slice A n c] ∧ Nm w A n c (z) (L + L + 1) := (hp.fact 13 32 (by kernel_rfl) rfl)
        exact ob_ext1 e ⟨A, n, c, rfl, h⟩
      · exact .inr fun a w hp => ob_yes rfl (ob_assign (hp.fact 14 46 (by kernel_rfl) rfl))
      · exact .inr fun a w hp => ob_yes rfl (ob_assign (hp.fact 15 47 (by kernel_rfl) rfl))
    · intro f wb hon hk hf hb hap
      obtain ⟨q0, q1, q2, qz⟩ := hb
      clear qz
      have O2 : Own wb (w.heap.size) 24 #[.bool b, .slice A n c, .slice A' n' c'] := q0
      have c2_0 : wb.cell? ⟨w.heap.size, 0, none⟩ = some (.bool b) := O2.cell 0
      have z2_0 := O2.frozen 0
      have c2_1 : wb.cell? ⟨w.heap.size, 1, none⟩ = some (.slice A n c) := O2.cell 1
      have z2_1 := O2.frozen 1
      have c2_2 : wb.cell? ⟨w.heap.size, 2, none⟩ = some (.slice A' n' c') := O2.cell 2
      have z2_2 := O2.frozen 2
      clear q0
      have O3 : Own wb (w.heap.size + 1) 24 #[.bool d, .slice E m o, .slice E' m' o'] := q1
      have c3_0 : wb.cell? ⟨w.heap.size + 1, 0, none⟩ = some (.bool d) := O3.cell 0
      have z3_0 := O3.frozen 0
      have c3_1 : wb.cell? ⟨w.heap.size + 1, 1, none⟩ = some (.slice E m o) := O3.cell 1
      have z3_1 := O3.frozen 1
      have c3_2 : wb.cell? ⟨w.heap.size + 1, 2, none⟩ = some (.slice E' m' o') := O3.cell 2
      have z3_2 := O3.frozen 2
      clear q1
      have O4 : Own wb (w.heap.size + 2) 24 #[.bool false, .slice none 0 0, .slice none 0 0] := q2
      have c4_0 : wb.cell? ⟨w.heap.size + 2, 0, none⟩ = some (.bool false) := O4.cell 0
      have z4_0 := O4.frozen 0
      have c4_1 : wb.cell? ⟨w.heap.size + 2, 1, none⟩ = some (.slice none 0 0) := O4.cell 1
      have z4_1 := O4.frozen 1
      have c4_2 : wb.cell? ⟨w.heap.size + 2, 2, none⟩ = some (.slice none 0 0) := O4.cell 2
      have z4_2 := O4.frozen 2
      clear q2
      have e8 : f 8 = .bool s := hf 16 8 rfl
      obtain ⟨A9, n9, c9, e9, h9⟩ : ∃ A n c, f 9 = .slice A n c ∧ Nm wb A n c (z) (L + L + 1) := hf 17 9 rfl
      clear hf hap
      simp only [fillL, e8, e9]
      clear e8 e9
      have hn0 : n9 = 0 := (nm_zero_iff h9).2 HZ.out
      subst hn0
      go_wp2
      have hon2 := on3 (g := w.heap.size + 2) hon (by omega) (.bool false) (.slice none 0 0) (.slice none 0 0)
      exact bodyPost_ret (v := .agg #[.bool false, .slice none 0 0, .slice none 0 0]) (by simp [results, Tryz.results87, go_sem, c4_0, c4_1, c4_2]) rfl ⟨_, rfl, by rw [HR.out]; exact isR_zero _ _, hon2⟩
set_option maxRecDepth 100000 in
set_option maxHeartbeats 1600000 in
theorem sum_ne (w : World) (v v' : Value) (r q : Rat) (L : Nat) (h : IsR w v r L) (k : IsR w v' q L) (hL2 : 2 ≤ L) (hL : L ≤ 4000) (hr0 : r ≠ 0) (hq0 : q ≠ 0) (hz : ssN (decide (r < 0)) (r.num.natAbs * (q.den / Nat.gcd r.den q.den)) (decide (q < 0)) (q.num.natAbs * (r.den / Nat.gcd r.den q.den)) ≠ 0) :
    Calls Tryz.prog 87 #[v, v'] w (RatPost w (r + q) (L + L + 1)) := by
  obtain ⟨A, n, c, xs, A', n', c', ys, rfl, R, R', C, C', h1, h2, h3, h4⟩ := id h
  obtain ⟨E, m, o, us, E', m', o', vs, rfl, U, U', D, D', k1, k2, k3, k4⟩ := id k
  obtain ⟨b, hb⟩ : ∃ x, decide (r < 0) = x := ⟨_, rfl⟩
  obtain ⟨d, hd⟩ : ∃ x, decide (q < 0) = x := ⟨_, rfl⟩
  rw [hb] at h
  rw [hd] at k
  rw [hb, hd]
  have tx : tl xs ≤ L := Nat.le_trans (tl_le _) (by rw [R.len]; exact h1)
  have ty : tl ys ≤ L := Nat.le_trans (tl_le _) (by rw [R'.len]; exact h2)
  have tu : tl us ≤ L := Nat.le_trans (tl_le _) (by rw [U.len]; exact k1)
  have tv : tl vs ≤ L := Nat.le_trans (tl_le _) (by rw [U'.len]; exact k2)
  rw [dn_ne hr0] at h4
  rw [dn_ne hq0] at k4
  obtain ⟨g, eg⟩ : ∃ x, Nat.gcd r.den q.den = x := ⟨_, rfl⟩
  rw [eg] at hz
  obtain ⟨s, es⟩ : ∃ x, ssS (decide (r < 0)) (r.num.natAbs * (q.den / g)) (decide (q < 0)) (q.num.natAbs * (r.den / g)) = x := ⟨_, rfl⟩
  obtain ⟨z, ez⟩ : ∃ x, ssN (decide (r < 0)) (r.num.natAbs * (q.den / g)) (decide (q < 0)) (q.num.natAbs * (r.den / g)) = x := ⟨_, rfl⟩
  rw [ez] at hz
  have hsum := sum_num r q g s z es ez
  have GP : Hid (0 < g) := Lib.hid (by rw [← eg]; exact Nat.gcd_pos_of_pos_left _ r.den_pos)
  have EG : Hid (Nat.gcd (val ys) (val vs) = g) := Lib.hid (by rw [h4, k4]; exact eg)
  have ES : Hid (ssS b (val xs * (val vs / g)) d (val us * (val ys / g)) = s) := Lib.hid (by rw [← hb, ← hd, h3, h4, k3, k4]; exact es)
  have EZ : Hid (ssN b (val xs * (val vs / g)) d (val us * (val ys / g)) = z) := Lib.hid (by rw [← hb, ← hd, h3, h4, k3, k4]; exact ez)
  obtain ⟨g2, eg2⟩ : ∃ x, Nat.gcd z g = x := ⟨_, rfl⟩
  have EG2 := Lib.hid eg2
  have GP2 : Hid (0 < g2) := Lib.hid (by rw [← eg2]; exact Nat.gcd_pos_of_pos_left _ (by omega))
  have HF : Hid (∀ (W : World) (A1 : Option Addr) (n1 c1 : Nat) (A2 : Option Addr) (n2 c2 : Nat), Nm W A1 n1 c1 (z / g2) (L + L + 1) → Nm W A2 n2 c2 (val ys / g * (val vs / g2)) (L + L + 1) → IsR W (.agg #[.bool s, .slice A1 n1 c1, .slice A2 n2 c2]) (r + q) (L + L + 1)) := Lib.hid (by rw [h4, k4]; exact fun W A1 n1 c1 A2 n2 c2 => isR_sum eg hsum hz eg2)
  have HZ : Hid (z ≠ 0) := Lib.hid hz
  have HZ1 := Lib.hid (decide_eq_false hr0)
  have HZ2 := Lib.hid (decide_eq_false hq0)
  clear hb hd hr0 hq0 eg es ez hz hsum h3 h4 k3 k4 eg2
  have B : On w (((w.alloc (.cells #[.bool b, .slice A n c, .slice A' n' c'] 24)).alloc (.cells #[.bool d, .slice E m o, .slice E' m' o'] 24)).alloc (.cells #[.bool false, .slice none 0 0, .slice none 0 0] 24)) := On.alloc (On.alloc (On.alloc (On.refl w) _) _) _
  have OB2 : w.heap.size ≤ w.heap.size ∧ Own (((w.alloc (.cells #[.bool b, .slice A n c, .slice A' n' c'] 24)).alloc (.cells #[.bool d, .slice E m o, .slice E' m' o'] 24)).alloc (.cells #[.bool false, .slice none 0 0, .slice none 0 0] 24)) (w.heap.size) 24 #[.bool b, .slice A n c, .slice A' n' c'] := ⟨by omega, (((Own.at_ w (w.heap.size) (by simp) 24 #[.bool b, .slice A n c, .slice A' n' c']).alloc (.cells #[.bool d, .slice E m o, .slice E' m' o'] 24)).alloc (.cells #[.bool false, .slice none 0 0, .slice none 0 0] 24))⟩
  have OB3 : w.heap.size ≤ w.heap.size + 1 ∧ Own (((w.alloc (.cells #[.bool b, .slice A n c, .slice A' n' c'] 24)).alloc (.cells #[.bool d, .slice E m o, .slice E' m' o'] 24)).alloc (.cells #[.bool false, .slice none 0 0, .slice none 0 0] 24)) (w.heap.size + 1) 24 #[.bool d, .slice E m o, .slice E' m' o'] := ⟨by omega, ((Own.at_ (w.alloc (.cells #[.bool b, .slice A n c, .slice A' n' c'] 24)) (w.heap.size + 1) (by simp) 24 #[.bool d, .slice E m o, .slice E' m' o']).alloc (.cells #[.bool false, .slice none 0 0, .slice none 0 0] 24))⟩
  have OB4 : w.heap.size ≤ w.heap.size + 2 ∧ Own (((w.alloc (.cells #[.bool b, .slice A n c, .slice A' n' c'] 24)).alloc (.cells #[.bool d, .slice E m o, .slice E' m' o'] 24)).alloc (.cells #[.bool false, .slice none 0 0, .slice none 0 0] 24)) (w.heap.size + 2) 24 #[.bool false, .slice none 0 0, .slice none 0 0] := ⟨by omega, (Own.at_ ((w.alloc (.cells #[.bool b, .slice A n c, .slice A' n' c'] 24)).alloc (.cells #[.bool d, .slice E m o, .slice E' m' o'] 24)) (w.heap.size + 2) (by simp) 24 #[.bool false, .slice none 0 0, .slice none 0 0])⟩
  go_enter Tryz.func87, Tryz.ntmps87
  go_wp2_with fail
  refine (iszero_any _ _ _ _ (h.on B)).mono ?_
  rintro e w5 ⟨rfl, P5⟩
  rw [HZ1.out]
  replace OB2 := And.intro OB2.1 (OB2.2.on P5)
  replace OB3 := And.intro OB3.1 (OB3.2.on P5)
  replace OB4 := And.intro OB4.1 (OB4.2.on P5)
  replace B := B.trans P5
  have y3_0 : w5.cell? ⟨w.heap.size + 1, 0, none⟩ = some (.bool d) := OB3.2.cell 0
  have y3_1 : w5.cell? ⟨w.heap.size + 1, 1, none⟩ = some (.slice E m o) := OB3.2.cell 1
  have y3_2 : w5.cell? ⟨w.heap.size + 1, 2, none⟩ = some (.slice E' m' o') := OB3.2.cell 2
  have y3_f0 := OB3.2.frozen 0
  have y3_f1 := OB3.2.frozen 1
  have y3_f2 := OB3.2.frozen 2
  go_wp2_with fail
  refine (iszero_any _ _ _ _ (k.on B)).mono ?_
  rintro e w6 ⟨rfl, P6⟩
  rw [HZ2.out]
  clear y3_0 y3_f0 y3_1 y3_f1 y3_2 y3_f2
  replace OB2 := And.intro OB2.1 (OB2.2.on P6)
  replace OB3 := And.intro OB3.1 (OB3.2.on P6)
  replace OB4 := And.intro OB4.1 (OB4.2.on P6)
  replace B := B.trans P6
  have y2_0 : w6.cell? ⟨w.heap.size, 0, none⟩ = some (.bool b) := OB2.2.cell 0
  have y2_1 : w6.cell? ⟨w.heap.size, 1, none⟩ = some (.slice A n c) := OB2.2.cell 1
  have y2_2 : w6.cell? ⟨w.heap.size, 2, none⟩ = some (.slice A' n' c') := OB2.2.cell 2
  have y2_f0 := OB2.2.frozen 0
  have y2_f1 := OB2.2.frozen 1
  have y2_f2 := OB2.2.frozen 2
  have y3_0 : w6.cell? ⟨w.heap.size + 1, 0, none⟩ = some (.bool d) := OB3.2.cell 0
  have y3_1 : w6.cell? ⟨w.heap.size + 1, 1, none⟩ = some (.slice E m o) := OB3.2.cell 1
  have y3_2 : w6.cell? ⟨w.heap.size + 1, 2, none⟩ = some (.slice E' m' o') := OB3.2.cell 2
  have y3_f0 := OB3.2.frozen 0
  have y3_f1 := OB3.2.frozen 1
  have y3_f2 := OB3.2.frozen 2
  go_wp2_with fail
  refine (gcd_any _ _ _ _ _ _ _ L _ _ (R'.on B) (U'.on B) (by omega) (by omega) ty tv hL2 (by omega)).mono ?_
  rintro e w7 ⟨A5, n5, c5, rfl, h5, P7⟩
  rw [EG.out] at h5
  clear y3_0 y3_f0 y3_1 y3_f1 y3_2 y3_f2
  clear y2_0 y2_f0 y2_1 y2_f1 y2_2 y2_f2
  replace OB2 := And.intro OB2.1 (OB2.2.on P7)
  replace OB3 := And.intro OB3.1 (OB3.2.on P7)
  replace OB4 := And.intro OB4.1 (OB4.2.on P7)
  replace B := B.trans P7
  clear P5 P6 P7
  go_wp2
  refine wp_region_facts (by kernel_rfl) w [Fact.eq (.pointer (some ⟨w.heap.size, 2, none⟩)), Fact.eq (.slice A' n' c'), Fact.nm (g) (L), Fact.nm (val ys / g) (L), Fact.eq (.pointer (some ⟨w.heap.size + 1, 2, none⟩)), Fact.eq (.slice E' m' o'), Fact.nm (g) (L), Fact.nm (val vs / g) (L), Fact.nm (val ys / g) (L), Fact.nm (val vs / g) (L)] [Fact.any, Fact.any, Fact.any] [⟨10, 2, 24, 10, #[.bool b, .slice A n c, .slice A' n' c']⟩, ⟨10, 3, 24, 10, #[.bool d, .slice E m o, .slice E' m' o']⟩, ⟨10, 4, 24, 10, #[.bool false, .slice none 0 0, .slice none 0 0]⟩] [w.heap.size, w.heap.size + 1, w.heap.size + 2] [none, none, none, none, none, none, some 6, some 7, none, none, none, none, none, none, none, none, none, none, none, none, none, none, none, none, some 24, some 25, some 26, some 27, some 28, some 29, some 30, some 31, none, none, none, none, none, none, none, none, none, none, none, none, none, none, none, none, none, none, none, none, none, none, none, none, none, none, none, none, none, none, none, none, none, none] (by kernel_rfl) (by kernel_rfl) (by kernel_rfl) rfl B ?_ ?_ ?_ ?_ ?_
  · exact ⟨fun _ => ⟨by simp, rfl, OB2⟩, fun _ => ⟨by simp, rfl, OB3⟩, fun _ => ⟨by simp, rfl, OB4⟩, trivial⟩
  · exact .inl ⟨Nat.le_refl _, Nat.le_refl _, Nat.le_refl _, trivial⟩
  · exact ⟨⟨noWords_R _ _ _ _ _ _ _, (.inl (Nat.le_refl _)), (.inl (Nat.le_refl _))⟩, ⟨noWords_R _ _ _ _ _ _ _, (.inl (Nat.le_refl _)), (.inl (Nat.le_refl _))⟩, ⟨noWords_R _ _ _ _ _ _ _, (.inl (Nat.le_refl _)), (.inl (Nat.le_refl _))⟩, trivial⟩
  · refine ⟨?_, ?_, ?_, ?_, ?_, ?_, ?_, ?_, ?_, ?_, trivial⟩
    · exact .inr fun a w hp => ob_yes rfl (ob_fieldR (hp.box (k := 0) rfl (Nat.le_refl _) (.inl (Nat.le_refl _)) (by kernel_rfl) rfl).1 (by decide) rfl)
    · exact .inr fun a w hp => ob_yes rfl (ob_loadS (hp.fact 0 24 (by kernel_rfl) rfl) (hp.box (k := 0) rfl (Nat.le_refl _) (.inl (Nat.le_refl _)) (by kernel_rfl) rfl).2 rfl rfl)
    · refine .inr fun a w hp => ob_yes rfl (ob_move ?_)
      rw [show a.tmps.getD 5 undef = _ from (hp.same 5 (by kernel_rfl))]
      exact ⟨_, _, _, rfl, h5.kept hp.kept⟩
    · refine .inr fun a w hp => ob_yes rfl ?_
      have h25 : a.tmps.getD 25 undef = .slice A' n' c' := (hp.fact 1 25 (by kernel_rfl) rfl)
      obtain ⟨A26, n26, c26, e26, h26⟩ : ∃ A n c, a.tmps.getD 26 undef = .slice A n c ∧ Nm w A n c (g) (L) := (hp.fact 2 26 (by kernel_rfl) rfl)
      unfold Does
      go_simp
      obtain ⟨gs, RG, CG, VG, LG⟩ := h26
      refine (quotient_any _ _ _ _ _ _ _ L _ _ (R'.on hp.on) RG (by rw [VG]; exact GP.out) (by omega) ty (Nat.le_trans (tl_le _) (by rw [RG.len]; exact LG)) hL2).mono ?_
      rintro e w' ⟨A8, n8, c8, rfl, N8, P8⟩
      rw [VG] at N8
      exact ⟨_, rfl, P8, A8, n8, c8, rfl, N8⟩
    · exact .inr fun a w hp => ob_yes rfl (ob_fieldR (hp.box (k := 1) rfl (Nat.le_refl _) (.inl (Nat.le_refl _)) (by kernel_rfl) rfl).1 (by decide) rfl)
    · exact .inr fun a w hp => ob_yes rfl (ob_loadS (hp.fact 4 28 (by kernel_rfl) rfl) (hp.box (k := 1) rfl (Nat.le_refl _) (.inl (Nat.le_refl _)) (by kernel_rfl) rfl).2 rfl rfl)
    · refine .inr fun a w hp => ob_yes rfl (ob_move ?_)
      rw [show a.tmps.getD 5 undef = _ from (hp.same 5 (by kernel_rfl))]
      exact ⟨_, _, _, rfl, h5.kept hp.kept⟩
    · refine .inr fun a w hp => ob_yes rfl ?_
      have h29 : a.tmps.getD 29 undef = .slice E' m' o' := (hp.fact 5 29 (by kernel_rfl) rfl)
      obtain ⟨A30, n30, c30, e30, h30⟩ : ∃ A n c, a.tmps.getD 30 undef = .slice A n c ∧ Nm w A n c (g) (L) := (hp.fact 6 30 (by kernel_rfl) rfl)
      unfold Does
      go_simp
      obtain ⟨gs, RG, CG, VG, LG⟩ := h30
      refine (quotient_any _ _ _ _ _ _ _ L _ _ (U'.on hp.on) RG (by rw [VG]; exact GP.out) (by omega) tv (Nat.le_trans (tl_le _) (by rw [RG.len]; exact LG)) hL2).mono ?_
      rintro e w' ⟨A8, n8, c8, rfl, N8, P8⟩
      rw [VG] at N8
      exact ⟨_, rfl, P8, A8, n8, c8, rfl, N8⟩
    · exact .inr fun a w hp => ob_yes rfl (ob_assign (hp.fact 3 27 (by kernel_rfl) rfl))
    · exact .inr fun a w hp => ob_yes rfl (ob_assign (hp.fact 7 31 (by kernel_rfl) rfl))
  · intro f wa hon hk hf hb hap
    obtain ⟨q0, q1, q2, qz⟩ := hb
    clear qz
    have O2 : Own wa (w.heap.size) 24 #[.bool b, .slice A n c, .slice A' n' c'] := q0
    have c2_0 : wa.cell? ⟨w.heap.size, 0, none⟩ = some (.bool b) := O2.cell 0
    have z2_0 := O2.frozen 0
    have c2_1 : wa.cell? ⟨w.heap.size, 1, none⟩ = some (.slice A n c) := O2.cell 1
    have z2_1 := O2.frozen 1
    have c2_2 : wa.cell? ⟨w.heap.size, 2, none⟩ = some (.slice A' n' c') := O2.cell 2
    have z2_2 := O2.frozen 2
    clear q0
    have O3 : Own wa (w.heap.size + 1) 24 #[.bool d, .slice E m o, .slice E' m' o'] := q1
    have c3_0 : wa.cell? ⟨w.heap.size + 1, 0, none⟩ = some (.bool d) := O3.cell 0
    have z3_0 := O3.frozen 0
    have c3_1 : wa.cell? ⟨w.heap.size + 1, 1, none⟩ = some (.slice E m o) := O3.cell 1
    have z3_1 := O3.frozen 1
    have c3_2 : wa.cell? ⟨w.heap.size + 1, 2, none⟩ = some (.slice E' m' o') := O3.cell 2
    have z3_2 := O3.frozen 2
    clear q1
    have O4 : Own wa (w.heap.size + 2) 24 #[.bool false, .slice none 0 0, .slice none 0 0] := q2
    have c4_0 : wa.cell? ⟨w.heap.size + 2, 0, none⟩ = some (.bool false) := O4.cell 0
    have z4_0 := O4.frozen 0
    have c4_1 : wa.cell? ⟨w.heap.size + 2, 1, none⟩ = some (.slice none 0 0) := O4.cell 1
    have z4_1 := O4.frozen 1
    have c4_2 : wa.cell? ⟨w.heap.size + 2, 2, none⟩ = some (.slice none 0 0) := O4.cell 2
    have z4_2 := O4.frozen 2
    clear q2
    obtain ⟨A6, n6, c6, e6, h6⟩ : ∃ A n c, f 6 = .slice A n c ∧ Nm wa A n c (val ys / g) (L) := hf 8 6 rfl
    obtain ⟨A7, n7, c7, e7, h7⟩ : ∃ A n c, f 7 = .slice A n c ∧ Nm wa A n c (val vs / g) (L) := hf 9 7 rfl
    clear hf hap
    simp only [fillL, e6, e7]
    clear e6 e7
    have OB2 : w.heap.size ≤ w.heap.size ∧ Own wa (w.heap.size) 24 #[.bool b, .slice A n c, .slice A' n' c'] := ⟨by omega, O2⟩
    clear c2_0 z2_0 c2_1 z2_1 c2_2 z2_2 O2
    have OB3 : w.heap.size ≤ w.heap.size + 1 ∧ Own wa (w.heap.size + 1) 24 #[.bool d, .slice E m o, .slice E' m' o'] := ⟨by omega, O3⟩
    clear c3_0 z3_0 c3_1 z3_1 c3_2 z3_2 O3
    have OB4 : w.heap.size ≤ w.heap.size + 2 ∧ Own wa (w.heap.size + 2) 24 #[.bool false, .slice none 0 0, .slice none 0 0] := ⟨by omega, O4⟩
    clear c4_0 z4_0 c4_1 z4_1 c4_2 z4_2 O4
    clear B
    have B := hon
    clear hon
    replace h5 := h5.kept hk
    clear hk
    go_wp2
    refine wp_region_facts (by kernel_rfl) w [Fact.eq (.pointer (some ⟨w.heap.size, 0, none⟩)), Fact.eq (.bool b), Fact.eq (.pointer (some ⟨w.heap.size, 1, none⟩)), Fact.eq (.slice A n c), Fact.nm (val vs / g) (L), Fact.nm (val xs * (val vs / g)) (L + L), Fact.eq (.pointer (some ⟨w.heap.size + 1, 0, none⟩)), Fact.eq (.bool d), Fact.eq (.pointer (some ⟨w.heap.size + 1, 1, none⟩)), Fact.eq (.slice E m o), Fact.nm (val ys / g) (L), Fact.nm (val us * (val ys / g)) (L + L), Fact.eNm (.bool s) (z) (L + L + 1), Fact.eNm (.bool s) (z) (L + L + 1), Fact.eq (.bool s), Fact.nm (z) (L + L + 1), Fact.eq (.bool s), Fact.nm (z) (L + L + 1)] [Fact.any, Fact.any, Fact.any] [⟨18, 2, 24, 18, #[.bool b, .slice A n c, .slice A' n' c']⟩, ⟨18, 3, 24, 18, #[.bool d, .slice E m o, .slice E' m' o']⟩, ⟨18, 4, 24, 18, #[.bool false, .slice none 0 0, .slice none 0 0]⟩] [w.heap.size, w.heap.size + 1, w.heap.size + 2] [none, none, none, none, none, none, none, none, some 8, some 9, none, none, none, none, none, none, none, none, none, none, none, none, none, none, none, none, none, none, none, none, none, none, some 32, some 33, some 34, some 35, some 36, some 37, some 38, some 39, some 40, some 41, some 42, some 43, some 44, some 45, some 46, some 47, none, none, none, none, none, none, none, none, none, none, none, none, none, none, none, none, none, none] (by kernel_rfl) (by kernel_rfl) (by kernel_rfl) rfl B ?_ ?_ ?_ ?_ ?_
    · exact ⟨fun _ => ⟨by simp, rfl, OB2⟩, fun _ => ⟨by simp, rfl, OB3⟩, fun _ => ⟨by simp, rfl, OB4⟩, trivial⟩
    · exact .inl ⟨Nat.le_refl _, Nat.le_refl _, Nat.le_refl _, trivial⟩
    · exact ⟨⟨noWords_R _ _ _ _ _ _ _, (.inl (Nat.le_refl _)), (.inl (Nat.le_refl _))⟩, ⟨noWords_R _ _ _ _ _ _ _, (.inl (Nat.le_refl _)), (.inl (Nat.le_refl _))⟩, ⟨noWords_R _ _ _ _ _ _ _, (.inl (Nat.le_refl _)), (.inl (Nat.le_refl _))⟩, trivial⟩
    · refine ⟨?_, ?_, ?_, ?_, ?_, ?_, ?_, ?_, ?_, ?_, ?_, ?_, ?_, ?_, ?_, ?_, ?_, ?_, trivial⟩
      · exact .inr fun a w hp => ob_yes rfl (ob_fieldR (hp.box (k := 0) rfl (Nat.le_refl _) (.inl (Nat.le_refl _)) (by kernel_rfl) rfl).1 (by decide) rfl)
      · exact .inr fun a w hp => ob_yes rfl (ob_loadB (hp.fact 0 33 (by kernel_rfl) rfl) (hp.box (k := 0) rfl (Nat.le_refl _) (.inl (Nat.le_refl _)) (by kernel_rfl) rfl).2 rfl rfl)
      · exact .inr fun a w hp => ob_yes rfl (ob_fieldR (hp.box (k := 0) rfl (Nat.le_refl _) (.inl (Nat.le_refl _)) (by kernel_rfl) rfl).1 (by decide) rfl)
      · exact .inr fun a w hp => ob_yes rfl (ob_loadS (hp.fact 2 35 (by kernel_rfl) rfl) (hp.box (k := 0) rfl (Nat.le_refl _) (.inl (Nat.le_refl _)) (by kernel_rfl) rfl).2 rfl rfl)
      · refine .inr fun a w hp => ob_yes rfl (ob_move ?_)
        rw [show a.tmps.getD 7 undef = _ from (hp.same 7 (by kernel_rfl))]
        exact ⟨_, _, _, rfl, h7.kept hp.kept⟩
      · refine .inr fun a w hp => ob_yes rfl ?_
        have h36 : a.tmps.getD 36 undef = .slice A n c := (hp.fact 3 36 (by kernel_rfl) rfl)
        obtain ⟨A37, n37, c37, e37, h37⟩ : ∃ A n c, a.tmps.getD 37 undef = .slice A n c ∧ Nm w A n c (val vs / g) (L) := (hp.fact 4 37 (by kernel_rfl) rfl)
        unfold Does
        go_simp
        obtain ⟨x2, RY, _, VY, LY⟩ := h37
        refine (mul_any _ _ _ _ _ _ _ L L _ _ (R.on hp.on) RY tx (Nat.le_trans (tl_le _) (by rw [RY.len]; exact LY)) (by omega) (by omega)).mono ?_
        rintro e w' ⟨A8, n8, c8, rfl, N8, P8⟩
        rw [VY] at N8
        exact ⟨_, rfl, P8, A8, n8, c8, rfl, N8⟩
      · exact .inr fun a w hp => ob_yes rfl (ob_fieldR (hp.box (k := 1) rfl (Nat.le_refl _) (.inl (Nat.le_refl _)) (by kernel_rfl) rfl).1 (by decide) rfl)
      · exact .inr fun a w hp => ob_yes rfl (ob_loadB (hp.fact 6 39 (by kernel_rfl) rfl) (hp.box (k := 1) rfl (Nat.le_refl _) (.inl (Nat.le_refl _)) (by kernel_rfl) rfl).2 rfl rfl)
      · exact .inr fun a w hp => ob_yes rfl (ob_fieldR (hp.box (k := 1) rfl (Nat.le_refl _) (.inl (Nat.le_refl _)) (by kernel_rfl) rfl).1 (by decide) rfl)
      · exact .inr fun a w hp => ob_yes rfl (ob_loadS (hp.fact 8 41 (by kernel_rfl) rfl) (hp.box (k := 1) rfl (Nat.le_refl _) (.inl (Nat.le_refl _)) (by kernel_rfl) rfl).2 rfl rfl)
      · refine .inr fun a w hp => ob_yes rfl (ob_move ?_)
        rw [show a.tmps.getD 6 undef = _ from (hp.same 6 (by kernel_rfl))]
        exact ⟨_, _, _, rfl, h6.kept hp.kept⟩
      · refine .inr fun a w hp => ob_yes rfl ?_
        have h42 : a.tmps.getD 42 undef = .slice E m o := (hp.fact 9 42 (by kernel_rfl) rfl)
        obtain ⟨A43, n43, c43, e43, h43⟩ : ∃ A n c, a.tmps.getD 43 undef = .slice A n c ∧ Nm w A n c (val ys / g) (L) := (hp.fact 10 43 (by kernel_rfl) rfl)
        unfold Does
        go_simp
        obtain ⟨x2, RY, _, VY, LY⟩ := h43
        refine (mul_any _ _ _ _ _ _ _ L L _ _ (U.on hp.on) RY tu (Nat.le_trans (tl_le _) (by rw [RY.len]; exact LY)) (by omega) (by omega)).mono ?_
        rintro e w' ⟨A8, n8, c8, rfl, N8, P8⟩
        rw [VY] at N8
        exact ⟨_, rfl, P8, A8, n8, c8, rfl, N8⟩
      · refine .inr fun a w hp => ob_yes rfl ?_
        have h34 : a.tmps.getD 34 undef = .bool b := (hp.fact 1 34 (by kernel_rfl) rfl)
        obtain ⟨A38, n38, c38, e38, h38⟩ : ∃ A n c, a.tmps.getD 38 undef = .slice A n c ∧ Nm w A n c (val xs * (val vs / g)) (L + L) := (hp.fact 5 38 (by kernel_rfl) rfl)
        have h40 : a.tmps.getD 40 undef = .bool d := (hp.fact 7 40 (by kernel_rfl) rfl)
        obtain ⟨A44, n44, c44, e44, h44⟩ : ∃ A n c, a.tmps.getD 44 undef = .slice A n c ∧ Nm w A n c (val us * (val ys / g)) (L + L) := (hp.fact 11 44 (by kernel_rfl) rfl)
        unfold Does
        go_simp
        obtain ⟨x1, RX, _, VX, LX⟩ := h38
        obtain ⟨x2, RY, _, VY, LY⟩ := h44
        refine (ssum_any _ _ _ _ _ _ _ _ _ (L + L) _ _ RX RY LX LY (by omega)).mono ?_
        rintro e w' ⟨A8, n8, c8, rfl, N8, P8⟩
        rw [VX, VY, EZ.out] at N8
        rw [VX, VY, ES.out]
        exact ⟨_, rfl, P8, A8, n8, c8, rfl, N8⟩
      · exact .inr fun a w hp => ob_yes rfl (ob_move (hp.fact 12 45 (by kernel_rfl) rfl))
      · refine .inr fun a w hp => ob_yes rfl ?_
        obtain ⟨A, n, c, e, h⟩ : ∃ A n c, a.tmps.getD 32 undef = .tuple #[.bool s, .slice A n c] ∧ Nm w A n c (z) (L + L + 1) := (hp.fact 13 32 (by kernel_rfl) rfl)
        exact ob_ext0 e rfl
      · refine .inr fun a w hp => ob_yes rfl ?_
        obtain ⟨A, n, c, e, h⟩ : ∃ A n c, a.tmps.getD 32 undef = .tuple #[.bool s, .slice A n c] ∧ Nm w A n c (z) (L + L + 1) := (hp.fact 13 32 (by kernel_rfl) rfl)
        exact ob_ext1 e ⟨A, n, c, rfl, h⟩
      · exact .inr fun a w hp => ob_yes rfl (ob_assign (hp.fact 14 46 (by kernel_rfl) rfl))
      · exact .inr fun a w hp => ob_yes rfl (ob_assign (hp.fact 15 47 (by kernel_rfl) rfl))
    · intro f wb hon hk hf hb hap
      obtain ⟨q0, q1, q2, qz⟩ := hb
      clear qz
      have O2 : Own wb (w.heap.size) 24 #[.bool b, .slice A n c, .slice A' n' c'] := q0
      have c2_0 : wb.cell? ⟨w.heap.size, 0, none⟩ = some (.bool b) := O2.cell 0
      have z2_0 := O2.frozen 0
      have c2_1 : wb.cell? ⟨w.heap.size, 1, none⟩ = some (.slice A n c) := O2.cell 1
      have z2_1 := O2.frozen 1
      have c2_2 : wb.cell? ⟨w.heap.size, 2, none⟩ = some (.slice A' n' c') := O2.cell 2
      have z2_2 := O2.frozen 2
      clear q0
      have O3 : Own wb (w.heap.size + 1) 24 #[.bool d, .slice E m o, .slice E' m' o'] := q1
      have c3_0 : wb.cell? ⟨w.heap.size + 1, 0, none⟩ = some (.bool d) := O3.cell 0
      have z3_0 := O3.frozen 0
      have c3_1 : wb.cell? ⟨w.heap.size + 1, 1, none⟩ = some (.slice E m o) := O3.cell 1
      have z3_1 := O3.frozen 1
      have c3_2 : wb.cell? ⟨w.heap.size + 1, 2, none⟩ = some (.slice E' m' o') := O3.cell 2
      have z3_2 := O3.frozen 2
      clear q1
      have O4 : Own wb (w.heap.size + 2) 24 #[.bool false, .slice none 0 0, .slice none 0 0] := q2
      have c4_0 : wb.cell? ⟨w.heap.size + 2, 0, none⟩ = some (.bool false) := O4.cell 0
      have z4_0 := O4.frozen 0
      have c4_1 : wb.cell? ⟨w.heap.size + 2, 1, none⟩ = some (.slice none 0 0) := O4.cell 1
      have z4_1 := O4.frozen 1
      have c4_2 : wb.cell? ⟨w.heap.size + 2, 2, none⟩ = some (.slice none 0 0) := O4.cell 2
      have z4_2 := O4.frozen 2
      clear q2
      have e8 : f 8 = .bool s := hf 16 8 rfl
      obtain ⟨A9, n9, c9, e9, h9⟩ : ∃ A n c, f 9 = .slice A n c ∧ Nm wb A n c (z) (L + L + 1) := hf 17 9 rfl
      clear hf hap
      simp only [fillL, e8, e9]
      clear e8 e9
      have OB2 : w.heap.size ≤ w.heap.size ∧ Own wb (w.heap.size) 24 #[.bool b, .slice A n c, .slice A' n' c'] := ⟨by omega, O2⟩
      clear c2_0 z2_0 c2_1 z2_1 c2_2 z2_2 O2
      have OB3 : w.heap.size ≤ w.heap.size + 1 ∧ Own wb (w.heap.size + 1) 24 #[.bool d, .slice E m o, .slice E' m' o'] := ⟨by omega, O3⟩
      clear c3_0 z3_0 c3_1 z3_1 c3_2 z3_2 O3
      have OB4 : w.heap.size ≤ w.heap.size + 2 ∧ Own wb (w.heap.size + 2) 24 #[.bool false, .slice none 0 0, .slice none 0 0] := ⟨by omega, O4⟩
      clear c4_0 z4_0 c4_1 z4_1 c4_2 z4_2 O4
      clear B
      have B := hon
      clear hon
      replace h5 := h5.kept hk
      replace h6 := h6.kept hk
      replace h7 := h7.kept hk
      clear hk
      have hn9 : ((n9 : Int) == 0) = false := by have := mt (nm_zero_iff h9).1 HZ.out; simp; omega
      obtain ⟨z9, RZ, CZ, VZ, LZ⟩ := id h9
      obtain ⟨g5, RG, CG, VG, LG⟩ := id h5
      have hm9 := RZ.max
      have hc9 := RZ.cap
      go_wp2_with fail
      refine (gcd_any _ _ _ _ _ _ _ (L + L + 1) _ _ RZ RG (by omega) (by omega) (Nat.le_trans (tl_le _) (by rw [RZ.len]; exact LZ)) (Nat.le_trans (tl_le _) (by rw [RG.len]; omega)) (by omega) (by omega)).mono ?_
      rintro e wc ⟨A10, n10, c10, rfl, h10, P10⟩
      rw [VZ, VG, EG2.out] at h10
      replace h5 := h5.on P10
      replace h6 := h6.on P10
      replace h7 := h7.on P10
      replace h9 := h9.on P10
      clear RZ RG VZ VG CZ CG LZ LG hn9 hm9 hc9
      replace OB2 := And.intro OB2.1 (OB2.2.on P10)
      replace OB3 := And.intro OB3.1 (OB3.2.on P10)
      replace OB4 := And.intro OB4.1 (OB4.2.on P10)
      replace B := B.trans P10
      clear P10
      go_wp2
      refine wp_region_facts (by kernel_rfl) w [Fact.eq (.bool s), Fact.nm (z) (L + L + 1), Fact.nm (g2) (L + L + 1), Fact.nm (z / g2) (L + L + 1), Fact.nm (val ys / g) (L), Fact.eq (.pointer (some ⟨w.heap.size + 1, 2, none⟩)), Fact.eq (.slice E' m' o'), Fact.nm (g2) (L + L + 1), Fact.nm (val vs / g2) (L), Fact.nm (val ys / g * (val vs / g2)) (L + L + 1), Fact.rat (r + q) (L + L + 1), Fact.any] [Fact.any, Fact.any, Fact.rat (r + q) (L + L + 1)] [⟨12, 2, 24, 12, #[.bool b, .slice A n c, .slice A' n' c']⟩, ⟨12, 3, 24, 12, #[.bool d, .slice E m o, .slice E' m' o']⟩, ⟨12, 4, 24, 11, #[.bool false, .slice none 0 0, .slice none 0 0]⟩] [w.heap.size, w.heap.size + 1, w.heap.size + 2] [none, none, none, none, none, none, none, none, none, none, none, none, none, none, none, none, none, none, none, none, none, none, none, none, none, none, none, none, none, none, none, none, none, none, none, none, none, none, none, none, none, none, none, none, none, none, none, none, none, none, none, none, none, none, none, some 55, some 56, some 57, some 58, some 59, some 60, some 61, some 62, some 63, some 64, some 65] (by kernel_rfl) (by kernel_rfl) (by kernel_rfl) rfl B ?_ ?_ ?_ ?_ ?_
      · exact ⟨fun _ => ⟨by simp, rfl, OB2⟩, fun _ => ⟨by simp, rfl, OB3⟩, fun _ => ⟨by simp, rfl, OB4⟩, trivial⟩
      · exact .inr (by simp <;> omega)
      · exact ⟨⟨noWords_R _ _ _ _ _ _ _, (.inl (Nat.le_refl _)), (.inl (Nat.le_refl _))⟩, ⟨noWords_R _ _ _ _ _ _ _, (.inl (Nat.le_refl _)), (.inl (Nat.le_refl _))⟩, ⟨noWords_R _ _ _ _ _ _ _, (.inl (Nat.le_refl _)), (.inr (store_ob (j := 10) (noWords_R _ _ _ _ _ _ _) rfl rfl rfl (by kernel_rfl) rfl rfl rfl))⟩, trivial⟩
      · refine ⟨?_, ?_, ?_, ?_, ?_, ?_, ?_, ?_, ?_, ?_, ?_, ?_, trivial⟩
        · exact .inr fun a w hp => ob_yes rfl (ob_move (hp.same 8 (by kernel_rfl)))
        · refine .inr fun a w hp => ob_yes rfl (ob_move ?_)
          rw [show a.tmps.getD 9 undef = _ from (hp.same 9 (by kernel_rfl))]
          exact ⟨_, _, _, rfl, h9.kept hp.kept⟩
        · refine .inr fun a w hp => ob_yes rfl (ob_move ?_)
          rw [show a.tmps.getD 10 undef = _ from (hp.same 10 (by kernel_rfl))]
          exact ⟨_, _, _, rfl, h10.kept hp.kept⟩
        · refine .inr fun a w hp => ob_yes rfl ?_
          obtain ⟨A56, n56, c56, e56, h56⟩ : ∃ A n c, a.tmps.getD 56 undef = .slice A n c ∧ Nm w A n c (z) (L + L + 1) := (hp.fact 1 56 (by kernel_rfl) rfl)
          obtain ⟨A57, n57, c57, e57, h57⟩ : ∃ A n c, a.tmps.getD 57 undef = .slice A n c ∧ Nm w A n c (g2) (L + L + 1) := (hp.fact 2 57 (by kernel_rfl) rfl)
          unfold Does
          go_simp
          obtain ⟨z9, RZ, CZ, VZ, LZ⟩ := h56
          obtain ⟨gs, RG, CG, VG, LG⟩ := h57
          refine (quotient_any _ _ _ _ _ _ _ (L + L + 1) _ _ RZ RG (by rw [VG]; exact GP2.out) (by omega) (Nat.le_trans (tl_le _) (by rw [RZ.len]; exact LZ)) (Nat.le_trans (tl_le _) (by rw [RG.len]; exact LG)) (by omega)).mono ?_
          rintro e w' ⟨A8, n8, c8, rfl, N8, P8⟩
          rw [VZ, VG] at N8
          exact ⟨_, rfl, P8, A8, n8, c8, rfl, N8⟩
        · refine .inr fun a w hp => ob_yes rfl (ob_move ?_)
          rw [show a.tmps.getD 6 undef = _ from (hp.same 6 (by kernel_rfl))]
          exact ⟨_, _, _, rfl, h6.kept hp.kept⟩
        · exact .inr fun a w hp => ob_yes rfl (ob_fieldR (hp.box (k := 1) rfl (Nat.le_refl _) (.inl (Nat.le_refl _)) (by kernel_rfl) rfl).1 (by decide) rfl)
        · exact .inr fun a w hp => ob_yes rfl (ob_loadS (hp.fact 5 60 (by kernel_rfl) rfl) (hp.box (k := 1) rfl (Nat.le_refl _) (.inl (Nat.le_refl _)) (by kernel_rfl) rfl).2 rfl rfl)
        · refine .inr fun a w hp => ob_yes rfl (ob_move ?_)
          rw [show a.tmps.getD 10 undef = _ from (hp.same 10 (by kernel_rfl))]
          exact ⟨_, _, _, rfl, h10.kept hp.kept⟩
        · refine .inr fun a w hp => ob_yes rfl ?_
          have h61 : a.tmps.getD 61 undef = .slice E' m' o' := (hp.fact 6 61 (by kernel_rfl) rfl)
          obtain ⟨A62, n62, c62, e62, h62⟩ : ∃ A n c, a.tmps.getD 62 undef = .slice A n c ∧ Nm w A n c (g2) (L + L + 1) := (hp.fact 7 62 (by kernel_rfl) rfl)
          unfold Does
          go_simp
          obtain ⟨gs, RG, CG, VG, LG⟩ := h62
          refine (quotient_den _ _ _ _ _ _ _ L (L + L + 1) _ _ (U'.on hp.on) RG (by rw [VG]; exact GP2.out) (by omega) tv (Nat.le_trans (tl_le _) (by rw [RG.len]; exact LG)) (by omega)).mono ?_
          rintro e w' ⟨A8, n8, c8, rfl, N8, P8⟩
          rw [VG] at N8
          exact ⟨_, rfl, P8, A8, n8, c8, rfl, N8⟩
        · refine .inr fun a w hp => ob_yes rfl ?_
          obtain ⟨A59, n59, c59, e59, h59⟩ : ∃ A n c, a.tmps.getD 59 undef = .slice A n c ∧ Nm w A n c (val ys / g) (L) := (hp.fact 4 59 (by kernel_rfl) rfl)
          obtain ⟨A63, n63, c63, e63, h63⟩ : ∃ A n c, a.tmps.getD 63 undef = .slice A n c ∧ Nm w A n c (val vs / g2) (L) := (hp.fact 8 63 (by kernel_rfl) rfl)
          unfold Does
          go_simp
          obtain ⟨x1, RX, _, VX, LX⟩ := h59
          obtain ⟨x2, RY, _, VY, LY⟩ := h63
          refine (mul_any _ _ _ _ _ _ _ L L _ _ RX RY (Nat.le_trans (tl_le _) (by rw [RX.len]; exact LX)) (Nat.le_trans (tl_le _) (by rw [RY.len]; exact LY)) (by omega) (by omega)).mono ?_
          rintro e w' ⟨A8, n8, c8, rfl, N8, P8⟩
          rw [VX, VY] at N8
          exact ⟨_, rfl, P8, A8, n8, c8, rfl, N8.wide (by omega)⟩
        · refine .inr fun a w hp => ob_yes rfl ?_
          have h55 : a.tmps.getD 55 undef = .bool s := (hp.fact 0 55 (by kernel_rfl) rfl)
          obtain ⟨A58, n58, c58, e58, h58⟩ : ∃ A n c, a.tmps.getD 58 undef = .slice A n c ∧ Nm w A n c (z / g2) (L + L + 1) := (hp.fact 3 58 (by kernel_rfl) rfl)
          obtain ⟨A64, n64, c64, e64, h64⟩ : ∃ A n c, a.tmps.getD 64 undef = .slice A n c ∧ Nm w A n c (val ys / g * (val vs / g2)) (L + L + 1) := (hp.fact 9 64 (by kernel_rfl) rfl)
          refine ob_buildR h55 e58 e64 ?_
          exact HF.out _ _ _ _ _ _ _ h58 h64
        · exact .inl rfl
      · intro f wd hon hk hf hb hap
        obtain ⟨q0, q1, q2, qz⟩ := hb
        clear qz
        have O2 : Own wd (w.heap.size) 24 #[.bool b, .slice A n c, .slice A' n' c'] := q0
        have c2_0 : wd.cell? ⟨w.heap.size, 0, none⟩ = some (.bool b) := O2.cell 0
        have z2_0 := O2.frozen 0
        have c2_1 : wd.cell? ⟨w.heap.size, 1, none⟩ = some (.slice A n c) := O2.cell 1
        have z2_1 := O2.frozen 1
        have c2_2 : wd.cell? ⟨w.heap.size, 2, none⟩ = some (.slice A' n' c') := O2.cell 2
        have z2_2 := O2.frozen 2
        clear q0
        have O3 : Own wd (w.heap.size + 1) 24 #[.bool d, .slice E m o, .slice E' m' o'] := q1
        have c3_0 : wd.cell? ⟨w.heap.size + 1, 0, none⟩ = some (.bool d) := O3.cell 0
        have z3_0 := O3.frozen 0
        have c3_1 : wd.cell? ⟨w.heap.size + 1, 1, none⟩ = some (.slice E m o) := O3.cell 1
        have z3_1 := O3.frozen 1
        have c3_2 : wd.cell? ⟨w.heap.size + 1, 2, none⟩ = some (.slice E' m' o') := O3.cell 2
        have z3_2 := O3.frozen 2
        clear q1
        obtain ⟨cur4, O4, I4⟩ : ∃ cur, Own wd (w.heap.size + 2) 24 cur ∧ IsR wd (.agg cur) (r + q) (L + L + 1) := q2
        obtain ⟨P4, Pn4, Pc4, _, R4, Rn4, Rc4, _, hz4, _⟩ := id I4
        injection hz4 with hz4
        subst hz4
        have c4_0 : wd.cell? ⟨w.heap.size + 2, 0, none⟩ = some (.bool (decide (r + q < 0))) := O4.cell 0
        have z4_0 := O4.frozen 0
        have c4_1 : wd.cell? ⟨w.heap.size + 2, 1, none⟩ = some (.slice P4 Pn4 Pc4) := O4.cell 1
        have z4_1 := O4.frozen 1
        have c4_2 : wd.cell? ⟨w.heap.size + 2, 2, none⟩ = some (.slice R4 Rn4 Rc4) := O4.cell 2
        have z4_2 := O4.frozen 2
        clear hf hap
        simp only [fillL]
        go_wp2
        exact bodyPost_ret (v := .agg #[.bool (decide (r + q < 0)), .slice P4 Pn4 Pc4, .slice R4 Rn4 Rc4]) (by simp [results, Tryz.results87, go_sem, c4_0, c4_1, c4_2]) rfl ⟨_, rfl, I4, hon⟩
theorem sum_any (w : World) (v v' : Value) (r q : Rat) (L : Nat) (h : IsR w v r L) (k : IsR w v' q L) (hL2 : 2 ≤ L) (hL : L ≤ 4000) :
    Calls Tryz.prog 87 #[v, v'] w (RatPost w (r + q) (L + L + 1)) := by
  have wide : ∀ (x : Rat) e w', RatPost w x L e w' → RatPost w x (L + L + 1) e w' := fun x e w' ⟨u, e1, I, o⟩ => ⟨u, e1, I.wide (by omega), o⟩
  by_cases h1 : r = 0
  · have := sum_z1 w v v' r q L h k (by omega) h1
    rw [h1, Rat.zero_add]; exact this.mono (wide q)
  · by_cases h2 : q = 0
    · have := sum_z2 w v v' r q L h k (by omega) h1 h2
      rw [h2, Rat.add_zero]; exact this.mono (wide r)
    · by_cases hz : ssN (decide (r < 0)) (r.num.natAbs * (q.den / Nat.gcd r.den q.den)) (decide (q < 0)) (q.num.natAbs * (r.den / Nat.gcd r.den q.den)) = 0
      · exact sum_null w v v' r q L h k hL2 hL h1 h2 hz
      · exact sum_ne w v v' r q L h k hL2 hL h1 h2 hz
end Num
end Go.Proofs.YtkchpagjkgmpmaaGreat
