/-
  quotient, lowest, From, magnitude, Make, Of.
-/
import Derived.Test.YtkpeliokhmigoaaRat2
namespace Go.Proofs.Ytkpeliokhmigoaa
open Go.RowKit
set_option linter.unusedVariables false
namespace Num
set_option maxHeartbeats 400000 in
theorem quotient_any (w : World) (A A' : Option Addr) (n c n' c' L : Nat) (xs ys : List Nat) (h : Rd w A n c xs) (k : Rd w A' n' c' ys) (hv : 0 < val ys) (hn : n ≤ 10000) (hL : tl xs ≤ L) (hL' : tl ys ≤ L) (hL2 : 2 ≤ L) :
    Calls Try.prog 69 #[.slice A n c, .slice A' n' c'] w (Gives w (val xs / val ys) L) := by
  go_enter Try.func69, Try.ntmps69
  go_wp2_with fail
  refine (div_any _ _ _ _ _ _ _ L L _ _ h k hv hn hL hL' hL2).mono ?_
  rintro e w1 ⟨A1, n1, c1, A2, n2, c2, rfl, N1, N2, hon⟩
  go_wp2
  go_ret
  exact ⟨_, _, _, rfl, N1, hon⟩
theorem nb_zero_iff (v : Nat) : nb v = 0 ↔ v = 0 := by
  constructor
  · intro h
    have := nb_lt v
    rw [h] at this; simpa using this
  · rintro rfl; rfl
set_option maxHeartbeats 800000 in
theorem lowest_any (w : World) (s : Bool) (A A' : Option Addr) (n c n' c' L : Nat) (xs ys : List Nat) (h : Rd w A n c xs) (k : Rd w A' n' c' ys) (hy : 0 < val ys) (hn : n ≤ L) (hn' : n' ≤ L) (hL2 : 2 ≤ L) (hL : L ≤ 5000) :
    Calls Try.prog 37 #[.bool s, .slice A n c, .slice A' n' c'] w (RatPost w (fr s (val xs) (val ys)) L) := by
  have B := (On.refl w).alloc (.cells #[.bool false, .slice none 0 0, .slice none 0 0] 24)
  have O2 := Own.new w 24 #[.bool false, .slice none 0 0, .slice none 0 0]
  have h1 := h.on B
  have k1 := k.on B
  have Tx := tl_le xs
  have Ty := tl_le ys
  rw [h.len] at Tx
  rw [k.len] at Ty
  have HO2 := Lib.hid O2
  clear O2
  rcases Nat.eq_zero_or_pos (val xs) with h0 | h0
  · have HR : Hid (fr s (val xs) (val ys) = 0) := Lib.hid (by rw [h0]; exact fr_zero s _)
    have HB := Lib.hid ((nb_zero_iff (val xs)).2 h0)
    clear h0
    go_enter Try.func37, Try.ntmps37
    go_wp2_with fail
    refine (bits_any _ _ _ _ _ h1 (by omega)).mono ?_
    rintro e w' ⟨rfl, rfl⟩
    rw [HB.out]
    go_wp2
    exact bodyPost_ret (v := .agg #[.bool false, .slice none 0 0, .slice none 0 0]) (by simp [results, Try.results37, go_sem]) rfl ⟨_, rfl, by rw [HR.out]; exact isR_zero _ _, B⟩
  · have hnz : nb (val xs) ≠ 0 := fun e => by have := (nb_zero_iff _).1 e; omega
    have hb0 : (((nb (val xs) : Nat) : Int) == 0) = false := by simp; omega
    have HP := Lib.hid h0
    have HQ := Lib.hid hy
    clear h0 hnz hy
    go_enter Try.func37, Try.ntmps37
    go_wp2_with fail
    refine (bits_any _ _ _ _ _ h1 (by omega)).mono ?_
    rintro e w' ⟨rfl, rfl⟩
    go_wp2_with fail
    refine (gcd_any _ _ _ _ _ _ _ L _ _ h1 k1 (by omega) (by omega) (by omega) (by omega) hL2 (by omega)).mono ?_
    rintro e w2 ⟨A2, n2, c2, rfl, ⟨gs, RG, CG, VG, LG⟩, P2⟩
    have hgp : 0 < val gs := by rw [VG]; exact Nat.gcd_pos_of_pos_left _ HP.out
    have HG := Lib.hid VG
    have HGP := Lib.hid hgp
    have Tg : tl gs ≤ L := Nat.le_trans (tl_le _) (by rw [RG.len]; exact LG)
    clear VG hgp
    go_wp2_with fail
    refine (quotient_any _ _ _ _ _ _ _ L _ _ (h1.on P2) RG HGP.out (by omega) (by omega) Tg hL2).mono ?_
    rintro e w3 ⟨A3, n3, c3, rfl, N3, P3⟩
    go_wp2_with fail
    refine (quotient_any _ _ _ _ _ _ _ L _ _ ((k1.on P2).on P3) (RG.on P3) HGP.out (by omega) (by omega) Tg hL2).mono ?_
    rintro e w4 ⟨A4, n4, c4, rfl, N4, P4⟩
    have P := (B.trans P2).trans (P3.trans P4)
    have O2 := ((HO2.out.on P2).on P3).on P4
    have N3' := N3.on P4
    rw [HG.out] at N3' N4
    clear N3 RG CG
    have r0 : w4.cell? ⟨w.heap.size, 0, none⟩ = some (.bool false) := O2.cell 0
    have rf0 := O2.frozen 0
    have r1 : w4.cell? ⟨w.heap.size, 1, none⟩ = some (.slice none 0 0) := O2.cell 1
    have rf1 := O2.frozen 1
    have r2 : w4.cell? ⟨w.heap.size, 2, none⟩ = some (.slice none 0 0) := O2.cell 2
    have rf2 := O2.frozen 2
    go_wp2
    have hon := on3 (g := w.heap.size) P (by omega) (.bool s) (.slice A3 n3 c3) (.slice A4 n4 c4)
    exact bodyPost_ret (v := .agg #[.bool s, .slice A3 n3 c3, .slice A4 n4 c4]) (by simp [results, Try.results37, go_sem, r0, r1, r2]) rfl ⟨_, rfl, isR_fr HP.out HQ.out (nm_put N3' O2 _ _ _) (nm_put N4 O2 _ _ _), hon⟩
/-- a fraction and an error -/
def RatPost2 (w : World) (r : Rat) (L : Nat) (er : Value) (e : Ending) (w' : World) : Prop := ∃ v, e = .returned (.tuple #[v, er]) ∧ IsR w' v r L ∧ On w w'
set_option maxHeartbeats 800000 in
theorem from_zero (w : World) (s : Bool) (A A' : Option Addr) (n c n' c' : Nat) (xs ys : List Nat) (h : Rd w A n c xs) (k : Rd w A' n' c' ys) (hy : val ys = 0) (hn' : n' ≤ 10000) :
    Calls Try.prog 13 #[.bool s, .slice A n c, .slice A' n' c'] w fun e w' => e = .returned (.tuple #[.agg #[.bool false, .slice none 0 0, .slice none 0 0], .iface 49 (.int .i64 8)]) ∧ On w w' := by
  have B := (On.refl w).alloc (.cells #[.bool false, .slice none 0 0, .slice none 0 0] 24)
  have k1 := k.on B
  have HB := Lib.hid ((nb_zero_iff (val ys)).2 hy)
  clear hy
  go_enter Try.func13, Try.ntmps13
  go_wp2_with fail
  refine (bits_any _ _ _ _ _ k1 (by omega)).mono ?_
  rintro e w' ⟨rfl, rfl⟩
  rw [HB.out]
  go_wp2
  exact bodyPost_ret (v := .tuple #[.agg #[.bool false, .slice none 0 0, .slice none 0 0], .iface 49 (.int .i64 8)]) (by simp [results, Try.results13, go_sem]) rfl ⟨rfl, B⟩
set_option maxHeartbeats 800000 in
theorem from_any (w : World) (s : Bool) (A A' : Option Addr) (n c n' c' L : Nat) (xs ys : List Nat) (h : Rd w A n c xs) (k : Rd w A' n' c' ys) (hy : 0 < val ys) (hn : n ≤ L) (hn' : n' ≤ L) (hL2 : 2 ≤ L) (hL : L ≤ 5000) :
    Calls Try.prog 13 #[.bool s, .slice A n c, .slice A' n' c'] w (RatPost2 w (fr s (val xs) (val ys)) L .nilIface) := by
  have B := (On.refl w).alloc (.cells #[.bool false, .slice none 0 0, .slice none 0 0] 24)
  have O2 := Own.new w 24 #[.bool false, .slice none 0 0, .slice none 0 0]
  have h1 := h.on B
  have k1 := k.on B
  have HO2 := Lib.hid O2
  have hnz : nb (val ys) ≠ 0 := fun e => by have := (nb_zero_iff _).1 e; omega
  have hb0 : (((nb (val ys) : Nat) : Int) == 0) = false := by simp; omega
  obtain ⟨r, hr⟩ : ∃ r, fr s (val xs) (val ys) = r := ⟨_, rfl⟩
  rw [hr]
  have HR := Lib.hid hr
  clear O2 hnz hr
  go_enter Try.func13, Try.ntmps13
  go_wp2_with fail
  refine (bits_any _ _ _ _ _ k1 (by omega)).mono ?_
  rintro e w' ⟨rfl, rfl⟩
  go_wp2_with fail
  refine (lowest_any _ _ _ _ _ _ _ _ L _ _ h1 k1 hy hn hn' hL2 hL).mono ?_
  rintro e w2 ⟨v, rfl, I, P2⟩
  rw [HR.out] at I
  have I2 := I
  obtain ⟨A1, n1, c1, xs1, A2, n2, c2, ys1, rfl, _⟩ := I2
  have O2 := HO2.out.on P2
  have r0 : w2.cell? ⟨w.heap.size, 0, none⟩ = some (.bool false) := O2.cell 0
  have rf0 := O2.frozen 0
  have r1 : w2.cell? ⟨w.heap.size, 1, none⟩ = some (.slice none 0 0) := O2.cell 1
  have rf1 := O2.frozen 1
  have r2 : w2.cell? ⟨w.heap.size, 2, none⟩ = some (.slice none 0 0) := O2.cell 2
  have rf2 := O2.frozen 2
  go_wp2
  have hon := on3 (g := w.heap.size) (B.trans P2) (by omega) (.bool (decide (r < 0))) (.slice A1 n1 c1) (.slice A2 n2 c2)
  exact bodyPost_ret (v := .tuple #[.agg #[.bool (decide (r < 0)), .slice A1 n1 c1, .slice A2 n2 c2], .nilIface]) (by simp [results, Try.results13, go_sem, r0, r1, r2]) rfl ⟨_, rfl, isR_put I O2 _ _ _, hon⟩
/-- the words of an int's absolute value -/
def MagPost (w : World) (x : Int) (e : Ending) (w' : World) : Prop := ∃ A xs, e = .returned (.slice A 2 2) ∧ Rd w' A 2 2 xs ∧ val xs = x.natAbs ∧ On w w'
theorem mag_fin (w : World) (t : TypeId) (y : Int) (h0 : 0 ≤ y) (h1 : y ≤ 9223372036854775808) : ∃ xs, Rd (w.alloc (.cells #[.int .u32 (y % 4294967296), .int .u32 (y / 4294967296)] t)) (some ⟨w.heap.size, 0, none⟩) 2 2 xs ∧ val xs = y.natAbs := by
  obtain ⟨k, rfl⟩ := Int.eq_ofNat_of_zero_le h0
  rw [show ((k : Int) % 4294967296) = ((k % 4294967296 : Nat) : Int) from by omega, show ((k : Int) / 4294967296) = ((k / 4294967296 : Nat) : Int) from by omega]
  exact ⟨_, rd_two w t (k % 4294967296) (k / 4294967296) (by omega) (by omega), by simp only [val, BB]; omega⟩
set_option maxHeartbeats 800000 in
theorem mag_any (w : World) (x : Int) (h0 : -9223372036854775808 ≤ x) (h1 : x ≤ 9223372036854775807) :
    Calls Try.prog 34 #[.int .i64 x] w (MagPost w x) := by
  by_cases hx : x < 0
  · have e1 : IntKind.u64.wrap x = x + 18446744073709551616 := by rw [IntKind.wrap_u64]; omega
    have e2 : IntKind.u64.wrap (-(x + 18446744073709551616)) = -x := by rw [IntKind.wrap_u64]; omega
    go_enter Try.func34, Try.ntmps34
    obtain ⟨ms, RM, VM⟩ := mag_fin w 53 (-x) (by omega) (by omega)
    have HV := Lib.hid VM
    clear VM
    go_wp2
    go_ret
    exact ⟨_, ms, rfl, RM, by rw [HV.out]; omega, (On.refl w).alloc _⟩
  · go_enter Try.func34, Try.ntmps34
    obtain ⟨ms, RM, VM⟩ := mag_fin w 53 x (by omega) (by omega)
    have HV := Lib.hid VM
    clear VM
    go_wp2
    go_ret
    exact ⟨_, ms, rfl, RM, by rw [HV.out], (On.refl w).alloc _⟩
theorem fr_int (x : Int) : fr (decide (x < 0)) x.natAbs 1 = (x : Rat) := by
  have h := fr_self (x : Rat)
  have e : decide ((x : Rat) < 0) = decide (x < 0) := by simp only [rat_neg_iff]; rfl
  rw [e] at h
  exact h
set_option maxHeartbeats 800000 in
theorem ofr_any (w : World) (x : Int) (h0 : -9223372036854775808 ≤ x) (h1 : x ≤ 9223372036854775807) :
    Calls Try.prog 18 #[.int .i64 x] w (RatPost w (x : Rat) 2) := by
  have B := (On.refl w).alloc (.cells #[.bool false, .slice none 0 0, .slice none 0 0] 24)
  have O2 := Own.new w 24 #[.bool false, .slice none 0 0, .slice none 0 0]
  have HO2 := Lib.hid O2
  clear O2
  obtain ⟨q, hq⟩ : ∃ q, (x : Rat) = q := ⟨_, rfl⟩
  rw [hq]
  have HQ := Lib.hid hq
  clear hq
  go_enter Try.func18, Try.ntmps18
  go_wp2_with fail
  refine (mag_any _ _ h0 h1).mono ?_
  rintro e w2 ⟨A2, xs, rfl, R2, V2, P2⟩
  have HV2 := Lib.hid V2
  clear V2
  go_wp2_with fail
  refine (of_any _ _ (by decide)).mono ?_
  rintro e w3 ⟨A3, n3, c3, rfl, ⟨ys, R3, C3, V3, L3⟩, P3⟩
  have HV3 : Hid (val ys = 1) := Lib.hid V3
  clear V3
  go_wp2_with fail
  refine (lowest_any _ _ _ _ _ _ _ _ 2 _ _ (R2.on P3) R3 (by rw [HV3.out]; decide) (by decide) L3 (by decide) (by decide)).mono ?_
  rintro e w4 ⟨v, rfl, I, P4⟩
  rw [HV2.out, HV3.out, fr_int, HQ.out] at I
  have I2 := I
  obtain ⟨A1, n1, c1, xs1, A4, n4, c4, ys1, rfl, _⟩ := I2
  have O2 := ((HO2.out.on P2).on P3).on P4
  have r0 : w4.cell? ⟨w.heap.size, 0, none⟩ = some (.bool false) := O2.cell 0
  have rf0 := O2.frozen 0
  have r1 : w4.cell? ⟨w.heap.size, 1, none⟩ = some (.slice none 0 0) := O2.cell 1
  have rf1 := O2.frozen 1
  have r2 : w4.cell? ⟨w.heap.size, 2, none⟩ = some (.slice none 0 0) := O2.cell 2
  have rf2 := O2.frozen 2
  clear R2 R3 C3
  go_wp2
  have hon := on3 (g := w.heap.size) (((B.trans P2).trans P3).trans P4) (by omega) (.bool (decide (q < 0))) (.slice A1 n1 c1) (.slice A4 n4 c4)
  exact bodyPost_ret (v := .agg #[.bool (decide (q < 0)), .slice A1 n1 c1, .slice A4 n4 c4]) (by simp [results, Try.results18, go_sem, r0, r1, r2]) rfl ⟨_, rfl, isR_put I O2 _ _ _, hon⟩
set_option maxHeartbeats 800000 in
theorem make_zero (w : World) (x : Int) (h0 : -9223372036854775808 ≤ x) (h1 : x ≤ 9223372036854775807) :
    Calls Try.prog 11 #[.int .i64 x, .int .i64 0] w fun e w' => e = .returned (.tuple #[.agg #[.bool false, .slice none 0 0, .slice none 0 0], .iface 49 (.int .i64 8)]) ∧ On w w' := by
  have B := (On.refl w).alloc (.cells #[.bool false, .slice none 0 0, .slice none 0 0] 24)
  have O2 := Own.new w 24 #[.bool false, .slice none 0 0, .slice none 0 0]
  have HO2 := Lib.hid O2
  clear O2
  go_enter Try.func11, Try.ntmps11
  go_wp2_with fail
  refine (mag_any _ _ h0 h1).mono ?_
  rintro e w2 ⟨A2, xs, rfl, R2, V2, P2⟩
  clear V2
  go_wp2_with fail
  refine (mag_any _ _ (by decide) (by decide)).mono ?_
  rintro e w3 ⟨A3, ys, rfl, R3, V3, P3⟩
  have HV3 : Hid (val ys = 0) := Lib.hid V3
  clear V3
  go_wp2_with fail
  refine (from_zero _ _ _ _ _ _ _ _ _ _ (R2.on P3) R3 HV3.out (by decide)).mono ?_
  rintro e w4 ⟨rfl, P4⟩
  have O2 := ((HO2.out.on P2).on P3).on P4
  have r0 : w4.cell? ⟨w.heap.size, 0, none⟩ = some (.bool false) := O2.cell 0
  have rf0 := O2.frozen 0
  have r1 : w4.cell? ⟨w.heap.size, 1, none⟩ = some (.slice none 0 0) := O2.cell 1
  have rf1 := O2.frozen 1
  have r2 : w4.cell? ⟨w.heap.size, 2, none⟩ = some (.slice none 0 0) := O2.cell 2
  have rf2 := O2.frozen 2
  clear R2 R3
  go_wp2
  have hon := on3 (g := w.heap.size) (((B.trans P2).trans P3).trans P4) (by omega) (.bool false) (.slice none 0 0) (.slice none 0 0)
  exact bodyPost_ret (v := .tuple #[.agg #[.bool false, .slice none 0 0, .slice none 0 0], .iface 49 (.int .i64 8)]) (by simp [results, Try.results11, go_sem, r0, r1, r2]) rfl ⟨rfl, hon⟩
theorem not_beq (a b : Bool) : (!(a == b)) = (a != b) := rfl
set_option maxHeartbeats 800000 in
theorem make_any (w : World) (x y : Int) (h0 : -9223372036854775808 ≤ x) (h1 : x ≤ 9223372036854775807) (k0 : -9223372036854775808 ≤ y) (k1 : y ≤ 9223372036854775807) (hy : y ≠ 0) :
    Calls Try.prog 11 #[.int .i64 x, .int .i64 y] w (RatPost2 w (fr (decide (x < 0) != decide (y < 0)) x.natAbs y.natAbs) 2 .nilIface) := by
  have B := (On.refl w).alloc (.cells #[.bool false, .slice none 0 0, .slice none 0 0] 24)
  have O2 := Own.new w 24 #[.bool false, .slice none 0 0, .slice none 0 0]
  have HO2 := Lib.hid O2
  have HY := Lib.hid hy
  obtain ⟨q, hq⟩ : ∃ q, fr (decide (x < 0) != decide (y < 0)) x.natAbs y.natAbs = q := ⟨_, rfl⟩
  rw [hq]
  have HQ := Lib.hid hq
  clear O2 hy hq
  go_enter Try.func11, Try.ntmps11
  go_wp2_with fail
  refine (mag_any _ _ h0 h1).mono ?_
  rintro e w2 ⟨A2, xs, rfl, R2, V2, P2⟩
  have HV2 := Lib.hid V2
  clear V2
  go_wp2_with fail
  refine (mag_any _ _ k0 k1).mono ?_
  rintro e w3 ⟨A3, ys, rfl, R3, V3, P3⟩
  have HV3 := Lib.hid V3
  clear V3
  go_wp2_with fail
  have hy0 : 0 < val ys := by rw [HV3.out]; have := HY.out; omega
  refine (from_any _ _ _ _ _ _ _ _ 2 _ _ (R2.on P3) R3 hy0 (by decide) (by decide) (by decide) (by decide)).mono ?_
  rintro e w4 ⟨v, rfl, I, P4⟩
  rw [HV2.out, HV3.out, not_beq, HQ.out] at I
  have I2 := I
  obtain ⟨A1, n1, c1, xs1, A4, n4, c4, ys1, rfl, _⟩ := I2
  have O2 := ((HO2.out.on P2).on P3).on P4
  have r0 : w4.cell? ⟨w.heap.size, 0, none⟩ = some (.bool false) := O2.cell 0
  have rf0 := O2.frozen 0
  have r1 : w4.cell? ⟨w.heap.size, 1, none⟩ = some (.slice none 0 0) := O2.cell 1
  have rf1 := O2.frozen 1
  have r2 : w4.cell? ⟨w.heap.size, 2, none⟩ = some (.slice none 0 0) := O2.cell 2
  have rf2 := O2.frozen 2
  clear R2 R3
  go_wp2
  have hon := on3 (g := w.heap.size) (((B.trans P2).trans P3).trans P4) (by omega) (.bool (decide (q < 0))) (.slice A1 n1 c1) (.slice A4 n4 c4)
  exact bodyPost_ret (v := .tuple #[.agg #[.bool (decide (q < 0)), .slice A1 n1 c1, .slice A4 n4 c4], .nilIface]) (by simp [results, Try.results11, go_sem, r0, r1, r2]) rfl ⟨_, rfl, isR_put I O2 _ _ _, hon⟩
end Num
end Go.Proofs.Ytkpeliokhmigoaa
