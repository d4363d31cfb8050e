/-
  power, Parse of decimals, awake; the specification's Valid, From, Make, Of; large.
-/
import Derived.Test.YtkpeliokhmigoaaRat6
import Derived.Test.YtkpeliokhmigoaaShelf
import Derived.Test.YtkpeliokhmigoaaPar2
import Derived.Test.YtkpeliokhmigoaaRgcd
import Derived.Test.YtkpeliokhmigoaaRbits
import Derived.Test.YtkpeliokhmigoaaRef4
import Derived.Test.YtkpeliokhmigoaaRdiv
namespace Go.Proofs.Ytkpeliokhmigoaa
open Go.RowKit
set_option linter.unusedVariables false
namespace Num
theorem r_ofInt_i64 (a : Nat) (ha : a < 9223372036854775808) : (BitVec.ofInt 64 (a : Int)).toNat = a := by
  rw [BitVec.ofInt_natCast, BitVec.toNat_ofNat]; exact Nat.mod_eq_of_lt (by omega)
theorem r_i64_and_one (a : Nat) (ha : a < 9223372036854775808) : bits .and .i64 (a : Int) 1 = ((a % 2 : Nat) : Int) := by
  have e1 := r_ofInt_i64 a ha
  show IntKind.i64.wrap ((BitVec.ofInt 64 (a : Int) &&& BitVec.ofInt 64 ((1 : Nat) : Int)).toNat : Int) = _
  rw [BitVec.toNat_and, e1, r_ofInt_i64 1 (by decide), nat_mask1, IntKind.wrap_i64]
  omega
theorem r_pow_half (v n k : Nat) : v ^ (n / 2 ^ k) = (if n / 2 ^ k % 2 = 1 then v ^ (n / 2 ^ (k + 1)) * v ^ (n / 2 ^ (k + 1)) * v else v ^ (n / 2 ^ (k + 1)) * v ^ (n / 2 ^ (k + 1))) := by
  have h1 : n / 2 ^ (k + 1) = n / 2 ^ k / 2 := by rw [Nat.pow_succ, Nat.div_div_eq_div_mul]
  rw [h1]
  generalize n / 2 ^ k = x
  split
  · rename_i hx
    rw [← Nat.pow_add, ← Nat.pow_succ]; congr 1; omega
  · rename_i hx
    rw [← Nat.pow_add]; congr 1; omega
theorem powl_lt (v e q L M : Nat) (hv : v < BB ^ L) (he : e ≤ q) (hM : L * q < M) : v ^ e < BB ^ M := by
  have h1 : v ^ e ≤ (BB ^ L) ^ e := Nat.pow_le_pow_left (Nat.le_of_lt hv) e
  rw [← Nat.pow_mul] at h1
  have h2 : BB ^ (L * e) ≤ BB ^ (L * q) := Nat.pow_le_pow_right (by decide) (Nat.mul_le_mul_left _ he)
  have h3 : BB ^ (L * q) < BB ^ M := Nat.pow_lt_pow_right (by decide) hM
  exact Nat.lt_of_le_of_lt (Nat.le_trans h1 h2) h3
theorem rpowL (w : World) (A : Option Addr) (n c : Nat) (xs : List Nat) (h : Rd w A n c xs) (q : Nat) (hq : q ≤ 1024) (L M : Nat) (hn : n ≤ L) (hM : L * q < M) (hM2 : M ≤ 20000000) (hL : L ≤ 20000000) :
    Calls Try.prog 88 #[.slice A n c, .int .i64 (q : Int)] w (Gives w (val xs ^ q) M) := by
  have hvL : Hid (val xs < BB ^ L) := Lib.hid (Nat.lt_of_lt_of_le (val_lt h.ok) (Nat.pow_le_pow_right (by decide) (by rw [h.len]; exact hn)))
  have hqn : nb q ≤ 11 := (nb_le_iff q 11).2 (by omega)
  have HM := Lib.hid hM
  have HQB := Lib.hid (bitLen_nb q (by omega))
  have HQ0 : Hid (q / 2 ^ nb q = 0) := Lib.hid (Nat.div_eq_of_lt (nb_lt q))
  have htx : tl xs ≤ L := Nat.le_trans (tl_le _) (by rw [h.len]; exact hn)
  clear hM
  go_enter Try.func88, Try.ntmps88
  go_wp2_with fail
  refine (of_any _ _ (by decide)).mono ?_
  rintro e w1 ⟨A0, n0, c0, rfl, ⟨os, R0, C0, V0, L0⟩, O1⟩
  have HV0 := Lib.hid V0
  clear V0
  go_wp2_with fail
  refine (Try.bits_Len ((q : Nat) : Int) _ (by omega) (by omega)).mono ?_
  rintro e w' ⟨rfl, hw⟩
  rw [hw, Int.toNat_natCast, HQB.out]
  clear hw w'
  obtain ⟨kq, hkq⟩ : ∃ x, nb q = x := ⟨_, rfl⟩
  rw [hkq] at hqn HQ0 ⊢
  clear hkq
  go_wp2
  go_loopw [5, 6] (fun s6 s7 wr => ∃ (k : Nat) (A1 : Option Addr) (n1 c1 : Nat) (ps : List Nat), k ≤ kq ∧ s7 = .int .i64 ((k : Int) - 1) ∧ s6 = .slice A1 n1 c1 ∧ Rd wr A1 n1 c1 ps ∧ Clean ps ∧ val ps = val xs ^ (q / 2 ^ k) ∧ On w wr) (fun _ s7 _ => (intOf s7 + 1).toNat)
  case atStart => exact ⟨kq, _, _, _, os, Nat.le_refl _, rfl, rfl, R0, C0, by rw [HQ0.out, HV0.out]; rfl, O1⟩
  case round =>
    obtain ⟨k, A1, n1, c1, ps, hk, rfl, rfl, RP, CP, VP, hon⟩ := hrel
    have HVP := Lib.hid VP
    have hlen := clean_len CP M (by rw [VP]; exact powl_lt _ _ _ _ _ hvL.out (Nat.div_le_self _ _) HM.out)
    have htp : tl ps ≤ M := Nat.le_trans (tl_le _) hlen
    rw [RP.len] at hlen
    clear VP
    rcases k with _ | j
    · go_wp2
      go_ret
      exact ⟨_, _, _, rfl, ⟨ps, RP, CP, by rw [HVP.out, Nat.pow_zero, Nat.div_one], hlen⟩, hon⟩
    · rw [show ((j + 1 : Nat) : Int) - 1 = (j : Int) from by omega]
      have hHF := Lib.hid (r_pow_half (val xs) q j)
      have HA := r_i64_and_one (q / 2 ^ j) (Nat.lt_of_le_of_lt (Nat.div_le_self _ _) (by omega))
      rw [show ((q / 2 ^ j : Nat) : Int) = (q : Int) / 2 ^ j from by rw [Int.natCast_ediv, Int.natCast_pow]; rfl] at HA
      have hj11 : j ≤ 10 := by omega
      have hmb : q / 2 ^ j % 2 < 2 := Nat.mod_lt _ (by decide)
      by_cases hbit : q / 2 ^ j % 2 = 1
      · have HBT := Lib.hid hbit
        rw [hbit] at HA
        clear hbit hmb
        go_wp2_with fail
        refine (mul_any _ _ _ _ _ _ _ M M _ _ RP RP htp htp (by omega) (by omega)).mono ?_
        rintro e w2 ⟨A2, n2, c2, rfl, ⟨ss, RS, CS, VS, LS⟩, hon2⟩
        have HVS := Lib.hid VS
        have hts : tl ss ≤ M + M := Nat.le_trans (tl_le _) (by rw [RS.len]; omega)
        clear VS
        go_wp2_with fail
        refine (mul_any _ _ _ _ _ _ _ (M + M) L _ _ RS ((h.on hon).on hon2) hts htx (by omega) (by omega)).mono ?_
        rintro e w3 ⟨A3, n3, c3, rfl, ⟨ts, RT, CT, VT, LT⟩, hon3⟩
        have HVT := Lib.hid VT
        clear VT
        go_wp2
        refine ⟨⟨j, A3, n3, c3, ts, by omega, rfl, rfl, RT, CT, ?_, (hon.trans hon2).trans hon3⟩, by simp [intOf]⟩
        rw [hHF.out, if_pos HBT.out, HVT.out, HVS.out, HVP.out]
      · have hb0 : q / 2 ^ j % 2 = 0 := by omega
        have HBT := Lib.hid hbit
        rw [hb0] at HA
        clear hbit hmb hb0
        go_wp2_with fail
        refine (mul_any _ _ _ _ _ _ _ M M _ _ RP RP htp htp (by omega) (by omega)).mono ?_
        rintro e w2 ⟨A2, n2, c2, rfl, ⟨ss, RS, CS, VS, LS⟩, hon2⟩
        have HVS := Lib.hid VS
        clear VS
        go_wp2
        refine ⟨⟨j, A2, n2, c2, ss, by omega, rfl, rfl, RS, CS, ?_, hon.trans hon2⟩, by simp [intOf]⟩
        rw [hHF.out, if_neg HBT.out, HVS.out, HVP.out]
theorem clean_ten {xs : List Nat} (C : Clean xs) {l : List Nat} (h : IsDig l) (hl : l.length ≤ 64) (V : val xs = dv l) : xs.length ≤ 8 := by
  have h1 := dv_lt h
  have h2 := ten_le hl
  exact clean_len C 8 (by rw [V]; exact Nat.lt_of_lt_of_le h1 (Nat.le_trans h2 (by decide)))
set_option maxHeartbeats 1600000 in
theorem pdec_good (w : World) (neg : Bool) (s p : ByteArray) (hs : s.size ≤ 64) (hp : p.size ≤ 64) (h1 : textB s = true) (h2 : textB (ByteArray.mk #[49] ++ p) = true) (hp0 : 0 < p.size) (v2 : Nat) (hv2 : dv (bl (ByteArray.mk #[49] ++ p)) = 10 ^ p.size + v2) :
    Calls Try.prog 48 #[.bool neg, .string s, .string p] w (RatPost2 w (fr neg (dv (bl s) * 10 ^ p.size + v2) (10 ^ p.size)) 200 .nilIface) := by
  have B := (On.refl w).alloc (.cells #[.bool false, .slice none 0 0, .slice none 0 0] 24)
  have O2 := Own.new w 24 #[.bool false, .slice none 0 0, .slice none 0 0]
  have HO2 := Lib.hid O2
  have hsz : (ByteArray.mk #[49] ++ p).size = 1 + p.size := by rw [ByteArray.size_append]; rfl
  obtain ⟨u, hu⟩ : ∃ u, ByteArray.mk #[49] ++ p = u := ⟨_, rfl⟩
  have HU := Lib.hid hu
  rw [hu] at h2 hv2 hsz
  have H2 := Lib.hid h2
  have HV := Lib.hid hv2
  obtain ⟨r, hr⟩ : ∃ r, fr neg (dv (bl s) * 10 ^ p.size + v2) (10 ^ p.size) = r := ⟨_, rfl⟩
  rw [hr]
  have HR := Lib.hid hr
  have hne : p.toList.isEmpty = false := by
    have hn : ¬ p.toList = [] := fun e => by have := (toList_nil_iff p).1 e; omega
    simp [hn]
  clear h2 hv2 hu O2 hr
  go_enter Try.func48, Try.ntmps48
  go_wp2_with fail
  refine (parse_good _ _ (by omega) h1).mono ?_
  rintro e w1 ⟨A1, n1, c1, rfl, ⟨xs, R1, C1, V1, L1⟩, P1⟩
  have HV1 := Lib.hid V1
  have l1 : n1 ≤ 8 := by omega
  clear V1 h1 L1
  go_wp2_with fail
  rw [HU.out]
  refine (parse_good _ _ (by omega) H2.out).mono ?_
  rintro e w2 ⟨A2, n2, c2, rfl, ⟨ys, R2, C2, V2, L2⟩, P2⟩
  have HV2 := Lib.hid V2
  have l2 : n2 ≤ 9 := by omega
  clear V2 L2
  go_wp2_with fail
  refine (of_any _ _ (by decide)).mono ?_
  rintro e w3 ⟨A3, n3, c3, rfl, ⟨zs, R3, C3, V3, L3⟩, P3⟩
  have HV3 := Lib.hid (show val zs = 10 from V3)
  clear V3
  go_wp2_with fail
  refine (rpowL _ _ _ _ _ R3 p.size (by omega) 2 129 L3 (by omega) (by decide) (by decide)).mono ?_
  rintro e w4 ⟨A4, n4, c4, rfl, ⟨us, R4, C4, V4, L4⟩, P4⟩
  rw [HV3.out] at V4
  have HV4 := Lib.hid V4
  clear V4
  go_wp2_with fail
  refine (sub_good _ _ _ _ _ _ _ 9 _ _ ((R2.on P3).on P4) R4 (by rw [HV4.out, HV2.out, HV.out]; exact Nat.le_add_right _ _) (Nat.le_trans (tl_le _) (by rw [R2.len]; exact l2)) (by decide)).mono ?_
  rintro e w5 ⟨A5, n5, c5, rfl, ⟨ds, R5, C5, V5, L5⟩, P5⟩
  have HV5 := Lib.hid (show val ds = v2 by rw [V5, HV4.out, HV2.out, HV.out]; exact Nat.add_sub_cancel_left _ _)
  clear V5
  go_wp2_with fail
  refine (mul_any _ _ _ _ _ _ _ 8 129 _ _ ((((R1.on P2).on P3).on P4).on P5) (R4.on P5) (Nat.le_trans (tl_le _) (by rw [R1.len]; exact l1)) (Nat.le_trans (tl_le _) (by rw [R4.len]; exact L4)) (by decide) (by decide)).mono ?_
  rintro e w6 ⟨A6, n6, c6, rfl, ⟨ms, R6, C6, V6, L6⟩, P6⟩
  have HV6 := Lib.hid V6
  clear V6
  go_wp2_with fail
  refine (add_any _ _ _ _ _ _ _ 137 _ _ R6 (R5.on P6) (Nat.le_trans (tl_le _) (by rw [R6.len]; exact L6)) (Nat.le_trans (tl_le _) (by rw [R5.len]; omega)) (by decide)).mono ?_
  rintro e w7 ⟨A7, n7, c7, rfl, ⟨ss, R7, C7, V7, L7⟩, P7⟩
  have HV7 := Lib.hid (show val ss = dv (bl s) * 10 ^ p.size + v2 by rw [V7, HV6.out, HV5.out, HV4.out, HV1.out])
  clear V7
  go_wp2_with fail
  refine (lowest_any _ _ _ _ _ _ _ _ 200 _ _ R7 (((R4.on P5).on P6).on P7) (by rw [HV4.out]; exact Nat.pow_pos (by decide)) (by omega) (by omega) (by decide) (by decide)).mono ?_
  rintro e w8 ⟨v, rfl, I, P8⟩
  rw [HV7.out, HV4.out, HR.out] at I
  have I2 := I
  obtain ⟨A8, n8, c8, xs8, A9, n9, c9, ys9, rfl, _⟩ := I2
  have PP := ((((((P1.trans P2).trans P3).trans P4).trans P5).trans P6).trans P7).trans P8
  have O3 := HO2.out.on PP
  have r0 : w8.cell? ⟨w.heap.size, 0, none⟩ = some (.bool false) := O3.cell 0
  have rf0 := O3.frozen 0
  have r1 : w8.cell? ⟨w.heap.size, 1, none⟩ = some (.slice none 0 0) := O3.cell 1
  have rf1 := O3.frozen 1
  have r2 : w8.cell? ⟨w.heap.size, 2, none⟩ = some (.slice none 0 0) := O3.cell 2
  have rf2 := O3.frozen 2
  go_wp2
  have hon := on3 (g := w.heap.size) (B.trans PP) (by omega) (.bool (decide (r < 0))) (.slice A8 n8 c8) (.slice A9 n9 c9)
  exact bodyPost_ret (v := .tuple #[.agg #[.bool (decide (r < 0)), .slice A8 n8 c8, .slice A9 n9 c9], .nilIface]) (by simp [results, Try.results48, go_sem, r0, r1, r2]) rfl ⟨_, rfl, isR_put I O3 _ _ _, hon⟩
/-- zero and an error -/
def RatNo (w : World) (x : Int) (e : Ending) (w' : World) : Prop := e = .returned (.tuple #[.agg #[.bool false, .slice none 0 0, .slice none 0 0], .iface 49 (.int .i64 x)]) ∧ On w w'
set_option maxHeartbeats 800000 in
theorem pdec_ff (w : World) (neg : Bool) (s p : ByteArray) (hs : s.size ≤ 64) (hp : p.size ≤ 64) (h1 : textB s = false) (h2 : textB (ByteArray.mk #[49] ++ p) = false) :
    Calls Try.prog 48 #[.bool neg, .string s, .string p] w (RatNo w 2) := by
  have B := (On.refl w).alloc (.cells #[.bool false, .slice none 0 0, .slice none 0 0] 24)
  have O2 := Own.new w 24 #[.bool false, .slice none 0 0, .slice none 0 0]
  have HO2 := Lib.hid O2
  have hsz : (ByteArray.mk #[49] ++ p).size = 1 + p.size := by rw [ByteArray.size_append]; rfl
  obtain ⟨u, hu⟩ : ∃ u, ByteArray.mk #[49] ++ p = u := ⟨_, rfl⟩
  have HU := Lib.hid hu
  rw [hu] at h2 hsz
  have H1 := Lib.hid h1
  have H2 := Lib.hid h2
  clear h2 hu O2 h1
  go_enter Try.func48, Try.ntmps48
  go_wp2_with fail
  refine (parse_bad _ _ (by omega) H1.out).mono ?_
  rintro e w1 ⟨rfl, rfl⟩
  go_wp2_with fail
  rw [HU.out]
  refine (parse_bad _ _ (by omega) H2.out).mono ?_
  rintro e w2 ⟨rfl, rfl⟩
  go_wp2
  exact bodyPost_ret (v := .tuple #[.agg #[.bool false, .slice none 0 0, .slice none 0 0], .iface 49 (.int .i64 2)]) (by simp [results, Try.results48, go_sem]) rfl ⟨rfl, B⟩
set_option maxHeartbeats 800000 in
theorem pdec_ft (w : World) (neg : Bool) (s p : ByteArray) (hs : s.size ≤ 64) (hp : p.size ≤ 64) (h1 : textB s = false) (h2 : textB (ByteArray.mk #[49] ++ p) = true) :
    Calls Try.prog 48 #[.bool neg, .string s, .string p] w (RatNo w 2) := by
  have B := (On.refl w).alloc (.cells #[.bool false, .slice none 0 0, .slice none 0 0] 24)
  have O2 := Own.new w 24 #[.bool false, .slice none 0 0, .slice none 0 0]
  have HO2 := Lib.hid O2
  have hsz : (ByteArray.mk #[49] ++ p).size = 1 + p.size := by rw [ByteArray.size_append]; rfl
  obtain ⟨u, hu⟩ : ∃ u, ByteArray.mk #[49] ++ p = u := ⟨_, rfl⟩
  have HU := Lib.hid hu
  rw [hu] at h2 hsz
  have H1 := Lib.hid h1
  have H2 := Lib.hid h2
  clear h2 hu O2 h1
  go_enter Try.func48, Try.ntmps48
  go_wp2_with fail
  refine (parse_bad _ _ (by omega) H1.out).mono ?_
  rintro e w1 ⟨rfl, rfl⟩
  go_wp2_with fail
  rw [HU.out]
  refine (parse_good _ _ (by omega) H2.out).mono ?_
  rintro e w2 ⟨A2, n2, c2, rfl, ⟨ys, R2, C2, V2, L2⟩, P2⟩
  clear V2 L2
  have PP := P2
  have O3 := HO2.out.on PP
  have r0 : w2.cell? ⟨w.heap.size, 0, none⟩ = some (.bool false) := O3.cell 0
  have rf0 := O3.frozen 0
  have r1 : w2.cell? ⟨w.heap.size, 1, none⟩ = some (.slice none 0 0) := O3.cell 1
  have rf1 := O3.frozen 1
  have r2 : w2.cell? ⟨w.heap.size, 2, none⟩ = some (.slice none 0 0) := O3.cell 2
  have rf2 := O3.frozen 2
  go_wp2
  have hon := on3 (g := w.heap.size) (B.trans PP) (by omega) (.bool false) (.slice none 0 0) (.slice none 0 0)
  exact bodyPost_ret (v := .tuple #[.agg #[.bool false, .slice none 0 0, .slice none 0 0], .iface 49 (.int .i64 2)]) (by simp [results, Try.results48, go_sem, r0, r1, r2]) rfl ⟨rfl, hon⟩
set_option maxHeartbeats 800000 in
theorem pdec_tf (w : World) (neg : Bool) (s p : ByteArray) (hs : s.size ≤ 64) (hp : p.size ≤ 64) (h1 : textB s = true) (h2 : textB (ByteArray.mk #[49] ++ p) = false) :
    Calls Try.prog 48 #[.bool neg, .string s, .string p] w (RatNo w 2) := by
  have B := (On.refl w).alloc (.cells #[.bool false, .slice none 0 0, .slice none 0 0] 24)
  have O2 := Own.new w 24 #[.bool false, .slice none 0 0, .slice none 0 0]
  have HO2 := Lib.hid O2
  have hsz : (ByteArray.mk #[49] ++ p).size = 1 + p.size := by rw [ByteArray.size_append]; rfl
  obtain ⟨u, hu⟩ : ∃ u, ByteArray.mk #[49] ++ p = u := ⟨_, rfl⟩
  have HU := Lib.hid hu
  rw [hu] at h2 hsz
  have H1 := Lib.hid h1
  have H2 := Lib.hid h2
  clear h2 hu O2 h1
  go_enter Try.func48, Try.ntmps48
  go_wp2_with fail
  refine (parse_good _ _ (by omega) H1.out).mono ?_
  rintro e w1 ⟨A1, n1, c1, rfl, ⟨xs, R1, C1, V1, L1⟩, P1⟩
  clear V1 L1
  go_wp2_with fail
  rw [HU.out]
  refine (parse_bad _ _ (by omega) H2.out).mono ?_
  rintro e w2 ⟨rfl, rfl⟩
  have PP := P1
  have O3 := HO2.out.on PP
  have r0 : w2.cell? ⟨w.heap.size, 0, none⟩ = some (.bool false) := O3.cell 0
  have rf0 := O3.frozen 0
  have r1 : w2.cell? ⟨w.heap.size, 1, none⟩ = some (.slice none 0 0) := O3.cell 1
  have rf1 := O3.frozen 1
  have r2 : w2.cell? ⟨w.heap.size, 2, none⟩ = some (.slice none 0 0) := O3.cell 2
  have rf2 := O3.frozen 2
  go_wp2
  have hon := on3 (g := w.heap.size) (B.trans PP) (by omega) (.bool false) (.slice none 0 0) (.slice none 0 0)
  exact bodyPost_ret (v := .tuple #[.agg #[.bool false, .slice none 0 0, .slice none 0 0], .iface 49 (.int .i64 2)]) (by simp [results, Try.results48, go_sem, r0, r1, r2]) rfl ⟨rfl, hon⟩
set_option maxHeartbeats 800000 in
theorem pdec_tt (w : World) (neg : Bool) (s p : ByteArray) (hs : s.size ≤ 64) (hp : p.size ≤ 64) (h1 : textB s = true) (h2 : textB (ByteArray.mk #[49] ++ p) = true) (hp0 : p.size = 0) :
    Calls Try.prog 48 #[.bool neg, .string s, .string p] w (RatNo w 2) := by
  have B := (On.refl w).alloc (.cells #[.bool false, .slice none 0 0, .slice none 0 0] 24)
  have O2 := Own.new w 24 #[.bool false, .slice none 0 0, .slice none 0 0]
  have HO2 := Lib.hid O2
  have hsz : (ByteArray.mk #[49] ++ p).size = 1 + p.size := by rw [ByteArray.size_append]; rfl
  obtain ⟨u, hu⟩ : ∃ u, ByteArray.mk #[49] ++ p = u := ⟨_, rfl⟩
  have HU := Lib.hid hu
  rw [hu] at h2 hsz
  have H1 := Lib.hid h1
  have H2 := Lib.hid h2
  have hne : p.toList.isEmpty = true := by
    rw [(toList_nil_iff p).2 hp0]; rfl
  clear h2 hu O2 h1
  go_enter Try.func48, Try.ntmps48
  go_wp2_with fail
  refine (parse_good _ _ (by omega) H1.out).mono ?_
  rintro e w1 ⟨A1, n1, c1, rfl, ⟨xs, R1, C1, V1, L1⟩, P1⟩
  clear V1 L1
  go_wp2_with fail
  rw [HU.out]
  refine (parse_good _ _ (by omega) H2.out).mono ?_
  rintro e w2 ⟨A2, n2, c2, rfl, ⟨ys, R2, C2, V2, L2⟩, P2⟩
  clear V2 L2
  have PP := P1.trans P2
  have O3 := HO2.out.on PP
  have r0 : w2.cell? ⟨w.heap.size, 0, none⟩ = some (.bool false) := O3.cell 0
  have rf0 := O3.frozen 0
  have r1 : w2.cell? ⟨w.heap.size, 1, none⟩ = some (.slice none 0 0) := O3.cell 1
  have rf1 := O3.frozen 1
  have r2 : w2.cell? ⟨w.heap.size, 2, none⟩ = some (.slice none 0 0) := O3.cell 2
  have rf2 := O3.frozen 2
  go_wp2
  have hon := on3 (g := w.heap.size) (B.trans PP) (by omega) (.bool false) (.slice none 0 0) (.slice none 0 0)
  exact bodyPost_ret (v := .tuple #[.agg #[.bool false, .slice none 0 0, .slice none 0 0], .iface 49 (.int .i64 2)]) (by simp [results, Try.results48, go_sem, r0, r1, r2]) rfl ⟨rfl, hon⟩
theorem pdec_bad (w : World) (neg : Bool) (s p : ByteArray) (hs : s.size ≤ 64) (hp : p.size ≤ 64) (h : ¬ (textB s = true ∧ textB (ByteArray.mk #[49] ++ p) = true ∧ 0 < p.size)) :
    Calls Try.prog 48 #[.bool neg, .string s, .string p] w (RatNo w 2) := by
  cases h1 : textB s <;> cases h2 : textB (ByteArray.mk #[49] ++ p)
  · exact pdec_ff w neg s p hs hp h1 h2
  · exact pdec_ft w neg s p hs hp h1 h2
  · exact pdec_tf w neg s p hs hp h1 h2
  · exact pdec_tt w neg s p hs hp h1 h2 (Nat.eq_zero_of_not_pos fun h0 => h ⟨h1, h2, h0⟩)
/-- strings.Index's own variable holds some number -/
def MX (w : World) : Prop := 0 < w.heap.size ∧ ∃ m : Int, w.cell? ⟨0, 0, none⟩ = some (.int .i64 m)
theorem MX.on {w w' : World} (h : MX w) (k : On w w') : MX w' := by
  obtain ⟨h1, m, h2⟩ := h
  exact ⟨Nat.lt_of_lt_of_le h1 k.size, m, by rw [Below.cell k (p := ⟨0, 0, none⟩) h1]; exact h2⟩
set_option maxHeartbeats 1600000 in
theorem parse_dec (w : World) (hx : MX w) (s : ByteArray) (hs : s.size ≤ 64) (D a b : ByteArray) (neg : Bool)
    (hD : (⟨(Lib.trimPrefix s.data.toList (ByteArray.mk #[45]).data.toList).toArray⟩ : ByteArray) = D) (hneg : Lib.hasPrefix s.data.toList (ByteArray.mk #[45]).data.toList = neg)
    (h1 : (⟨(Lib.cut D.data.toList (ByteArray.mk #[46]).data.toList).1.toArray⟩ : ByteArray) = a) (h2 : (⟨(Lib.cut D.data.toList (ByteArray.mk #[46]).data.toList).2.1.toArray⟩ : ByteArray) = b) (h3 : (Lib.cut D.data.toList (ByteArray.mk #[46]).data.toList).2.2 = true)
    (hDs : D.size ≤ 64) (has : a.size ≤ 64) (hbs : b.size ≤ 64) (t1 : textB a = true) (t2 : textB (ByteArray.mk #[49] ++ b) = true) (hb0 : 0 < b.size) (v2 : Nat) (hv2 : dv (bl (ByteArray.mk #[49] ++ b)) = 10 ^ b.size + v2) :
    Calls Try.prog 21 #[.string s] w (RatPost2 w (fr neg (dv (bl a) * 10 ^ b.size + v2) (10 ^ b.size)) 200 .nilIface) := by
  have B := (On.refl w).alloc (.cells #[.bool false, .slice none 0 0, .slice none 0 0] 24)
  have O2 := Own.new w 24 #[.bool false, .slice none 0 0, .slice none 0 0]
  have HO2 := Lib.hid O2
  obtain ⟨r, hr⟩ : ∃ r, fr neg (dv (bl a) * 10 ^ b.size + v2) (10 ^ b.size) = r := ⟨_, rfl⟩
  rw [hr]
  have HR := Lib.hid hr
  have HD := Lib.hid hD
  have HN := Lib.hid hneg
  have H1 := Lib.hid h1
  have H2 := Lib.hid h2
  have H3 := Lib.hid h3
  have T2 := Lib.hid t2
  have HV := Lib.hid hv2
  have hx1 := hx.on B
  clear O2 hr hD hneg h1 h2 h3 t2 hv2
  go_enter Try.func21, Try.ntmps21
  go_wp2_with fail
  refine (Try.strings_CutPrefix _ _ _).mono ?_
  rintro e w' ⟨rfl, rfl⟩
  rw [HD.out, HN.out]
  go_wp2_with fail
  obtain ⟨_, m, hm⟩ := hx1
  refine (Try.strings_Cut _ _ m _ (by omega) hm).mono ?_
  rintro e w' ⟨rfl, k, rfl⟩
  rw [H1.out, H2.out, H3.out]
  go_wp2_with fail
  refine (pdec_good _ neg a b has hbs t1 T2.out hb0 v2 HV.out).mono ?_
  rintro e w8 ⟨v, rfl, I, P8⟩
  rw [HR.out] at I
  have I2 := I
  obtain ⟨A8, n8, c8, xs8, A9, n9, c9, ys9, rfl, _⟩ := I2
  have O3 := (HO2.out.drewN k).on P8
  have r0 : w8.cell? ⟨w.heap.size, 0, none⟩ = some (.bool false) := O3.cell 0
  have rf0 := O3.frozen 0
  have r1 : w8.cell? ⟨w.heap.size, 1, none⟩ = some (.slice none 0 0) := O3.cell 1
  have rf1 := O3.frozen 1
  have r2 : w8.cell? ⟨w.heap.size, 2, none⟩ = some (.slice none 0 0) := O3.cell 2
  have rf2 := O3.frozen 2
  go_wp2
  have hon := on3 (g := w.heap.size) ((B.drewN k).trans P8) (by omega) (.bool (decide (r < 0))) (.slice A8 n8 c8) (.slice A9 n9 c9)
  exact bodyPost_ret (v := .tuple #[.agg #[.bool (decide (r < 0)), .slice A8 n8 c8, .slice A9 n9 c9], .nilIface]) (by simp [results, Try.results21, go_sem, r0, r1, r2]) rfl ⟨_, rfl, isR_put I O3 _ _ _, hon⟩
theorem isR_raw {w : World} {s : Bool} {A A' : Option Addr} {n c n' c' L : Nat} {r : Rat} (h : IsR w (.agg #[.bool s, .slice A n c, .slice A' n' c']) r L) : ∃ xs ys, Rd w A n c xs ∧ Rd w A' n' c' ys ∧ n ≤ L ∧ n' ≤ L ∧ raw s xs ys = r := by
  obtain ⟨B, m, d, xs, B', m', d', ys, e, R, R', C, C', h1, h2, V, V'⟩ := h
  simp only [Value.agg.injEq, Array.mk.injEq, List.cons.injEq, Value.bool.injEq, Value.slice.injEq, and_true] at e
  obtain ⟨rfl, ⟨rfl, rfl, rfl⟩, rfl, rfl, rfl⟩ := e
  refine ⟨xs, ys, R, R', h1, h2, ?_⟩
  by_cases h0 : r = 0
  · subst h0
    have : xs = [] := List.eq_nil_of_length_eq_zero (Nat.le_zero.1 (clean_len C 0 (by rw [V]; decide)))
    subst this
    rw [raw_nil]
  · have hn := num_pos_of_ne h0
    rw [dn_ne h0] at V'
    have hx : 0 < xs.length := by
      rcases Nat.eq_zero_or_pos xs.length with e | e
      · rw [List.eq_nil_of_length_eq_zero e] at V; simp [val] at V; omega
      · exact e
    have hy : 0 < ys.length := by
      rcases Nat.eq_zero_or_pos ys.length with e | e
      · rw [List.eq_nil_of_length_eq_zero e] at V'; simp [val] at V'; exact absurd V'.symm r.den_nz
      · exact e
    rw [raw_fit (fitB_yes _ ⟨hx, C⟩ ⟨hy, C'⟩ (by rw [V, V']; exact r.reduced)) hx, V, V', fr_self]
def q1 : Rat := ⟨-3, 2, by decide, by decide⟩
def q2 : Rat := ⟨-2, 1, by decide, by decide⟩
def q3 : Rat := ⟨1, 4, by decide, by decide⟩
theorem q1_eq : fr (decide ((6 : Int) < 0) != decide ((-4 : Int) < 0)) (6 : Int).natAbs (-4 : Int).natAbs = q1 := by decide
theorem q2_eq : ((flr q1 : Int) : Rat) = q2 := by decide
theorem q3_eq : fr false (dv (bl (ByteArray.mk #[48])) * 10 ^ (ByteArray.mk #[50, 53]).size + 25) (10 ^ (ByteArray.mk #[50, 53]).size) = q3 := by decide
theorem one_digit (d : Nat) (h : 1 ≤ d) (h2 : d ≤ 9) : IsText d [48 + d] := .inr ⟨[48 + d], rfl, by intro b hb; simp at hb; omega, by simp [dvb], by simp, by simp [gw]; omega⟩
theorem text_q1 {bs : List Nat} (h : RTx q1 bs) : str bs = { data := #[45, 51, 47, 50] } := by
  have e : bs = [45, 51, 47, 50] := h.unique ⟨[51], [50], one_digit 3 (by decide) (by decide), one_digit 2 (by decide) (by decide), by decide⟩
  subst e; rfl
theorem text_q2 {bs : List Nat} (h : RTx q2 bs) : str bs = { data := #[45, 50] } := by
  have e : bs = [45, 50] := h.unique ⟨[50], [49], one_digit 2 (by decide) (by decide), one_digit 1 (by decide) (by decide), by decide⟩
  subst e; rfl
theorem text_q3 {bs : List Nat} (h : RTx q3 bs) : str bs = { data := #[49, 47, 52] } := by
  have e : bs = [49, 47, 52] := h.unique ⟨[49], [52], one_digit 1 (by decide) (by decide), one_digit 4 (by decide) (by decide), by decide⟩
  subst e; rfl
theorem parse_025 (w : World) (hx : MX w) : Calls Try.prog 21 #[.string (ByteArray.mk #[48, 46, 50, 53])] w (RatPost2 w q3 200 .nilIface) := by
  have h := parse_dec w hx (ByteArray.mk #[48, 46, 50, 53]) (by decide) (ByteArray.mk #[48, 46, 50, 53]) (ByteArray.mk #[48]) (ByteArray.mk #[50, 53]) false (by decide) (by decide) (by decide) (by decide) (by decide) (by decide) (by decide) (by decide) (by decide) (by decide) (by decide) 25 (by decide)
  rw [q3_eq] at h
  exact h
set_option maxHeartbeats 1600000 in
theorem awake02 (w : World) (hx : MX w) :
    Calls Try.prog 9 #[] w fun e w' => e = .returned (.bool true) ∧ On w w' := by
  go_enter Try.func9, Try.ntmps9
  go_wp2_with fail
  refine (make_any _ 6 (-4) (by decide) (by decide) (by decide) (by decide) (by decide)).mono ?_
  rintro e w1 ⟨v1, rfl, I1, P1⟩
  rw [q1_eq] at I1
  obtain ⟨A1, n1, c1, _, A2, n2, c2, _, rfl, _⟩ := id I1
  obtain ⟨xs, ys, R1, R2, l1, l2, hr1⟩ := isR_raw I1
  have HR1 := Lib.hid hr1
  clear I1 hr1
  go_wp2_with fail
  have B1 := (On.refl w1).alloc (.cells #[.bool (decide (q1 < 0)), .slice A1 n1 c1, .slice A2 n2 c2] 24)
  have OA := Own.new w1 24 #[.bool (decide (q1 < 0)), .slice A1 n1 c1, .slice A2 n2 c2]
  have P1' := P1.trans B1
  have HOA := Lib.hid OA
  refine (parse_025 _ (hx.on P1')).mono ?_
  rintro e w2 ⟨v2, rfl, I2, P2⟩
  obtain ⟨A3, n3, c3, _, A4, n4, c4, _, rfl, _⟩ := id I2
  obtain ⟨zs, us, R3, R4, l3, l4, hr3⟩ := isR_raw I2
  have HR3 := Lib.hid hr3
  have B2 := (On.refl w2).alloc (.cells #[.bool (decide (q3 < 0)), .slice A3 n3 c3, .slice A4 n4 c4] 24)
  have HOB := Lib.hid (Own.new w2 24 #[.bool (decide (q3 < 0)), .slice A3 n3 c3, .slice A4 n4 c4])
  have HOA2 := Lib.hid ((HOA.out.on P2).on B2)
  have PP := (P1'.trans P2).trans B2
  clear OA I2 hr3 HOA
  have a0 : (w2.alloc (.cells #[.bool (decide (q3 < 0)), .slice A3 n3 c3, .slice A4 n4 c4] 24)).cell? ⟨w1.heap.size, 0, none⟩ = some (.bool (decide (q1 < 0))) := HOA2.out.cell 0
  have af0 := HOA2.out.frozen 0
  have a1 : (w2.alloc (.cells #[.bool (decide (q3 < 0)), .slice A3 n3 c3, .slice A4 n4 c4] 24)).cell? ⟨w1.heap.size, 1, none⟩ = some (.slice A1 n1 c1) := HOA2.out.cell 1
  have af1 := HOA2.out.frozen 1
  have a2 : (w2.alloc (.cells #[.bool (decide (q3 < 0)), .slice A3 n3 c3, .slice A4 n4 c4] 24)).cell? ⟨w1.heap.size, 2, none⟩ = some (.slice A2 n2 c2) := HOA2.out.cell 2
  have af2 := HOA2.out.frozen 2
  go_wp2_with fail
  refine (textr_any _ _ _ _ _ _ _ _ 2 _ _ (((R1.on B1).on P2).on B2) (((R2.on B1).on P2).on B2) l1 l2 (by decide) (by decide)).mono ?_
  rintro e w3 ⟨b3, rfl, T3, P3⟩
  rw [HR1.out] at T3
  rw [text_q1 T3]
  clear a0 af0 a1 af1 a2 af2 T3
  have a0 : w3.cell? ⟨w1.heap.size, 0, none⟩ = some (.bool (decide (q1 < 0))) := (HOA2.out.on P3).cell 0
  have af0 := (HOA2.out.on P3).frozen 0
  have a1 : w3.cell? ⟨w1.heap.size, 1, none⟩ = some (.slice A1 n1 c1) := (HOA2.out.on P3).cell 1
  have af1 := (HOA2.out.on P3).frozen 1
  have a2 : w3.cell? ⟨w1.heap.size, 2, none⟩ = some (.slice A2 n2 c2) := (HOA2.out.on P3).cell 2
  have af2 := (HOA2.out.on P3).frozen 2
  go_wp2_with fail
  refine (floorr_any _ _ _ _ _ _ _ _ 2 _ _ ((((R1.on B1).on P2).on B2).on P3) ((((R2.on B1).on P2).on B2).on P3) l1 l2 (by decide) (by decide)).mono ?_
  rintro e w4 ⟨v4, rfl, I4, P4⟩
  rw [HR1.out, q2_eq] at I4
  obtain ⟨A5, n5, c5, _, A6, n6, c6, _, rfl, _⟩ := id I4
  obtain ⟨x5, y5, R5, R6, l5, l6, hr5⟩ := isR_raw I4
  have HR5 := Lib.hid hr5
  clear I4 hr5
  go_wp2_with fail
  refine (textr_any _ _ _ _ _ _ _ _ 3 _ _ R5 R6 l5 l6 (by decide) (by decide)).mono ?_
  rintro e w5 ⟨b5, rfl, T5, P5⟩
  rw [HR5.out] at T5
  rw [text_q2 T5]
  have P35 := (P3.trans P4).trans P5
  clear T5
  clear a0 af0 a1 af1 a2 af2
  have b0 : w5.cell? ⟨w2.heap.size, 0, none⟩ = some (.bool (decide (q3 < 0))) := (HOB.out.on P35).cell 0
  have bf0 := (HOB.out.on P35).frozen 0
  have b1 : w5.cell? ⟨w2.heap.size, 1, none⟩ = some (.slice A3 n3 c3) := (HOB.out.on P35).cell 1
  have bf1 := (HOB.out.on P35).frozen 1
  have b2 : w5.cell? ⟨w2.heap.size, 2, none⟩ = some (.slice A4 n4 c4) := (HOB.out.on P35).cell 2
  have bf2 := (HOB.out.on P35).frozen 2
  go_wp2_with fail
  refine (textr_any _ _ _ _ _ _ _ _ 200 _ _ ((R3.on B2).on P35) ((R4.on B2).on P35) l3 l4 (by decide) (by decide)).mono ?_
  rintro e w6 ⟨b6, rfl, T6, P6⟩
  rw [HR3.out] at T6
  rw [text_q3 T6]
  go_wp2
  go_ret
  exact ⟨rfl, (PP.trans P35).trans P6⟩
set_option maxHeartbeats 800000 in
theorem rat_same (w : World) (v v' : Value) (r : Rat) (L L' : Nat) (h : IsR w v r L) (k : IsR w v' r L') :
    Calls Try.prog 17 #[v, v'] w fun e w' => e = .returned (.bool true) ∧ On w w' := by
  obtain ⟨A, n, c, xs, A', n', c', ys, rfl, R, R', C, C', h1, h2, h3, h4⟩ := h
  obtain ⟨B, m, d, us, B', m', d', zs, rfl, S, S', D, D', k1, k2, k3, k4⟩ := k
  have B1 := (On.refl w).alloc (.cells #[.bool (decide (r < 0)), .slice A n c, .slice A' n' c'] 24)
  have B2 := B1.alloc (.cells #[.bool (decide (r < 0)), .slice B m d, .slice B' m' d'] 24)
  have HU := Lib.hid (h3.trans k3.symm)
  have HZ := Lib.hid (h4.trans k4.symm)
  have OA := Lib.hid (((Own.new w 24 #[.bool (decide (r < 0)), .slice A n c, .slice A' n' c'])).on ((On.refl _).alloc (.cells #[.bool (decide (r < 0)), .slice B m d, .slice B' m' d'] 24)))
  have OB := Lib.hid (own_nextr w (.cells #[.bool (decide (r < 0)), .slice A n c, .slice A' n' c'] 24) 24 #[.bool (decide (r < 0)), .slice B m d, .slice B' m' d'])
  clear h3 h4 k3 k4
  go_enter Try.func17, Try.ntmps17
  go_wp2_with fail
  refine (words_rd _ _ _ _ _ _ _ _ _ (R.on B2) (S.on B2) C D HU.out).mono ?_
  rintro e w2 ⟨rfl, P2⟩
  have a2 : w2.cell? ⟨w.heap.size, 2, none⟩ = some (.slice A' n' c') := (OA.out.on P2).cell 2
  have b2 : w2.cell? ⟨w.heap.size + 1, 2, none⟩ = some (.slice B' m' d') := (OB.out.on P2).cell 2
  go_wp2_with fail
  refine (words_rd _ _ _ _ _ _ _ _ _ ((R'.on B2).on P2) ((S'.on B2).on P2) C' D' HZ.out).mono ?_
  rintro e w3 ⟨rfl, P3⟩
  go_wp2
  go_ret
  exact ⟨rfl, (B2.trans P2).trans P3⟩
theorem nb_one (v : Nat) : (((nb v : Nat) : Int) == 1) = decide (v = 1) := by
  rw [Bool.eq_iff_iff, decide_eq_true_iff, beq_iff_eq]
  constructor
  · intro h
    have h1 : nb v ≤ 1 := by omega
    have h2 := (nb_le_iff v 1).1 h1
    have h3 : v ≠ 0 := fun e => by have := (nb_zero_iff v).2 e; omega
    omega
  · rintro rfl; rfl
theorem len_or (n : Nat) : (((n : Nat) : Int) == 0) = decide (n = 0) := by
  rw [Bool.eq_iff_iff, decide_eq_true_iff, beq_iff_eq]; omega
set_option maxHeartbeats 800000 in
theorem rvalid_any (w : World) (s : Bool) (A A' : Option Addr) (n c n' c' : Nat) (xs ys : List Nat) (h : Rd w A n c xs) (k : Rd w A' n' c' ys) (hn : n ≤ 5000) (hn' : n' ≤ 5000) :
    Calls Try.prog 16 #[.agg #[.bool s, .slice A n c, .slice A' n' c']] w fun e w' => e = .returned (.bool (fitB s xs ys)) ∧ On w w' := by
  have B := (On.refl w).alloc (.cells #[.bool s, .slice A n c, .slice A' n' c'] 24)
  have h1 := h.on B
  have k1 := k.on B
  by_cases h0 : n = 0 ∨ n' = 0
  · have hf : fitB s xs ys = (decide (n = 0) && decide (n' = 0) && !s) := by
      by_cases e1 : n = 0
      · subst e1
        obtain rfl := List.eq_nil_of_length_eq_zero h.len
        by_cases e2 : n' = 0
        · subst e2
          obtain rfl := List.eq_nil_of_length_eq_zero k.len
          rw [fitB_nil]; simp
        · rw [fitB_no s (fun e => by simp at e) (fun e => by have := k.len; rw [e.2] at this; simp at this; omega)]
          simp [e2]
      · have e2 : n' = 0 := by omega
        subst e2
        obtain rfl := List.eq_nil_of_length_eq_zero k.len
        rw [fitB_no s (fun e => by simp at e) (fun e => by have := h.len; rw [e.1] at this; simp at this; omega)]
        simp [e1]
    have HF := Lib.hid hf
    clear hf
    rcases Nat.eq_zero_or_pos n with e1 | e1
    · subst e1
      rcases Nat.eq_zero_or_pos n' with e2 | e2
      · subst e2
        go_enter Try.func16, Try.ntmps16
        clear h0
        go_wp2
        go_quiet (fail)
        go_wp2
        go_ret
        exact ⟨by rw [HF.out]; first | rfl | simp, B.drewN nq⟩
      · have hb : ((n' : Int) == 0) = false := by simp; omega
        have HF2 := Lib.hid (show fitB s xs ys = false by rw [HF.out]; simp; omega)
        clear h0
        go_enter Try.func16, Try.ntmps16
        go_wp2
        go_quiet (fail)
        go_wp2
        go_ret
        exact ⟨by rw [HF2.out]; rfl, B.drewN nq⟩
    · have e2 : n' = 0 := by omega
      subst e2
      have hb : ((n : Int) == 0) = false := by simp; omega
      have HF2 := Lib.hid (show fitB s xs ys = false by rw [HF.out]; simp; omega)
      clear h0
      go_enter Try.func16, Try.ntmps16
      go_wp2
      go_quiet (fail)
      go_wp2
      go_ret
      exact ⟨by rw [HF2.out]; rfl, B.drewN nq⟩
  · have hx0 : 0 < n := by omega
    have hy0 : 0 < n' := by omega
    have hb0 : ((n : Int) == 0) = false := by simp; omega
    have hb1 : ((n' : Int) == 0) = false := by simp; omega
    clear h0
    have hne : ¬ (xs = [] ∧ ys = []) := fun e => by have := h.len; rw [e.1] at this; simp at this; omega
    obtain ⟨m, rfl⟩ : ∃ m, n = m + 1 := ⟨n - 1, by omega⟩
    obtain ⟨m', rfl⟩ : ∃ m', n' = m' + 1 := ⟨n' - 1, by omega⟩
    obtain ⟨ad, rfl, hb, hc⟩ := h.at_ m (by omega)
    obtain ⟨ad', rfl, hb', hc'⟩ := k.at_ m' (by omega)
    obtain ⟨_, e1, _, hd⟩ := h1.at_ m (by omega)
    obtain rfl := Option.some.inj e1
    obtain ⟨_, e2, _, hd'⟩ := k1.at_ m' (by omega)
    obtain rfl := Option.some.inj e2
    clear hc hc' e1 e2 hb0 hb1
    have hb2 : (((m : Nat) : Int) + 1 == 0) = false := by rw [beq_eq_false_iff_ne]; omega
    have hb3 : (((m' : Nat) : Int) + 1 == 0) = false := by rw [beq_eq_false_iff_ne]; omega
    have i1 : ((m + 1 : Nat) : Int) - 1 = (m : Int) := by omega
    have i2 : ((m' + 1 : Nat) : Int) - 1 = (m' : Int) := by omega
    have hcap := h.cap
    have hmax := h.max
    have hcap' := k.cap
    have hmax' := k.max
    by_cases gx : gw xs m = 0
    · have HF := Lib.hid (fitB_no s (xs := xs) (ys := ys) (fun e => (clean_iff_last xs m h.len).1 e.1.2 gx) hne)
      rw [gx] at hd
      clear hne gx
      go_enter Try.func16, Try.ntmps16
      go_wp2
      go_quiet (fail)
      go_wp2
      go_ret
      exact ⟨by rw [HF.out]; rfl, B.drewN nq⟩
    · have bx : (((gw xs m : Nat) : Int) != 0) = true := by rw [bne_iff_ne]; omega
      by_cases gy : gw ys m' = 0
      · have HF := Lib.hid (fitB_no s (xs := xs) (ys := ys) (fun e => (clean_iff_last ys m' k.len).1 e.2.1.2 gy) hne)
        rw [gy] at hd'
        clear hne gx gy
        go_enter Try.func16, Try.ntmps16
        go_wp2
        go_quiet (fail)
        go_wp2
        go_ret
        exact ⟨by rw [HF.out]; rfl, B.drewN nq⟩
      · have by_ : (((gw ys m' : Nat) : Int) != 0) = true := by rw [bne_iff_ne]; omega
        have hx : 0 < xs.length ∧ Clean xs := ⟨by rw [h.len]; omega, (clean_iff_last xs m h.len).2 gx⟩
        have hy : 0 < ys.length ∧ Clean ys := ⟨by rw [k.len]; omega, (clean_iff_last ys m' k.len).2 gy⟩
        have hfit : fitB s xs ys = decide (Nat.gcd (val xs) (val ys) = 1) := by
          by_cases hg : Nat.gcd (val xs) (val ys) = 1
          · rw [fitB_yes s hx hy hg, decide_eq_true hg]
          · rw [fitB_no s (fun e => hg e.2.2) hne, decide_eq_false hg]
        have HF := Lib.hid hfit
        clear hfit hne hx hy gx gy
        go_enter Try.func16, Try.ntmps16
        go_wp2
        go_quiet (fail)
        go_wp2_with fail
        refine (rgcd_any _ _ _ _ _ _ _ 5000 _ _ (h1.drewN nq) (k1.drewN nq) hn hn' (by decide)).mono ?_
        rintro e w2 ⟨A2, n2, c2, rfl, ⟨gs, RG, CG, VG, LG⟩, P2⟩
        have HG := Lib.hid VG
        clear VG
        go_wp2_with fail
        refine (rbits_any _ _ _ _ _ RG (by omega)).mono ?_
        rintro e w3 ⟨rfl, rfl⟩
        rw [HG.out]
        go_wp2
        go_ret
        exact ⟨by rw [HF.out, ← nb_one]; rfl, (B.drewN nq).trans P2⟩
theorem Nm.wide {w : World} {A : Option Addr} {n c v L M : Nat} (h : Nm w A n c v L) (k : L ≤ M) : Nm w A n c v M := by
  obtain ⟨xs, h1, h2, h3, h4⟩ := h
  exact ⟨xs, h1, h2, h3, Nat.le_trans h4 k⟩
theorem rfrom_zero (w : World) (s : Bool) (A A' : Option Addr) (n c n' c' : Nat) (xs ys : List Nat) (h : Rd w A n c xs) (k : Rd w A' n' c' ys) (hy : val ys = 0) (hn' : n' ≤ 10000) :
    Calls Try.prog 14 #[.bool s, .slice A n c, .slice A' n' c'] w fun e w' => e = .returned (.tuple #[.agg #[.bool false, .slice none 0 0, .slice none 0 0], .int .i64 8]) ∧ On w w' := by
  have B := (On.refl w).alloc (.cells #[.bool false, .slice none 0 0, .slice none 0 0] 24)
  have k1 := k.on B
  have HB := Lib.hid ((nb_zero_iff (val ys)).2 hy)
  clear hy
  go_enter Try.func14, Try.ntmps14
  go_wp2_with fail
  refine (rbits_any _ _ _ _ _ k1 (by omega)).mono ?_
  rintro e w' ⟨rfl, rfl⟩
  rw [HB.out]
  go_wp2
  exact bodyPost_ret (v := .tuple #[.agg #[.bool false, .slice none 0 0, .slice none 0 0], .int .i64 8]) (by simp [results, Try.results14, go_sem]) rfl ⟨rfl, B⟩
set_option maxHeartbeats 800000 in
theorem rfrom_any (w : World) (s : Bool) (A A' : Option Addr) (n c n' c' L : Nat) (xs ys : List Nat) (h : Rd w A n c xs) (k : Rd w A' n' c' ys) (hy : 0 < val ys) (hn : n ≤ L) (hn' : n' ≤ L) (hL2 : 2 ≤ L) (hL : L ≤ 5000) :
    Calls Try.prog 14 #[.bool s, .slice A n c, .slice A' n' c'] w (RatPost2 w (fr s (val xs) (val ys)) L (.int .i64 0)) := by
  have B := (On.refl w).alloc (.cells #[.bool false, .slice none 0 0, .slice none 0 0] 24)
  have O2 := Own.new w 24 #[.bool false, .slice none 0 0, .slice none 0 0]
  have h1 := h.on B
  have k1 := k.on B
  have HO2 := Lib.hid O2
  have hnz : nb (val ys) ≠ 0 := fun e => by have := (nb_zero_iff _).1 e; omega
  have hb1 : (((nb (val ys) : Nat) : Int) == 0) = false := by simp; omega
  have HQ := Lib.hid hy
  clear O2 hnz hy
  rcases Nat.eq_zero_or_pos (val xs) with h0 | h0
  · have HR : Hid (fr s (val xs) (val ys) = 0) := Lib.hid (by rw [h0]; exact fr_zero s _)
    have HB := Lib.hid ((nb_zero_iff (val xs)).2 h0)
    clear h0
    go_enter Try.func14, Try.ntmps14
    go_wp2_with fail
    refine (rbits_any _ _ _ _ _ k1 (by omega)).mono ?_
    rintro e w' ⟨rfl, rfl⟩
    go_wp2_with fail
    refine (rbits_any _ _ _ _ _ h1 (by omega)).mono ?_
    rintro e w' ⟨rfl, rfl⟩
    rw [HB.out]
    go_wp2
    exact bodyPost_ret (v := .tuple #[.agg #[.bool false, .slice none 0 0, .slice none 0 0], .int .i64 0]) (by simp [results, Try.results14, go_sem]) rfl ⟨_, rfl, by rw [HR.out]; exact isR_zero _ _, B⟩
  · have hnz : nb (val xs) ≠ 0 := fun e => by have := (nb_zero_iff _).1 e; omega
    have hb0 : (((nb (val xs) : Nat) : Int) == 0) = false := by simp; omega
    have HP := Lib.hid h0
    clear h0 hnz
    go_enter Try.func14, Try.ntmps14
    go_wp2_with fail
    refine (rbits_any _ _ _ _ _ k1 (by omega)).mono ?_
    rintro e w' ⟨rfl, rfl⟩
    go_wp2_with fail
    refine (rbits_any _ _ _ _ _ h1 (by omega)).mono ?_
    rintro e w' ⟨rfl, rfl⟩
    go_wp2_with fail
    refine (rgcd_any _ _ _ _ _ _ _ L _ _ h1 k1 hn hn' (by omega)).mono ?_
    rintro e w2 ⟨A2, n2, c2, rfl, ⟨gs, RG, CG, VG, LG⟩, P2⟩
    have hgp : 0 < val gs := by rw [VG]; exact Nat.gcd_pos_of_pos_left _ HP.out
    have HG := Lib.hid VG
    have HGP := Lib.hid hgp
    clear VG hgp
    go_wp2_with fail
    refine (rdiv_pos _ _ _ _ _ _ _ _ _ (h1.on P2) RG (by omega) (by omega) HGP.out).mono ?_
    rintro e w3 ⟨A3, n3, c3, A5, n5, c5, rfl, N3, N5, P3⟩
    go_wp2_with fail
    refine (rdiv_pos _ _ _ _ _ _ _ _ _ ((k1.on P2).on P3) (RG.on P3) (by omega) (by omega) HGP.out).mono ?_
    rintro e w4 ⟨A4, n4, c4, A6, n6, c6, rfl, N4, N6, P4⟩
    have P := (B.trans P2).trans (P3.trans P4)
    have O2 := ((HO2.out.on P2).on P3).on P4
    have N3' := Nm.wide (N3.on P4) hn
    have N4' := Nm.wide N4 hn'
    rw [HG.out] at N3' N4'
    clear N3 RG CG N4 N5 N6
    have r0 : w4.cell? ⟨w.heap.size, 0, none⟩ = some (.bool false) := O2.cell 0
    have rf0 := O2.frozen 0
    have r1 : w4.cell? ⟨w.heap.size, 1, none⟩ = some (.slice none 0 0) := O2.cell 1
    have rf1 := O2.frozen 1
    have r2 : w4.cell? ⟨w.heap.size, 2, none⟩ = some (.slice none 0 0) := O2.cell 2
    have rf2 := O2.frozen 2
    go_wp2
    have hon := on3 (g := w.heap.size) P (by omega) (.bool s) (.slice A3 n3 c3) (.slice A4 n4 c4)
    exact bodyPost_ret (v := .tuple #[.agg #[.bool s, .slice A3 n3 c3, .slice A4 n4 c4], .int .i64 0]) (by simp [results, Try.results14, go_sem, r0, r1, r2]) rfl ⟨_, rfl, isR_fr HP.out HQ.out (nm_put N3' O2 _ _ _) (nm_put N4' O2 _ _ _), hon⟩
set_option maxHeartbeats 800000 in
theorem rsize_any (w : World) (x : Int) (h0 : -9223372036854775808 ≤ x) (h1 : x ≤ 9223372036854775807) :
    Calls Try.prog 35 #[.int .i64 x] w (MagPost w x) := by
  by_cases hx : x < 0
  · have e1 : IntKind.u64.wrap x = x + 18446744073709551616 := by rw [IntKind.wrap_u64]; omega
    have e2 : IntKind.u64.wrap (-(x + 18446744073709551616)) = -x := by rw [IntKind.wrap_u64]; omega
    go_enter Try.func35, Try.ntmps35
    obtain ⟨ms, RM, VM⟩ := mag_fin w 53 (-x) (by omega) (by omega)
    have HV := Lib.hid VM
    clear VM
    go_wp2
    go_ret
    exact ⟨_, ms, rfl, RM, by rw [HV.out]; omega, (On.refl w).alloc _⟩
  · go_enter Try.func35, Try.ntmps35
    obtain ⟨ms, RM, VM⟩ := mag_fin w 53 x (by omega) (by omega)
    have HV := Lib.hid VM
    clear VM
    go_wp2
    go_ret
    exact ⟨_, ms, rfl, RM, by rw [HV.out], (On.refl w).alloc _⟩
set_option maxHeartbeats 800000 in
theorem rmake_zero (w : World) (x : Int) (h0 : -9223372036854775808 ≤ x) (h1 : x ≤ 9223372036854775807) :
    Calls Try.prog 12 #[.int .i64 x, .int .i64 0] w fun e w' => e = .returned (.tuple #[.agg #[.bool false, .slice none 0 0, .slice none 0 0], .int .i64 8]) ∧ On w w' := by
  have B := (On.refl w).alloc (.cells #[.bool false, .slice none 0 0, .slice none 0 0] 24)
  have O2 := Own.new w 24 #[.bool false, .slice none 0 0, .slice none 0 0]
  have HO2 := Lib.hid O2
  clear O2
  go_enter Try.func12, Try.ntmps12
  go_wp2_with fail
  refine (rsize_any _ _ h0 h1).mono ?_
  rintro e w2 ⟨A2, xs, rfl, R2, V2, P2⟩
  clear V2
  go_wp2_with fail
  refine (rsize_any _ _ (by decide) (by decide)).mono ?_
  rintro e w3 ⟨A3, ys, rfl, R3, V3, P3⟩
  have HV3 : Hid (val ys = 0) := Lib.hid V3
  clear V3
  go_wp2_with fail
  refine (rfrom_zero _ _ _ _ _ _ _ _ _ _ (R2.on P3) R3 HV3.out (by decide)).mono ?_
  rintro e w4 ⟨rfl, P4⟩
  have O2 := ((HO2.out.on P2).on P3).on P4
  have r0 : w4.cell? ⟨w.heap.size, 0, none⟩ = some (.bool false) := O2.cell 0
  have rf0 := O2.frozen 0
  have r1 : w4.cell? ⟨w.heap.size, 1, none⟩ = some (.slice none 0 0) := O2.cell 1
  have rf1 := O2.frozen 1
  have r2 : w4.cell? ⟨w.heap.size, 2, none⟩ = some (.slice none 0 0) := O2.cell 2
  have rf2 := O2.frozen 2
  clear R2 R3
  go_wp2
  have hon := on3 (g := w.heap.size) (((B.trans P2).trans P3).trans P4) (by omega) (.bool false) (.slice none 0 0) (.slice none 0 0)
  exact bodyPost_ret (v := .tuple #[.agg #[.bool false, .slice none 0 0, .slice none 0 0], .int .i64 8]) (by simp [results, Try.results12, go_sem, r0, r1, r2]) rfl ⟨rfl, hon⟩
set_option maxHeartbeats 800000 in
theorem rmake_any (w : World) (x y : Int) (h0 : -9223372036854775808 ≤ x) (h1 : x ≤ 9223372036854775807) (k0 : -9223372036854775808 ≤ y) (k1 : y ≤ 9223372036854775807) (hy : y ≠ 0) :
    Calls Try.prog 12 #[.int .i64 x, .int .i64 y] w (RatPost2 w (fr (decide (x < 0) != decide (y < 0)) x.natAbs y.natAbs) 2 (.int .i64 0)) := by
  have B := (On.refl w).alloc (.cells #[.bool false, .slice none 0 0, .slice none 0 0] 24)
  have O2 := Own.new w 24 #[.bool false, .slice none 0 0, .slice none 0 0]
  have HO2 := Lib.hid O2
  have HY := Lib.hid hy
  obtain ⟨q, hq⟩ : ∃ q, fr (decide (x < 0) != decide (y < 0)) x.natAbs y.natAbs = q := ⟨_, rfl⟩
  rw [hq]
  have HQ := Lib.hid hq
  clear O2 hy hq
  go_enter Try.func12, Try.ntmps12
  go_wp2_with fail
  refine (rsize_any _ _ h0 h1).mono ?_
  rintro e w2 ⟨A2, xs, rfl, R2, V2, P2⟩
  have HV2 := Lib.hid V2
  clear V2
  go_wp2_with fail
  refine (rsize_any _ _ k0 k1).mono ?_
  rintro e w3 ⟨A3, ys, rfl, R3, V3, P3⟩
  have HV3 := Lib.hid V3
  clear V3
  go_wp2_with fail
  have hy0 : 0 < val ys := by rw [HV3.out]; have := HY.out; omega
  refine (rfrom_any _ _ _ _ _ _ _ _ 2 _ _ (R2.on P3) R3 hy0 (by decide) (by decide) (by decide) (by decide)).mono ?_
  rintro e w4 ⟨v, rfl, I, P4⟩
  rw [HV2.out, HV3.out, not_beq, HQ.out] at I
  have I2 := I
  obtain ⟨A1, n1, c1, xs1, A4, n4, c4, ys1, rfl, _⟩ := I2
  have O2 := ((HO2.out.on P2).on P3).on P4
  have r0 : w4.cell? ⟨w.heap.size, 0, none⟩ = some (.bool false) := O2.cell 0
  have rf0 := O2.frozen 0
  have r1 : w4.cell? ⟨w.heap.size, 1, none⟩ = some (.slice none 0 0) := O2.cell 1
  have rf1 := O2.frozen 1
  have r2 : w4.cell? ⟨w.heap.size, 2, none⟩ = some (.slice none 0 0) := O2.cell 2
  have rf2 := O2.frozen 2
  clear R2 R3
  go_wp2
  have hon := on3 (g := w.heap.size) (((B.trans P2).trans P3).trans P4) (by omega) (.bool (decide (q < 0))) (.slice A1 n1 c1) (.slice A4 n4 c4)
  exact bodyPost_ret (v := .tuple #[.agg #[.bool (decide (q < 0)), .slice A1 n1 c1, .slice A4 n4 c4], .int .i64 0]) (by simp [results, Try.results12, go_sem, r0, r1, r2]) rfl ⟨_, rfl, isR_put I O2 _ _ _, hon⟩
set_option maxHeartbeats 800000 in
theorem rofr_any (w : World) (x : Int) (h0 : -9223372036854775808 ≤ x) (h1 : x ≤ 9223372036854775807) :
    Calls Try.prog 19 #[.int .i64 x] w (RatPost w (x : Rat) 2) := by
  have B := (On.refl w).alloc (.cells #[.bool false, .slice none 0 0, .slice none 0 0] 24)
  have HO2 := Lib.hid (Own.new w 24 #[.bool false, .slice none 0 0, .slice none 0 0])
  obtain ⟨q, hq⟩ : ∃ q, (x : Rat) = q := ⟨_, rfl⟩
  rw [hq]
  have HQ : Hid (fr (decide (x < 0) != decide ((1 : Int) < 0)) x.natAbs (1 : Int).natAbs = q) := Lib.hid (by rw [← hq, ← fr_int x]; simp)
  clear hq
  go_enter Try.func19, Try.ntmps19
  go_wp2_with fail
  refine (rmake_any _ x 1 h0 h1 (by decide) (by decide) (by decide)).mono ?_
  rintro e w4 ⟨v, rfl, I, P4⟩
  rw [HQ.out] at I
  obtain ⟨A1, n1, c1, xs1, A4, n4, c4, ys1, rfl, _⟩ := id I
  have BB4 := (On.refl w4).alloc (.cells #[.bool (decide (q < 0)), .slice A1 n1 c1, .slice A4 n4 c4] 24)
  have O2 := (HO2.out.on P4).on BB4
  have r0 : (w4.alloc (.cells #[.bool (decide (q < 0)), .slice A1 n1 c1, .slice A4 n4 c4] 24)).cell? ⟨w.heap.size, 0, none⟩ = some (.bool false) := O2.cell 0
  have rf0 := O2.frozen 0
  have r1 : (w4.alloc (.cells #[.bool (decide (q < 0)), .slice A1 n1 c1, .slice A4 n4 c4] 24)).cell? ⟨w.heap.size, 1, none⟩ = some (.slice none 0 0) := O2.cell 1
  have rf1 := O2.frozen 1
  have r2 : (w4.alloc (.cells #[.bool (decide (q < 0)), .slice A1 n1 c1, .slice A4 n4 c4] 24)).cell? ⟨w.heap.size, 2, none⟩ = some (.slice none 0 0) := O2.cell 2
  have rf2 := O2.frozen 2
  go_wp2
  have hon := on3 (g := w.heap.size) ((B.trans P4).trans BB4) (by omega) (.bool (decide (q < 0))) (.slice A1 n1 c1) (.slice A4 n4 c4)
  exact bodyPost_ret (v := .agg #[.bool (decide (q < 0)), .slice A1 n1 c1, .slice A4 n4 c4]) (by simp [results, Try.results19, go_sem, r0, r1, r2]) rfl ⟨_, rfl, isR_put (I.on BB4) O2 _ _ _, hon⟩
/-- a block of fractions: the lengths of their lists -/
def RLens (w : World) (g : Nat) (ls : List (Nat × Nat)) : Prop := g < w.heap.size ∧ ∀ i p, ls[i]? = some p → ∃ s A c A' c', w.cell? ⟨g, i * 3, none⟩ = some (.bool s) ∧ w.cell? ⟨g, i * 3 + 1, none⟩ = some (.slice A p.1 c) ∧ w.cell? ⟨g, i * 3 + 2, none⟩ = some (.slice A' p.2 c') ∧ c ≤ 9223372036854775807 ∧ p.1 ≤ c ∧ c' ≤ 9223372036854775807 ∧ p.2 ≤ c'
theorem RLens.on {w w' : World} {g : Nat} {ls : List (Nat × Nat)} (h : RLens w g ls) (k : On w w') : RLens w' g ls := by
  refine ⟨Nat.lt_of_lt_of_le h.1 k.size, fun i p hp => ?_⟩
  obtain ⟨s, A, c, A', c', h1, h2, h3, h4⟩ := h.2 i p hp
  exact ⟨s, A, c, A', c', by rw [Below.cell k (p := ⟨g, i * 3, none⟩) h.1]; exact h1, by rw [Below.cell k (p := ⟨g, i * 3 + 1, none⟩) h.1]; exact h2, by rw [Below.cell k (p := ⟨g, i * 3 + 2, none⟩) h.1]; exact h3, h4⟩
set_option maxHeartbeats 800000 in
theorem rlarge_no (w : World) (g k c : Nat) (ls : List (Nat × Nat)) (h : RLens w g ls) (hk : ls.length = k) (hkb : k ≤ 10) (hc1 : k ≤ c) (hc2 : c ≤ 100) (hno : ∀ p ∈ ls, p.1 ≤ 12 ∧ p.2 ≤ 12) :
    Calls Try.prog 10 #[.slice (some ⟨g, 0, none⟩) k c] w fun e w' => e = .returned (.bool false) ∧ On w w' := by
  have HK := Lib.hid hk
  have HN := Lib.hid hno
  clear hk hno
  go_enter Try.func10, Try.ntmps10
  go_wp2
  go_loopw [7] (fun i wr => ∃ j : Nat, j ≤ k ∧ i = .int .i64 (j : Int) ∧ On w wr) (fun i _ => k - (intOf i).toNat)
  case atStart => exact ⟨0, by omega, rfl, On.refl _⟩
  case round =>
    obtain ⟨j, hj, rfl, hon⟩ := hrel
    by_cases hlt : j < k
    · have hjl : j < ls.length := by rw [HK.out]; exact hlt
      obtain ⟨s, A, c1, A', c2, hc0, hc3, hc4, hm1, hl1, hm2, hl2⟩ := (h.on hon).2 j _ (List.getElem?_eq_getElem hjl)
      have hn := HN.out _ (List.getElem_mem hjl)
      obtain ⟨⟨n, n'⟩, hp⟩ : ∃ p, ls[j] = p := ⟨_, rfl⟩
      rw [hp] at hc3 hc4 hl1 hl2 hn
      clear hp
      go_wp2
      refine ⟨⟨j + 1, by omega, by go_num, hon.alloc _⟩, by first | (simp [intOf]; done) | (simp [intOf]; omega)⟩
    · go_wp2
      go_ret
      exact ⟨rfl, hon⟩
set_option maxHeartbeats 800000 in
theorem rlarge_yes (w : World) (g k c : Nat) (ls : List (Nat × Nat)) (h : RLens w g ls) (hk : ls.length = k) (hkb : k ≤ 10) (hc1 : k ≤ c) (hc2 : c ≤ 100) (m : Nat) (q : Nat × Nat) (hq : ls[m]? = some q) (hyes : 12 < q.1 ∨ 12 < q.2) :
    Calls Try.prog 10 #[.slice (some ⟨g, 0, none⟩) k c] w fun e w' => e = .returned (.bool true) ∧ On w w' := by
  have HK := Lib.hid hk
  have HQ := Lib.hid hq
  have HY := Lib.hid hyes
  have hmk : m < k := by rw [← hk]; exact (List.getElem?_eq_some_iff.1 hq).1
  clear hk hq hyes
  go_enter Try.func10, Try.ntmps10
  go_wp2
  go_loopw [7] (fun i wr => ∃ j : Nat, j ≤ m ∧ i = .int .i64 (j : Int) ∧ On w wr) (fun i _ => k - (intOf i).toNat)
  case atStart => exact ⟨0, by omega, rfl, On.refl _⟩
  case round =>
    obtain ⟨j, hj, rfl, hon⟩ := hrel
    have hjk : j < k := by omega
    have hjl : j < ls.length := by rw [HK.out]; exact hjk
    obtain ⟨s, A, c1, A', c2, hc0, hc3, hc4, hm1, hl1, hm2, hl2⟩ := (h.on hon).2 j _ (List.getElem?_eq_getElem hjl)
    obtain ⟨⟨n, n'⟩, hp⟩ : ∃ p, ls[j] = p := ⟨_, rfl⟩
    have HP := Lib.hid hp
    rw [hp] at hc3 hc4 hl1 hl2
    clear hp
    by_cases b1 : 12 < n
    · go_wp2
      go_ret
      exact ⟨rfl, hon.alloc _⟩
    · by_cases b2 : 12 < n'
      · go_wp2
        go_ret
        exact ⟨rfl, hon.alloc _⟩
      · have hne : j ≠ m := by
          intro e; subst e
          have h1 := HQ.out
          rw [List.getElem?_eq_getElem hjl, HP.out] at h1
          obtain rfl := Option.some.inj h1
          rcases HY.out with h2 | h2
          · exact b1 h2
          · exact b2 h2
        have hjm : j + 1 ≤ m := by omega
        clear hne
        go_wp2
        refine ⟨⟨j + 1, by omega, by go_num, hon.alloc _⟩, by first | (simp [intOf]; done) | (simp [intOf]; omega)⟩
theorem rlens_one (w : World) (g : Nat) (s : Bool) (A A' : Option Addr) (n c n' c' : Nat) (xs ys : List Nat) (h : Rd w A n c xs) (k : Rd w A' n' c' ys) (hg : g < w.heap.size) (h0 : w.cell? ⟨g, 0, none⟩ = some (.bool s)) (h1 : w.cell? ⟨g, 1, none⟩ = some (.slice A n c)) (h2 : w.cell? ⟨g, 2, none⟩ = some (.slice A' n' c')) : RLens w g [(n, n')] := by
  refine ⟨hg, fun i p hp => ?_⟩
  rcases i with _ | i
  · simp at hp; subst hp
    exact ⟨s, A, c, A', c', h0, h1, h2, h.max, h.cap, k.max, k.cap⟩
  · simp at hp
end Num
end Go.Proofs.Ytkpeliokhmigoaa
