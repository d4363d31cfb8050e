/-
  Shift and Power, where they do not refuse.
-/
import Derived.Test.YtnlihfhafnidlaaDiva
namespace Go.Proofs.Ytnlihfhafnidlaa
open Go.RowKit
set_option linter.unusedVariables false
namespace Num
set_option maxHeartbeats 400000 in
theorem shift_up (w : World) (A : Option Addr) (n c : Nat) (xs : List Nat) (h : Rd w A n c xs) (hn : n ≤ 10000) (i : Int) (h0 : 0 ≤ i) (h1 : i ≤ 131072) :
    Calls Try.prog 38 #[.slice A n c, .int .i64 i] w (Gives2 w (val xs * 2 ^ i.toNat) (n + i.toNat / 32 + 1) .nilIface) := by
  have T := h.take (k := tl xs) (by rw [← h.len]; exact tl_le xs)
  have hle : tl xs ≤ n := by rw [← h.len]; exact tl_le xs
  rw [← val_take_tl xs]
  generalize xs.take (tl xs) = zs at *
  have d1 : decide (i < -131072) = false := decide_eq_false (by omega)
  have d2 : decide (131072 < i) = false := decide_eq_false (by omega)
  have d3 : decide (i < 0) = false := decide_eq_false (by omega)
  go_enter Try.func38, Try.ntmps38
  go_wp2_with fail
  refine (trim_any _ _ _ _ _ h).mono ?_
  rintro e w' ⟨rfl, rfl⟩
  generalize tl xs = m at *
  go_wp2_with fail
  refine (shl_any _ _ _ _ _ T (by omega) _ h0 (by omega)).mono ?_
  rintro e w1 ⟨g, cur, ys, rfl, hg, ho, hh, hl, hv, hon⟩
  have R := Rd.own (n := m + i.toNat / 32 + 1) (c := m + i.toNat / 32 + 1) ho hh hl (Nat.le_refl _) (by omega)
  have hb : tl ys ≤ n + i.toNat / 32 + 1 := by have := tl_le ys; omega
  have HV := Lib.hid hv
  clear hl hv ho hh
  go_wp2_with fail
  refine (trim_any _ _ _ _ _ R).mono ?_
  rintro e w' ⟨rfl, rfl⟩
  have hN := nm_trim R (L := n + i.toNat / 32 + 1) hb
  rw [HV.out] at hN
  go_wp2
  go_ret2
  exact ⟨_, _, _, rfl, hN, hon⟩
set_option maxHeartbeats 400000 in
theorem shift_down (w : World) (A : Option Addr) (n c : Nat) (xs : List Nat) (h : Rd w A n c xs) (hn : n ≤ 10000) (i : Int) (h0 : i < 0) (h1 : -131072 ≤ i) :
    Calls Try.prog 38 #[.slice A n c, .int .i64 i] w (Gives2 w (val xs / 2 ^ (-i).toNat) n .nilIface) := by
  have T := h.take (k := tl xs) (by rw [← h.len]; exact tl_le xs)
  have hle : tl xs ≤ n := by rw [← h.len]; exact tl_le xs
  rw [← val_take_tl xs]
  generalize xs.take (tl xs) = zs at *
  have d1 : decide (i < -131072) = false := decide_eq_false (by omega)
  have d2 : decide (131072 < i) = false := decide_eq_false (by omega)
  have d3 : decide (i < 0) = true := decide_eq_true (by omega)
  go_enter Try.func38, Try.ntmps38
  go_wp2_with fail
  refine (trim_any _ _ _ _ _ h).mono ?_
  rintro e w' ⟨rfl, rfl⟩
  generalize tl xs = m at *
  go_wp2_with fail
  refine (shr_any _ _ _ _ _ T (by omega) _ (by omega) (by omega)).mono ?_
  rintro e w1 ⟨A1, n1, c1, rfl, ⟨ys, R, C, V, L⟩, hon⟩
  have HV := Lib.hid V
  clear V
  go_wp2
  go_ret2
  exact ⟨_, _, _, rfl, ⟨ys, R, C, HV.out, by omega⟩, hon⟩
theorem ofInt_i64' (a : Nat) (ha : a < 9223372036854775808) : (BitVec.ofInt 64 (a : Int)).toNat = a := by
  rw [BitVec.ofInt_natCast, BitVec.toNat_ofNat]; exact Nat.mod_eq_of_lt (by omega)
theorem i64_and_one (a : Nat) (ha : a < 9223372036854775808) : bits .and .i64 (a : Int) 1 = ((a % 2 : Nat) : Int) := by
  have e1 := ofInt_i64' a ha
  show IntKind.i64.wrap ((BitVec.ofInt 64 (a : Int) &&& BitVec.ofInt 64 ((1 : Nat) : Int)).toNat : Int) = _
  rw [BitVec.toNat_and, e1, ofInt_i64' 1 (by decide), nat_mask1, IntKind.wrap_i64]
  omega
theorem pow_bound' (v e K M : Nat) (h : nb v * e ≤ K) (hK : K < 32 * M) : v ^ e < BB ^ M := by
  have h1 : v ^ e ≤ (2 ^ nb v) ^ e := Nat.pow_le_pow_left (Nat.le_of_lt (nb_lt v)) e
  rw [← Nat.pow_mul] at h1
  have h2 : 2 ^ (nb v * e) ≤ 2 ^ K := Nat.pow_le_pow_right (by decide) h
  have h3 : (2 : Nat) ^ K < 2 ^ (32 * M) := Nat.pow_lt_pow_right (by decide) hK
  have h4 : BB ^ M = 2 ^ (32 * M) := by rw [show BB = 2 ^ 32 from rfl, ← Nat.pow_mul]
  rw [h4]
  exact Nat.lt_of_le_of_lt (Nat.le_trans h1 h2) h3
theorem pow_bound (v e M : Nat) (hM : M = 4097) (h : nb v * e ≤ 131072) : v ^ e < BB ^ M := pow_bound' v e 131072 M h (by omega)
theorem nb_len (l : List Nat) (ok : Ok l) : nb (val l) ≤ 32 * l.length := by
  rw [nb_le_iff, Nat.pow_mul]
  exact val_lt ok
theorem pow_half (v n k : Nat) : v ^ (n / 2 ^ k) = (if n / 2 ^ k % 2 = 1 then v ^ (n / 2 ^ (k + 1)) * v ^ (n / 2 ^ (k + 1)) * v else v ^ (n / 2 ^ (k + 1)) * v ^ (n / 2 ^ (k + 1))) := by
  have h1 : n / 2 ^ (k + 1) = n / 2 ^ k / 2 := by rw [Nat.pow_succ, Nat.div_div_eq_div_mul]
  rw [h1]
  generalize n / 2 ^ k = x
  split
  · rename_i hx
    rw [← Nat.pow_add, ← Nat.pow_succ]; congr 1; omega
  · rename_i hx
    rw [← Nat.pow_add]; congr 1; omega
set_option maxRecDepth 100000 in
set_option maxHeartbeats 1000000 in
theorem power_good (w : World) (A : Option Addr) (n c : Nat) (xs : List Nat) (h : Rd w A n c xs) (q : Nat) (hq : q ≤ 1024) (hl : tl xs ≤ 1024) (hn : n ≤ 10000) (hb : nb (val xs) * q ≤ 131072) :
    Calls Try.prog 32 #[.slice A n c, .int .i64 (q : Int)] w (Gives2 w (val xs ^ q) 4097 .nilIface) := by
  have T := h.take (k := tl xs) (by rw [← h.len]; exact tl_le xs)
  have C := clean_take xs
  rw [← val_take_tl xs] at hb ⊢
  generalize xs.take (tl xs) = zs at *
  have HB := Lib.hid hb
  have hnb : nb (val zs) ≤ 32768 := by have h1 := nb_len zs T.ok; rw [T.len] at h1; omega
  have d1 : decide ((q : Int) < 0) = false := decide_eq_false (by omega)
  have d2 : decide (1024 < (q : Int)) = false := decide_eq_false (by omega)
  have hqn : nb q ≤ 11 := (nb_le_iff q 11).2 (by omega)
  have HQB := Lib.hid (bitLen_nb q (by omega))
  have HQ0 : Hid (q / 2 ^ nb q = 0) := Lib.hid (Nat.div_eq_of_lt (nb_lt q))
  obtain ⟨pb, hpb⟩ : ∃ x, nb (val zs) * q = x := ⟨_, rfl⟩
  have hpbl : pb ≤ 131072 := by omega
  have HPB : Hid (((nb (val zs) : Nat) : Int) * (q : Int) = (pb : Int)) := Lib.hid (by rw [← Int.natCast_mul, hpb])
  clear hb hpb
  obtain ⟨bz, hbz⟩ : ∃ x, nb (val zs) = x := ⟨_, rfl⟩
  rw [hbz] at hnb HPB
  have hpi := HPB.out
  have HBZ := Lib.hid hbz
  clear hbz
  go_enter Try.func32, Try.ntmps32
  go_wp2_with fail
  refine (trim_any _ _ _ _ _ h).mono ?_
  rintro e w' ⟨rfl, rfl⟩
  generalize tl xs = m at *
  have d3 : decide (1024 < (m : Int)) = false := decide_eq_false (by omega)
  go_wp2_with fail
  refine (bits_any _ _ _ _ _ T (by omega)).mono ?_
  rintro e w' ⟨rfl, rfl⟩
  rw [HBZ.out]
  have d4 : decide (131072 < (pb : Int)) = false := decide_eq_false (by omega)
  go_wp2_with fail
  refine (Try.bits_Len ((q : Nat) : Int) _ (by omega) (by omega)).mono ?_
  rintro e w' ⟨rfl, hw⟩
  rw [hw, Int.toNat_natCast, HQB.out]
  clear hw w'
  have R1 : Rd (w.alloc (.cells #[.int .u32 1] 30)) (some ⟨w.heap.size, 0, none⟩) 1 1 [1] := rd_one w 30 1 (by decide)
  have O1 : On w (w.alloc (.cells #[.int .u32 1] 30)) := (On.refl w).alloc _
  obtain ⟨kq, hkq⟩ : ∃ x, nb q = x := ⟨_, rfl⟩
  rw [hkq] at hqn HQ0 ⊢
  clear hkq
  go_wp2
  go_loopw [6, 7] (fun s6 s7 wr => ∃ (k : Nat) (A1 : Option Addr) (n1 c1 : Nat) (ps : List Nat), k ≤ kq ∧ s7 = .int .i64 ((k : Int) - 1) ∧ s6 = .slice A1 n1 c1 ∧ Rd wr A1 n1 c1 ps ∧ Clean ps ∧ val ps = val zs ^ (q / 2 ^ k) ∧ On w wr) (fun _ s7 _ => (intOf s7 + 1).toNat)
  case atStart => exact ⟨kq, _, _, _, [1], Nat.le_refl _, rfl, rfl, R1, rfl, by rw [HQ0.out]; rfl, O1⟩
  case round =>
    obtain ⟨k, A1, n1, c1, ps, hk, rfl, rfl, RP, CP, VP, hon⟩ := hrel
    have HVP := Lib.hid VP
    obtain ⟨M, hM⟩ : ∃ M, M = 4097 := ⟨_, rfl⟩
    have hlen := clean_len CP M (by rw [VP]; exact pow_bound _ _ M hM (Nat.le_trans (Nat.mul_le_mul_left _ (Nat.div_le_self _ _)) HB.out))
    rw [hM] at hlen
    have htp : tl ps ≤ 4097 := Nat.le_trans (tl_le _) hlen
    rw [RP.len] at hlen
    clear hM M
    clear VP
    rcases k with _ | j
    · go_wp2
      go_ret2
      exact ⟨_, _, _, rfl, ⟨ps, RP, CP, by rw [HVP.out, Nat.pow_zero, Nat.div_one], hlen⟩, hon⟩
    · rw [show ((j + 1 : Nat) : Int) - 1 = (j : Int) from by omega]
      have hHF := Lib.hid (pow_half (val zs) q j)
      have HA := i64_and_one (q / 2 ^ j) (Nat.lt_of_le_of_lt (Nat.div_le_self _ _) (by omega))
      rw [show ((q / 2 ^ j : Nat) : Int) = (q : Int) / 2 ^ j from by rw [Int.natCast_ediv, Int.natCast_pow]; rfl] at HA
      have hj11 : j ≤ 10 := by omega
      have hmb : q / 2 ^ j % 2 < 2 := Nat.mod_lt _ (by decide)
      by_cases hbit : q / 2 ^ j % 2 = 1
      · have HBT := Lib.hid hbit
        rw [hbit] at HA
        clear hbit hmb
        go_wp2_with fail
        refine (mul_any _ _ _ _ _ _ _ 4097 4097 _ _ RP RP htp htp (by decide) (by decide)).mono ?_
        rintro e w2 ⟨A2, n2, c2, rfl, ⟨ss, RS, CS, VS, LS⟩, hon2⟩
        have HVS := Lib.hid VS
        have hts : tl ss ≤ 8194 := Nat.le_trans (tl_le _) (by rw [RS.len]; omega)
        clear VS
        go_wp2_with fail
        refine (mul_any _ _ _ _ _ _ _ 8194 1024 _ _ RS ((T.on hon).on hon2) hts (Nat.le_trans (tl_le _) (by rw [T.len]; omega)) (by decide) (by decide)).mono ?_
        rintro e w3 ⟨A3, n3, c3, rfl, ⟨ts, RT, CT, VT, LT⟩, hon3⟩
        have HVT := Lib.hid VT
        clear VT
        go_wp2
        refine ⟨⟨j, A3, n3, c3, ts, by omega, rfl, rfl, RT, CT, ?_, (hon.trans hon2).trans hon3⟩, by simp [intOf]⟩
        rw [hHF.out, if_pos HBT.out, HVT.out, HVS.out, HVP.out]
      · have hb0 : q / 2 ^ j % 2 = 0 := by omega
        have HBT := Lib.hid hbit
        rw [hb0] at HA
        clear hbit hmb hb0
        go_wp2_with fail
        refine (mul_any _ _ _ _ _ _ _ 4097 4097 _ _ RP RP htp htp (by decide) (by decide)).mono ?_
        rintro e w2 ⟨A2, n2, c2, rfl, ⟨ss, RS, CS, VS, LS⟩, hon2⟩
        have HVS := Lib.hid VS
        clear VS
        go_wp2
        refine ⟨⟨j, A2, n2, c2, ss, by omega, rfl, rfl, RS, CS, ?_, hon.trans hon2⟩, by simp [intOf]⟩
        rw [hHF.out, if_neg HBT.out, HVS.out, HVP.out]
end Num
end Go.Proofs.Ytnlihfhafnidlaa
