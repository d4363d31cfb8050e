/-
  The specification's Power; Power where it refuses.
-/
import Derived.Test.YtgbjbffoanofmaaRmul
import Derived.Test.YtgbjbffoanofmaaPower
namespace Go.Proofs.Ytgbjbffoanofmaa
open Go.RowKit
set_option linter.unusedVariables false
namespace Num
set_option maxHeartbeats 400000 in
theorem power_range (w : World) (A : Option Addr) (n c : Nat) (xs : List Nat) (h : Rd w A n c xs) (x : Int) (hx : x < 0 ∨ 1024 < x) :
    Calls Try.prog 32 #[.slice A n c, .int .i64 x] w fun e w' => e = .returned (.tuple #[.slice none 0 0, .iface 56 (.int .i64 3)]) ∧ w = w' := by
  rcases hx with hx | hx
  · go_enter Try.func32, Try.ntmps32
    go_wp2
    go_ret2
    exact ⟨rfl, rfl⟩
  · have hx2 : ¬ x < 0 := by omega
    go_enter Try.func32, Try.ntmps32
    go_wp2
    go_ret2
    exact ⟨rfl, rfl⟩
set_option maxHeartbeats 400000 in
theorem rpower_range (w : World) (A : Option Addr) (n c : Nat) (xs : List Nat) (h : Rd w A n c xs) (x : Int) (hx : x < 0 ∨ 1024 < x) :
    Calls Try.prog 33 #[.slice A n c, .int .i64 x] w fun e w' => e = .returned (.tuple #[.slice none 0 0, .int .i64 3]) ∧ w = w' := by
  rcases hx with hx | hx
  · go_enter Try.func33, Try.ntmps33
    go_wp2
    go_ret2
    exact ⟨rfl, rfl⟩
  · have hx2 : ¬ x < 0 := by omega
    go_enter Try.func33, Try.ntmps33
    go_wp2
    go_ret2
    exact ⟨rfl, rfl⟩
set_option maxRecDepth 100000 in
set_option maxHeartbeats 1000000 in
theorem rpower_good (w : World) (A : Option Addr) (n c : Nat) (xs : List Nat) (h : Rd w A n c xs) (q : Nat) (hq : q ≤ 1024) (hn : n ≤ 1000) (hb : nb (val xs) * q ≤ 131072) :
    Calls Try.prog 33 #[.slice A n c, .int .i64 (q : Int)] w (Gives2 w (val xs ^ q) 4097 (.int .i64 0)) := by
  have htl : tl xs ≤ 1000 := Nat.le_trans (tl_le xs) (by rw [h.len]; exact hn)
  have HB := Lib.hid hb
  have d1 : decide ((q : Int) < 0) = false := decide_eq_false (by omega)
  have d2 : decide (1024 < (q : Int)) = false := decide_eq_false (by omega)
  obtain ⟨pb, hpb⟩ : ∃ x, nb (val xs) * q = x := ⟨_, rfl⟩
  have hpbl : pb ≤ 131072 := by omega
  have HPB : Hid (((nb (val xs) : Nat) : Int) * (q : Int) = (pb : Int)) := Lib.hid (by rw [← Int.natCast_mul, hpb])
  clear hb hpb
  obtain ⟨bz, hbz⟩ : ∃ x, nb (val xs) = x := ⟨_, rfl⟩
  have hnb : bz ≤ 32000 := by have h1 := nb_len xs h.ok; rw [h.len, hbz] at h1; omega
  rw [hbz] at HPB
  have hpi := HPB.out
  have HBZ := Lib.hid hbz
  have d4 : decide (131072 < (pb : Int)) = false := decide_eq_false (by omega)
  clear hbz
  go_enter Try.func33, Try.ntmps33
  go_wp2_with fail
  refine (rtrim_any _ _ _ _ 1000 _ h htl (by omega)).mono ?_
  rintro e w1 ⟨A1, n1, c1, rfl, ⟨zs, RZ, CZ, VZ, LZ⟩, hon1⟩
  have HVZ := Lib.hid VZ
  have d3 : decide (1024 < (n1 : Int)) = false := decide_eq_false (by omega)
  clear VZ
  go_wp2_with fail
  refine (rbits_any _ _ _ _ _ RZ (by omega)).mono ?_
  rintro e w' ⟨rfl, rfl⟩
  rw [HVZ.out, HBZ.out]
  go_wp2_with fail
  refine (rof_any _ _ (by decide) (by decide)).mono ?_
  rintro e w2 ⟨A2, n2, c2, rfl, ⟨os, RO, CO, VO, LO⟩, hon2⟩
  have HVO := Lib.hid VO
  have RZ2 := RZ.on hon2
  have hon := hon1.trans hon2
  clear VO RZ
  go_wp2
  go_loopw [6, 27] (fun s6 s wr => ∃ (k : Nat) (A3 : Option Addr) (n3 c3 : Nat) (ps : List Nat), k ≤ q ∧ s = .int .i64 (k : Int) ∧ s6 = .slice A3 n3 c3 ∧ Rd wr A3 n3 c3 ps ∧ Clean ps ∧ val ps = val xs ^ k ∧ On w wr ∧ Rd wr A1 n1 c1 zs) (fun _ s _ => q - (intOf s).toNat)
  case atStart => exact ⟨0, A2, n2, c2, os, by omega, rfl, rfl, RO, CO, by rw [HVO.out]; rfl, hon, RZ2⟩
  case round =>
    obtain ⟨k, A3, n3, c3, ps, hk, rfl, rfl, RP, CP, VP, honr, RZ2w⟩ := hrel
    obtain ⟨M, hM⟩ : ∃ M, M = 4097 := ⟨_, rfl⟩
    have hlen := clean_len CP M (by rw [VP]; exact pow_bound _ _ M hM (Nat.le_trans (Nat.mul_le_mul_left _ hk) HB.out))
    rw [hM] at hlen
    rw [RP.len] at hlen
    have HVP := Lib.hid VP
    clear hM M VP
    by_cases hlt : k < q
    · go_wp2_with fail
      refine (rmul_any _ _ _ _ _ _ _ 5097 _ _ RP RZ2w (by omega) (by omega) (by omega)).mono ?_
      rintro e w5 ⟨A5, n5, c5, rfl, ⟨ts, RT, CT, VT, LT⟩, hon5⟩
      have HVT := Lib.hid VT
      clear VT
      go_wp2
      refine ⟨⟨k + 1, A5, n5, c5, ts, by omega, by go_num, rfl, RT, CT, ?_, honr.trans hon5, RZ2w.on hon5⟩, by simp [intOf]; omega⟩
      rw [HVT.out, HVP.out, HVZ.out, Nat.pow_succ]
    · obtain rfl : k = q := by omega
      go_wp2
      go_ret2
      exact ⟨_, _, _, rfl, ⟨ps, RP, CP, HVP.out, hlen⟩, honr⟩
end Num
end Go.Proofs.Ytgbjbffoanofmaa
