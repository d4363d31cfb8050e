/-
  estimate: the digit, or the digit and one.
-/
import Derived.Test.YtkpeliokhmigoaaBase
import Derived.Test.YtkpeliokhmigoaaLead
namespace Go.Proofs.Ytkpeliokhmigoaa
open Go.RowKit
set_option linter.unusedVariables false
namespace Num
theorem est_back (d q r t : Nat) (hd : 1 ≤ d) (h : d * q + r = t) : (d - 1) * q + (r + q) = t := by
  obtain ⟨g, rfl⟩ : ∃ x, d = x + 1 := ⟨d - 1, by omega⟩
  rw [Nat.add_mul, Nat.one_mul] at h
  rw [Nat.add_sub_cancel]
  omega
theorem pred_val (d : Nat) (hd : 1 ≤ d) : Value.int .u64 ((d : Int) - 1) = Value.int .u64 ((d - 1 : Nat) : Int) := by
  rw [show ((d - 1 : Nat) : Int) = (d : Int) - 1 from by omega]
theorem guess_nat (t q1 : Nat) (hq : 0 < q1) : ∃ d r, min (t / q1) 4294967295 = d ∧ d * q1 + r = t ∧ d < 4294967296 ∧ ∀ Q, Q ≤ t / q1 → Q < 4294967296 → Q ≤ d := by
  have h := (Nat.le_div_iff_mul_le hq).1 (Nat.min_le_left (t / q1) 4294967295)
  obtain ⟨r, hr⟩ := Nat.le.dest h
  generalize t / q1 = x at *
  exact ⟨min x 4294967295, r, rfl, hr, by omega, fun Q h1 h2 => by omega⟩
theorem guess_int (p0 p1 q1 : Nat) (hp0 : p0 < 4294967296) (hp1 : p1 < 4294967296) (hq1 : q1 < 4294967296) (hq : 0 < q1) : ∃ d r : Nat, min (((p0 : Int) * 4294967296 + (p1 : Int)) / (q1 : Int)) 4294967295 = (d : Int) ∧
    IntKind.u64.wrap ((p0 : Int) * 4294967296 + (p1 : Int) - IntKind.u64.wrap ((d : Int) * (q1 : Int))) = (r : Int) ∧ d * q1 + r = p0 * 4294967296 + p1 ∧ d < 4294967296 ∧ r ≤ 18446744073709551615 ∧ ∀ Q, Q ≤ (p0 * 4294967296 + p1) / q1 → Q < 4294967296 → Q ≤ d := by
  obtain ⟨t, ht⟩ : ∃ t, p0 * 4294967296 + p1 = t := ⟨_, rfl⟩
  have ht2 : (p0 : Int) * 4294967296 + (p1 : Int) = (t : Int) := by omega
  have ht3 : t ≤ 18446744073709551615 := by omega
  rw [ht2, ht]
  obtain ⟨d, r, e1, e2, e3, e4⟩ := guess_nat t q1 hq
  refine ⟨d, r, ?_, ?_, e2, e3, by omega, e4⟩
  · rw [← e1, ← Int.natCast_ediv]
    generalize t / q1 = x at *
    omega
  · rw [mul_wrap d q1 e3 hq1]
    generalize d * q1 = y at *
    rw [IntWalk.u64_in _ (by omega)]
    omega
set_option maxRecDepth 100000 in
set_option maxHeartbeats 1000000 in
theorem est_any (w : World) (A A' : Option Addr) (c c' m : Nat) (us vs : List Nat) (hu : Rd w A (m + 3) c us) (hv : Rd w A' (m + 2) c' vs) (hm : m ≤ 100000) (htop : 2147483648 ≤ gw vs (m + 1)) (hlt : val us < val vs * BB) :
    Calls Try.prog 105 #[.slice A (m + 3) c, .slice A' (m + 2) c'] w fun e w' => ∃ d, e = .returned (.int .u32 ((d : Nat) : Int)) ∧ IsEst (val us) (val vs) d ∧ d < 4294967296 ∧ On w w' := by
  obtain ⟨au, rfl, hbu, u0⟩ := hu.at_ (m + 2) (by omega)
  obtain ⟨au', e1, _, u1⟩ := hu.at_ (m + 1) (by omega)
  injection e1 with e1; subst e1
  obtain ⟨au', e1, _, u2⟩ := hu.at_ m (by omega)
  injection e1 with e1; subst e1
  obtain ⟨av, rfl, hbv, v1⟩ := hv.at_ (m + 1) (by omega)
  obtain ⟨av', e1, _, v2⟩ := hv.at_ m (by omega)
  injection e1 with e1; subst e1
  have b0 := hu.ok.get (m + 2)
  have b1 := hu.ok.get (m + 1)
  have b2 := hu.ok.get m
  have d1 := hv.ok.get (m + 1)
  have d2 := hv.ok.get m
  have HLD := Lib.hid (lead_of us vs hu.ok hv.ok m hu.len hv.len (by omega) hlt)
  have hc1 := hu.cap
  have hc2 := hv.cap
  have hm1 := hu.max
  have hm2 := hv.max
  have hor := or64' (gw us (m + 2)) (gw us (m + 1)) b0 b1
  have hd0 : 0 < gw vs (m + 1) := by omega
  clear hu hv hlt
  generalize gw us (m + 2) = p0 at *
  generalize gw us (m + 1) = p1 at *
  generalize gw us m = p2 at *
  generalize gw vs (m + 1) = q1 at *
  generalize gw vs m = q2 at *
  obtain ⟨N, hN⟩ : ∃ N, m + 2 = N := ⟨_, rfl⟩
  obtain ⟨N1, hN1⟩ : ∃ N, m + 3 = N := ⟨_, rfl⟩
  obtain ⟨M1, hM1⟩ : ∃ N, m + 1 = N := ⟨_, rfl⟩
  have w1 : IntKind.i64.wrap ((N : Int) - 1) = (M1 : Int) := by rw [IntWalk.i64_in _ (by omega)]; omega
  have w2 : IntKind.i64.wrap ((N : Int) - 2) = (m : Int) := by rw [IntWalk.i64_in _ (by omega)]; omega
  have i1 : M1 < N := by omega
  have i2 : m < N := by omega
  have i3 : N < N1 := by omega
  have i4 : M1 < N1 := by omega
  have i5 : m < N1 := by omega
  have i6 : N ≤ 100002 := by omega
  rw [hN] at u0
  rw [hM1] at u1 v1
  rw [hN1, hN]
  rw [hN1] at hc1
  rw [hN] at hc2
  clear hN hN1 hM1
  go_enter Try.func105, Try.ntmps105
  go_wp2
  go_quiet (fail)
  go_wp2
  go_quiet (fail)
  go_wp2
  have hon : On w (w.drewN (nq)) := (On.refl w).drewN _
  obtain ⟨d0, r0, c1, c3, hdr, hdB, hrB, hfirst⟩ := guess_int p0 p1 q1 b0 b1 d1 hd0
  rw [c1, c3]
  have HD0 : Hid (val us / val vs ≤ d0) := Lib.hid (hfirst _ (lead_first HLD.out BB_pos b2 hd0) (lead_lt HLD.out))
  have HDR := Lib.hid hdr
  clear c1 c3 hdr hfirst hor
  have hmul := fun x (hx : x < 4294967296) => mul_wrap x q2 hx d2
  have HMU := Lib.hid hmul
  clear hmul
  go_loopg [9, 10] d0 (fun d s9 s10 wr => ∃ r : Nat, s9 = .int .u64 (d : Int) ∧ s10 = .int .u64 (r : Int) ∧ val us / val vs ≤ d ∧ d < 4294967296 ∧ r ≤ 18446744073709551615 ∧ d * q1 + r = p0 * 4294967296 + p1 ∧ On w wr)
  case atStart => exact ⟨r0, rfl, rfl, HD0.out, hdB, hrB, HDR.out, (On.refl w).drewN _⟩
  case round =>
    obtain ⟨r, rfl, rfl, hq, hd, hr, hdr, hon⟩ := hrel
    have HQ := Lib.hid hq
    have HR := Lib.hid hdr
    clear hq hdr
    have u3 : wr.cell? (au.add m) = some (.int .u32 (p2 : Int)) := (Below.cell hon (by rw [block_of_add]; exact hbu)).trans u2
    by_cases h1 : r < 4294967296
    · obtain ⟨pq, hpq⟩ : ∃ x, gk * q2 = x := ⟨_, rfl⟩
      obtain ⟨rp, hrp⟩ : ∃ x, r * 4294967296 + p2 = x := ⟨_, rfl⟩
      have hor := or64' r p2 h1 b2
      have hmb := mul_bound gk q2 hd d2
      have HM := HMU.out gk hd
      rw [hrp] at hor
      rw [hpq] at hmb HM
      have h1i : (r : Int) ≤ 4294967295 := by omega
      have hdec : decide ((r : Int) < 4294967296) = true := decide_eq_true (by omega)
      by_cases h2 : rp < pq
      · have hst := lead_step HLD.out HQ.out HR.out (by rw [BB_eq, hrp, hpq]; exact h2)
        have HST := Lib.hid hst
        have hd1 : 1 ≤ gk := Nat.le_trans (Nat.le_add_left 1 _) hst
        have HRP := Lib.hid hrp
        have HPQ := Lib.hid hpq
        have e9 : Value.int .u64 ((gk : Int) - 1) = Value.int .u64 ((gk - 1 : Nat) : Int) := pred_val gk hd1
        have e10 : (gk - 1) * q1 + (r + q1) = p0 * 4294967296 + p1 := est_back _ _ _ _ hd1 HR.out
        have E10 := Lib.hid e10
        have E9 := Lib.hid e9
        have hrq : r + q1 ≤ 18446744073709551615 := by omega
        have HRQ := Lib.hid hrq
        clear hst hrp hpq hr h1 e9 e10 hrq
        go_wp2
        go_roundg (gk - 1)
        case measure => omega
        case rel =>
          have := HST.out
          exact ⟨r + q1, E9.out, by rw [Int.natCast_add], by omega, by omega, HRQ.out, E10.out, hon⟩
      · have hend := lead_end1 HLD.out hd0 HQ.out hd HR.out (by rw [BB_eq, hrp, hpq]; omega)
        have HEND := Lib.hid hend
        clear hend hrp hpq hr h1
        go_wp2
        go_ret
        exact ⟨gk, rfl, HEND.out, hd, hon⟩
    · have hend := lead_end2 HLD.out BB_pos d2 HQ.out hd HR.out (by rw [BB_eq]; omega)
      have HEND := Lib.hid hend
      have hdec : decide ((r : Int) < 4294967296) = false := decide_eq_false (by omega)
      clear hend hr h1
      go_wp2
      go_ret
      exact ⟨gk, rfl, HEND.out, hd, hon⟩
end Num
end Go.Proofs.Ytkpeliokhmigoaa
