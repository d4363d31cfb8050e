/-
  The statement NaturalDivides, walked: a is quotient times b plus the remainder, which is less than b.
-/
import Derived.Test.YtgbjbffoanofmaaDiva
namespace Go.Proofs.Ytgbjbffoanofmaa
open Go.RowKit
set_option linter.unusedVariables false
namespace Num
theorem is_err (w : World) (x : Int) : Calls Try.prog 47 #[.iface 56 (.int .i64 x), .int .i64 x] w fun e w' => e = .returned (.bool true) ∧ w = w' := by
  have hta : ∀ W, (Instr.typeAssert (.iface 56 (.int .i64 x)) 34 56 true).run Try.prog W = .ok (.tuple #[.int .i64 x, .bool true]) W := fun _ => by kernel_rfl
  go_enter Try.func47, Try.ntmps47
  go_wp2
  go_ret
  exact ⟨rfl, rfl⟩
theorem nm_zero_div (a b : Nat) (h : 0 < b) : a / b * b + a % b = a := by rw [Nat.mul_comm]; exact Nat.div_add_mod a b
set_option maxRecDepth 100000 in
set_option maxHeartbeats 4000000 in
theorem divides_zero (w : World) (Aa : Option Addr) (na ca : Nat) (xa : List Nat) (Ab : Option Addr) (nb cb : Nat) (xb : List Nat)  (Ra : Rd w Aa na ca xa) (Rb : Rd w Ab nb cb xb) (hz : val xb = 0) :
    Calls Try.prog 10 #[.slice Aa na ca, .slice Ab nb cb] w fun e w' => e = .returned (.bool true) ∧ On w w' := by
  have O := On.refl w
  have hca := Ra.cap
  have hma := Ra.max
  have hcb := Rb.cap
  have hmb := Rb.max
  rcases some_large [na, nb] 2 with hl | ⟨m, hm, hl⟩
  rotate_left
  · have HL := Lib.hid hl
    clear hl
    go_enter Try.func10, Try.ntmps10
    go_wp2_with fail
    refine (awake_any _).mono ?_
    rintro e w1 ⟨rfl, P1⟩
    go_wp2_with fail
    have LE := lens_two w1 22 Aa Ab na ca nb cb hca hma hcb hmb
    have P2 := (On.refl w1).alloc (.cells #[.slice Aa na ca, .slice Ab nb cb] 22)
    refine (large_yes _ _ _ _ _ LE rfl (by simp) m hm HL.out).mono ?_
    rintro e w' ⟨rfl, rfl⟩
    go_wp2_with fail
    refine (awake_any _).mono ?_
    rintro e w3 ⟨rfl, P3⟩
    go_wp2
    go_ret
    exact ⟨rfl, (P1.trans P2).trans P3⟩
  have hna : na ≤ 40 := hl 0 (by decide)
  have hnb : nb ≤ 40 := hl 1 (by decide)
  have HL := Lib.hid hl
  clear hl
  have Ta : tl xa ≤ 40 := Nat.le_trans (tl_le _) (by rw [Ra.len]; omega)
  have Tb : tl xb ≤ 40 := Nat.le_trans (tl_le _) (by rw [Rb.len]; omega)
  have HZ := Lib.hid hz
  clear hz
  go_enter Try.func10, Try.ntmps10
  go_wp2_with fail
  refine (awake_any _).mono ?_
  rintro e w1 ⟨rfl, P1⟩
  replace Ra := Ra.on P1
  replace Rb := Rb.on P1
  replace O := O.trans P1
  clear P1
  go_wp2_with fail
  have LE := lens_two w1 22 Aa Ab na ca nb cb hca hma hcb hmb
  have P2 := (On.refl w1).alloc (.cells #[.slice Aa na ca, .slice Ab nb cb] 22)
  refine (large_no _ _ _ _ _ LE rfl (by simp) HL.out).mono ?_
  rintro e w' ⟨rfl, rfl⟩
  replace Ra := Ra.on P2
  replace Rb := Rb.on P2
  replace O := O.trans P2
  clear P2
  clear HL LE
  go_wp2_with fail
  refine (div_zero _ _ _ _ _ _ _ _ _ Ra Rb (tl_zero_of_val HZ.out)).mono ?_
  rintro e w' ⟨rfl, rfl⟩
  go_wp2_with fail
  refine (cmp_same _ _ _ _ _ _ _ _ _ Rb Rd.nil_ (by rw [HZ.out]; rfl)).mono ?_
  rintro e v1 ⟨rfl, P1⟩
  replace Ra := Ra.on P1
  replace Rb := Rb.on P1
  replace O := O.trans P1
  clear P1
  go_wp2_with fail
  refine (is_err _ _).mono ?_
  rintro e w' ⟨rfl, rfl⟩
  go_wp2
  go_ret
  exact ⟨rfl, O⟩
set_option maxRecDepth 100000 in
set_option maxHeartbeats 4000000 in
theorem divides_pos (w : World) (Aa : Option Addr) (na ca : Nat) (xa : List Nat) (Ab : Option Addr) (nb cb : Nat) (xb : List Nat)  (Ra : Rd w Aa na ca xa) (Rb : Rd w Ab nb cb xb) (hp : 0 < val xb) :
    Calls Try.prog 10 #[.slice Aa na ca, .slice Ab nb cb] w fun e w' => e = .returned (.bool true) ∧ On w w' := by
  have O := On.refl w
  have hca := Ra.cap
  have hma := Ra.max
  have hcb := Rb.cap
  have hmb := Rb.max
  rcases some_large [na, nb] 2 with hl | ⟨m, hm, hl⟩
  rotate_left
  · have HL := Lib.hid hl
    clear hl
    go_enter Try.func10, Try.ntmps10
    go_wp2_with fail
    refine (awake_any _).mono ?_
    rintro e w1 ⟨rfl, P1⟩
    go_wp2_with fail
    have LE := lens_two w1 22 Aa Ab na ca nb cb hca hma hcb hmb
    have P2 := (On.refl w1).alloc (.cells #[.slice Aa na ca, .slice Ab nb cb] 22)
    refine (large_yes _ _ _ _ _ LE rfl (by simp) m hm HL.out).mono ?_
    rintro e w' ⟨rfl, rfl⟩
    go_wp2_with fail
    refine (awake_any _).mono ?_
    rintro e w3 ⟨rfl, P3⟩
    go_wp2
    go_ret
    exact ⟨rfl, (P1.trans P2).trans P3⟩
  have hna : na ≤ 40 := hl 0 (by decide)
  have hnb : nb ≤ 40 := hl 1 (by decide)
  have HL := Lib.hid hl
  clear hl
  have Ta : tl xa ≤ 40 := Nat.le_trans (tl_le _) (by rw [Ra.len]; omega)
  have Tb : tl xb ≤ 40 := Nat.le_trans (tl_le _) (by rw [Rb.len]; omega)
  have HP := Lib.hid hp
  clear hp
  go_enter Try.func10, Try.ntmps10
  go_wp2_with fail
  refine (awake_any _).mono ?_
  rintro e w1 ⟨rfl, P1⟩
  replace Ra := Ra.on P1
  replace Rb := Rb.on P1
  replace O := O.trans P1
  clear P1
  go_wp2_with fail
  have LE := lens_two w1 22 Aa Ab na ca nb cb hca hma hcb hmb
  have P2 := (On.refl w1).alloc (.cells #[.slice Aa na ca, .slice Ab nb cb] 22)
  refine (large_no _ _ _ _ _ LE rfl (by simp) HL.out).mono ?_
  rintro e w' ⟨rfl, rfl⟩
  replace Ra := Ra.on P2
  replace Rb := Rb.on P2
  replace O := O.trans P2
  clear P2
  clear HL LE
  go_wp2_with fail
  refine (div_any _ _ _ _ _ _ _ 40 40 _ _ Ra Rb HP.out (by omega) Ta Tb (by decide)).mono ?_
  rintro e v1 ⟨Aq, nq, cq, Ar, nr, cr, rfl, ⟨xq, Rq, Cq, Vq, Lq⟩, ⟨xr, Rr, Cr, Vr, Lr⟩, P1⟩
  have Tq : tl xq ≤ 40 := Nat.le_trans (tl_le _) (by rw [Rq.len]; omega)
  have Hq := Lib.hid Vq
  clear Vq
  have Tr : tl xr ≤ 40 := Nat.le_trans (tl_le _) (by rw [Rr.len]; omega)
  have Hr := Lib.hid Vr
  clear Vr
  replace Ra := Ra.on P1
  replace Rb := Rb.on P1
  replace O := O.trans P1
  clear P1
  have HCB := Lib.hid (cmpI_gt (show val [] < val xb from HP.out))
  go_wp2_with fail
  refine (cmp_any _ _ _ _ _ _ _ _ _ Rb Rd.nil_).mono ?_
  rintro e v2 ⟨rfl, P2⟩
  rw [HCB.out]
  replace Ra := Ra.on P2
  replace Rb := Rb.on P2
  replace Rq := Rq.on P2
  replace Rr := Rr.on P2
  replace O := O.trans P2
  clear P2
  go_wp2_with fail
  refine (clean_rd _ _ _ _ _ Rq Cq).mono ?_
  rintro e v3 ⟨rfl, P3⟩
  replace Ra := Ra.on P3
  replace Rb := Rb.on P3
  replace Rq := Rq.on P3
  replace Rr := Rr.on P3
  replace O := O.trans P3
  clear P3
  go_wp2_with fail
  refine (clean_rd _ _ _ _ _ Rr Cr).mono ?_
  rintro e v4 ⟨rfl, P4⟩
  replace Ra := Ra.on P4
  replace Rb := Rb.on P4
  replace Rq := Rq.on P4
  replace Rr := Rr.on P4
  replace O := O.trans P4
  clear P4
  have HCR := Lib.hid (cmpI_lt (show val xr < val xb by rw [Hr.out]; exact Nat.mod_lt _ HP.out))
  go_wp2_with fail
  refine (cmp_any _ _ _ _ _ _ _ _ _ Rr Rb).mono ?_
  rintro e v5 ⟨rfl, P5⟩
  rw [HCR.out]
  replace Ra := Ra.on P5
  replace Rb := Rb.on P5
  replace Rq := Rq.on P5
  replace Rr := Rr.on P5
  replace O := O.trans P5
  clear P5
  go_wp2_with fail
  refine (mul_any _ _ _ _ _ _ _ 40 40 _ _ Rq Rb Tq Tb (by decide) (by decide)).mono ?_
  rintro e v6 ⟨Ap, np, cp, rfl, ⟨xp, Rp, Cp, Vp, Lp⟩, P6⟩
  have Tp : tl xp ≤ 80 := Nat.le_trans (tl_le _) (by rw [Rp.len]; omega)
  have Hp := Lib.hid Vp
  clear Vp
  replace Ra := Ra.on P6
  replace Rb := Rb.on P6
  replace Rq := Rq.on P6
  replace Rr := Rr.on P6
  replace O := O.trans P6
  clear P6
  go_wp2_with fail
  refine (add_any _ _ _ _ _ _ _ 80 _ _ Rp Rr (by omega) (by omega) (by decide)).mono ?_
  rintro e v7 ⟨As, ns, cs, rfl, ⟨xs, Rs, Cs, Vs, Ls⟩, P7⟩
  have Ts : tl xs ≤ 81 := Nat.le_trans (tl_le _) (by rw [Rs.len]; omega)
  have Hs := Lib.hid Vs
  clear Vs
  replace Ra := Ra.on P7
  replace Rb := Rb.on P7
  replace Rq := Rq.on P7
  replace Rr := Rr.on P7
  replace Rp := Rp.on P7
  replace O := O.trans P7
  clear P7
  go_wp2_with fail
  refine (cmp_same _ _ _ _ _ _ _ _ _ Rs Ra (by rw [Hs.out, Hp.out, Hq.out, Hr.out]; exact nm_zero_div _ _ HP.out)).mono ?_
  rintro e v8 ⟨rfl, P8⟩
  replace Ra := Ra.on P8
  replace Rb := Rb.on P8
  replace Rq := Rq.on P8
  replace Rr := Rr.on P8
  replace Rp := Rp.on P8
  replace Rs := Rs.on P8
  replace O := O.trans P8
  clear P8
  go_wp2
  go_ret
  exact ⟨rfl, O⟩
theorem divides_any (w : World) (Aa : Option Addr) (na ca : Nat) (xa : List Nat) (Ab : Option Addr) (nb cb : Nat) (xb : List Nat) (Ra : Rd w Aa na ca xa) (Rb : Rd w Ab nb cb xb) :
    Calls Try.prog 10 #[.slice Aa na ca, .slice Ab nb cb] w fun e w' => e = .returned (.bool true) ∧ On w w' := by
  rcases Nat.eq_zero_or_pos (val xb) with h | h
  · exact divides_zero w Aa na ca xa Ab nb cb xb Ra Rb h
  · exact divides_pos w Aa na ca xa Ab nb cb xb Ra Rb h
end Num
end Go.Proofs.Ytgbjbffoanofmaa
