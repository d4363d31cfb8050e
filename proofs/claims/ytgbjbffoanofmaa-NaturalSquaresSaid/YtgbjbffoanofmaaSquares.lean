/-
  The statement NaturalSquares, walked: the square of the root, and that of the next number, enclose the number; shifts are products and quotients.
-/
import Derived.Test.YtgbjbffoanofmaaPower
namespace Go.Proofs.Ytgbjbffoanofmaa
open Go.RowKit
set_option linter.unusedVariables false
namespace Num
theorem shift_neg (w : World) (A : Option Addr) (n c : Nat) (xs : List Nat) (h : Rd w A n c xs) (hn : n ≤ 10000) (q : Nat) (hq : q ≤ 131072) :
    Calls Try.prog 38 #[.slice A n c, .int .i64 (-(q : Int))] w (Gives2 w (val xs / 2 ^ q) (n + 1) .nilIface) := by
  rcases Nat.eq_zero_or_pos q with h0 | h0
  · subst h0
    refine (shift_up w A n c xs h hn (-((0 : Nat) : Int)) (by omega) (by omega)).mono ?_
    rintro e w' ⟨A1, n1, c1, he, ⟨ys, r1, r2, r3, r4⟩, hon⟩
    refine ⟨A1, n1, c1, he, ⟨ys, r1, r2, ?_, ?_⟩, hon⟩
    · rw [r3]; simp
    · simpa using r4
  · refine (shift_down w A n c xs h hn (-(q : Int)) (by omega) (by omega)).mono ?_
    rintro e w' ⟨A1, n1, c1, he, ⟨ys, r1, r2, r3, r4⟩, hon⟩
    refine ⟨A1, n1, c1, he, ⟨ys, r1, r2, ?_, by omega⟩, hon⟩
    rw [r3, show (-(-(q : Int))).toNat = q from by omega]
theorem cmpI_le {a b : Nat} (h : a ≤ b) : cmpI a b ≤ 0 := by
  rcases Nat.lt_or_eq_of_le h with h | h
  · rw [cmpI_lt h]; decide
  · rw [cmpI_eq h]; decide
set_option maxRecDepth 100000 in
set_option maxHeartbeats 4000000 in
theorem squares_any (w : World) (Aa : Option Addr) (na ca : Nat) (xa : List Nat) (q : Nat) (Ra : Rd w Aa na ca xa) (hq : q ≤ 255) :
    Calls Try.prog 13 #[.slice Aa na ca, .int .u8 (q : Int)] w fun e w' => e = .returned (.bool true) ∧ On w w' := by
  have O := On.refl w
  have hca := Ra.cap
  have hma := Ra.max
  rcases some_large [na] 1 with hl | ⟨m, hm, hl⟩
  rotate_left
  · have HL := Lib.hid hl
    clear hl
    go_enter Try.func13, Try.ntmps13
    go_wp2_with fail
    refine (awake_any _).mono ?_
    rintro e w1 ⟨rfl, P1⟩
    go_wp2_with fail
    have LE := lens_one w1 22 Aa na ca hca hma
    have P2 := (On.refl w1).alloc (.cells #[.slice Aa na ca] 22)
    refine (large_yes _ _ _ _ _ LE rfl (by simp) m hm HL.out).mono ?_
    rintro e w' ⟨rfl, rfl⟩
    go_wp2_with fail
    refine (awake_any _).mono ?_
    rintro e w3 ⟨rfl, P3⟩
    go_wp2
    go_ret
    exact ⟨rfl, (P1.trans P2).trans P3⟩
  have hna : na ≤ 40 := hl 0 (by decide)
  have HL := Lib.hid hl
  clear hl
  have Ta : tl xa ≤ 40 := Nat.le_trans (tl_le _) (by rw [Ra.len]; omega)
  go_enter Try.func13, Try.ntmps13
  go_wp2_with fail
  refine (awake_any _).mono ?_
  rintro e w1 ⟨rfl, P1⟩
  replace Ra := Ra.on P1
  replace O := O.trans P1
  clear P1
  go_wp2_with fail
  have LE := lens_one w1 22 Aa na ca hca hma
  have P2 := (On.refl w1).alloc (.cells #[.slice Aa na ca] 22)
  refine (large_no _ _ _ _ _ LE rfl (by simp) HL.out).mono ?_
  rintro e w' ⟨rfl, rfl⟩
  replace Ra := Ra.on P2
  replace O := O.trans P2
  clear P2
  clear HL LE
  go_wp2_with fail
  refine (root_any _ _ _ _ _ Ra (by omega)).mono ?_
  rintro e v1 ⟨rr, hr1, hr2, Ar, nr, cr, rfl, ⟨xr, Rr, Cr, Vr, Lr⟩, P1⟩
  have Tr : tl xr ≤ 40 := Nat.le_trans (tl_le _) (by rw [Rr.len]; omega)
  have Hr := Lib.hid Vr
  have HR1 := Lib.hid hr1
  have HR2 := Lib.hid hr2
  clear Vr hr1 hr2
  replace Ra := Ra.on P1
  replace O := O.trans P1
  clear P1
  go_wp2_with fail
  refine (of_any _ _ (by decide)).mono ?_
  rintro e v2 ⟨Ao, no, co, rfl, ⟨xo, Ro, Co, Vo, Lo⟩, P2⟩
  have To : tl xo ≤ 2 := Nat.le_trans (tl_le _) (by rw [Ro.len]; omega)
  have Ho := Lib.hid Vo
  clear Vo
  replace Ra := Ra.on P2
  replace Rr := Rr.on P2
  replace O := O.trans P2
  clear P2
  go_wp2_with fail
  refine (add_any _ _ _ _ _ _ _ 40 _ _ Rr Ro (by omega) (by omega) (by decide)).mono ?_
  rintro e v3 ⟨Ax, nx, cx, rfl, ⟨xx, Rx, Cx, Vx, Lx⟩, P3⟩
  have Tx : tl xx ≤ 41 := Nat.le_trans (tl_le _) (by rw [Rx.len]; omega)
  have Hx := Lib.hid Vx
  clear Vx
  replace Ra := Ra.on P3
  replace Rr := Rr.on P3
  replace Ro := Ro.on P3
  replace O := O.trans P3
  clear P3
  go_wp2_with fail
  refine (clean_rd _ _ _ _ _ Rr Cr).mono ?_
  rintro e v4 ⟨rfl, P4⟩
  replace Ra := Ra.on P4
  replace Rr := Rr.on P4
  replace Ro := Ro.on P4
  replace Rx := Rx.on P4
  replace O := O.trans P4
  clear P4
  go_wp2_with fail
  refine (mul_any _ _ _ _ _ _ _ 40 40 _ _ Rr Rr Tr Tr (by decide) (by decide)).mono ?_
  rintro e v5 ⟨Am, nm, cm, rfl, ⟨xm, Rm, Cm, Vm, Lm⟩, P5⟩
  have Tm : tl xm ≤ 80 := Nat.le_trans (tl_le _) (by rw [Rm.len]; omega)
  have Hm := Lib.hid Vm
  clear Vm
  replace Ra := Ra.on P5
  replace Rr := Rr.on P5
  replace Ro := Ro.on P5
  replace Rx := Rx.on P5
  replace O := O.trans P5
  clear P5
  have hci := cmpI_le (show val xm ≤ val xa by rw [Hm.out, Hr.out]; exact HR1.out)
  go_wp2_with fail
  refine (cmp_any _ _ _ _ _ _ _ _ _ Rm Ra).mono ?_
  rintro e v6 ⟨rfl, P6⟩
  replace Ra := Ra.on P6
  replace Rr := Rr.on P6
  replace Ro := Ro.on P6
  replace Rx := Rx.on P6
  replace Rm := Rm.on P6
  replace O := O.trans P6
  clear P6
  generalize cmpI (val xm) (val xa) = ci at *
  have hcd : decide (0 < ci) = false := decide_eq_false (by omega)
  go_wp2_with fail
  refine (mul_any _ _ _ _ _ _ _ 41 41 _ _ Rx Rx Tx Tx (by decide) (by decide)).mono ?_
  rintro e v7 ⟨Ay, ny, cy, rfl, ⟨xy, Ry, Cy, Vy, Ly⟩, P7⟩
  have Ty : tl xy ≤ 82 := Nat.le_trans (tl_le _) (by rw [Ry.len]; omega)
  have Hy := Lib.hid Vy
  clear Vy
  replace Ra := Ra.on P7
  replace Rr := Rr.on P7
  replace Ro := Ro.on P7
  replace Rx := Rx.on P7
  replace Rm := Rm.on P7
  replace O := O.trans P7
  clear P7
  have HGT := Lib.hid (cmpI_gt (show val xa < val xy by rw [Hy.out, Hx.out, Hr.out, Ho.out]; exact HR2.out))
  go_wp2_with fail
  refine (cmp_any _ _ _ _ _ _ _ _ _ Ry Ra).mono ?_
  rintro e v8 ⟨rfl, P8⟩
  rw [HGT.out]
  replace Ra := Ra.on P8
  replace Rr := Rr.on P8
  replace Ro := Ro.on P8
  replace Rx := Rx.on P8
  replace Rm := Rm.on P8
  replace Ry := Ry.on P8
  replace O := O.trans P8
  clear P8
  clear Rx Tx
  clear Ro To
  clear Rm Tm
  clear Ry Ty
  clear Rr Tr
  go_wp2_with fail
  refine (of_any _ _ (by decide)).mono ?_
  rintro e v9 ⟨At, nt, ct, rfl, ⟨xt, Rt, Ct, Vt, Lt⟩, P9⟩
  have Tt : tl xt ≤ 2 := Nat.le_trans (tl_le _) (by rw [Rt.len]; omega)
  have Ht := Lib.hid Vt
  clear Vt
  replace Ra := Ra.on P9
  replace O := O.trans P9
  clear P9
  go_wp2_with fail
  refine (power_good _ _ _ _ _ Rt q (by omega) (by omega) (by omega) (by rw [Ht.out, show nb (2 : Int).toNat = 2 from by decide]; omega)).mono ?_
  rintro e v10 ⟨Ap, np, cp, rfl, ⟨xp, Rp, Cp, Vp, Lp⟩, P10⟩
  have Tp : tl xp ≤ 4097 := Nat.le_trans (tl_le _) (by rw [Rp.len]; omega)
  have Hp := Lib.hid Vp
  clear Vp
  replace Ra := Ra.on P10
  replace Rt := Rt.on P10
  replace O := O.trans P10
  clear P10
  go_wp2_with fail
  refine (shift_up _ _ _ _ _ Ra (by omega) _ (by omega) (by omega)).mono ?_
  rintro e v11 ⟨Au, nu, cu, rfl, ⟨xu, Ru, Cu, Vu, Lu⟩, P11⟩
  have Tu : tl xu ≤ 60 := Nat.le_trans (tl_le _) (by rw [Ru.len]; omega)
  have Hu := Lib.hid Vu
  clear Vu
  replace Ra := Ra.on P11
  replace Rt := Rt.on P11
  replace Rp := Rp.on P11
  replace O := O.trans P11
  clear P11
  go_wp2_with fail
  refine (shift_neg _ _ _ _ _ Ra (by omega) q (by omega)).mono ?_
  rintro e v12 ⟨Ad, nd, cd, rfl, ⟨xd, Rd, Cd, Vd, Ld⟩, P12⟩
  have Td : tl xd ≤ 41 := Nat.le_trans (tl_le _) (by rw [Rd.len]; omega)
  have Hd := Lib.hid Vd
  clear Vd
  replace Ra := Ra.on P12
  replace Rt := Rt.on P12
  replace Rp := Rp.on P12
  replace Ru := Ru.on P12
  replace O := O.trans P12
  clear P12
  have HPP : Hid (val xp = 2 ^ q) := by rw [Hp.out, Ht.out]; exact rfl
  go_wp2_with fail
  refine (div_any _ _ _ _ _ _ _ 40 4097 _ _ Ra Rp (by rw [HPP.out]; exact Nat.pow_pos (by decide)) (by omega) Ta Tp (by decide)).mono ?_
  rintro e v13 ⟨Aq, nq, cq, As, ns, cs, rfl, ⟨xq, Rq, Cq, Vq, Lq⟩, ⟨xs, Rs, Cs, Vs, Ls⟩, P13⟩
  have Tq : tl xq ≤ 40 := Nat.le_trans (tl_le _) (by rw [Rq.len]; omega)
  have Hq := Lib.hid Vq
  clear Vq Vs
  replace Ra := Ra.on P13
  replace Rt := Rt.on P13
  replace Rp := Rp.on P13
  replace Ru := Ru.on P13
  replace Rd := Rd.on P13
  replace O := O.trans P13
  clear P13
  go_wp2_with fail
  refine (mul_any _ _ _ _ _ _ _ 40 4097 _ _ Ra Rp Ta Tp (by decide) (by decide)).mono ?_
  rintro e v14 ⟨Az, nz, cz, rfl, ⟨xz, Rz, Cz, Vz, Lz⟩, P14⟩
  have Tz : tl xz ≤ 4137 := Nat.le_trans (tl_le _) (by rw [Rz.len]; omega)
  have Hz := Lib.hid Vz
  clear Vz
  replace Ra := Ra.on P14
  replace Rt := Rt.on P14
  replace Rp := Rp.on P14
  replace Ru := Ru.on P14
  replace Rd := Rd.on P14
  replace Rq := Rq.on P14
  replace O := O.trans P14
  clear P14
  go_wp2_with fail
  refine (cmp_same _ _ _ _ _ _ _ _ _ Ru Rz (by rw [Hu.out, Hz.out, HPP.out, Int.toNat_natCast])).mono ?_
  rintro e v15 ⟨rfl, P15⟩
  replace Ra := Ra.on P15
  replace Rt := Rt.on P15
  replace Rp := Rp.on P15
  replace Ru := Ru.on P15
  replace Rd := Rd.on P15
  replace Rq := Rq.on P15
  replace Rz := Rz.on P15
  replace O := O.trans P15
  clear P15
  go_wp2_with fail
  refine (cmp_same _ _ _ _ _ _ _ _ _ Rd Rq (by rw [Hd.out, Hq.out, HPP.out])).mono ?_
  rintro e v16 ⟨rfl, P16⟩
  replace Ra := Ra.on P16
  replace Rt := Rt.on P16
  replace Rp := Rp.on P16
  replace Ru := Ru.on P16
  replace Rd := Rd.on P16
  replace Rq := Rq.on P16
  replace Rz := Rz.on P16
  replace O := O.trans P16
  clear P16
  go_wp2
  go_ret
  exact ⟨rfl, O⟩
end Num
end Go.Proofs.Ytgbjbffoanofmaa
