/-
  The statement NaturalCommon, walked: the greatest common divisor divides both, the quotients have none but 1, and it grows with a common factor.
-/
import Derived.Test.YtnlihfhafnidlaaGcd
namespace Go.Proofs.Ytnlihfhafnidlaa
open Go.RowKit
set_option linter.unusedVariables false
namespace Num
theorem nil_of_zero {w : World} {A : Option Addr} {n c : Nat} {xs : List Nat} (h : Rd w A n c xs) (C : Clean xs) (hv : val xs = 0) : n = 0 := by
  rcases Nat.eq_zero_or_pos n with h0 | h0
  · exact h0
  · have := val_pos C (by rw [h.len]; exact h0)
    omega
set_option maxRecDepth 100000 in
set_option maxHeartbeats 4000000 in
theorem common_zero1 (w : World) (Aa : Option Addr) (na ca : Nat) (xa : List Nat) (Ab : Option Addr) (nb cb : Nat) (xb : List Nat) (Ac : Option Addr) (nc cc : Nat) (xc : List Nat)  (Ra : Rd w Aa na ca xa) (Rb : Rd w Ab nb cb xb) (Rc : Rd w Ac nc cc xc) (hz : val xa = 0) :
    Calls Try.prog 11 #[.slice Aa na ca, .slice Ab nb cb, .slice Ac nc cc] w fun e w' => e = .returned (.bool true) ∧ On w w' := by
  have O := On.refl w
  have hca := Ra.cap
  have hma := Ra.max
  have hcb := Rb.cap
  have hmb := Rb.max
  have hcc := Rc.cap
  have hmc := Rc.max
  rcases some_large [na, nb, nc] 3 with hl | ⟨m, hm, hl⟩
  rotate_left
  · have HL := Lib.hid hl
    clear hl
    go_enter Try.func11, Try.ntmps11
    go_wp2_with fail
    refine (awake_any _).mono ?_
    rintro e w1 ⟨rfl, P1⟩
    go_wp2_with fail
    have LE := lens_three w1 22 Aa Ab Ac na ca nb cb nc cc hca hma hcb hmb hcc hmc
    have P2 := (On.refl w1).alloc (.cells #[.slice Aa na ca, .slice Ab nb cb, .slice Ac nc cc] 22)
    refine (large_yes _ _ _ _ _ LE rfl (by simp) m hm HL.out).mono ?_
    rintro e w' ⟨rfl, rfl⟩
    go_wp2_with fail
    refine (awake_any _).mono ?_
    rintro e w3 ⟨rfl, P3⟩
    go_wp2
    go_ret
    exact ⟨rfl, (P1.trans P2).trans P3⟩
  have hna : na ≤ 40 := hl 0 (by decide)
  have hnb : nb ≤ 40 := hl 1 (by decide)
  have hnc : nc ≤ 40 := hl 2 (by decide)
  have HL := Lib.hid hl
  clear hl
  have Ta : tl xa ≤ 40 := Nat.le_trans (tl_le _) (by rw [Ra.len]; omega)
  have Tb : tl xb ≤ 40 := Nat.le_trans (tl_le _) (by rw [Rb.len]; omega)
  have Tc : tl xc ≤ 40 := Nat.le_trans (tl_le _) (by rw [Rc.len]; omega)
  have HZ := Lib.hid hz
  clear hz
  go_enter Try.func11, Try.ntmps11
  go_wp2_with fail
  refine (awake_any _).mono ?_
  rintro e w1 ⟨rfl, P1⟩
  replace Ra := Ra.on P1
  replace Rb := Rb.on P1
  replace Rc := Rc.on P1
  replace O := O.trans P1
  clear P1
  go_wp2_with fail
  have LE := lens_three w1 22 Aa Ab Ac na ca nb cb nc cc hca hma hcb hmb hcc hmc
  have P2 := (On.refl w1).alloc (.cells #[.slice Aa na ca, .slice Ab nb cb, .slice Ac nc cc] 22)
  refine (large_no _ _ _ _ _ LE rfl (by simp) HL.out).mono ?_
  rintro e w' ⟨rfl, rfl⟩
  replace Ra := Ra.on P2
  replace Rb := Rb.on P2
  replace Rc := Rc.on P2
  replace O := O.trans P2
  clear P2
  clear HL LE
  go_wp2_with fail
  refine (gcd_any _ _ _ _ _ _ _ 40 _ _ Ra Rb (by omega) (by omega) (Nat.le_trans Ta (by decide)) (Nat.le_trans Tb (by decide)) (by decide) (by decide)).mono ?_
  rintro e v1 ⟨Ag, ng, cg, rfl, ⟨xg, Rg, Cg, Vg, Lg⟩, P1⟩
  have Tg : tl xg ≤ 40 := Nat.le_trans (tl_le _) (by rw [Rg.len]; omega)
  have Hg := Lib.hid Vg
  clear Vg
  replace Ra := Ra.on P1
  replace Rb := Rb.on P1
  replace Rc := Rc.on P1
  replace O := O.trans P1
  clear P1
  have HC2 := Lib.hid (cmpI_eq (show val xa = val [] from HZ.out))
  go_wp2_with fail
  refine (cmp_any _ _ _ _ _ _ _ _ _ Ra Rd.nil_).mono ?_
  rintro e v2 ⟨rfl, P2⟩
  rw [HC2.out]
  replace Ra := Ra.on P2
  replace Rb := Rb.on P2
  replace Rc := Rc.on P2
  replace Rg := Rg.on P2
  replace O := O.trans P2
  clear P2
  go_wp2_with fail
  refine (add_any _ _ _ _ _ _ _ 40 _ _ Ra Rb (by omega) (by omega) (by decide)).mono ?_
  rintro e v3 ⟨As, ns, cs, rfl, ⟨xs, Rs, Cs, Vs, Ls⟩, P3⟩
  have Ts : tl xs ≤ 41 := Nat.le_trans (tl_le _) (by rw [Rs.len]; omega)
  have Hs := Lib.hid Vs
  clear Vs
  replace Ra := Ra.on P3
  replace Rb := Rb.on P3
  replace Rc := Rc.on P3
  replace Rg := Rg.on P3
  replace O := O.trans P3
  clear P3
  go_wp2_with fail
  refine (cmp_same _ _ _ _ _ _ _ _ _ Rg Rs (by rw [Hg.out, Hs.out, HZ.out, Nat.gcd_zero_left, Nat.zero_add])).mono ?_
  rintro e v4 ⟨rfl, P4⟩
  replace Ra := Ra.on P4
  replace Rb := Rb.on P4
  replace Rc := Rc.on P4
  replace Rg := Rg.on P4
  replace Rs := Rs.on P4
  replace O := O.trans P4
  clear P4
  go_wp2
  go_ret
  exact ⟨rfl, O⟩
set_option maxRecDepth 100000 in
set_option maxHeartbeats 4000000 in
theorem common_zero2 (w : World) (Aa : Option Addr) (na ca : Nat) (xa : List Nat) (Ab : Option Addr) (nb cb : Nat) (xb : List Nat) (Ac : Option Addr) (nc cc : Nat) (xc : List Nat)  (Ra : Rd w Aa na ca xa) (Rb : Rd w Ab nb cb xb) (Rc : Rd w Ac nc cc xc) (hp : 0 < val xa) (hz : val xb = 0) :
    Calls Try.prog 11 #[.slice Aa na ca, .slice Ab nb cb, .slice Ac nc cc] w fun e w' => e = .returned (.bool true) ∧ On w w' := by
  have O := On.refl w
  have hca := Ra.cap
  have hma := Ra.max
  have hcb := Rb.cap
  have hmb := Rb.max
  have hcc := Rc.cap
  have hmc := Rc.max
  rcases some_large [na, nb, nc] 3 with hl | ⟨m, hm, hl⟩
  rotate_left
  · have HL := Lib.hid hl
    clear hl
    go_enter Try.func11, Try.ntmps11
    go_wp2_with fail
    refine (awake_any _).mono ?_
    rintro e w1 ⟨rfl, P1⟩
    go_wp2_with fail
    have LE := lens_three w1 22 Aa Ab Ac na ca nb cb nc cc hca hma hcb hmb hcc hmc
    have P2 := (On.refl w1).alloc (.cells #[.slice Aa na ca, .slice Ab nb cb, .slice Ac nc cc] 22)
    refine (large_yes _ _ _ _ _ LE rfl (by simp) m hm HL.out).mono ?_
    rintro e w' ⟨rfl, rfl⟩
    go_wp2_with fail
    refine (awake_any _).mono ?_
    rintro e w3 ⟨rfl, P3⟩
    go_wp2
    go_ret
    exact ⟨rfl, (P1.trans P2).trans P3⟩
  have hna : na ≤ 40 := hl 0 (by decide)
  have hnb : nb ≤ 40 := hl 1 (by decide)
  have hnc : nc ≤ 40 := hl 2 (by decide)
  have HL := Lib.hid hl
  clear hl
  have Ta : tl xa ≤ 40 := Nat.le_trans (tl_le _) (by rw [Ra.len]; omega)
  have Tb : tl xb ≤ 40 := Nat.le_trans (tl_le _) (by rw [Rb.len]; omega)
  have Tc : tl xc ≤ 40 := Nat.le_trans (tl_le _) (by rw [Rc.len]; omega)
  have HZ := Lib.hid hz
  have HP := Lib.hid hp
  clear hz hp
  go_enter Try.func11, Try.ntmps11
  go_wp2_with fail
  refine (awake_any _).mono ?_
  rintro e w1 ⟨rfl, P1⟩
  replace Ra := Ra.on P1
  replace Rb := Rb.on P1
  replace Rc := Rc.on P1
  replace O := O.trans P1
  clear P1
  go_wp2_with fail
  have LE := lens_three w1 22 Aa Ab Ac na ca nb cb nc cc hca hma hcb hmb hcc hmc
  have P2 := (On.refl w1).alloc (.cells #[.slice Aa na ca, .slice Ab nb cb, .slice Ac nc cc] 22)
  refine (large_no _ _ _ _ _ LE rfl (by simp) HL.out).mono ?_
  rintro e w' ⟨rfl, rfl⟩
  replace Ra := Ra.on P2
  replace Rb := Rb.on P2
  replace Rc := Rc.on P2
  replace O := O.trans P2
  clear P2
  clear HL LE
  go_wp2_with fail
  refine (gcd_any _ _ _ _ _ _ _ 40 _ _ Ra Rb (by omega) (by omega) (Nat.le_trans Ta (by decide)) (Nat.le_trans Tb (by decide)) (by decide) (by decide)).mono ?_
  rintro e v1 ⟨Ag, ng, cg, rfl, ⟨xg, Rg, Cg, Vg, Lg⟩, P1⟩
  have Tg : tl xg ≤ 40 := Nat.le_trans (tl_le _) (by rw [Rg.len]; omega)
  have Hg := Lib.hid Vg
  clear Vg
  replace Ra := Ra.on P1
  replace Rb := Rb.on P1
  replace Rc := Rc.on P1
  replace O := O.trans P1
  clear P1
  have HC2 := Lib.hid (cmpI_gt (show val [] < val xa from HP.out))
  go_wp2_with fail
  refine (cmp_any _ _ _ _ _ _ _ _ _ Ra Rd.nil_).mono ?_
  rintro e v2 ⟨rfl, P2⟩
  rw [HC2.out]
  replace Ra := Ra.on P2
  replace Rb := Rb.on P2
  replace Rc := Rc.on P2
  replace Rg := Rg.on P2
  replace O := O.trans P2
  clear P2
  have HC3 := Lib.hid (cmpI_eq (show val xb = val [] from HZ.out))
  go_wp2_with fail
  refine (cmp_any _ _ _ _ _ _ _ _ _ Rb Rd.nil_).mono ?_
  rintro e v3 ⟨rfl, P3⟩
  rw [HC3.out]
  replace Ra := Ra.on P3
  replace Rb := Rb.on P3
  replace Rc := Rc.on P3
  replace Rg := Rg.on P3
  replace O := O.trans P3
  clear P3
  go_wp2_with fail
  refine (add_any _ _ _ _ _ _ _ 40 _ _ Ra Rb (by omega) (by omega) (by decide)).mono ?_
  rintro e v4 ⟨As, ns, cs, rfl, ⟨xs, Rs, Cs, Vs, Ls⟩, P4⟩
  have Ts : tl xs ≤ 41 := Nat.le_trans (tl_le _) (by rw [Rs.len]; omega)
  have Hs := Lib.hid Vs
  clear Vs
  replace Ra := Ra.on P4
  replace Rb := Rb.on P4
  replace Rc := Rc.on P4
  replace Rg := Rg.on P4
  replace O := O.trans P4
  clear P4
  go_wp2_with fail
  refine (cmp_same _ _ _ _ _ _ _ _ _ Rg Rs (by rw [Hg.out, Hs.out, HZ.out, Nat.gcd_zero_right, Nat.add_zero])).mono ?_
  rintro e v5 ⟨rfl, P5⟩
  replace Ra := Ra.on P5
  replace Rb := Rb.on P5
  replace Rc := Rc.on P5
  replace Rg := Rg.on P5
  replace Rs := Rs.on P5
  replace O := O.trans P5
  clear P5
  go_wp2
  go_ret
  exact ⟨rfl, O⟩
set_option maxRecDepth 100000 in
set_option maxHeartbeats 4000000 in
theorem common_pos (w : World) (Aa : Option Addr) (na ca : Nat) (xa : List Nat) (Ab : Option Addr) (nb cb : Nat) (xb : List Nat) (Ac : Option Addr) (nc cc : Nat) (xc : List Nat)  (Ra : Rd w Aa na ca xa) (Rb : Rd w Ab nb cb xb) (Rc : Rd w Ac nc cc xc) (hp : 0 < val xa) (hq : 0 < val xb) :
    Calls Try.prog 11 #[.slice Aa na ca, .slice Ab nb cb, .slice Ac nc cc] w fun e w' => e = .returned (.bool true) ∧ On w w' := by
  have O := On.refl w
  have hca := Ra.cap
  have hma := Ra.max
  have hcb := Rb.cap
  have hmb := Rb.max
  have hcc := Rc.cap
  have hmc := Rc.max
  rcases some_large [na, nb, nc] 3 with hl | ⟨m, hm, hl⟩
  rotate_left
  · have HL := Lib.hid hl
    clear hl
    go_enter Try.func11, Try.ntmps11
    go_wp2_with fail
    refine (awake_any _).mono ?_
    rintro e w1 ⟨rfl, P1⟩
    go_wp2_with fail
    have LE := lens_three w1 22 Aa Ab Ac na ca nb cb nc cc hca hma hcb hmb hcc hmc
    have P2 := (On.refl w1).alloc (.cells #[.slice Aa na ca, .slice Ab nb cb, .slice Ac nc cc] 22)
    refine (large_yes _ _ _ _ _ LE rfl (by simp) m hm HL.out).mono ?_
    rintro e w' ⟨rfl, rfl⟩
    go_wp2_with fail
    refine (awake_any _).mono ?_
    rintro e w3 ⟨rfl, P3⟩
    go_wp2
    go_ret
    exact ⟨rfl, (P1.trans P2).trans P3⟩
  have hna : na ≤ 40 := hl 0 (by decide)
  have hnb : nb ≤ 40 := hl 1 (by decide)
  have hnc : nc ≤ 40 := hl 2 (by decide)
  have HL := Lib.hid hl
  clear hl
  have Ta : tl xa ≤ 40 := Nat.le_trans (tl_le _) (by rw [Ra.len]; omega)
  have Tb : tl xb ≤ 40 := Nat.le_trans (tl_le _) (by rw [Rb.len]; omega)
  have Tc : tl xc ≤ 40 := Nat.le_trans (tl_le _) (by rw [Rc.len]; omega)
  have HP := Lib.hid hp
  have HQ := Lib.hid hq
  clear hp hq
  go_enter Try.func11, Try.ntmps11
  go_wp2_with fail
  refine (awake_any _).mono ?_
  rintro e w1 ⟨rfl, P1⟩
  replace Ra := Ra.on P1
  replace Rb := Rb.on P1
  replace Rc := Rc.on P1
  replace O := O.trans P1
  clear P1
  go_wp2_with fail
  have LE := lens_three w1 22 Aa Ab Ac na ca nb cb nc cc hca hma hcb hmb hcc hmc
  have P2 := (On.refl w1).alloc (.cells #[.slice Aa na ca, .slice Ab nb cb, .slice Ac nc cc] 22)
  refine (large_no _ _ _ _ _ LE rfl (by simp) HL.out).mono ?_
  rintro e w' ⟨rfl, rfl⟩
  replace Ra := Ra.on P2
  replace Rb := Rb.on P2
  replace Rc := Rc.on P2
  replace O := O.trans P2
  clear P2
  clear HL LE
  go_wp2_with fail
  refine (gcd_any _ _ _ _ _ _ _ 40 _ _ Ra Rb (by omega) (by omega) (Nat.le_trans Ta (by decide)) (Nat.le_trans Tb (by decide)) (by decide) (by decide)).mono ?_
  rintro e v1 ⟨Ag, ng, cg, rfl, ⟨xg, Rg, Cg, Vg, Lg⟩, P1⟩
  have Tg : tl xg ≤ 40 := Nat.le_trans (tl_le _) (by rw [Rg.len]; omega)
  have Hg := Lib.hid Vg
  clear Vg
  replace Ra := Ra.on P1
  replace Rb := Rb.on P1
  replace Rc := Rc.on P1
  replace O := O.trans P1
  clear P1
  have HGP : Hid (0 < val xg) := Lib.hid (by rw [Hg.out]; exact Nat.gcd_pos_of_pos_left _ HP.out)
  have HC2 := Lib.hid (cmpI_gt (show val [] < val xa from HP.out))
  go_wp2_with fail
  refine (cmp_any _ _ _ _ _ _ _ _ _ Ra Rd.nil_).mono ?_
  rintro e v2 ⟨rfl, P2⟩
  rw [HC2.out]
  replace Ra := Ra.on P2
  replace Rb := Rb.on P2
  replace Rc := Rc.on P2
  replace Rg := Rg.on P2
  replace O := O.trans P2
  clear P2
  have HC3 := Lib.hid (cmpI_gt (show val [] < val xb from HQ.out))
  go_wp2_with fail
  refine (cmp_any _ _ _ _ _ _ _ _ _ Rb Rd.nil_).mono ?_
  rintro e v3 ⟨rfl, P3⟩
  rw [HC3.out]
  replace Ra := Ra.on P3
  replace Rb := Rb.on P3
  replace Rc := Rc.on P3
  replace Rg := Rg.on P3
  replace O := O.trans P3
  clear P3
  go_wp2_with fail
  refine (div_any _ _ _ _ _ _ _ 40 40 _ _ Ra Rg HGP.out (by omega) Ta (Nat.le_trans (tl_le _) (by rw [Rg.len]; omega)) (by decide)).mono ?_
  rintro e v4 ⟨Ax, nx, cx, Ar, nr, cr, rfl, ⟨xx, Rx, Cx, Vx, Lx⟩, ⟨xr, Rr, Cr, Vr, Lr⟩, P4⟩
  have Tx : tl xx ≤ 40 := Nat.le_trans (tl_le _) (by rw [Rx.len]; omega)
  have Hx := Lib.hid Vx
  obtain rfl : nr = 0 := nil_of_zero Rr Cr (by rw [Vr, Hg.out]; exact Nat.mod_eq_zero_of_dvd (Nat.gcd_dvd_left _ _))
  clear Vx Vr Rr Cr Lr
  replace Ra := Ra.on P4
  replace Rb := Rb.on P4
  replace Rc := Rc.on P4
  replace Rg := Rg.on P4
  replace O := O.trans P4
  clear P4
  go_wp2_with fail
  refine (div_any _ _ _ _ _ _ _ 40 40 _ _ Rb Rg HGP.out (by omega) Tb (Nat.le_trans (tl_le _) (by rw [Rg.len]; omega)) (by decide)).mono ?_
  rintro e v5 ⟨Ay, ny, cy, As, ns, cs, rfl, ⟨xy, Ry, Cy, Vy, Ly⟩, ⟨xs, Rs, Cs, Vs, Ls⟩, P5⟩
  have Ty : tl xy ≤ 40 := Nat.le_trans (tl_le _) (by rw [Ry.len]; omega)
  have Hy := Lib.hid Vy
  obtain rfl : ns = 0 := nil_of_zero Rs Cs (by rw [Vs, Hg.out]; exact Nat.mod_eq_zero_of_dvd (Nat.gcd_dvd_right _ _))
  clear Vy Vs Rs Cs Ls
  replace Ra := Ra.on P5
  replace Rb := Rb.on P5
  replace Rc := Rc.on P5
  replace Rg := Rg.on P5
  replace Rx := Rx.on P5
  replace O := O.trans P5
  clear P5
  go_wp2_with fail
  refine (gcd_any _ _ _ _ _ _ _ 40 _ _ Rx Ry (by omega) (by omega) (Nat.le_trans Tx (by decide)) (Nat.le_trans Ty (by decide)) (by decide) (by decide)).mono ?_
  rintro e v6 ⟨Az, nz, cz, rfl, ⟨xz, Rz, Cz, Vz, Lz⟩, P6⟩
  have Tz : tl xz ≤ 40 := Nat.le_trans (tl_le _) (by rw [Rz.len]; omega)
  have Hz := Lib.hid Vz
  clear Vz
  replace Ra := Ra.on P6
  replace Rb := Rb.on P6
  replace Rc := Rc.on P6
  replace Rg := Rg.on P6
  replace Rx := Rx.on P6
  replace Ry := Ry.on P6
  replace O := O.trans P6
  clear P6
  go_wp2_with fail
  refine (of_any _ _ (by decide)).mono ?_
  rintro e v7 ⟨Ao, no, co, rfl, ⟨xo, Ro, Co, Vo, Lo⟩, P7⟩
  have To : tl xo ≤ 2 := Nat.le_trans (tl_le _) (by rw [Ro.len]; omega)
  have Ho := Lib.hid Vo
  clear Vo
  replace Ra := Ra.on P7
  replace Rb := Rb.on P7
  replace Rc := Rc.on P7
  replace Rg := Rg.on P7
  replace Rx := Rx.on P7
  replace Ry := Ry.on P7
  replace Rz := Rz.on P7
  replace O := O.trans P7
  clear P7
  go_wp2_with fail
  refine (cmp_same _ _ _ _ _ _ _ _ _ Rz Ro (by rw [Hz.out, Ho.out, Hx.out, Hy.out, Hg.out, Nat.gcd_div_gcd_div_gcd_of_pos_left HP.out]; rfl)).mono ?_
  rintro e v8 ⟨rfl, P8⟩
  replace Ra := Ra.on P8
  replace Rb := Rb.on P8
  replace Rc := Rc.on P8
  replace Rg := Rg.on P8
  replace Rx := Rx.on P8
  replace Ry := Ry.on P8
  replace Rz := Rz.on P8
  replace Ro := Ro.on P8
  replace O := O.trans P8
  clear P8
  clear Rx Tx
  clear Ry Ty
  clear Rz Tz
  clear Ro To
  go_wp2_with fail
  refine (mul_any _ _ _ _ _ _ _ 40 40 _ _ Ra Rc Ta Tc (by decide) (by decide)).mono ?_
  rintro e v9 ⟨Am, nm, cm, rfl, ⟨xm, Rm, Cm, Vm, Lm⟩, P9⟩
  have Tm : tl xm ≤ 80 := Nat.le_trans (tl_le _) (by rw [Rm.len]; omega)
  have Hm := Lib.hid Vm
  clear Vm
  replace Ra := Ra.on P9
  replace Rb := Rb.on P9
  replace Rc := Rc.on P9
  replace Rg := Rg.on P9
  replace O := O.trans P9
  clear P9
  go_wp2_with fail
  refine (mul_any _ _ _ _ _ _ _ 40 40 _ _ Rb Rc Tb Tc (by decide) (by decide)).mono ?_
  rintro e v10 ⟨An, nn, cn, rfl, ⟨xn, Rn, Cn, Vn, Ln⟩, P10⟩
  have Tn : tl xn ≤ 80 := Nat.le_trans (tl_le _) (by rw [Rn.len]; omega)
  have Hn := Lib.hid Vn
  clear Vn
  replace Ra := Ra.on P10
  replace Rb := Rb.on P10
  replace Rc := Rc.on P10
  replace Rg := Rg.on P10
  replace Rm := Rm.on P10
  replace O := O.trans P10
  clear P10
  go_wp2_with fail
  refine (gcd_any _ _ _ _ _ _ _ 80 _ _ Rm Rn (by omega) (by omega) (Nat.le_trans Tm (by decide)) (Nat.le_trans Tn (by decide)) (by decide) (by decide)).mono ?_
  rintro e v11 ⟨Ak, nk, ck, rfl, ⟨xk, Rk, Ck, Vk, Lk⟩, P11⟩
  have Tk : tl xk ≤ 80 := Nat.le_trans (tl_le _) (by rw [Rk.len]; omega)
  have Hk := Lib.hid Vk
  clear Vk
  replace Ra := Ra.on P11
  replace Rb := Rb.on P11
  replace Rc := Rc.on P11
  replace Rg := Rg.on P11
  replace Rm := Rm.on P11
  replace Rn := Rn.on P11
  replace O := O.trans P11
  clear P11
  go_wp2_with fail
  refine (mul_any _ _ _ _ _ _ _ 40 40 _ _ Rg Rc Tg Tc (by decide) (by decide)).mono ?_
  rintro e v12 ⟨Al, nl, cl, rfl, ⟨xl, Rl, Cl, Vl, Ll⟩, P12⟩
  have Tl : tl xl ≤ 80 := Nat.le_trans (tl_le _) (by rw [Rl.len]; omega)
  have Hl := Lib.hid Vl
  clear Vl
  replace Ra := Ra.on P12
  replace Rb := Rb.on P12
  replace Rc := Rc.on P12
  replace Rg := Rg.on P12
  replace Rm := Rm.on P12
  replace Rn := Rn.on P12
  replace Rk := Rk.on P12
  replace O := O.trans P12
  clear P12
  go_wp2_with fail
  refine (cmp_same _ _ _ _ _ _ _ _ _ Rk Rl (by rw [Hk.out, Hl.out, Hm.out, Hn.out, Hg.out, Nat.gcd_mul_right])).mono ?_
  rintro e v13 ⟨rfl, P13⟩
  replace Ra := Ra.on P13
  replace Rb := Rb.on P13
  replace Rc := Rc.on P13
  replace Rg := Rg.on P13
  replace Rm := Rm.on P13
  replace Rn := Rn.on P13
  replace Rk := Rk.on P13
  replace Rl := Rl.on P13
  replace O := O.trans P13
  clear P13
  go_wp2
  go_ret
  exact ⟨rfl, O⟩
theorem common_any (w : World) (Aa : Option Addr) (na ca : Nat) (xa : List Nat) (Ab : Option Addr) (nb cb : Nat) (xb : List Nat) (Ac : Option Addr) (nc cc : Nat) (xc : List Nat) (Ra : Rd w Aa na ca xa) (Rb : Rd w Ab nb cb xb) (Rc : Rd w Ac nc cc xc) :
    Calls Try.prog 11 #[.slice Aa na ca, .slice Ab nb cb, .slice Ac nc cc] w fun e w' => e = .returned (.bool true) ∧ On w w' := by
  rcases Nat.eq_zero_or_pos (val xa) with h | h
  · exact common_zero1 w Aa na ca xa Ab nb cb xb Ac nc cc xc Ra Rb Rc h
  · rcases Nat.eq_zero_or_pos (val xb) with k | k
    · exact common_zero2 w Aa na ca xa Ab nb cb xb Ac nc cc xc Ra Rb Rc h k
    · exact common_pos w Aa na ca xa Ab nb cb xb Ac nc cc xc Ra Rb Rc h k
end Num
end Go.Proofs.Ytnlihfhafnidlaa
