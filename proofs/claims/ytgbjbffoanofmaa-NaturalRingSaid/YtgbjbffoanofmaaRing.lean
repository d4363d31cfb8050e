/-
  The statement NaturalRing, walked: sums and products are commutative and associative, products distribute over sums, differences undo sums, results are clean.
-/
import Derived.Test.YtgbjbffoanofmaaLawBase
namespace Go.Proofs.Ytgbjbffoanofmaa
open Go.RowKit
set_option linter.unusedVariables false
namespace Num
set_option maxRecDepth 100000 in
set_option maxHeartbeats 4000000 in
theorem ring_any (w : World) (Aa : Option Addr) (na ca : Nat) (xa : List Nat) (Ab : Option Addr) (nb cb : Nat) (xb : List Nat) (Ac : Option Addr) (nc cc : Nat) (xc : List Nat)  (Ra : Rd w Aa na ca xa) (Rb : Rd w Ab nb cb xb) (Rc : Rd w Ac nc cc xc)  :
    Calls Try.prog 9 #[.slice Aa na ca, .slice Ab nb cb, .slice Ac nc cc] w fun e w' => e = .returned (.bool true) ∧ On w w' := by
  have O := On.refl w
  have hca := Ra.cap
  have hma := Ra.max
  have hcb := Rb.cap
  have hmb := Rb.max
  have hcc := Rc.cap
  have hmc := Rc.max
  rcases some_large [na, nb, nc] 3 with hl | ⟨m, hm, hl⟩
  rotate_left
  · have HL := Lib.hid hl
    clear hl
    go_enter Try.func9, Try.ntmps9
    go_wp2_with fail
    refine (awake_any _).mono ?_
    rintro e w1 ⟨rfl, P1⟩
    go_wp2_with fail
    have LE := lens_three w1 22 Aa Ab Ac na ca nb cb nc cc hca hma hcb hmb hcc hmc
    have P2 := (On.refl w1).alloc (.cells #[.slice Aa na ca, .slice Ab nb cb, .slice Ac nc cc] 22)
    refine (large_yes _ _ _ _ _ LE rfl (by simp) m hm HL.out).mono ?_
    rintro e w' ⟨rfl, rfl⟩
    go_wp2_with fail
    refine (awake_any _).mono ?_
    rintro e w3 ⟨rfl, P3⟩
    go_wp2
    go_ret
    exact ⟨rfl, (P1.trans P2).trans P3⟩
  have hna : na ≤ 40 := hl 0 (by decide)
  have hnb : nb ≤ 40 := hl 1 (by decide)
  have hnc : nc ≤ 40 := hl 2 (by decide)
  have HL := Lib.hid hl
  clear hl
  have Ta : tl xa ≤ 40 := Nat.le_trans (tl_le _) (by rw [Ra.len]; omega)
  have Tb : tl xb ≤ 40 := Nat.le_trans (tl_le _) (by rw [Rb.len]; omega)
  have Tc : tl xc ≤ 40 := Nat.le_trans (tl_le _) (by rw [Rc.len]; omega)
  go_enter Try.func9, Try.ntmps9
  go_wp2_with fail
  refine (awake_any _).mono ?_
  rintro e w1 ⟨rfl, P1⟩
  replace Ra := Ra.on P1
  replace Rb := Rb.on P1
  replace Rc := Rc.on P1
  replace O := O.trans P1
  clear P1
  go_wp2_with fail
  have LE := lens_three w1 22 Aa Ab Ac na ca nb cb nc cc hca hma hcb hmb hcc hmc
  have P2 := (On.refl w1).alloc (.cells #[.slice Aa na ca, .slice Ab nb cb, .slice Ac nc cc] 22)
  refine (large_no _ _ _ _ _ LE rfl (by simp) HL.out).mono ?_
  rintro e w' ⟨rfl, rfl⟩
  replace Ra := Ra.on P2
  replace Rb := Rb.on P2
  replace Rc := Rc.on P2
  replace O := O.trans P2
  clear P2
  clear HL LE
  go_wp2_with fail
  refine (add_any _ _ _ _ _ _ _ 40 _ _ Ra Rb (by omega) (by omega) (by decide)).mono ?_
  rintro e v1 ⟨Aab, nab, cab, rfl, ⟨xab, Rab, Cab, Vab, Lab⟩, P1⟩
  have Tab : tl xab ≤ 41 := Nat.le_trans (tl_le _) (by rw [Rab.len]; omega)
  have Hab := Lib.hid Vab
  clear Vab
  replace Ra := Ra.on P1
  replace Rb := Rb.on P1
  replace Rc := Rc.on P1
  replace O := O.trans P1
  clear P1
  go_wp2_with fail
  refine (add_any _ _ _ _ _ _ _ 40 _ _ Rb Rc (by omega) (by omega) (by decide)).mono ?_
  rintro e v2 ⟨Abc, nbc, cbc, rfl, ⟨xbc, Rbc, Cbc, Vbc, Lbc⟩, P2⟩
  have Tbc : tl xbc ≤ 41 := Nat.le_trans (tl_le _) (by rw [Rbc.len]; omega)
  have Hbc := Lib.hid Vbc
  clear Vbc
  replace Ra := Ra.on P2
  replace Rb := Rb.on P2
  replace Rc := Rc.on P2
  replace Rab := Rab.on P2
  replace O := O.trans P2
  clear P2
  go_wp2_with fail
  refine (sub_good _ _ _ _ _ _ _ 41 _ _ Rab Rb (by rw [Hab.out]; omega) Tab (by decide)).mono ?_
  rintro e v3 ⟨Add, ndd, cdd, rfl, ⟨xdd, Rdd, Cdd, Vdd, Ldd⟩, P3⟩
  have Tdd : tl xdd ≤ 41 := Nat.le_trans (tl_le _) (by rw [Rdd.len]; omega)
  have Hdd : Hid (val xdd = val xa) := Vdd.trans (by rw [Hab.out]; omega)
  clear Vdd
  replace Ra := Ra.on P3
  replace Rb := Rb.on P3
  replace Rc := Rc.on P3
  replace Rab := Rab.on P3
  replace Rbc := Rbc.on P3
  replace O := O.trans P3
  clear P3
  go_wp2_with fail
  refine (cmp_same _ _ _ _ _ _ _ _ _ Rdd Ra Hdd.out).mono ?_
  rintro e v4 ⟨rfl, P4⟩
  replace Ra := Ra.on P4
  replace Rb := Rb.on P4
  replace Rc := Rc.on P4
  replace Rab := Rab.on P4
  replace Rbc := Rbc.on P4
  replace Rdd := Rdd.on P4
  replace O := O.trans P4
  clear P4
  go_wp2_with fail
  refine (clean_rd _ _ _ _ _ Rab Cab).mono ?_
  rintro e v5 ⟨rfl, P5⟩
  replace Ra := Ra.on P5
  replace Rb := Rb.on P5
  replace Rc := Rc.on P5
  replace Rab := Rab.on P5
  replace Rbc := Rbc.on P5
  replace Rdd := Rdd.on P5
  replace O := O.trans P5
  clear P5
  go_wp2_with fail
  refine (clean_rd _ _ _ _ _ Rdd Cdd).mono ?_
  rintro e v6 ⟨rfl, P6⟩
  replace Ra := Ra.on P6
  replace Rb := Rb.on P6
  replace Rc := Rc.on P6
  replace Rab := Rab.on P6
  replace Rbc := Rbc.on P6
  replace Rdd := Rdd.on P6
  replace O := O.trans P6
  clear P6
  clear Rdd Tdd
  go_wp2_with fail
  refine (add_any _ _ _ _ _ _ _ 40 _ _ Rb Ra (by omega) (by omega) (by decide)).mono ?_
  rintro e v7 ⟨Aba, nba, cba, rfl, ⟨xba, Rba, Cba, Vba, Lba⟩, P7⟩
  have Tba : tl xba ≤ 41 := Nat.le_trans (tl_le _) (by rw [Rba.len]; omega)
  have Hba := Lib.hid Vba
  clear Vba
  replace Ra := Ra.on P7
  replace Rb := Rb.on P7
  replace Rc := Rc.on P7
  replace Rab := Rab.on P7
  replace Rbc := Rbc.on P7
  replace O := O.trans P7
  clear P7
  go_wp2_with fail
  refine (cmp_same _ _ _ _ _ _ _ _ _ Rab Rba (by rw [Hab.out, Hba.out, Nat.add_comm])).mono ?_
  rintro e v8 ⟨rfl, P8⟩
  replace Ra := Ra.on P8
  replace Rb := Rb.on P8
  replace Rc := Rc.on P8
  replace Rab := Rab.on P8
  replace Rbc := Rbc.on P8
  replace Rba := Rba.on P8
  replace O := O.trans P8
  clear P8
  clear Rba Tba
  go_wp2_with fail
  refine (add_any _ _ _ _ _ _ _ 41 _ _ Rab Rc (by omega) (by omega) (by decide)).mono ?_
  rintro e v9 ⟨As1, ns1, cs1, rfl, ⟨xs1, Rs1, Cs1, Vs1, Ls1⟩, P9⟩
  have Ts1 : tl xs1 ≤ 42 := Nat.le_trans (tl_le _) (by rw [Rs1.len]; omega)
  have Hs1 := Lib.hid Vs1
  clear Vs1
  replace Ra := Ra.on P9
  replace Rb := Rb.on P9
  replace Rc := Rc.on P9
  replace Rab := Rab.on P9
  replace Rbc := Rbc.on P9
  replace O := O.trans P9
  clear P9
  go_wp2_with fail
  refine (add_any _ _ _ _ _ _ _ 41 _ _ Ra Rbc (by omega) (by omega) (by decide)).mono ?_
  rintro e v10 ⟨As2, ns2, cs2, rfl, ⟨xs2, Rs2, Cs2, Vs2, Ls2⟩, P10⟩
  have Ts2 : tl xs2 ≤ 42 := Nat.le_trans (tl_le _) (by rw [Rs2.len]; omega)
  have Hs2 := Lib.hid Vs2
  clear Vs2
  replace Ra := Ra.on P10
  replace Rb := Rb.on P10
  replace Rc := Rc.on P10
  replace Rab := Rab.on P10
  replace Rbc := Rbc.on P10
  replace Rs1 := Rs1.on P10
  replace O := O.trans P10
  clear P10
  go_wp2_with fail
  refine (cmp_same _ _ _ _ _ _ _ _ _ Rs1 Rs2 (by rw [Hs1.out, Hs2.out, Hab.out, Hbc.out, Nat.add_assoc])).mono ?_
  rintro e v11 ⟨rfl, P11⟩
  replace Ra := Ra.on P11
  replace Rb := Rb.on P11
  replace Rc := Rc.on P11
  replace Rab := Rab.on P11
  replace Rbc := Rbc.on P11
  replace Rs1 := Rs1.on P11
  replace Rs2 := Rs2.on P11
  replace O := O.trans P11
  clear P11
  clear Rs1 Ts1
  clear Rs2 Ts2
  go_wp2_with fail
  refine (mul_any _ _ _ _ _ _ _ 40 40 _ _ Ra Rb Ta Tb (by decide) (by decide)).mono ?_
  rintro e v12 ⟨Ap, np, cp, rfl, ⟨xp, Rp, Cp, Vp, Lp⟩, P12⟩
  have Tp : tl xp ≤ 80 := Nat.le_trans (tl_le _) (by rw [Rp.len]; omega)
  have Hp := Lib.hid Vp
  clear Vp
  replace Ra := Ra.on P12
  replace Rb := Rb.on P12
  replace Rc := Rc.on P12
  replace Rab := Rab.on P12
  replace Rbc := Rbc.on P12
  replace O := O.trans P12
  clear P12
  go_wp2_with fail
  refine (clean_rd _ _ _ _ _ Rp Cp).mono ?_
  rintro e v13 ⟨rfl, P13⟩
  replace Ra := Ra.on P13
  replace Rb := Rb.on P13
  replace Rc := Rc.on P13
  replace Rab := Rab.on P13
  replace Rbc := Rbc.on P13
  replace Rp := Rp.on P13
  replace O := O.trans P13
  clear P13
  go_wp2_with fail
  refine (mul_any _ _ _ _ _ _ _ 40 40 _ _ Rb Ra Tb Ta (by decide) (by decide)).mono ?_
  rintro e v14 ⟨Aq, nq, cq, rfl, ⟨xq, Rq, Cq, Vq, Lq⟩, P14⟩
  have Tq : tl xq ≤ 80 := Nat.le_trans (tl_le _) (by rw [Rq.len]; omega)
  have Hq := Lib.hid Vq
  clear Vq
  replace Ra := Ra.on P14
  replace Rb := Rb.on P14
  replace Rc := Rc.on P14
  replace Rab := Rab.on P14
  replace Rbc := Rbc.on P14
  replace Rp := Rp.on P14
  replace O := O.trans P14
  clear P14
  go_wp2_with fail
  refine (cmp_same _ _ _ _ _ _ _ _ _ Rp Rq (by rw [Hp.out, Hq.out, Nat.mul_comm])).mono ?_
  rintro e v15 ⟨rfl, P15⟩
  replace Ra := Ra.on P15
  replace Rb := Rb.on P15
  replace Rc := Rc.on P15
  replace Rab := Rab.on P15
  replace Rbc := Rbc.on P15
  replace Rp := Rp.on P15
  replace Rq := Rq.on P15
  replace O := O.trans P15
  clear P15
  clear Rq Tq
  go_wp2_with fail
  refine (mul_any _ _ _ _ _ _ _ 80 40 _ _ Rp Rc Tp Tc (by decide) (by decide)).mono ?_
  rintro e v16 ⟨At1, nt1, ct1, rfl, ⟨xt1, Rt1, Ct1, Vt1, Lt1⟩, P16⟩
  have Tt1 : tl xt1 ≤ 120 := Nat.le_trans (tl_le _) (by rw [Rt1.len]; omega)
  have Ht1 := Lib.hid Vt1
  clear Vt1
  replace Ra := Ra.on P16
  replace Rb := Rb.on P16
  replace Rc := Rc.on P16
  replace Rab := Rab.on P16
  replace Rbc := Rbc.on P16
  replace Rp := Rp.on P16
  replace O := O.trans P16
  clear P16
  go_wp2_with fail
  refine (mul_any _ _ _ _ _ _ _ 40 40 _ _ Rb Rc Tb Tc (by decide) (by decide)).mono ?_
  rintro e v17 ⟨Au, nu, cu, rfl, ⟨xu, Ru, Cu, Vu, Lu⟩, P17⟩
  have Tu : tl xu ≤ 80 := Nat.le_trans (tl_le _) (by rw [Ru.len]; omega)
  have Hu := Lib.hid Vu
  clear Vu
  replace Ra := Ra.on P17
  replace Rb := Rb.on P17
  replace Rc := Rc.on P17
  replace Rab := Rab.on P17
  replace Rbc := Rbc.on P17
  replace Rp := Rp.on P17
  replace Rt1 := Rt1.on P17
  replace O := O.trans P17
  clear P17
  go_wp2_with fail
  refine (mul_any _ _ _ _ _ _ _ 40 80 _ _ Ra Ru Ta Tu (by decide) (by decide)).mono ?_
  rintro e v18 ⟨At2, nt2, ct2, rfl, ⟨xt2, Rt2, Ct2, Vt2, Lt2⟩, P18⟩
  have Tt2 : tl xt2 ≤ 120 := Nat.le_trans (tl_le _) (by rw [Rt2.len]; omega)
  have Ht2 := Lib.hid Vt2
  clear Vt2
  replace Ra := Ra.on P18
  replace Rb := Rb.on P18
  replace Rc := Rc.on P18
  replace Rab := Rab.on P18
  replace Rbc := Rbc.on P18
  replace Rp := Rp.on P18
  replace Rt1 := Rt1.on P18
  replace Ru := Ru.on P18
  replace O := O.trans P18
  clear P18
  go_wp2_with fail
  refine (cmp_same _ _ _ _ _ _ _ _ _ Rt1 Rt2 (by rw [Ht1.out, Ht2.out, Hu.out, Hp.out, Nat.mul_assoc])).mono ?_
  rintro e v19 ⟨rfl, P19⟩
  replace Ra := Ra.on P19
  replace Rb := Rb.on P19
  replace Rc := Rc.on P19
  replace Rab := Rab.on P19
  replace Rbc := Rbc.on P19
  replace Rp := Rp.on P19
  replace Rt1 := Rt1.on P19
  replace Ru := Ru.on P19
  replace Rt2 := Rt2.on P19
  replace O := O.trans P19
  clear P19
  clear Rt1 Tt1
  clear Rt2 Tt2
  clear Ru Tu
  go_wp2_with fail
  refine (mul_any _ _ _ _ _ _ _ 40 41 _ _ Ra Rbc Ta Tbc (by decide) (by decide)).mono ?_
  rintro e v20 ⟨Az1, nz1, cz1, rfl, ⟨xz1, Rz1, Cz1, Vz1, Lz1⟩, P20⟩
  have Tz1 : tl xz1 ≤ 81 := Nat.le_trans (tl_le _) (by rw [Rz1.len]; omega)
  have Hz1 := Lib.hid Vz1
  clear Vz1
  replace Ra := Ra.on P20
  replace Rb := Rb.on P20
  replace Rc := Rc.on P20
  replace Rab := Rab.on P20
  replace Rbc := Rbc.on P20
  replace Rp := Rp.on P20
  replace O := O.trans P20
  clear P20
  go_wp2_with fail
  refine (mul_any _ _ _ _ _ _ _ 40 40 _ _ Ra Rc Ta Tc (by decide) (by decide)).mono ?_
  rintro e v21 ⟨Aac, nac, cac, rfl, ⟨xac, Rac, Cac, Vac, Lac⟩, P21⟩
  have Tac : tl xac ≤ 80 := Nat.le_trans (tl_le _) (by rw [Rac.len]; omega)
  have Hac := Lib.hid Vac
  clear Vac
  replace Ra := Ra.on P21
  replace Rb := Rb.on P21
  replace Rc := Rc.on P21
  replace Rab := Rab.on P21
  replace Rbc := Rbc.on P21
  replace Rp := Rp.on P21
  replace Rz1 := Rz1.on P21
  replace O := O.trans P21
  clear P21
  go_wp2_with fail
  refine (add_any _ _ _ _ _ _ _ 80 _ _ Rp Rac (by omega) (by omega) (by decide)).mono ?_
  rintro e v22 ⟨Az2, nz2, cz2, rfl, ⟨xz2, Rz2, Cz2, Vz2, Lz2⟩, P22⟩
  have Tz2 : tl xz2 ≤ 81 := Nat.le_trans (tl_le _) (by rw [Rz2.len]; omega)
  have Hz2 := Lib.hid Vz2
  clear Vz2
  replace Ra := Ra.on P22
  replace Rb := Rb.on P22
  replace Rc := Rc.on P22
  replace Rab := Rab.on P22
  replace Rbc := Rbc.on P22
  replace Rp := Rp.on P22
  replace Rz1 := Rz1.on P22
  replace Rac := Rac.on P22
  replace O := O.trans P22
  clear P22
  go_wp2_with fail
  refine (cmp_same _ _ _ _ _ _ _ _ _ Rz1 Rz2 (by rw [Hz1.out, Hz2.out, Hbc.out, Hp.out, Hac.out, Nat.mul_add])).mono ?_
  rintro e v23 ⟨rfl, P23⟩
  replace Ra := Ra.on P23
  replace Rb := Rb.on P23
  replace Rc := Rc.on P23
  replace Rab := Rab.on P23
  replace Rbc := Rbc.on P23
  replace Rp := Rp.on P23
  replace Rz1 := Rz1.on P23
  replace Rac := Rac.on P23
  replace Rz2 := Rz2.on P23
  replace O := O.trans P23
  clear P23
  go_wp2
  go_ret
  exact ⟨rfl, O⟩
end Num
end Go.Proofs.Ytgbjbffoanofmaa
