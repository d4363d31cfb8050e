/-
  The statement NaturalProducts, walked: Mul and Power answer as the specification's functions do.
-/
import Derived.Test.YtgbjbffoanofmaaRpow
namespace Go.Proofs.Ytgbjbffoanofmaa
open Go.RowKit
set_option linter.unusedVariables false
namespace Num
set_option maxRecDepth 100000 in
set_option maxHeartbeats 1000000 in
theorem power_large (w : World) (A : Option Addr) (n c : Nat) (xs : List Nat) (h : Rd w A n c xs) (q : Nat) (hq : q ≤ 1024) (hn : n ≤ 1000) (hb : 131072 < nb (val xs) * q) :
    Calls Try.prog 32 #[.slice A n c, .int .i64 (q : Int)] w fun e w' => e = .returned (.tuple #[.slice none 0 0, .iface 56 (.int .i64 4)]) ∧ On w w' := by
  have htl : tl xs ≤ 1000 := Nat.le_trans (tl_le xs) (by rw [h.len]; exact hn)
  have d1 : decide ((q : Int) < 0) = false := decide_eq_false (by omega)
  have d2 : decide (1024 < (q : Int)) = false := decide_eq_false (by omega)
  obtain ⟨pb, hpb⟩ : ∃ x, nb (val xs) * q = x := ⟨_, rfl⟩
  rw [hpb] at hb
  have HPB : Hid (((nb (val xs) : Nat) : Int) * (q : Int) = (pb : Int)) := Lib.hid (by rw [← Int.natCast_mul, hpb])
  obtain ⟨bz, hbz⟩ : ∃ x, nb (val xs) = x := ⟨_, rfl⟩
  have hnb : bz ≤ 32000 := by have h1 := nb_len xs h.ok; rw [h.len, hbz] at h1; omega
  have hpl : pb ≤ 32768000 := by
    have h1 : bz * q ≤ 32000 * 1024 := Nat.mul_le_mul hnb hq
    rw [← hpb, hbz]; omega
  rw [hbz] at HPB
  have hpi := HPB.out
  have HBZ := Lib.hid hbz
  have d4 : decide (131072 < (pb : Int)) = true := decide_eq_true (by omega)
  clear hbz hpb
  go_enter Try.func32, Try.ntmps32
  go_wp2_with fail
  have T := h.take (k := tl xs) (by rw [← h.len]; exact tl_le xs)
  have HVT := Lib.hid (val_take_tl xs)
  generalize xs.take (tl xs) = zs at *
  refine (trim_any _ _ _ _ _ h).mono ?_
  rintro e w' ⟨rfl, rfl⟩
  generalize tl xs = m at *
  have d3 : decide (1024 < (m : Int)) = false := decide_eq_false (by omega)
  go_wp2_with fail
  refine (bits_any _ _ _ _ _ T (by omega)).mono ?_
  rintro e w' ⟨rfl, rfl⟩
  rw [HVT.out, HBZ.out]
  go_wp2
  go_ret2
  exact ⟨rfl, On.refl _⟩
set_option maxRecDepth 100000 in
set_option maxHeartbeats 1000000 in
theorem rpower_large (w : World) (A : Option Addr) (n c : Nat) (xs : List Nat) (h : Rd w A n c xs) (q : Nat) (hq : q ≤ 1024) (hn : n ≤ 1000) (hb : 131072 < nb (val xs) * q) :
    Calls Try.prog 33 #[.slice A n c, .int .i64 (q : Int)] w fun e w' => e = .returned (.tuple #[.slice none 0 0, .int .i64 4]) ∧ On w w' := by
  have htl : tl xs ≤ 1000 := Nat.le_trans (tl_le xs) (by rw [h.len]; exact hn)
  have d1 : decide ((q : Int) < 0) = false := decide_eq_false (by omega)
  have d2 : decide (1024 < (q : Int)) = false := decide_eq_false (by omega)
  obtain ⟨pb, hpb⟩ : ∃ x, nb (val xs) * q = x := ⟨_, rfl⟩
  rw [hpb] at hb
  have HPB : Hid (((nb (val xs) : Nat) : Int) * (q : Int) = (pb : Int)) := Lib.hid (by rw [← Int.natCast_mul, hpb])
  obtain ⟨bz, hbz⟩ : ∃ x, nb (val xs) = x := ⟨_, rfl⟩
  have hnb : bz ≤ 32000 := by have h1 := nb_len xs h.ok; rw [h.len, hbz] at h1; omega
  have hpl : pb ≤ 32768000 := by
    have h1 : bz * q ≤ 32000 * 1024 := Nat.mul_le_mul hnb hq
    rw [← hpb, hbz]; omega
  rw [hbz] at HPB
  have hpi := HPB.out
  have HBZ := Lib.hid hbz
  have d4 : decide (131072 < (pb : Int)) = true := decide_eq_true (by omega)
  clear hbz hpb
  go_enter Try.func33, Try.ntmps33
  go_wp2_with fail
  refine (rtrim_any _ _ _ _ 1000 _ h htl (by omega)).mono ?_
  rintro e w1 ⟨A1, n1, c1, rfl, ⟨zs, RZ, CZ, VZ, LZ⟩, hon1⟩
  have HVZ := Lib.hid VZ
  have d3 : decide (1024 < (n1 : Int)) = false := decide_eq_false (by omega)
  clear VZ
  go_wp2_with fail
  refine (rbits_any _ _ _ _ _ RZ (by omega)).mono ?_
  rintro e w' ⟨rfl, rfl⟩
  rw [HVZ.out, HBZ.out]
  go_wp2
  go_ret2
  exact ⟨rfl, hon1⟩
set_option maxRecDepth 100000 in
set_option maxHeartbeats 4000000 in
theorem products_neg (w : World) (Aa : Option Addr) (na ca : Nat) (xa : List Nat) (Ae : Option Addr) (ne ce : Nat) (xe : List Nat) (x : Int) (Ra : Rd w Aa na ca xa) (Re : Rd w Ae ne ce xe) (hx : x < 0) :
    Calls Try.prog 5 #[.slice Aa na ca, .slice Ae ne ce, .int .i64 x] w fun e w' => e = .returned (.bool true) ∧ On w w' := by
  have O := On.refl w
  have hca := Ra.cap
  have hma := Ra.max
  have hce := Re.cap
  have hme := Re.max
  rcases some_large [na, ne] 2 with hl | ⟨m, hm, hl⟩
  rotate_left
  · have HL := Lib.hid hl
    clear hl
    go_enter Try.func5, Try.ntmps5
    go_wp2_with fail
    refine (awake_any _).mono ?_
    rintro e w1 ⟨rfl, P1⟩
    go_wp2_with fail
    have LE := lens_two w1 22 Aa Ae na ca ne ce hca hma hce hme
    have P2 := (On.refl w1).alloc (.cells #[.slice Aa na ca, .slice Ae ne ce] 22)
    refine (large_yes _ _ _ _ _ LE rfl (by simp) m hm HL.out).mono ?_
    rintro e w' ⟨rfl, rfl⟩
    go_wp2_with fail
    refine (awake_any _).mono ?_
    rintro e w3 ⟨rfl, P3⟩
    go_wp2
    go_ret
    exact ⟨rfl, (P1.trans P2).trans P3⟩
  have hna : na ≤ 40 := hl 0 (by decide)
  have hne : ne ≤ 40 := hl 1 (by decide)
  have HL := Lib.hid hl
  clear hl
  have Ta : tl xa ≤ 40 := Nat.le_trans (tl_le _) (by rw [Ra.len]; omega)
  have Te : tl xe ≤ 40 := Nat.le_trans (tl_le _) (by rw [Re.len]; omega)
  have HX : Hid (x < 0 ∨ 1024 < x) := Lib.hid (by omega)
  have f1 : decide (1 < x) = false := decide_eq_false (by omega)
  go_enter Try.func5, Try.ntmps5
  go_wp2_with fail
  refine (awake_any _).mono ?_
  rintro e w1 ⟨rfl, P1⟩
  replace Ra := Ra.on P1
  replace Re := Re.on P1
  replace O := O.trans P1
  clear P1
  go_wp2_with fail
  have LE := lens_two w1 22 Aa Ae na ca ne ce hca hma hce hme
  have P2 := (On.refl w1).alloc (.cells #[.slice Aa na ca, .slice Ae ne ce] 22)
  refine (large_no _ _ _ _ _ LE rfl (by simp) HL.out).mono ?_
  rintro e w' ⟨rfl, rfl⟩
  replace Ra := Ra.on P2
  replace Re := Re.on P2
  replace O := O.trans P2
  clear P2
  clear HL LE
  go_wp2_with fail
  refine (mul_any _ _ _ _ _ _ _ 40 40 _ _ Ra Re Ta Te (by decide) (by decide)).mono ?_
  rintro e v1 ⟨Ap, np, cp, rfl, ⟨xp, Rp, Cp, Vp, Lp⟩, P1⟩
  have Tp : tl xp ≤ 80 := Nat.le_trans (tl_le _) (by rw [Rp.len]; omega)
  have Hp := Lib.hid Vp
  clear Vp
  replace Ra := Ra.on P1
  replace Re := Re.on P1
  replace O := O.trans P1
  clear P1
  go_wp2_with fail
  refine (rmul_any _ _ _ _ _ _ _ 81 _ _ Ra Re (by omega) (by omega) (by omega)).mono ?_
  rintro e v2 ⟨As, ns, cs, rfl, ⟨xs, Rs, Cs, Vs, Ls⟩, P2⟩
  have Ts : tl xs ≤ 81 := Nat.le_trans (tl_le _) (by rw [Rs.len]; omega)
  have Hs := Lib.hid Vs
  clear Vs
  replace Ra := Ra.on P2
  replace Re := Re.on P2
  replace Rp := Rp.on P2
  replace O := O.trans P2
  clear P2
  go_wp2_with fail
  refine (words_rd _ _ _ _ _ _ _ _ _ Rp Rs Cp Cs (by rw [Hp.out, Hs.out])).mono ?_
  rintro e v3 ⟨rfl, P3⟩
  replace Ra := Ra.on P3
  replace Re := Re.on P3
  replace Rp := Rp.on P3
  replace Rs := Rs.on P3
  replace O := O.trans P3
  clear P3
  clear Rp Tp
  clear Rs Ts
  go_wp2_with fail
  refine (power_range _ _ _ _ _ Ra _ HX.out).mono ?_
  rintro e w' ⟨rfl, rfl⟩
  go_wp2_with fail
  refine (rpower_range _ _ _ _ _ Ra _ HX.out).mono ?_
  rintro e w' ⟨rfl, rfl⟩
  go_wp2_with fail
  refine (words_rd _ _ _ _ _ _ _ _ _ Rd.nil_ Rd.nil_ clean_nil clean_nil rfl).mono ?_
  rintro e v4 ⟨rfl, P4⟩
  replace Ra := Ra.on P4
  replace Re := Re.on P4
  replace O := O.trans P4
  clear P4
  go_wp2_with fail
  refine (num_err _ _).mono ?_
  rintro e w' ⟨rfl, rfl⟩
  go_wp2
  go_ret
  exact ⟨rfl, O⟩
set_option maxRecDepth 100000 in
set_option maxHeartbeats 4000000 in
theorem products_big (w : World) (Aa : Option Addr) (na ca : Nat) (xa : List Nat) (Ae : Option Addr) (ne ce : Nat) (xe : List Nat) (x : Int) (Ra : Rd w Aa na ca xa) (Re : Rd w Ae ne ce xe) (hx : 1024 < x) :
    Calls Try.prog 5 #[.slice Aa na ca, .slice Ae ne ce, .int .i64 x] w fun e w' => e = .returned (.bool true) ∧ On w w' := by
  have O := On.refl w
  have hca := Ra.cap
  have hma := Ra.max
  have hce := Re.cap
  have hme := Re.max
  rcases some_large [na, ne] 2 with hl | ⟨m, hm, hl⟩
  rotate_left
  · have HL := Lib.hid hl
    clear hl
    go_enter Try.func5, Try.ntmps5
    go_wp2_with fail
    refine (awake_any _).mono ?_
    rintro e w1 ⟨rfl, P1⟩
    go_wp2_with fail
    have LE := lens_two w1 22 Aa Ae na ca ne ce hca hma hce hme
    have P2 := (On.refl w1).alloc (.cells #[.slice Aa na ca, .slice Ae ne ce] 22)
    refine (large_yes _ _ _ _ _ LE rfl (by simp) m hm HL.out).mono ?_
    rintro e w' ⟨rfl, rfl⟩
    go_wp2_with fail
    refine (awake_any _).mono ?_
    rintro e w3 ⟨rfl, P3⟩
    go_wp2
    go_ret
    exact ⟨rfl, (P1.trans P2).trans P3⟩
  have hna : na ≤ 40 := hl 0 (by decide)
  have hne : ne ≤ 40 := hl 1 (by decide)
  have HL := Lib.hid hl
  clear hl
  have Ta : tl xa ≤ 40 := Nat.le_trans (tl_le _) (by rw [Ra.len]; omega)
  have Te : tl xe ≤ 40 := Nat.le_trans (tl_le _) (by rw [Re.len]; omega)
  have HX : Hid (x < 0 ∨ 1024 < x) := Lib.hid (by omega)
  have f1 : decide (1 < x) = true := decide_eq_true (by omega)
  have f2 : decide (x ≤ 1024) = false := decide_eq_false (by omega)
  go_enter Try.func5, Try.ntmps5
  go_wp2_with fail
  refine (awake_any _).mono ?_
  rintro e w1 ⟨rfl, P1⟩
  replace Ra := Ra.on P1
  replace Re := Re.on P1
  replace O := O.trans P1
  clear P1
  go_wp2_with fail
  have LE := lens_two w1 22 Aa Ae na ca ne ce hca hma hce hme
  have P2 := (On.refl w1).alloc (.cells #[.slice Aa na ca, .slice Ae ne ce] 22)
  refine (large_no _ _ _ _ _ LE rfl (by simp) HL.out).mono ?_
  rintro e w' ⟨rfl, rfl⟩
  replace Ra := Ra.on P2
  replace Re := Re.on P2
  replace O := O.trans P2
  clear P2
  clear HL LE
  go_wp2_with fail
  refine (mul_any _ _ _ _ _ _ _ 40 40 _ _ Ra Re Ta Te (by decide) (by decide)).mono ?_
  rintro e v1 ⟨Ap, np, cp, rfl, ⟨xp, Rp, Cp, Vp, Lp⟩, P1⟩
  have Tp : tl xp ≤ 80 := Nat.le_trans (tl_le _) (by rw [Rp.len]; omega)
  have Hp := Lib.hid Vp
  clear Vp
  replace Ra := Ra.on P1
  replace Re := Re.on P1
  replace O := O.trans P1
  clear P1
  go_wp2_with fail
  refine (rmul_any _ _ _ _ _ _ _ 81 _ _ Ra Re (by omega) (by omega) (by omega)).mono ?_
  rintro e v2 ⟨As, ns, cs, rfl, ⟨xs, Rs, Cs, Vs, Ls⟩, P2⟩
  have Ts : tl xs ≤ 81 := Nat.le_trans (tl_le _) (by rw [Rs.len]; omega)
  have Hs := Lib.hid Vs
  clear Vs
  replace Ra := Ra.on P2
  replace Re := Re.on P2
  replace Rp := Rp.on P2
  replace O := O.trans P2
  clear P2
  go_wp2_with fail
  refine (words_rd _ _ _ _ _ _ _ _ _ Rp Rs Cp Cs (by rw [Hp.out, Hs.out])).mono ?_
  rintro e v3 ⟨rfl, P3⟩
  replace Ra := Ra.on P3
  replace Re := Re.on P3
  replace Rp := Rp.on P3
  replace Rs := Rs.on P3
  replace O := O.trans P3
  clear P3
  clear Rp Tp
  clear Rs Ts
  go_wp2_with fail
  refine (power_range _ _ _ _ _ Ra _ HX.out).mono ?_
  rintro e w' ⟨rfl, rfl⟩
  go_wp2_with fail
  refine (rpower_range _ _ _ _ _ Ra _ HX.out).mono ?_
  rintro e w' ⟨rfl, rfl⟩
  go_wp2_with fail
  refine (words_rd _ _ _ _ _ _ _ _ _ Rd.nil_ Rd.nil_ clean_nil clean_nil rfl).mono ?_
  rintro e v4 ⟨rfl, P4⟩
  replace Ra := Ra.on P4
  replace Re := Re.on P4
  replace O := O.trans P4
  clear P4
  go_wp2_with fail
  refine (num_err _ _).mono ?_
  rintro e w' ⟨rfl, rfl⟩
  go_wp2
  go_ret
  exact ⟨rfl, O⟩
set_option maxRecDepth 100000 in
set_option maxHeartbeats 4000000 in
theorem products_small (w : World) (Aa : Option Addr) (na ca : Nat) (xa : List Nat) (Ae : Option Addr) (ne ce : Nat) (xe : List Nat) (q : Nat) (Ra : Rd w Aa na ca xa) (Re : Rd w Ae ne ce xe) (hq : q ≤ 1) :
    Calls Try.prog 5 #[.slice Aa na ca, .slice Ae ne ce, .int .i64 (q : Int)] w fun e w' => e = .returned (.bool true) ∧ On w w' := by
  have O := On.refl w
  have hca := Ra.cap
  have hma := Ra.max
  have hce := Re.cap
  have hme := Re.max
  rcases some_large [na, ne] 2 with hl | ⟨m, hm, hl⟩
  rotate_left
  · have HL := Lib.hid hl
    clear hl
    go_enter Try.func5, Try.ntmps5
    go_wp2_with fail
    refine (awake_any _).mono ?_
    rintro e w1 ⟨rfl, P1⟩
    go_wp2_with fail
    have LE := lens_two w1 22 Aa Ae na ca ne ce hca hma hce hme
    have P2 := (On.refl w1).alloc (.cells #[.slice Aa na ca, .slice Ae ne ce] 22)
    refine (large_yes _ _ _ _ _ LE rfl (by simp) m hm HL.out).mono ?_
    rintro e w' ⟨rfl, rfl⟩
    go_wp2_with fail
    refine (awake_any _).mono ?_
    rintro e w3 ⟨rfl, P3⟩
    go_wp2
    go_ret
    exact ⟨rfl, (P1.trans P2).trans P3⟩
  have hna : na ≤ 40 := hl 0 (by decide)
  have hne : ne ≤ 40 := hl 1 (by decide)
  have HL := Lib.hid hl
  clear hl
  have Ta : tl xa ≤ 40 := Nat.le_trans (tl_le _) (by rw [Ra.len]; omega)
  have Te : tl xe ≤ 40 := Nat.le_trans (tl_le _) (by rw [Re.len]; omega)
  have f1 : decide (1 < (q : Int)) = false := decide_eq_false (by omega)
  have HNB : Hid (nb (val xa) * q ≤ 131072) := Lib.hid (by have h1 := nb_len xa Ra.ok; rw [Ra.len] at h1; have h2 : nb (val xa) * q ≤ 1280 * 1 := Nat.mul_le_mul (by omega) hq; omega)
  go_enter Try.func5, Try.ntmps5
  go_wp2_with fail
  refine (awake_any _).mono ?_
  rintro e w1 ⟨rfl, P1⟩
  replace Ra := Ra.on P1
  replace Re := Re.on P1
  replace O := O.trans P1
  clear P1
  go_wp2_with fail
  have LE := lens_two w1 22 Aa Ae na ca ne ce hca hma hce hme
  have P2 := (On.refl w1).alloc (.cells #[.slice Aa na ca, .slice Ae ne ce] 22)
  refine (large_no _ _ _ _ _ LE rfl (by simp) HL.out).mono ?_
  rintro e w' ⟨rfl, rfl⟩
  replace Ra := Ra.on P2
  replace Re := Re.on P2
  replace O := O.trans P2
  clear P2
  clear HL LE
  go_wp2_with fail
  refine (mul_any _ _ _ _ _ _ _ 40 40 _ _ Ra Re Ta Te (by decide) (by decide)).mono ?_
  rintro e v1 ⟨Ap, np, cp, rfl, ⟨xp, Rp, Cp, Vp, Lp⟩, P1⟩
  have Tp : tl xp ≤ 80 := Nat.le_trans (tl_le _) (by rw [Rp.len]; omega)
  have Hp := Lib.hid Vp
  clear Vp
  replace Ra := Ra.on P1
  replace Re := Re.on P1
  replace O := O.trans P1
  clear P1
  go_wp2_with fail
  refine (rmul_any _ _ _ _ _ _ _ 81 _ _ Ra Re (by omega) (by omega) (by omega)).mono ?_
  rintro e v2 ⟨As, ns, cs, rfl, ⟨xs, Rs, Cs, Vs, Ls⟩, P2⟩
  have Ts : tl xs ≤ 81 := Nat.le_trans (tl_le _) (by rw [Rs.len]; omega)
  have Hs := Lib.hid Vs
  clear Vs
  replace Ra := Ra.on P2
  replace Re := Re.on P2
  replace Rp := Rp.on P2
  replace O := O.trans P2
  clear P2
  go_wp2_with fail
  refine (words_rd _ _ _ _ _ _ _ _ _ Rp Rs Cp Cs (by rw [Hp.out, Hs.out])).mono ?_
  rintro e v3 ⟨rfl, P3⟩
  replace Ra := Ra.on P3
  replace Re := Re.on P3
  replace Rp := Rp.on P3
  replace Rs := Rs.on P3
  replace O := O.trans P3
  clear P3
  clear Rp Tp
  clear Rs Ts
  go_wp2_with fail
  refine (power_good _ _ _ _ _ Ra q (by omega) (by omega) (by omega) (HNB.out)).mono ?_
  rintro e v4 ⟨Au, nu, cu, rfl, ⟨xu, Ru, Cu, Vu, Lu⟩, P4⟩
  have Tu : tl xu ≤ 4097 := Nat.le_trans (tl_le _) (by rw [Ru.len]; omega)
  have Hu := Lib.hid Vu
  clear Vu
  replace Ra := Ra.on P4
  replace Re := Re.on P4
  replace O := O.trans P4
  clear P4
  go_wp2_with fail
  refine (rpower_good _ _ _ _ _ Ra q (by omega) (by omega) (HNB.out)).mono ?_
  rintro e v5 ⟨Av_, nv_, cv_, rfl, ⟨xv_, Rv_, Cv_, Vv_, Lv_⟩, P5⟩
  have Tv_ : tl xv_ ≤ 4097 := Nat.le_trans (tl_le _) (by rw [Rv_.len]; omega)
  have Hv_ := Lib.hid Vv_
  clear Vv_
  replace Ra := Ra.on P5
  replace Re := Re.on P5
  replace Ru := Ru.on P5
  replace O := O.trans P5
  clear P5
  go_wp2_with fail
  refine (words_rd _ _ _ _ _ _ _ _ _ Ru Rv_ Cu Cv_ (by rw [Hu.out, Hv_.out])).mono ?_
  rintro e v6 ⟨rfl, P6⟩
  replace Ra := Ra.on P6
  replace Re := Re.on P6
  replace Ru := Ru.on P6
  replace Rv_ := Rv_.on P6
  replace O := O.trans P6
  clear P6
  go_wp2_with fail
  refine (num_nil _).mono ?_
  rintro e w' ⟨rfl, rfl⟩
  go_wp2
  go_ret
  exact ⟨rfl, O⟩
set_option maxRecDepth 100000 in
set_option maxHeartbeats 4000000 in
theorem products_mid (w : World) (Aa : Option Addr) (na ca : Nat) (xa : List Nat) (Ae : Option Addr) (ne ce : Nat) (xe : List Nat) (q : Nat) (Ra : Rd w Aa na ca xa) (Re : Rd w Ae ne ce xe) (hq1 : 2 ≤ q) (hq : q ≤ 1024) (hp : nb (val xa) * q ≤ 6000) :
    Calls Try.prog 5 #[.slice Aa na ca, .slice Ae ne ce, .int .i64 (q : Int)] w fun e w' => e = .returned (.bool true) ∧ On w w' := by
  have O := On.refl w
  have hca := Ra.cap
  have hma := Ra.max
  have hce := Re.cap
  have hme := Re.max
  rcases some_large [na, ne] 2 with hl | ⟨m, hm, hl⟩
  rotate_left
  · have HL := Lib.hid hl
    clear hl
    go_enter Try.func5, Try.ntmps5
    go_wp2_with fail
    refine (awake_any _).mono ?_
    rintro e w1 ⟨rfl, P1⟩
    go_wp2_with fail
    have LE := lens_two w1 22 Aa Ae na ca ne ce hca hma hce hme
    have P2 := (On.refl w1).alloc (.cells #[.slice Aa na ca, .slice Ae ne ce] 22)
    refine (large_yes _ _ _ _ _ LE rfl (by simp) m hm HL.out).mono ?_
    rintro e w' ⟨rfl, rfl⟩
    go_wp2_with fail
    refine (awake_any _).mono ?_
    rintro e w3 ⟨rfl, P3⟩
    go_wp2
    go_ret
    exact ⟨rfl, (P1.trans P2).trans P3⟩
  have hna : na ≤ 40 := hl 0 (by decide)
  have hne : ne ≤ 40 := hl 1 (by decide)
  have HL := Lib.hid hl
  clear hl
  have Ta : tl xa ≤ 40 := Nat.le_trans (tl_le _) (by rw [Ra.len]; omega)
  have Te : tl xe ≤ 40 := Nat.le_trans (tl_le _) (by rw [Re.len]; omega)
  have f1 : decide (1 < (q : Int)) = true := decide_eq_true (by omega)
  have f2 : decide ((q : Int) ≤ 1024) = true := decide_eq_true (by omega)
  obtain ⟨pb, hpb⟩ : ∃ x, nb (val xa) * q = x := ⟨_, rfl⟩
  have HPI : Hid (((nb (val xa) : Nat) : Int) * (q : Int) = (pb : Int)) := Lib.hid (by rw [← Int.natCast_mul, hpb])
  obtain ⟨bz, hbz⟩ : ∃ x, nb (val xa) = x := ⟨_, rfl⟩
  have hnb : bz ≤ 1280 := by have h1 := nb_len xa Ra.ok; rw [Ra.len, hbz] at h1; omega
  have hpl : pb ≤ 1310720 := by
    have h1 : bz * q ≤ 1280 * 1024 := Nat.mul_le_mul hnb hq
    rw [← hpb, hbz]; omega
  have HPB := Lib.hid hpb
  rw [hbz] at HPI
  have hpi := HPI.out
  have HBZ := Lib.hid hbz
  rw [hpb] at hp
  clear hbz hpb
  have f3 : decide (6000 < (pb : Int)) = false := decide_eq_false (by omega)
  go_enter Try.func5, Try.ntmps5
  go_wp2_with fail
  refine (awake_any _).mono ?_
  rintro e w1 ⟨rfl, P1⟩
  replace Ra := Ra.on P1
  replace Re := Re.on P1
  replace O := O.trans P1
  clear P1
  go_wp2_with fail
  have LE := lens_two w1 22 Aa Ae na ca ne ce hca hma hce hme
  have P2 := (On.refl w1).alloc (.cells #[.slice Aa na ca, .slice Ae ne ce] 22)
  refine (large_no _ _ _ _ _ LE rfl (by simp) HL.out).mono ?_
  rintro e w' ⟨rfl, rfl⟩
  replace Ra := Ra.on P2
  replace Re := Re.on P2
  replace O := O.trans P2
  clear P2
  clear HL LE
  go_wp2_with fail
  refine (mul_any _ _ _ _ _ _ _ 40 40 _ _ Ra Re Ta Te (by decide) (by decide)).mono ?_
  rintro e v1 ⟨Ap, np, cp, rfl, ⟨xp, Rp, Cp, Vp, Lp⟩, P1⟩
  have Tp : tl xp ≤ 80 := Nat.le_trans (tl_le _) (by rw [Rp.len]; omega)
  have Hp := Lib.hid Vp
  clear Vp
  replace Ra := Ra.on P1
  replace Re := Re.on P1
  replace O := O.trans P1
  clear P1
  go_wp2_with fail
  refine (rmul_any _ _ _ _ _ _ _ 81 _ _ Ra Re (by omega) (by omega) (by omega)).mono ?_
  rintro e v2 ⟨As, ns, cs, rfl, ⟨xs, Rs, Cs, Vs, Ls⟩, P2⟩
  have Ts : tl xs ≤ 81 := Nat.le_trans (tl_le _) (by rw [Rs.len]; omega)
  have Hs := Lib.hid Vs
  clear Vs
  replace Ra := Ra.on P2
  replace Re := Re.on P2
  replace Rp := Rp.on P2
  replace O := O.trans P2
  clear P2
  go_wp2_with fail
  refine (words_rd _ _ _ _ _ _ _ _ _ Rp Rs Cp Cs (by rw [Hp.out, Hs.out])).mono ?_
  rintro e v3 ⟨rfl, P3⟩
  replace Ra := Ra.on P3
  replace Re := Re.on P3
  replace Rp := Rp.on P3
  replace Rs := Rs.on P3
  replace O := O.trans P3
  clear P3
  clear Rp Tp
  clear Rs Ts
  go_wp2_with fail
  refine (rbits_any _ _ _ _ _ Ra (by omega)).mono ?_
  rintro e w' ⟨rfl, rfl⟩
  rw [HBZ.out]
  go_wp2_with fail
  refine (power_good _ _ _ _ _ Ra q (by omega) (by omega) (by omega) (by rw [HPB.out]; omega)).mono ?_
  rintro e v4 ⟨Au, nu, cu, rfl, ⟨xu, Ru, Cu, Vu, Lu⟩, P4⟩
  have Tu : tl xu ≤ 4097 := Nat.le_trans (tl_le _) (by rw [Ru.len]; omega)
  have Hu := Lib.hid Vu
  clear Vu
  replace Ra := Ra.on P4
  replace Re := Re.on P4
  replace O := O.trans P4
  clear P4
  go_wp2_with fail
  refine (rpower_good _ _ _ _ _ Ra q (by omega) (by omega) (by rw [HPB.out]; omega)).mono ?_
  rintro e v5 ⟨Av_, nv_, cv_, rfl, ⟨xv_, Rv_, Cv_, Vv_, Lv_⟩, P5⟩
  have Tv_ : tl xv_ ≤ 4097 := Nat.le_trans (tl_le _) (by rw [Rv_.len]; omega)
  have Hv_ := Lib.hid Vv_
  clear Vv_
  replace Ra := Ra.on P5
  replace Re := Re.on P5
  replace Ru := Ru.on P5
  replace O := O.trans P5
  clear P5
  go_wp2_with fail
  refine (words_rd _ _ _ _ _ _ _ _ _ Ru Rv_ Cu Cv_ (by rw [Hu.out, Hv_.out])).mono ?_
  rintro e v6 ⟨rfl, P6⟩
  replace Ra := Ra.on P6
  replace Re := Re.on P6
  replace Ru := Ru.on P6
  replace Rv_ := Rv_.on P6
  replace O := O.trans P6
  clear P6
  go_wp2_with fail
  refine (num_nil _).mono ?_
  rintro e w' ⟨rfl, rfl⟩
  go_wp2
  go_ret
  exact ⟨rfl, O⟩
set_option maxRecDepth 100000 in
set_option maxHeartbeats 4000000 in
theorem products_two (w : World) (Aa : Option Addr) (na ca : Nat) (xa : List Nat) (Ae : Option Addr) (ne ce : Nat) (xe : List Nat) (q : Nat) (Ra : Rd w Aa na ca xa) (Re : Rd w Ae ne ce xe) (hq1 : 2 ≤ q) (hq : q ≤ 1024) (hp : 6000 < nb (val xa) * q ∧ nb (val xa) * q ≤ 131072) :
    Calls Try.prog 5 #[.slice Aa na ca, .slice Ae ne ce, .int .i64 (q : Int)] w fun e w' => e = .returned (.bool true) ∧ On w w' := by
  have O := On.refl w
  have hca := Ra.cap
  have hma := Ra.max
  have hce := Re.cap
  have hme := Re.max
  rcases some_large [na, ne] 2 with hl | ⟨m, hm, hl⟩
  rotate_left
  · have HL := Lib.hid hl
    clear hl
    go_enter Try.func5, Try.ntmps5
    go_wp2_with fail
    refine (awake_any _).mono ?_
    rintro e w1 ⟨rfl, P1⟩
    go_wp2_with fail
    have LE := lens_two w1 22 Aa Ae na ca ne ce hca hma hce hme
    have P2 := (On.refl w1).alloc (.cells #[.slice Aa na ca, .slice Ae ne ce] 22)
    refine (large_yes _ _ _ _ _ LE rfl (by simp) m hm HL.out).mono ?_
    rintro e w' ⟨rfl, rfl⟩
    go_wp2_with fail
    refine (awake_any _).mono ?_
    rintro e w3 ⟨rfl, P3⟩
    go_wp2
    go_ret
    exact ⟨rfl, (P1.trans P2).trans P3⟩
  have hna : na ≤ 40 := hl 0 (by decide)
  have hne : ne ≤ 40 := hl 1 (by decide)
  have HL := Lib.hid hl
  clear hl
  have Ta : tl xa ≤ 40 := Nat.le_trans (tl_le _) (by rw [Ra.len]; omega)
  have Te : tl xe ≤ 40 := Nat.le_trans (tl_le _) (by rw [Re.len]; omega)
  have f1 : decide (1 < (q : Int)) = true := decide_eq_true (by omega)
  have f2 : decide ((q : Int) ≤ 1024) = true := decide_eq_true (by omega)
  obtain ⟨pb, hpb⟩ : ∃ x, nb (val xa) * q = x := ⟨_, rfl⟩
  have HPI : Hid (((nb (val xa) : Nat) : Int) * (q : Int) = (pb : Int)) := Lib.hid (by rw [← Int.natCast_mul, hpb])
  obtain ⟨bz, hbz⟩ : ∃ x, nb (val xa) = x := ⟨_, rfl⟩
  have hnb : bz ≤ 1280 := by have h1 := nb_len xa Ra.ok; rw [Ra.len, hbz] at h1; omega
  have hpl : pb ≤ 1310720 := by
    have h1 : bz * q ≤ 1280 * 1024 := Nat.mul_le_mul hnb hq
    rw [← hpb, hbz]; omega
  have HPB := Lib.hid hpb
  rw [hbz] at HPI
  have hpi := HPI.out
  have HBZ := Lib.hid hbz
  rw [hpb] at hp
  clear hbz hpb
  have f3 : decide (6000 < (pb : Int)) = true := decide_eq_true (by omega)
  have f4 : decide ((pb : Int) ≤ 131072) = true := decide_eq_true (by omega)
  have HNB : Hid (nb (val xa) * 2 ≤ 131072) := Lib.hid (by rw [HBZ.out]; omega)
  go_enter Try.func5, Try.ntmps5
  go_wp2_with fail
  refine (awake_any _).mono ?_
  rintro e w1 ⟨rfl, P1⟩
  replace Ra := Ra.on P1
  replace Re := Re.on P1
  replace O := O.trans P1
  clear P1
  go_wp2_with fail
  have LE := lens_two w1 22 Aa Ae na ca ne ce hca hma hce hme
  have P2 := (On.refl w1).alloc (.cells #[.slice Aa na ca, .slice Ae ne ce] 22)
  refine (large_no _ _ _ _ _ LE rfl (by simp) HL.out).mono ?_
  rintro e w' ⟨rfl, rfl⟩
  replace Ra := Ra.on P2
  replace Re := Re.on P2
  replace O := O.trans P2
  clear P2
  clear HL LE
  go_wp2_with fail
  refine (mul_any _ _ _ _ _ _ _ 40 40 _ _ Ra Re Ta Te (by decide) (by decide)).mono ?_
  rintro e v1 ⟨Ap, np, cp, rfl, ⟨xp, Rp, Cp, Vp, Lp⟩, P1⟩
  have Tp : tl xp ≤ 80 := Nat.le_trans (tl_le _) (by rw [Rp.len]; omega)
  have Hp := Lib.hid Vp
  clear Vp
  replace Ra := Ra.on P1
  replace Re := Re.on P1
  replace O := O.trans P1
  clear P1
  go_wp2_with fail
  refine (rmul_any _ _ _ _ _ _ _ 81 _ _ Ra Re (by omega) (by omega) (by omega)).mono ?_
  rintro e v2 ⟨As, ns, cs, rfl, ⟨xs, Rs, Cs, Vs, Ls⟩, P2⟩
  have Ts : tl xs ≤ 81 := Nat.le_trans (tl_le _) (by rw [Rs.len]; omega)
  have Hs := Lib.hid Vs
  clear Vs
  replace Ra := Ra.on P2
  replace Re := Re.on P2
  replace Rp := Rp.on P2
  replace O := O.trans P2
  clear P2
  go_wp2_with fail
  refine (words_rd _ _ _ _ _ _ _ _ _ Rp Rs Cp Cs (by rw [Hp.out, Hs.out])).mono ?_
  rintro e v3 ⟨rfl, P3⟩
  replace Ra := Ra.on P3
  replace Re := Re.on P3
  replace Rp := Rp.on P3
  replace Rs := Rs.on P3
  replace O := O.trans P3
  clear P3
  clear Rp Tp
  clear Rs Ts
  go_wp2_with fail
  refine (rbits_any _ _ _ _ _ Ra (by omega)).mono ?_
  rintro e w' ⟨rfl, rfl⟩
  rw [HBZ.out]
  go_wp2_with fail
  refine (rbits_any _ _ _ _ _ Ra (by omega)).mono ?_
  rintro e w' ⟨rfl, rfl⟩
  rw [HBZ.out]
  go_wp2_with fail
  refine (power_good _ _ _ _ _ Ra 2 (by omega) (by omega) (by omega) (HNB.out)).mono ?_
  rintro e v4 ⟨Au, nu, cu, rfl, ⟨xu, Ru, Cu, Vu, Lu⟩, P4⟩
  have Tu : tl xu ≤ 4097 := Nat.le_trans (tl_le _) (by rw [Ru.len]; omega)
  have Hu := Lib.hid Vu
  clear Vu
  replace Ra := Ra.on P4
  replace Re := Re.on P4
  replace O := O.trans P4
  clear P4
  go_wp2_with fail
  refine (rpower_good _ _ _ _ _ Ra 2 (by omega) (by omega) (HNB.out)).mono ?_
  rintro e v5 ⟨Av_, nv_, cv_, rfl, ⟨xv_, Rv_, Cv_, Vv_, Lv_⟩, P5⟩
  have Tv_ : tl xv_ ≤ 4097 := Nat.le_trans (tl_le _) (by rw [Rv_.len]; omega)
  have Hv_ := Lib.hid Vv_
  clear Vv_
  replace Ra := Ra.on P5
  replace Re := Re.on P5
  replace Ru := Ru.on P5
  replace O := O.trans P5
  clear P5
  go_wp2_with fail
  refine (words_rd _ _ _ _ _ _ _ _ _ Ru Rv_ Cu Cv_ (by rw [Hu.out, Hv_.out])).mono ?_
  rintro e v6 ⟨rfl, P6⟩
  replace Ra := Ra.on P6
  replace Re := Re.on P6
  replace Ru := Ru.on P6
  replace Rv_ := Rv_.on P6
  replace O := O.trans P6
  clear P6
  go_wp2_with fail
  refine (num_nil _).mono ?_
  rintro e w' ⟨rfl, rfl⟩
  go_wp2
  go_ret
  exact ⟨rfl, O⟩
set_option maxRecDepth 100000 in
set_option maxHeartbeats 4000000 in
theorem products_over (w : World) (Aa : Option Addr) (na ca : Nat) (xa : List Nat) (Ae : Option Addr) (ne ce : Nat) (xe : List Nat) (q : Nat) (Ra : Rd w Aa na ca xa) (Re : Rd w Ae ne ce xe) (hq1 : 2 ≤ q) (hq : q ≤ 1024) (hp : 131072 < nb (val xa) * q) :
    Calls Try.prog 5 #[.slice Aa na ca, .slice Ae ne ce, .int .i64 (q : Int)] w fun e w' => e = .returned (.bool true) ∧ On w w' := by
  have O := On.refl w
  have hca := Ra.cap
  have hma := Ra.max
  have hce := Re.cap
  have hme := Re.max
  rcases some_large [na, ne] 2 with hl | ⟨m, hm, hl⟩
  rotate_left
  · have HL := Lib.hid hl
    clear hl
    go_enter Try.func5, Try.ntmps5
    go_wp2_with fail
    refine (awake_any _).mono ?_
    rintro e w1 ⟨rfl, P1⟩
    go_wp2_with fail
    have LE := lens_two w1 22 Aa Ae na ca ne ce hca hma hce hme
    have P2 := (On.refl w1).alloc (.cells #[.slice Aa na ca, .slice Ae ne ce] 22)
    refine (large_yes _ _ _ _ _ LE rfl (by simp) m hm HL.out).mono ?_
    rintro e w' ⟨rfl, rfl⟩
    go_wp2_with fail
    refine (awake_any _).mono ?_
    rintro e w3 ⟨rfl, P3⟩
    go_wp2
    go_ret
    exact ⟨rfl, (P1.trans P2).trans P3⟩
  have hna : na ≤ 40 := hl 0 (by decide)
  have hne : ne ≤ 40 := hl 1 (by decide)
  have HL := Lib.hid hl
  clear hl
  have Ta : tl xa ≤ 40 := Nat.le_trans (tl_le _) (by rw [Ra.len]; omega)
  have Te : tl xe ≤ 40 := Nat.le_trans (tl_le _) (by rw [Re.len]; omega)
  have f1 : decide (1 < (q : Int)) = true := decide_eq_true (by omega)
  have f2 : decide ((q : Int) ≤ 1024) = true := decide_eq_true (by omega)
  obtain ⟨pb, hpb⟩ : ∃ x, nb (val xa) * q = x := ⟨_, rfl⟩
  have HPI : Hid (((nb (val xa) : Nat) : Int) * (q : Int) = (pb : Int)) := Lib.hid (by rw [← Int.natCast_mul, hpb])
  obtain ⟨bz, hbz⟩ : ∃ x, nb (val xa) = x := ⟨_, rfl⟩
  have hnb : bz ≤ 1280 := by have h1 := nb_len xa Ra.ok; rw [Ra.len, hbz] at h1; omega
  have hpl : pb ≤ 1310720 := by
    have h1 : bz * q ≤ 1280 * 1024 := Nat.mul_le_mul hnb hq
    rw [← hpb, hbz]; omega
  have HPB := Lib.hid hpb
  rw [hbz] at HPI
  have hpi := HPI.out
  have HBZ := Lib.hid hbz
  rw [hpb] at hp
  clear hbz hpb
  have f3 : decide (6000 < (pb : Int)) = true := decide_eq_true (by omega)
  have f4 : decide ((pb : Int) ≤ 131072) = false := decide_eq_false (by omega)
  go_enter Try.func5, Try.ntmps5
  go_wp2_with fail
  refine (awake_any _).mono ?_
  rintro e w1 ⟨rfl, P1⟩
  replace Ra := Ra.on P1
  replace Re := Re.on P1
  replace O := O.trans P1
  clear P1
  go_wp2_with fail
  have LE := lens_two w1 22 Aa Ae na ca ne ce hca hma hce hme
  have P2 := (On.refl w1).alloc (.cells #[.slice Aa na ca, .slice Ae ne ce] 22)
  refine (large_no _ _ _ _ _ LE rfl (by simp) HL.out).mono ?_
  rintro e w' ⟨rfl, rfl⟩
  replace Ra := Ra.on P2
  replace Re := Re.on P2
  replace O := O.trans P2
  clear P2
  clear HL LE
  go_wp2_with fail
  refine (mul_any _ _ _ _ _ _ _ 40 40 _ _ Ra Re Ta Te (by decide) (by decide)).mono ?_
  rintro e v1 ⟨Ap, np, cp, rfl, ⟨xp, Rp, Cp, Vp, Lp⟩, P1⟩
  have Tp : tl xp ≤ 80 := Nat.le_trans (tl_le _) (by rw [Rp.len]; omega)
  have Hp := Lib.hid Vp
  clear Vp
  replace Ra := Ra.on P1
  replace Re := Re.on P1
  replace O := O.trans P1
  clear P1
  go_wp2_with fail
  refine (rmul_any _ _ _ _ _ _ _ 81 _ _ Ra Re (by omega) (by omega) (by omega)).mono ?_
  rintro e v2 ⟨As, ns, cs, rfl, ⟨xs, Rs, Cs, Vs, Ls⟩, P2⟩
  have Ts : tl xs ≤ 81 := Nat.le_trans (tl_le _) (by rw [Rs.len]; omega)
  have Hs := Lib.hid Vs
  clear Vs
  replace Ra := Ra.on P2
  replace Re := Re.on P2
  replace Rp := Rp.on P2
  replace O := O.trans P2
  clear P2
  go_wp2_with fail
  refine (words_rd _ _ _ _ _ _ _ _ _ Rp Rs Cp Cs (by rw [Hp.out, Hs.out])).mono ?_
  rintro e v3 ⟨rfl, P3⟩
  replace Ra := Ra.on P3
  replace Re := Re.on P3
  replace Rp := Rp.on P3
  replace Rs := Rs.on P3
  replace O := O.trans P3
  clear P3
  clear Rp Tp
  clear Rs Ts
  go_wp2_with fail
  refine (rbits_any _ _ _ _ _ Ra (by omega)).mono ?_
  rintro e w' ⟨rfl, rfl⟩
  rw [HBZ.out]
  go_wp2_with fail
  refine (rbits_any _ _ _ _ _ Ra (by omega)).mono ?_
  rintro e w' ⟨rfl, rfl⟩
  rw [HBZ.out]
  go_wp2_with fail
  refine (power_large _ _ _ _ _ Ra q (by omega) (by omega) (by rw [HPB.out]; omega)).mono ?_
  rintro e v4 ⟨rfl, P4⟩
  replace Ra := Ra.on P4
  replace Re := Re.on P4
  replace O := O.trans P4
  clear P4
  go_wp2_with fail
  refine (rpower_large _ _ _ _ _ Ra q (by omega) (by omega) (by rw [HPB.out]; omega)).mono ?_
  rintro e v5 ⟨rfl, P5⟩
  replace Ra := Ra.on P5
  replace Re := Re.on P5
  replace O := O.trans P5
  clear P5
  go_wp2_with fail
  refine (words_rd _ _ _ _ _ _ _ _ _ Rd.nil_ Rd.nil_ clean_nil clean_nil rfl).mono ?_
  rintro e v6 ⟨rfl, P6⟩
  replace Ra := Ra.on P6
  replace Re := Re.on P6
  replace O := O.trans P6
  clear P6
  go_wp2_with fail
  refine (num_err _ _).mono ?_
  rintro e w' ⟨rfl, rfl⟩
  go_wp2
  go_ret
  exact ⟨rfl, O⟩
theorem products_any (w : World) (Aa : Option Addr) (na ca : Nat) (xa : List Nat) (Ab : Option Addr) (nb_ cb : Nat) (xb : List Nat) (x : Int) (Ra : Rd w Aa na ca xa) (Rb : Rd w Ab nb_ cb xb) :
    Calls Try.prog 5 #[.slice Aa na ca, .slice Ab nb_ cb, .int .i64 x] w fun e w' => e = .returned (.bool true) ∧ On w w' := by
  by_cases h1 : x < 0
  · exact products_neg w Aa na ca xa Ab nb_ cb xb x Ra Rb h1
  · by_cases h2 : 1024 < x
    · exact products_big w Aa na ca xa Ab nb_ cb xb x Ra Rb h2
    · obtain ⟨q, rfl⟩ := Int.eq_ofNat_of_zero_le (show 0 ≤ x by omega)
      by_cases h3 : q ≤ 1
      · exact products_small w Aa na ca xa Ab nb_ cb xb q Ra Rb h3
      · by_cases h4 : nb (val xa) * q ≤ 6000
        · exact products_mid w Aa na ca xa Ab nb_ cb xb q Ra Rb (by omega) (by omega) h4
        · by_cases h5 : nb (val xa) * q ≤ 131072
          · exact products_two w Aa na ca xa Ab nb_ cb xb q Ra Rb (by omega) (by omega) ⟨by omega, h5⟩
          · exact products_over w Aa na ca xa Ab nb_ cb xb q Ra Rb (by omega) (by omega) (by omega)
end Num
end Go.Proofs.Ytgbjbffoanofmaa
