/-
  The statement NaturalSums, walked: Add and Sub answer as the specification's functions do.
-/
import Derived.Test.YtgbjbffoanofmaaRef4
namespace Go.Proofs.Ytgbjbffoanofmaa
open Go.RowKit
set_option linter.unusedVariables false
namespace Num
set_option maxRecDepth 100000 in
set_option maxHeartbeats 4000000 in
theorem sums_lt (w : World) (Aa : Option Addr) (na ca : Nat) (xa : List Nat) (Ab : Option Addr) (nb cb : Nat) (xb : List Nat)  (Ra : Rd w Aa na ca xa) (Rb : Rd w Ab nb cb xb) (hlt : val xa < val xb) :
    Calls Try.prog 4 #[.slice Aa na ca, .slice Ab nb cb] w fun e w' => e = .returned (.bool true) ∧ On w w' := by
  have O := On.refl w
  have hca := Ra.cap
  have hma := Ra.max
  have hcb := Rb.cap
  have hmb := Rb.max
  rcases some_large [na, nb] 2 with hl | ⟨m, hm, hl⟩
  rotate_left
  · have HL := Lib.hid hl
    clear hl
    go_enter Try.func4, Try.ntmps4
    go_wp2_with fail
    refine (awake_any _).mono ?_
    rintro e w1 ⟨rfl, P1⟩
    go_wp2_with fail
    have LE := lens_two w1 22 Aa Ab na ca nb cb hca hma hcb hmb
    have P2 := (On.refl w1).alloc (.cells #[.slice Aa na ca, .slice Ab nb cb] 22)
    refine (large_yes _ _ _ _ _ LE rfl (by simp) m hm HL.out).mono ?_
    rintro e w' ⟨rfl, rfl⟩
    go_wp2_with fail
    refine (awake_any _).mono ?_
    rintro e w3 ⟨rfl, P3⟩
    go_wp2
    go_ret
    exact ⟨rfl, (P1.trans P2).trans P3⟩
  have hna : na ≤ 40 := hl 0 (by decide)
  have hnb : nb ≤ 40 := hl 1 (by decide)
  have HL := Lib.hid hl
  clear hl
  have Ta : tl xa ≤ 40 := Nat.le_trans (tl_le _) (by rw [Ra.len]; omega)
  have Tb : tl xb ≤ 40 := Nat.le_trans (tl_le _) (by rw [Rb.len]; omega)
  have HLT := Lib.hid hlt
  clear hlt
  go_enter Try.func4, Try.ntmps4
  go_wp2_with fail
  refine (awake_any _).mono ?_
  rintro e w1 ⟨rfl, P1⟩
  replace Ra := Ra.on P1
  replace Rb := Rb.on P1
  replace O := O.trans P1
  clear P1
  go_wp2_with fail
  have LE := lens_two w1 22 Aa Ab na ca nb cb hca hma hcb hmb
  have P2 := (On.refl w1).alloc (.cells #[.slice Aa na ca, .slice Ab nb cb] 22)
  refine (large_no _ _ _ _ _ LE rfl (by simp) HL.out).mono ?_
  rintro e w' ⟨rfl, rfl⟩
  replace Ra := Ra.on P2
  replace Rb := Rb.on P2
  replace O := O.trans P2
  clear P2
  clear HL LE
  go_wp2_with fail
  refine (sub_bad _ _ _ _ _ _ _ _ _ Ra Rb HLT.out).mono ?_
  rintro e v1 ⟨rfl, P1⟩
  replace Ra := Ra.on P1
  replace Rb := Rb.on P1
  replace O := O.trans P1
  clear P1
  go_wp2_with fail
  refine (rsub_bad _ _ _ _ _ _ _ _ _ Ra Rb (by omega) (by omega) HLT.out).mono ?_
  rintro e w' ⟨rfl, rfl⟩
  go_wp2_with fail
  refine (add_any _ _ _ _ _ _ _ 40 _ _ Ra Rb (by omega) (by omega) (by decide)).mono ?_
  rintro e v2 ⟨As, ns, cs, rfl, ⟨xs, Rs, Cs, Vs, Ls⟩, P2⟩
  have Ts : tl xs ≤ 41 := Nat.le_trans (tl_le _) (by rw [Rs.len]; omega)
  have Hs := Lib.hid Vs
  clear Vs
  replace Ra := Ra.on P2
  replace Rb := Rb.on P2
  replace O := O.trans P2
  clear P2
  go_wp2_with fail
  refine (radd_any _ _ _ _ _ _ _ 40 _ _ Ra Rb (by omega) (by omega) hna hnb).mono ?_
  rintro e v3 ⟨At, nt, ct, rfl, ⟨xt, Rt, Ct, Vt, Lt⟩, P3⟩
  have Tt : tl xt ≤ 41 := Nat.le_trans (tl_le _) (by rw [Rt.len]; omega)
  have Ht := Lib.hid Vt
  clear Vt
  replace Ra := Ra.on P3
  replace Rb := Rb.on P3
  replace Rs := Rs.on P3
  replace O := O.trans P3
  clear P3
  go_wp2_with fail
  refine (words_rd _ _ _ _ _ _ _ _ _ Rs Rt Cs Ct (by rw [Hs.out, Ht.out])).mono ?_
  rintro e v4 ⟨rfl, P4⟩
  replace Ra := Ra.on P4
  replace Rb := Rb.on P4
  replace Rs := Rs.on P4
  replace Rt := Rt.on P4
  replace O := O.trans P4
  clear P4
  clear Rs Ts
  clear Rt Tt
  go_wp2_with fail
  refine (words_rd _ _ _ _ _ _ _ _ _ Rd.nil_ Rd.nil_ clean_nil clean_nil rfl).mono ?_
  rintro e v5 ⟨rfl, P5⟩
  replace Ra := Ra.on P5
  replace Rb := Rb.on P5
  replace O := O.trans P5
  clear P5
  go_wp2_with fail
  refine (num_err _ _).mono ?_
  rintro e w' ⟨rfl, rfl⟩
  go_wp2
  go_ret
  exact ⟨rfl, O⟩
set_option maxRecDepth 100000 in
set_option maxHeartbeats 4000000 in
theorem sums_ge (w : World) (Aa : Option Addr) (na ca : Nat) (xa : List Nat) (Ab : Option Addr) (nb cb : Nat) (xb : List Nat)  (Ra : Rd w Aa na ca xa) (Rb : Rd w Ab nb cb xb) (hge : val xb ≤ val xa) :
    Calls Try.prog 4 #[.slice Aa na ca, .slice Ab nb cb] w fun e w' => e = .returned (.bool true) ∧ On w w' := by
  have O := On.refl w
  have hca := Ra.cap
  have hma := Ra.max
  have hcb := Rb.cap
  have hmb := Rb.max
  rcases some_large [na, nb] 2 with hl | ⟨m, hm, hl⟩
  rotate_left
  · have HL := Lib.hid hl
    clear hl
    go_enter Try.func4, Try.ntmps4
    go_wp2_with fail
    refine (awake_any _).mono ?_
    rintro e w1 ⟨rfl, P1⟩
    go_wp2_with fail
    have LE := lens_two w1 22 Aa Ab na ca nb cb hca hma hcb hmb
    have P2 := (On.refl w1).alloc (.cells #[.slice Aa na ca, .slice Ab nb cb] 22)
    refine (large_yes _ _ _ _ _ LE rfl (by simp) m hm HL.out).mono ?_
    rintro e w' ⟨rfl, rfl⟩
    go_wp2_with fail
    refine (awake_any _).mono ?_
    rintro e w3 ⟨rfl, P3⟩
    go_wp2
    go_ret
    exact ⟨rfl, (P1.trans P2).trans P3⟩
  have hna : na ≤ 40 := hl 0 (by decide)
  have hnb : nb ≤ 40 := hl 1 (by decide)
  have HL := Lib.hid hl
  clear hl
  have Ta : tl xa ≤ 40 := Nat.le_trans (tl_le _) (by rw [Ra.len]; omega)
  have Tb : tl xb ≤ 40 := Nat.le_trans (tl_le _) (by rw [Rb.len]; omega)
  have HGE := Lib.hid hge
  clear hge
  go_enter Try.func4, Try.ntmps4
  go_wp2_with fail
  refine (awake_any _).mono ?_
  rintro e w1 ⟨rfl, P1⟩
  replace Ra := Ra.on P1
  replace Rb := Rb.on P1
  replace O := O.trans P1
  clear P1
  go_wp2_with fail
  have LE := lens_two w1 22 Aa Ab na ca nb cb hca hma hcb hmb
  have P2 := (On.refl w1).alloc (.cells #[.slice Aa na ca, .slice Ab nb cb] 22)
  refine (large_no _ _ _ _ _ LE rfl (by simp) HL.out).mono ?_
  rintro e w' ⟨rfl, rfl⟩
  replace Ra := Ra.on P2
  replace Rb := Rb.on P2
  replace O := O.trans P2
  clear P2
  clear HL LE
  go_wp2_with fail
  refine (sub_good _ _ _ _ _ _ _ 40 _ _ Ra Rb HGE.out Ta (by decide)).mono ?_
  rintro e v1 ⟨Ax, nx, cx, rfl, ⟨xx, Rx, Cx, Vx, Lx⟩, P1⟩
  have Tx : tl xx ≤ 40 := Nat.le_trans (tl_le _) (by rw [Rx.len]; omega)
  have Hx := Lib.hid Vx
  clear Vx
  replace Ra := Ra.on P1
  replace Rb := Rb.on P1
  replace O := O.trans P1
  clear P1
  go_wp2_with fail
  refine (rsub_good _ _ _ _ _ _ _ _ _ Ra Rb (by omega) (by omega) HGE.out).mono ?_
  rintro e v2 ⟨Ay, ny, cy, rfl, ⟨xy, Ry, Cy, Vy, Ly⟩, P2⟩
  have Ty : tl xy ≤ 40 := Nat.le_trans (tl_le _) (by rw [Ry.len]; omega)
  have Hy := Lib.hid Vy
  clear Vy
  replace Ra := Ra.on P2
  replace Rb := Rb.on P2
  replace Rx := Rx.on P2
  replace O := O.trans P2
  clear P2
  go_wp2_with fail
  refine (add_any _ _ _ _ _ _ _ 40 _ _ Ra Rb (by omega) (by omega) (by decide)).mono ?_
  rintro e v3 ⟨As, ns, cs, rfl, ⟨xs, Rs, Cs, Vs, Ls⟩, P3⟩
  have Ts : tl xs ≤ 41 := Nat.le_trans (tl_le _) (by rw [Rs.len]; omega)
  have Hs := Lib.hid Vs
  clear Vs
  replace Ra := Ra.on P3
  replace Rb := Rb.on P3
  replace Rx := Rx.on P3
  replace Ry := Ry.on P3
  replace O := O.trans P3
  clear P3
  go_wp2_with fail
  refine (radd_any _ _ _ _ _ _ _ 40 _ _ Ra Rb (by omega) (by omega) hna hnb).mono ?_
  rintro e v4 ⟨At, nt, ct, rfl, ⟨xt, Rt, Ct, Vt, Lt⟩, P4⟩
  have Tt : tl xt ≤ 41 := Nat.le_trans (tl_le _) (by rw [Rt.len]; omega)
  have Ht := Lib.hid Vt
  clear Vt
  replace Ra := Ra.on P4
  replace Rb := Rb.on P4
  replace Rx := Rx.on P4
  replace Ry := Ry.on P4
  replace Rs := Rs.on P4
  replace O := O.trans P4
  clear P4
  go_wp2_with fail
  refine (words_rd _ _ _ _ _ _ _ _ _ Rs Rt Cs Ct (by rw [Hs.out, Ht.out])).mono ?_
  rintro e v5 ⟨rfl, P5⟩
  replace Ra := Ra.on P5
  replace Rb := Rb.on P5
  replace Rx := Rx.on P5
  replace Ry := Ry.on P5
  replace Rs := Rs.on P5
  replace Rt := Rt.on P5
  replace O := O.trans P5
  clear P5
  clear Rs Ts
  clear Rt Tt
  go_wp2_with fail
  refine (words_rd _ _ _ _ _ _ _ _ _ Rx Ry Cx Cy (by rw [Hx.out, Hy.out])).mono ?_
  rintro e v6 ⟨rfl, P6⟩
  replace Ra := Ra.on P6
  replace Rb := Rb.on P6
  replace Rx := Rx.on P6
  replace Ry := Ry.on P6
  replace O := O.trans P6
  clear P6
  go_wp2_with fail
  refine (num_nil _).mono ?_
  rintro e w' ⟨rfl, rfl⟩
  go_wp2
  go_ret
  exact ⟨rfl, O⟩
theorem sums_any (w : World) (Aa : Option Addr) (na ca : Nat) (xa : List Nat) (Ab : Option Addr) (nb cb : Nat) (xb : List Nat) (Ra : Rd w Aa na ca xa) (Rb : Rd w Ab nb cb xb) :
    Calls Try.prog 4 #[.slice Aa na ca, .slice Ab nb cb] w fun e w' => e = .returned (.bool true) ∧ On w w' := by
  rcases Nat.lt_or_ge (val xa) (val xb) with h | h
  · exact sums_lt w Aa na ca xa Ab nb cb xb Ra Rb h
  · exact sums_ge w Aa na ca xa Ab nb cb xb Ra Rb h
end Num
end Go.Proofs.Ytgbjbffoanofmaa
