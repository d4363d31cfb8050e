/-
  The statement NaturalMoves, walked: Shift and Root are as specified.
-/
import Derived.Test.YtnlihfhafnidlaaRmov
namespace Go.Proofs.Ytnlihfhafnidlaa
open Go.RowKit
set_option linter.unusedVariables false
namespace Num
set_option maxRecDepth 100000 in
set_option maxHeartbeats 4000000 in
theorem moves_out_long (w : World) (Aa : Option Addr) (na ca : Nat) (xa : List Nat) (q : Int) (Ra : Rd w Aa na ca xa) (h12 : 12 < na) (hq : q < -131072 ∨ 131072 < q) :
    Calls Try.prog 7 #[.slice Aa na ca, .int .i64 q] w fun e w' => e = .returned (.bool true) ∧ On w w' := by
  have O := On.refl w
  have hca := Ra.cap
  have hma := Ra.max
  rcases some_large [na] 1 with hl | ⟨m, hm, hl⟩
  rotate_left
  · have HL := Lib.hid hl
    clear hl
    go_enter Try.func7, Try.ntmps7
    go_wp2_with fail
    refine (awake_any _).mono ?_
    rintro e w1 ⟨rfl, P1⟩
    go_wp2_with fail
    have LE := lens_one w1 22 Aa na ca hca hma
    have P2 := (On.refl w1).alloc (.cells #[.slice Aa na ca] 22)
    refine (large_yes _ _ _ _ _ LE rfl (by simp) m hm HL.out).mono ?_
    rintro e w' ⟨rfl, rfl⟩
    go_wp2_with fail
    refine (awake_any _).mono ?_
    rintro e w3 ⟨rfl, P3⟩
    go_wp2
    go_ret
    exact ⟨rfl, (P1.trans P2).trans P3⟩
  have hna : na ≤ 40 := hl 0 (by decide)
  have HL := Lib.hid hl
  clear hl
  have Ta : tl xa ≤ 40 := Nat.le_trans (tl_le _) (by rw [Ra.len]; omega)
  go_enter Try.func7, Try.ntmps7
  go_wp2_with fail
  refine (awake_any _).mono ?_
  rintro e w1 ⟨rfl, P1⟩
  replace Ra := Ra.on P1
  replace O := O.trans P1
  clear P1
  go_wp2_with fail
  have LE := lens_one w1 22 Aa na ca hca hma
  have P2 := (On.refl w1).alloc (.cells #[.slice Aa na ca] 22)
  refine (large_no _ _ _ _ _ LE rfl (by simp) HL.out).mono ?_
  rintro e w' ⟨rfl, rfl⟩
  replace Ra := Ra.on P2
  replace O := O.trans P2
  clear P2
  clear HL LE
  go_wp2_with fail
  refine (shift_out _ _ _ hq).mono ?_
  rintro e w' ⟨rfl, rfl⟩
  go_wp2_with fail
  refine (rshift_out _ _ _ hq).mono ?_
  rintro e w' ⟨rfl, rfl⟩
  clear hq
  go_wp2_with fail
  refine (words_rd _ _ _ _ _ _ _ _ _ Rd.nil_ Rd.nil_ clean_nil clean_nil rfl).mono ?_
  rintro e v1 ⟨rfl, P1⟩
  replace Ra := Ra.on P1
  replace O := O.trans P1
  clear P1
  go_wp2_with fail
  refine (num_err _ _).mono ?_
  rintro e w' ⟨rfl, rfl⟩
  go_wp2
  go_ret
  exact ⟨rfl, O⟩
set_option maxRecDepth 100000 in
set_option maxHeartbeats 4000000 in
theorem moves_up_long (w : World) (Aa : Option Addr) (na ca : Nat) (xa : List Nat) (q : Int) (Ra : Rd w Aa na ca xa) (h12 : 12 < na) (q0 : 0 ≤ q) (q1 : q ≤ 131072) :
    Calls Try.prog 7 #[.slice Aa na ca, .int .i64 q] w fun e w' => e = .returned (.bool true) ∧ On w w' := by
  have O := On.refl w
  have hca := Ra.cap
  have hma := Ra.max
  rcases some_large [na] 1 with hl | ⟨m, hm, hl⟩
  rotate_left
  · have HL := Lib.hid hl
    clear hl
    go_enter Try.func7, Try.ntmps7
    go_wp2_with fail
    refine (awake_any _).mono ?_
    rintro e w1 ⟨rfl, P1⟩
    go_wp2_with fail
    have LE := lens_one w1 22 Aa na ca hca hma
    have P2 := (On.refl w1).alloc (.cells #[.slice Aa na ca] 22)
    refine (large_yes _ _ _ _ _ LE rfl (by simp) m hm HL.out).mono ?_
    rintro e w' ⟨rfl, rfl⟩
    go_wp2_with fail
    refine (awake_any _).mono ?_
    rintro e w3 ⟨rfl, P3⟩
    go_wp2
    go_ret
    exact ⟨rfl, (P1.trans P2).trans P3⟩
  have hna : na ≤ 40 := hl 0 (by decide)
  have HL := Lib.hid hl
  clear hl
  have Ta : tl xa ≤ 40 := Nat.le_trans (tl_le _) (by rw [Ra.len]; omega)
  go_enter Try.func7, Try.ntmps7
  go_wp2_with fail
  refine (awake_any _).mono ?_
  rintro e w1 ⟨rfl, P1⟩
  replace Ra := Ra.on P1
  replace O := O.trans P1
  clear P1
  go_wp2_with fail
  have LE := lens_one w1 22 Aa na ca hca hma
  have P2 := (On.refl w1).alloc (.cells #[.slice Aa na ca] 22)
  refine (large_no _ _ _ _ _ LE rfl (by simp) HL.out).mono ?_
  rintro e w' ⟨rfl, rfl⟩
  replace Ra := Ra.on P2
  replace O := O.trans P2
  clear P2
  clear HL LE
  go_wp2_with fail
  refine (shift_up _ _ _ _ _ Ra (by omega) q q0 q1).mono ?_
  rintro e v1 ⟨Ax, nx, cx, rfl, ⟨xx, Rx, Cx, Vx, Lx⟩, P1⟩
  have Hx := Lib.hid Vx
  clear Vx
  have Tx : tl xx ≤ 5000 := Nat.le_trans (tl_le _) (by rw [Rx.len]; omega)
  replace Ra := Ra.on P1
  replace O := O.trans P1
  clear P1
  go_wp2_with fail
  refine (rshift_any _ _ _ _ q.toNat 0 _ Ra (by omega) (by omega) (by omega) _ (by omega) (na + q.toNat / 32 + 1) (by omega)).mono ?_
  rintro e v2 ⟨Ay, ny, cy, rfl, ⟨xy, Ry, Cy, Vy, Ly⟩, P2⟩
  have Hy := Lib.hid Vy
  clear Vy
  have Ty : tl xy ≤ 5000 := Nat.le_trans (tl_le _) (by rw [Ry.len]; omega)
  replace Ra := Ra.on P2
  replace Rx := Rx.on P2
  replace O := O.trans P2
  clear P2
  go_wp2_with fail
  refine (words_rd _ _ _ _ _ _ _ _ _ Rx Ry Cx Cy (by rw [Hx.out, Hy.out]; simp)).mono ?_
  rintro e v3 ⟨rfl, P3⟩
  replace Ra := Ra.on P3
  replace Rx := Rx.on P3
  replace Ry := Ry.on P3
  replace O := O.trans P3
  clear P3
  go_wp2_with fail
  refine (num_nil _).mono ?_
  rintro e w' ⟨rfl, rfl⟩
  clear Rx Tx
  clear Ry Ty
  go_wp2
  go_ret
  exact ⟨rfl, O⟩
set_option maxRecDepth 100000 in
set_option maxHeartbeats 4000000 in
theorem moves_down_long (w : World) (Aa : Option Addr) (na ca : Nat) (xa : List Nat) (q : Int) (Ra : Rd w Aa na ca xa) (h12 : 12 < na) (q0 : q < 0) (q1 : -131072 ≤ q) :
    Calls Try.prog 7 #[.slice Aa na ca, .int .i64 q] w fun e w' => e = .returned (.bool true) ∧ On w w' := by
  have O := On.refl w
  have hca := Ra.cap
  have hma := Ra.max
  rcases some_large [na] 1 with hl | ⟨m, hm, hl⟩
  rotate_left
  · have HL := Lib.hid hl
    clear hl
    go_enter Try.func7, Try.ntmps7
    go_wp2_with fail
    refine (awake_any _).mono ?_
    rintro e w1 ⟨rfl, P1⟩
    go_wp2_with fail
    have LE := lens_one w1 22 Aa na ca hca hma
    have P2 := (On.refl w1).alloc (.cells #[.slice Aa na ca] 22)
    refine (large_yes _ _ _ _ _ LE rfl (by simp) m hm HL.out).mono ?_
    rintro e w' ⟨rfl, rfl⟩
    go_wp2_with fail
    refine (awake_any _).mono ?_
    rintro e w3 ⟨rfl, P3⟩
    go_wp2
    go_ret
    exact ⟨rfl, (P1.trans P2).trans P3⟩
  have hna : na ≤ 40 := hl 0 (by decide)
  have HL := Lib.hid hl
  clear hl
  have Ta : tl xa ≤ 40 := Nat.le_trans (tl_le _) (by rw [Ra.len]; omega)
  go_enter Try.func7, Try.ntmps7
  go_wp2_with fail
  refine (awake_any _).mono ?_
  rintro e w1 ⟨rfl, P1⟩
  replace Ra := Ra.on P1
  replace O := O.trans P1
  clear P1
  go_wp2_with fail
  have LE := lens_one w1 22 Aa na ca hca hma
  have P2 := (On.refl w1).alloc (.cells #[.slice Aa na ca] 22)
  refine (large_no _ _ _ _ _ LE rfl (by simp) HL.out).mono ?_
  rintro e w' ⟨rfl, rfl⟩
  replace Ra := Ra.on P2
  replace O := O.trans P2
  clear P2
  clear HL LE
  go_wp2_with fail
  refine (shift_down _ _ _ _ _ Ra (by omega) q q0 q1).mono ?_
  rintro e v1 ⟨Ax, nx, cx, rfl, ⟨xx, Rx, Cx, Vx, Lx⟩, P1⟩
  have Hx := Lib.hid Vx
  clear Vx
  have Tx : tl xx ≤ 5000 := Nat.le_trans (tl_le _) (by rw [Rx.len]; omega)
  replace Ra := Ra.on P1
  replace O := O.trans P1
  clear P1
  go_wp2_with fail
  refine (rshift_any _ _ _ _ 0 (-q).toNat _ Ra (by omega) (by omega) (by omega) _ (by omega) (na + 0 / 32 + 1) (by omega)).mono ?_
  rintro e v2 ⟨Ay, ny, cy, rfl, ⟨xy, Ry, Cy, Vy, Ly⟩, P2⟩
  have Hy := Lib.hid Vy
  clear Vy
  have Ty : tl xy ≤ 5000 := Nat.le_trans (tl_le _) (by rw [Ry.len]; omega)
  replace Ra := Ra.on P2
  replace Rx := Rx.on P2
  replace O := O.trans P2
  clear P2
  go_wp2_with fail
  refine (words_rd _ _ _ _ _ _ _ _ _ Rx Ry Cx Cy (by rw [Hx.out, Hy.out]; simp)).mono ?_
  rintro e v3 ⟨rfl, P3⟩
  replace Ra := Ra.on P3
  replace Rx := Rx.on P3
  replace Ry := Ry.on P3
  replace O := O.trans P3
  clear P3
  go_wp2_with fail
  refine (num_nil _).mono ?_
  rintro e w' ⟨rfl, rfl⟩
  clear Rx Tx
  clear Ry Ty
  go_wp2
  go_ret
  exact ⟨rfl, O⟩
set_option maxRecDepth 100000 in
set_option maxHeartbeats 4000000 in
theorem moves_out (w : World) (Aa : Option Addr) (na ca : Nat) (xa : List Nat) (q : Int) (Ra : Rd w Aa na ca xa) (h12 : ¬ 12 < na) (hq : q < -131072 ∨ 131072 < q) :
    Calls Try.prog 7 #[.slice Aa na ca, .int .i64 q] w fun e w' => e = .returned (.bool true) ∧ On w w' := by
  have O := On.refl w
  have hca := Ra.cap
  have hma := Ra.max
  rcases some_large [na] 1 with hl | ⟨m, hm, hl⟩
  rotate_left
  · have HL := Lib.hid hl
    clear hl
    go_enter Try.func7, Try.ntmps7
    go_wp2_with fail
    refine (awake_any _).mono ?_
    rintro e w1 ⟨rfl, P1⟩
    go_wp2_with fail
    have LE := lens_one w1 22 Aa na ca hca hma
    have P2 := (On.refl w1).alloc (.cells #[.slice Aa na ca] 22)
    refine (large_yes _ _ _ _ _ LE rfl (by simp) m hm HL.out).mono ?_
    rintro e w' ⟨rfl, rfl⟩
    go_wp2_with fail
    refine (awake_any _).mono ?_
    rintro e w3 ⟨rfl, P3⟩
    go_wp2
    go_ret
    exact ⟨rfl, (P1.trans P2).trans P3⟩
  have hna : na ≤ 40 := hl 0 (by decide)
  have HL := Lib.hid hl
  clear hl
  have Ta : tl xa ≤ 40 := Nat.le_trans (tl_le _) (by rw [Ra.len]; omega)
  go_enter Try.func7, Try.ntmps7
  go_wp2_with fail
  refine (awake_any _).mono ?_
  rintro e w1 ⟨rfl, P1⟩
  replace Ra := Ra.on P1
  replace O := O.trans P1
  clear P1
  go_wp2_with fail
  have LE := lens_one w1 22 Aa na ca hca hma
  have P2 := (On.refl w1).alloc (.cells #[.slice Aa na ca] 22)
  refine (large_no _ _ _ _ _ LE rfl (by simp) HL.out).mono ?_
  rintro e w' ⟨rfl, rfl⟩
  replace Ra := Ra.on P2
  replace O := O.trans P2
  clear P2
  clear HL LE
  go_wp2_with fail
  refine (shift_out _ _ _ hq).mono ?_
  rintro e w' ⟨rfl, rfl⟩
  go_wp2_with fail
  refine (rshift_out _ _ _ hq).mono ?_
  rintro e w' ⟨rfl, rfl⟩
  clear hq
  go_wp2_with fail
  refine (words_rd _ _ _ _ _ _ _ _ _ Rd.nil_ Rd.nil_ clean_nil clean_nil rfl).mono ?_
  rintro e v1 ⟨rfl, P1⟩
  replace Ra := Ra.on P1
  replace O := O.trans P1
  clear P1
  go_wp2_with fail
  refine (num_err _ _).mono ?_
  rintro e w' ⟨rfl, rfl⟩
  go_wp2_with fail
  refine (root_any _ _ _ _ _ Ra (by omega)).mono ?_
  rintro e v2 ⟨ur, hr1r, hr2r, Ar, nr, cr, rfl, ⟨xr, Rr, Cr, Vr, Lr⟩, P2⟩
  have Hr := Lib.hid Vr
  have HAr := Lib.hid hr1r
  have HBr := Lib.hid hr2r
  clear Vr hr1r hr2r
  have Tr : tl xr ≤ 40 := Nat.le_trans (tl_le _) (by rw [Rr.len]; omega)
  replace Ra := Ra.on P2
  replace O := O.trans P2
  clear P2
  go_wp2_with fail
  refine (rroot_any _ _ _ _ _ Ra (by omega)).mono ?_
  rintro e v3 ⟨us, hr1s, hr2s, As, ns, cs, rfl, ⟨xs, Rs, Cs, Vs, Ls⟩, P3⟩
  have Hs := Lib.hid Vs
  have HAs := Lib.hid hr1s
  have HBs := Lib.hid hr2s
  clear Vs hr1s hr2s
  have Ts : tl xs ≤ 40 := Nat.le_trans (tl_le _) (by rw [Rs.len]; omega)
  replace Ra := Ra.on P3
  replace Rr := Rr.on P3
  replace O := O.trans P3
  clear P3
  go_wp2_with fail
  refine (words_rd _ _ _ _ _ _ _ _ _ Rr Rs Cr Cs (by rw [Hr.out, Hs.out]; exact root_unique HAr.out HBr.out HAs.out HBs.out)).mono ?_
  rintro e v4 ⟨rfl, P4⟩
  replace Ra := Ra.on P4
  replace Rr := Rr.on P4
  replace Rs := Rs.on P4
  replace O := O.trans P4
  clear P4
  go_wp2
  go_ret
  exact ⟨rfl, O⟩
set_option maxRecDepth 100000 in
set_option maxHeartbeats 4000000 in
theorem moves_up (w : World) (Aa : Option Addr) (na ca : Nat) (xa : List Nat) (q : Int) (Ra : Rd w Aa na ca xa) (h12 : ¬ 12 < na) (q0 : 0 ≤ q) (q1 : q ≤ 131072) :
    Calls Try.prog 7 #[.slice Aa na ca, .int .i64 q] w fun e w' => e = .returned (.bool true) ∧ On w w' := by
  have O := On.refl w
  have hca := Ra.cap
  have hma := Ra.max
  rcases some_large [na] 1 with hl | ⟨m, hm, hl⟩
  rotate_left
  · have HL := Lib.hid hl
    clear hl
    go_enter Try.func7, Try.ntmps7
    go_wp2_with fail
    refine (awake_any _).mono ?_
    rintro e w1 ⟨rfl, P1⟩
    go_wp2_with fail
    have LE := lens_one w1 22 Aa na ca hca hma
    have P2 := (On.refl w1).alloc (.cells #[.slice Aa na ca] 22)
    refine (large_yes _ _ _ _ _ LE rfl (by simp) m hm HL.out).mono ?_
    rintro e w' ⟨rfl, rfl⟩
    go_wp2_with fail
    refine (awake_any _).mono ?_
    rintro e w3 ⟨rfl, P3⟩
    go_wp2
    go_ret
    exact ⟨rfl, (P1.trans P2).trans P3⟩
  have hna : na ≤ 40 := hl 0 (by decide)
  have HL := Lib.hid hl
  clear hl
  have Ta : tl xa ≤ 40 := Nat.le_trans (tl_le _) (by rw [Ra.len]; omega)
  go_enter Try.func7, Try.ntmps7
  go_wp2_with fail
  refine (awake_any _).mono ?_
  rintro e w1 ⟨rfl, P1⟩
  replace Ra := Ra.on P1
  replace O := O.trans P1
  clear P1
  go_wp2_with fail
  have LE := lens_one w1 22 Aa na ca hca hma
  have P2 := (On.refl w1).alloc (.cells #[.slice Aa na ca] 22)
  refine (large_no _ _ _ _ _ LE rfl (by simp) HL.out).mono ?_
  rintro e w' ⟨rfl, rfl⟩
  replace Ra := Ra.on P2
  replace O := O.trans P2
  clear P2
  clear HL LE
  go_wp2_with fail
  refine (shift_up _ _ _ _ _ Ra (by omega) q q0 q1).mono ?_
  rintro e v1 ⟨Ax, nx, cx, rfl, ⟨xx, Rx, Cx, Vx, Lx⟩, P1⟩
  have Hx := Lib.hid Vx
  clear Vx
  have Tx : tl xx ≤ 5000 := Nat.le_trans (tl_le _) (by rw [Rx.len]; omega)
  replace Ra := Ra.on P1
  replace O := O.trans P1
  clear P1
  go_wp2_with fail
  refine (rshift_any _ _ _ _ q.toNat 0 _ Ra (by omega) (by omega) (by omega) _ (by omega) (na + q.toNat / 32 + 1) (by omega)).mono ?_
  rintro e v2 ⟨Ay, ny, cy, rfl, ⟨xy, Ry, Cy, Vy, Ly⟩, P2⟩
  have Hy := Lib.hid Vy
  clear Vy
  have Ty : tl xy ≤ 5000 := Nat.le_trans (tl_le _) (by rw [Ry.len]; omega)
  replace Ra := Ra.on P2
  replace Rx := Rx.on P2
  replace O := O.trans P2
  clear P2
  go_wp2_with fail
  refine (words_rd _ _ _ _ _ _ _ _ _ Rx Ry Cx Cy (by rw [Hx.out, Hy.out]; simp)).mono ?_
  rintro e v3 ⟨rfl, P3⟩
  replace Ra := Ra.on P3
  replace Rx := Rx.on P3
  replace Ry := Ry.on P3
  replace O := O.trans P3
  clear P3
  go_wp2_with fail
  refine (num_nil _).mono ?_
  rintro e w' ⟨rfl, rfl⟩
  clear Rx Tx
  clear Ry Ty
  go_wp2_with fail
  refine (root_any _ _ _ _ _ Ra (by omega)).mono ?_
  rintro e v4 ⟨ur, hr1r, hr2r, Ar, nr, cr, rfl, ⟨xr, Rr, Cr, Vr, Lr⟩, P4⟩
  have Hr := Lib.hid Vr
  have HAr := Lib.hid hr1r
  have HBr := Lib.hid hr2r
  clear Vr hr1r hr2r
  have Tr : tl xr ≤ 40 := Nat.le_trans (tl_le _) (by rw [Rr.len]; omega)
  replace Ra := Ra.on P4
  replace O := O.trans P4
  clear P4
  go_wp2_with fail
  refine (rroot_any _ _ _ _ _ Ra (by omega)).mono ?_
  rintro e v5 ⟨us, hr1s, hr2s, As, ns, cs, rfl, ⟨xs, Rs, Cs, Vs, Ls⟩, P5⟩
  have Hs := Lib.hid Vs
  have HAs := Lib.hid hr1s
  have HBs := Lib.hid hr2s
  clear Vs hr1s hr2s
  have Ts : tl xs ≤ 40 := Nat.le_trans (tl_le _) (by rw [Rs.len]; omega)
  replace Ra := Ra.on P5
  replace Rr := Rr.on P5
  replace O := O.trans P5
  clear P5
  go_wp2_with fail
  refine (words_rd _ _ _ _ _ _ _ _ _ Rr Rs Cr Cs (by rw [Hr.out, Hs.out]; exact root_unique HAr.out HBr.out HAs.out HBs.out)).mono ?_
  rintro e v6 ⟨rfl, P6⟩
  replace Ra := Ra.on P6
  replace Rr := Rr.on P6
  replace Rs := Rs.on P6
  replace O := O.trans P6
  clear P6
  go_wp2
  go_ret
  exact ⟨rfl, O⟩
set_option maxRecDepth 100000 in
set_option maxHeartbeats 4000000 in
theorem moves_down (w : World) (Aa : Option Addr) (na ca : Nat) (xa : List Nat) (q : Int) (Ra : Rd w Aa na ca xa) (h12 : ¬ 12 < na) (q0 : q < 0) (q1 : -131072 ≤ q) :
    Calls Try.prog 7 #[.slice Aa na ca, .int .i64 q] w fun e w' => e = .returned (.bool true) ∧ On w w' := by
  have O := On.refl w
  have hca := Ra.cap
  have hma := Ra.max
  rcases some_large [na] 1 with hl | ⟨m, hm, hl⟩
  rotate_left
  · have HL := Lib.hid hl
    clear hl
    go_enter Try.func7, Try.ntmps7
    go_wp2_with fail
    refine (awake_any _).mono ?_
    rintro e w1 ⟨rfl, P1⟩
    go_wp2_with fail
    have LE := lens_one w1 22 Aa na ca hca hma
    have P2 := (On.refl w1).alloc (.cells #[.slice Aa na ca] 22)
    refine (large_yes _ _ _ _ _ LE rfl (by simp) m hm HL.out).mono ?_
    rintro e w' ⟨rfl, rfl⟩
    go_wp2_with fail
    refine (awake_any _).mono ?_
    rintro e w3 ⟨rfl, P3⟩
    go_wp2
    go_ret
    exact ⟨rfl, (P1.trans P2).trans P3⟩
  have hna : na ≤ 40 := hl 0 (by decide)
  have HL := Lib.hid hl
  clear hl
  have Ta : tl xa ≤ 40 := Nat.le_trans (tl_le _) (by rw [Ra.len]; omega)
  go_enter Try.func7, Try.ntmps7
  go_wp2_with fail
  refine (awake_any _).mono ?_
  rintro e w1 ⟨rfl, P1⟩
  replace Ra := Ra.on P1
  replace O := O.trans P1
  clear P1
  go_wp2_with fail
  have LE := lens_one w1 22 Aa na ca hca hma
  have P2 := (On.refl w1).alloc (.cells #[.slice Aa na ca] 22)
  refine (large_no _ _ _ _ _ LE rfl (by simp) HL.out).mono ?_
  rintro e w' ⟨rfl, rfl⟩
  replace Ra := Ra.on P2
  replace O := O.trans P2
  clear P2
  clear HL LE
  go_wp2_with fail
  refine (shift_down _ _ _ _ _ Ra (by omega) q q0 q1).mono ?_
  rintro e v1 ⟨Ax, nx, cx, rfl, ⟨xx, Rx, Cx, Vx, Lx⟩, P1⟩
  have Hx := Lib.hid Vx
  clear Vx
  have Tx : tl xx ≤ 5000 := Nat.le_trans (tl_le _) (by rw [Rx.len]; omega)
  replace Ra := Ra.on P1
  replace O := O.trans P1
  clear P1
  go_wp2_with fail
  refine (rshift_any _ _ _ _ 0 (-q).toNat _ Ra (by omega) (by omega) (by omega) _ (by omega) (na + 0 / 32 + 1) (by omega)).mono ?_
  rintro e v2 ⟨Ay, ny, cy, rfl, ⟨xy, Ry, Cy, Vy, Ly⟩, P2⟩
  have Hy := Lib.hid Vy
  clear Vy
  have Ty : tl xy ≤ 5000 := Nat.le_trans (tl_le _) (by rw [Ry.len]; omega)
  replace Ra := Ra.on P2
  replace Rx := Rx.on P2
  replace O := O.trans P2
  clear P2
  go_wp2_with fail
  refine (words_rd _ _ _ _ _ _ _ _ _ Rx Ry Cx Cy (by rw [Hx.out, Hy.out]; simp)).mono ?_
  rintro e v3 ⟨rfl, P3⟩
  replace Ra := Ra.on P3
  replace Rx := Rx.on P3
  replace Ry := Ry.on P3
  replace O := O.trans P3
  clear P3
  go_wp2_with fail
  refine (num_nil _).mono ?_
  rintro e w' ⟨rfl, rfl⟩
  clear Rx Tx
  clear Ry Ty
  go_wp2_with fail
  refine (root_any _ _ _ _ _ Ra (by omega)).mono ?_
  rintro e v4 ⟨ur, hr1r, hr2r, Ar, nr, cr, rfl, ⟨xr, Rr, Cr, Vr, Lr⟩, P4⟩
  have Hr := Lib.hid Vr
  have HAr := Lib.hid hr1r
  have HBr := Lib.hid hr2r
  clear Vr hr1r hr2r
  have Tr : tl xr ≤ 40 := Nat.le_trans (tl_le _) (by rw [Rr.len]; omega)
  replace Ra := Ra.on P4
  replace O := O.trans P4
  clear P4
  go_wp2_with fail
  refine (rroot_any _ _ _ _ _ Ra (by omega)).mono ?_
  rintro e v5 ⟨us, hr1s, hr2s, As, ns, cs, rfl, ⟨xs, Rs, Cs, Vs, Ls⟩, P5⟩
  have Hs := Lib.hid Vs
  have HAs := Lib.hid hr1s
  have HBs := Lib.hid hr2s
  clear Vs hr1s hr2s
  have Ts : tl xs ≤ 40 := Nat.le_trans (tl_le _) (by rw [Rs.len]; omega)
  replace Ra := Ra.on P5
  replace Rr := Rr.on P5
  replace O := O.trans P5
  clear P5
  go_wp2_with fail
  refine (words_rd _ _ _ _ _ _ _ _ _ Rr Rs Cr Cs (by rw [Hr.out, Hs.out]; exact root_unique HAr.out HBr.out HAs.out HBs.out)).mono ?_
  rintro e v6 ⟨rfl, P6⟩
  replace Ra := Ra.on P6
  replace Rr := Rr.on P6
  replace Rs := Rs.on P6
  replace O := O.trans P6
  clear P6
  go_wp2
  go_ret
  exact ⟨rfl, O⟩
theorem moves_any (w : World) (Aa : Option Addr) (na ca : Nat) (xa : List Nat) (q : Int) (Ra : Rd w Aa na ca xa) :
    Calls Try.prog 7 #[.slice Aa na ca, .int .i64 q] w fun e w' => e = .returned (.bool true) ∧ On w w' := by
  by_cases h12 : 12 < na
  · by_cases h1 : q < -131072 ∨ 131072 < q
    · exact moves_out_long w Aa na ca xa q Ra h12 h1
    · by_cases h0 : 0 ≤ q
      · exact moves_up_long w Aa na ca xa q Ra h12 h0 (by omega)
      · exact moves_down_long w Aa na ca xa q Ra h12 (by omega) (by omega)
  · by_cases h1 : q < -131072 ∨ 131072 < q
    · exact moves_out w Aa na ca xa q Ra h12 h1
    · by_cases h0 : 0 ≤ q
      · exact moves_up w Aa na ca xa q Ra h12 h0 (by omega)
      · exact moves_down w Aa na ca xa q Ra h12 (by omega) (by omega)
end Num
end Go.Proofs.Ytnlihfhafnidlaa
