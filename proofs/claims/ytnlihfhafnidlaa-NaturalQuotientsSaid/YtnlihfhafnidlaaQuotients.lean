/-
  The statement NaturalQuotients, walked: Div and Gcd are as specified.
-/
import Derived.Test.YtnlihfhafnidlaaGcd
import Derived.Test.YtnlihfhafnidlaaRgcd
namespace Go.Proofs.Ytnlihfhafnidlaa
open Go.RowKit
set_option linter.unusedVariables false
namespace Num
set_option maxRecDepth 100000 in
set_option maxHeartbeats 4000000 in
theorem quot_zero1 (w : World) (Aa : Option Addr) (na ca : Nat) (xa : List Nat) (Ab : Option Addr) (nb cb : Nat) (xb : List Nat)  (Ra : Rd w Aa na ca xa) (Rb : Rd w Ab nb cb xb) (hz : val xb = 0) (h12 : 12 < na) :
    Calls Try.prog 6 #[.slice Aa na ca, .slice Ab nb cb] w fun e w' => e = .returned (.bool true) ∧ On w w' := by
  have O := On.refl w
  have hca := Ra.cap
  have hma := Ra.max
  have hcb := Rb.cap
  have hmb := Rb.max
  rcases some_large [na, nb] 2 with hl | ⟨m, hm, hl⟩
  rotate_left
  · have HL := Lib.hid hl
    clear hl
    go_enter Try.func6, Try.ntmps6
    go_wp2_with fail
    refine (awake_any _).mono ?_
    rintro e w1 ⟨rfl, P1⟩
    go_wp2_with fail
    have LE := lens_two w1 22 Aa Ab na ca nb cb hca hma hcb hmb
    have P2 := (On.refl w1).alloc (.cells #[.slice Aa na ca, .slice Ab nb cb] 22)
    refine (large_yes _ _ _ _ _ LE rfl (by simp) m hm HL.out).mono ?_
    rintro e w' ⟨rfl, rfl⟩
    go_wp2_with fail
    refine (awake_any _).mono ?_
    rintro e w3 ⟨rfl, P3⟩
    go_wp2
    go_ret
    exact ⟨rfl, (P1.trans P2).trans P3⟩
  have hna : na ≤ 40 := hl 0 (by decide)
  have hnb : nb ≤ 40 := hl 1 (by decide)
  have HL := Lib.hid hl
  clear hl
  have Ta : tl xa ≤ 40 := Nat.le_trans (tl_le _) (by rw [Ra.len]; omega)
  have Tb : tl xb ≤ 40 := Nat.le_trans (tl_le _) (by rw [Rb.len]; omega)
  have HZ := Lib.hid hz
  clear hz
  go_enter Try.func6, Try.ntmps6
  go_wp2_with fail
  refine (awake_any _).mono ?_
  rintro e w1 ⟨rfl, P1⟩
  replace Ra := Ra.on P1
  replace Rb := Rb.on P1
  replace O := O.trans P1
  clear P1
  go_wp2_with fail
  have LE := lens_two w1 22 Aa Ab na ca nb cb hca hma hcb hmb
  have P2 := (On.refl w1).alloc (.cells #[.slice Aa na ca, .slice Ab nb cb] 22)
  refine (large_no _ _ _ _ _ LE rfl (by simp) HL.out).mono ?_
  rintro e w' ⟨rfl, rfl⟩
  replace Ra := Ra.on P2
  replace Rb := Rb.on P2
  replace O := O.trans P2
  clear P2
  clear HL LE
  go_wp2_with fail
  refine (div_zero _ _ _ _ _ _ _ _ _ Ra Rb (tl_zero_of_val HZ.out)).mono ?_
  rintro e w' ⟨rfl, rfl⟩
  go_wp2_with fail
  refine (rdiv_zero _ _ _ _ _ _ _ _ _ Ra Rb (by omega) HZ.out).mono ?_
  rintro e v1 ⟨rfl, P1⟩
  replace Ra := Ra.on P1
  replace Rb := Rb.on P1
  replace O := O.trans P1
  clear P1
  go_wp2_with fail
  refine (words_rd _ _ _ _ _ _ _ _ _ Rd.nil_ Rd.nil_ clean_nil clean_nil rfl).mono ?_
  rintro e v2 ⟨rfl, P2⟩
  replace Ra := Ra.on P2
  replace Rb := Rb.on P2
  replace O := O.trans P2
  clear P2
  go_wp2_with fail
  refine (words_rd _ _ _ _ _ _ _ _ _ Rd.nil_ Rd.nil_ clean_nil clean_nil rfl).mono ?_
  rintro e v3 ⟨rfl, P3⟩
  replace Ra := Ra.on P3
  replace Rb := Rb.on P3
  replace O := O.trans P3
  clear P3
  go_wp2_with fail
  refine (num_err _ _).mono ?_
  rintro e w' ⟨rfl, rfl⟩
  go_wp2
  go_ret
  exact ⟨rfl, O⟩
set_option maxRecDepth 100000 in
set_option maxHeartbeats 4000000 in
theorem quot_pos1 (w : World) (Aa : Option Addr) (na ca : Nat) (xa : List Nat) (Ab : Option Addr) (nb cb : Nat) (xb : List Nat)  (Ra : Rd w Aa na ca xa) (Rb : Rd w Ab nb cb xb) (hp : 0 < val xb) (h12 : 12 < na) :
    Calls Try.prog 6 #[.slice Aa na ca, .slice Ab nb cb] w fun e w' => e = .returned (.bool true) ∧ On w w' := by
  have O := On.refl w
  have hca := Ra.cap
  have hma := Ra.max
  have hcb := Rb.cap
  have hmb := Rb.max
  rcases some_large [na, nb] 2 with hl | ⟨m, hm, hl⟩
  rotate_left
  · have HL := Lib.hid hl
    clear hl
    go_enter Try.func6, Try.ntmps6
    go_wp2_with fail
    refine (awake_any _).mono ?_
    rintro e w1 ⟨rfl, P1⟩
    go_wp2_with fail
    have LE := lens_two w1 22 Aa Ab na ca nb cb hca hma hcb hmb
    have P2 := (On.refl w1).alloc (.cells #[.slice Aa na ca, .slice Ab nb cb] 22)
    refine (large_yes _ _ _ _ _ LE rfl (by simp) m hm HL.out).mono ?_
    rintro e w' ⟨rfl, rfl⟩
    go_wp2_with fail
    refine (awake_any _).mono ?_
    rintro e w3 ⟨rfl, P3⟩
    go_wp2
    go_ret
    exact ⟨rfl, (P1.trans P2).trans P3⟩
  have hna : na ≤ 40 := hl 0 (by decide)
  have hnb : nb ≤ 40 := hl 1 (by decide)
  have HL := Lib.hid hl
  clear hl
  have Ta : tl xa ≤ 40 := Nat.le_trans (tl_le _) (by rw [Ra.len]; omega)
  have Tb : tl xb ≤ 40 := Nat.le_trans (tl_le _) (by rw [Rb.len]; omega)
  have HP := Lib.hid hp
  clear hp
  go_enter Try.func6, Try.ntmps6
  go_wp2_with fail
  refine (awake_any _).mono ?_
  rintro e w1 ⟨rfl, P1⟩
  replace Ra := Ra.on P1
  replace Rb := Rb.on P1
  replace O := O.trans P1
  clear P1
  go_wp2_with fail
  have LE := lens_two w1 22 Aa Ab na ca nb cb hca hma hcb hmb
  have P2 := (On.refl w1).alloc (.cells #[.slice Aa na ca, .slice Ab nb cb] 22)
  refine (large_no _ _ _ _ _ LE rfl (by simp) HL.out).mono ?_
  rintro e w' ⟨rfl, rfl⟩
  replace Ra := Ra.on P2
  replace Rb := Rb.on P2
  replace O := O.trans P2
  clear P2
  clear HL LE
  go_wp2_with fail
  refine (div_any _ _ _ _ _ _ _ 40 40 _ _ Ra Rb HP.out (by omega) Ta Tb (by decide)).mono ?_
  rintro e v1 ⟨Aq, nq, cq, Ar, nr, cr, rfl, ⟨xq, Rq, Cq, Vq, Lq⟩, ⟨xr, Rr, Cr, Vr, Lr⟩, P1⟩
  have Tq : tl xq ≤ 40 := Nat.le_trans (tl_le _) (by rw [Rq.len]; omega)
  have Hq := Lib.hid Vq
  clear Vq
  have Tr : tl xr ≤ 40 := Nat.le_trans (tl_le _) (by rw [Rr.len]; omega)
  have Hr := Lib.hid Vr
  clear Vr
  replace Ra := Ra.on P1
  replace Rb := Rb.on P1
  replace O := O.trans P1
  clear P1
  go_wp2_with fail
  refine (rdiv_pos _ _ _ _ _ _ _ _ _ Ra Rb (by omega) (by omega) HP.out).mono ?_
  rintro e v2 ⟨Ax, nx, cx, Ay, ny, cy, rfl, ⟨xx, Rx, Cx, Vx, Lx⟩, ⟨xy, Ry, Cy, Vy, Ly⟩, P2⟩
  have Tx : tl xx ≤ 40 := Nat.le_trans (tl_le _) (by rw [Rx.len]; omega)
  have Hx := Lib.hid Vx
  clear Vx
  have Ty : tl xy ≤ 40 := Nat.le_trans (tl_le _) (by rw [Ry.len]; omega)
  have Hy := Lib.hid Vy
  clear Vy
  replace Ra := Ra.on P2
  replace Rb := Rb.on P2
  replace Rq := Rq.on P2
  replace Rr := Rr.on P2
  replace O := O.trans P2
  clear P2
  go_wp2_with fail
  refine (words_rd _ _ _ _ _ _ _ _ _ Rq Rx Cq Cx (by rw [Hq.out, Hx.out])).mono ?_
  rintro e v3 ⟨rfl, P3⟩
  replace Ra := Ra.on P3
  replace Rb := Rb.on P3
  replace Rq := Rq.on P3
  replace Rr := Rr.on P3
  replace Rx := Rx.on P3
  replace Ry := Ry.on P3
  replace O := O.trans P3
  clear P3
  go_wp2_with fail
  refine (words_rd _ _ _ _ _ _ _ _ _ Rr Ry Cr Cy (by rw [Hr.out, Hy.out])).mono ?_
  rintro e v4 ⟨rfl, P4⟩
  replace Ra := Ra.on P4
  replace Rb := Rb.on P4
  replace Rq := Rq.on P4
  replace Rr := Rr.on P4
  replace Rx := Rx.on P4
  replace Ry := Ry.on P4
  replace O := O.trans P4
  clear P4
  go_wp2_with fail
  refine (num_nil _).mono ?_
  rintro e w' ⟨rfl, rfl⟩
  go_wp2
  go_ret
  exact ⟨rfl, O⟩
set_option maxRecDepth 100000 in
set_option maxHeartbeats 4000000 in
theorem quot_zero2 (w : World) (Aa : Option Addr) (na ca : Nat) (xa : List Nat) (Ab : Option Addr) (nb cb : Nat) (xb : List Nat)  (Ra : Rd w Aa na ca xa) (Rb : Rd w Ab nb cb xb) (hz : val xb = 0) (h12 : ¬ 12 < na) (h13 : 12 < nb) :
    Calls Try.prog 6 #[.slice Aa na ca, .slice Ab nb cb] w fun e w' => e = .returned (.bool true) ∧ On w w' := by
  have O := On.refl w
  have hca := Ra.cap
  have hma := Ra.max
  have hcb := Rb.cap
  have hmb := Rb.max
  rcases some_large [na, nb] 2 with hl | ⟨m, hm, hl⟩
  rotate_left
  · have HL := Lib.hid hl
    clear hl
    go_enter Try.func6, Try.ntmps6
    go_wp2_with fail
    refine (awake_any _).mono ?_
    rintro e w1 ⟨rfl, P1⟩
    go_wp2_with fail
    have LE := lens_two w1 22 Aa Ab na ca nb cb hca hma hcb hmb
    have P2 := (On.refl w1).alloc (.cells #[.slice Aa na ca, .slice Ab nb cb] 22)
    refine (large_yes _ _ _ _ _ LE rfl (by simp) m hm HL.out).mono ?_
    rintro e w' ⟨rfl, rfl⟩
    go_wp2_with fail
    refine (awake_any _).mono ?_
    rintro e w3 ⟨rfl, P3⟩
    go_wp2
    go_ret
    exact ⟨rfl, (P1.trans P2).trans P3⟩
  have hna : na ≤ 40 := hl 0 (by decide)
  have hnb : nb ≤ 40 := hl 1 (by decide)
  have HL := Lib.hid hl
  clear hl
  have Ta : tl xa ≤ 40 := Nat.le_trans (tl_le _) (by rw [Ra.len]; omega)
  have Tb : tl xb ≤ 40 := Nat.le_trans (tl_le _) (by rw [Rb.len]; omega)
  have HZ := Lib.hid hz
  clear hz
  go_enter Try.func6, Try.ntmps6
  go_wp2_with fail
  refine (awake_any _).mono ?_
  rintro e w1 ⟨rfl, P1⟩
  replace Ra := Ra.on P1
  replace Rb := Rb.on P1
  replace O := O.trans P1
  clear P1
  go_wp2_with fail
  have LE := lens_two w1 22 Aa Ab na ca nb cb hca hma hcb hmb
  have P2 := (On.refl w1).alloc (.cells #[.slice Aa na ca, .slice Ab nb cb] 22)
  refine (large_no _ _ _ _ _ LE rfl (by simp) HL.out).mono ?_
  rintro e w' ⟨rfl, rfl⟩
  replace Ra := Ra.on P2
  replace Rb := Rb.on P2
  replace O := O.trans P2
  clear P2
  clear HL LE
  go_wp2_with fail
  refine (div_zero _ _ _ _ _ _ _ _ _ Ra Rb (tl_zero_of_val HZ.out)).mono ?_
  rintro e w' ⟨rfl, rfl⟩
  go_wp2_with fail
  refine (rdiv_zero _ _ _ _ _ _ _ _ _ Ra Rb (by omega) HZ.out).mono ?_
  rintro e v1 ⟨rfl, P1⟩
  replace Ra := Ra.on P1
  replace Rb := Rb.on P1
  replace O := O.trans P1
  clear P1
  go_wp2_with fail
  refine (words_rd _ _ _ _ _ _ _ _ _ Rd.nil_ Rd.nil_ clean_nil clean_nil rfl).mono ?_
  rintro e v2 ⟨rfl, P2⟩
  replace Ra := Ra.on P2
  replace Rb := Rb.on P2
  replace O := O.trans P2
  clear P2
  go_wp2_with fail
  refine (words_rd _ _ _ _ _ _ _ _ _ Rd.nil_ Rd.nil_ clean_nil clean_nil rfl).mono ?_
  rintro e v3 ⟨rfl, P3⟩
  replace Ra := Ra.on P3
  replace Rb := Rb.on P3
  replace O := O.trans P3
  clear P3
  go_wp2_with fail
  refine (num_err _ _).mono ?_
  rintro e w' ⟨rfl, rfl⟩
  go_wp2
  go_ret
  exact ⟨rfl, O⟩
set_option maxRecDepth 100000 in
set_option maxHeartbeats 4000000 in
theorem quot_pos2 (w : World) (Aa : Option Addr) (na ca : Nat) (xa : List Nat) (Ab : Option Addr) (nb cb : Nat) (xb : List Nat)  (Ra : Rd w Aa na ca xa) (Rb : Rd w Ab nb cb xb) (hp : 0 < val xb) (h12 : ¬ 12 < na) (h13 : 12 < nb) :
    Calls Try.prog 6 #[.slice Aa na ca, .slice Ab nb cb] w fun e w' => e = .returned (.bool true) ∧ On w w' := by
  have O := On.refl w
  have hca := Ra.cap
  have hma := Ra.max
  have hcb := Rb.cap
  have hmb := Rb.max
  rcases some_large [na, nb] 2 with hl | ⟨m, hm, hl⟩
  rotate_left
  · have HL := Lib.hid hl
    clear hl
    go_enter Try.func6, Try.ntmps6
    go_wp2_with fail
    refine (awake_any _).mono ?_
    rintro e w1 ⟨rfl, P1⟩
    go_wp2_with fail
    have LE := lens_two w1 22 Aa Ab na ca nb cb hca hma hcb hmb
    have P2 := (On.refl w1).alloc (.cells #[.slice Aa na ca, .slice Ab nb cb] 22)
    refine (large_yes _ _ _ _ _ LE rfl (by simp) m hm HL.out).mono ?_
    rintro e w' ⟨rfl, rfl⟩
    go_wp2_with fail
    refine (awake_any _).mono ?_
    rintro e w3 ⟨rfl, P3⟩
    go_wp2
    go_ret
    exact ⟨rfl, (P1.trans P2).trans P3⟩
  have hna : na ≤ 40 := hl 0 (by decide)
  have hnb : nb ≤ 40 := hl 1 (by decide)
  have HL := Lib.hid hl
  clear hl
  have Ta : tl xa ≤ 40 := Nat.le_trans (tl_le _) (by rw [Ra.len]; omega)
  have Tb : tl xb ≤ 40 := Nat.le_trans (tl_le _) (by rw [Rb.len]; omega)
  have HP := Lib.hid hp
  clear hp
  go_enter Try.func6, Try.ntmps6
  go_wp2_with fail
  refine (awake_any _).mono ?_
  rintro e w1 ⟨rfl, P1⟩
  replace Ra := Ra.on P1
  replace Rb := Rb.on P1
  replace O := O.trans P1
  clear P1
  go_wp2_with fail
  have LE := lens_two w1 22 Aa Ab na ca nb cb hca hma hcb hmb
  have P2 := (On.refl w1).alloc (.cells #[.slice Aa na ca, .slice Ab nb cb] 22)
  refine (large_no _ _ _ _ _ LE rfl (by simp) HL.out).mono ?_
  rintro e w' ⟨rfl, rfl⟩
  replace Ra := Ra.on P2
  replace Rb := Rb.on P2
  replace O := O.trans P2
  clear P2
  clear HL LE
  go_wp2_with fail
  refine (div_any _ _ _ _ _ _ _ 40 40 _ _ Ra Rb HP.out (by omega) Ta Tb (by decide)).mono ?_
  rintro e v1 ⟨Aq, nq, cq, Ar, nr, cr, rfl, ⟨xq, Rq, Cq, Vq, Lq⟩, ⟨xr, Rr, Cr, Vr, Lr⟩, P1⟩
  have Tq : tl xq ≤ 40 := Nat.le_trans (tl_le _) (by rw [Rq.len]; omega)
  have Hq := Lib.hid Vq
  clear Vq
  have Tr : tl xr ≤ 40 := Nat.le_trans (tl_le _) (by rw [Rr.len]; omega)
  have Hr := Lib.hid Vr
  clear Vr
  replace Ra := Ra.on P1
  replace Rb := Rb.on P1
  replace O := O.trans P1
  clear P1
  go_wp2_with fail
  refine (rdiv_pos _ _ _ _ _ _ _ _ _ Ra Rb (by omega) (by omega) HP.out).mono ?_
  rintro e v2 ⟨Ax, nx, cx, Ay, ny, cy, rfl, ⟨xx, Rx, Cx, Vx, Lx⟩, ⟨xy, Ry, Cy, Vy, Ly⟩, P2⟩
  have Tx : tl xx ≤ 40 := Nat.le_trans (tl_le _) (by rw [Rx.len]; omega)
  have Hx := Lib.hid Vx
  clear Vx
  have Ty : tl xy ≤ 40 := Nat.le_trans (tl_le _) (by rw [Ry.len]; omega)
  have Hy := Lib.hid Vy
  clear Vy
  replace Ra := Ra.on P2
  replace Rb := Rb.on P2
  replace Rq := Rq.on P2
  replace Rr := Rr.on P2
  replace O := O.trans P2
  clear P2
  go_wp2_with fail
  refine (words_rd _ _ _ _ _ _ _ _ _ Rq Rx Cq Cx (by rw [Hq.out, Hx.out])).mono ?_
  rintro e v3 ⟨rfl, P3⟩
  replace Ra := Ra.on P3
  replace Rb := Rb.on P3
  replace Rq := Rq.on P3
  replace Rr := Rr.on P3
  replace Rx := Rx.on P3
  replace Ry := Ry.on P3
  replace O := O.trans P3
  clear P3
  go_wp2_with fail
  refine (words_rd _ _ _ _ _ _ _ _ _ Rr Ry Cr Cy (by rw [Hr.out, Hy.out])).mono ?_
  rintro e v4 ⟨rfl, P4⟩
  replace Ra := Ra.on P4
  replace Rb := Rb.on P4
  replace Rq := Rq.on P4
  replace Rr := Rr.on P4
  replace Rx := Rx.on P4
  replace Ry := Ry.on P4
  replace O := O.trans P4
  clear P4
  go_wp2_with fail
  refine (num_nil _).mono ?_
  rintro e w' ⟨rfl, rfl⟩
  go_wp2
  go_ret
  exact ⟨rfl, O⟩
set_option maxRecDepth 100000 in
set_option maxHeartbeats 4000000 in
theorem quot_zero3 (w : World) (Aa : Option Addr) (na ca : Nat) (xa : List Nat) (Ab : Option Addr) (nb cb : Nat) (xb : List Nat)  (Ra : Rd w Aa na ca xa) (Rb : Rd w Ab nb cb xb) (hz : val xb = 0) (h12 : ¬ 12 < na) (h13 : ¬ 12 < nb) :
    Calls Try.prog 6 #[.slice Aa na ca, .slice Ab nb cb] w fun e w' => e = .returned (.bool true) ∧ On w w' := by
  have O := On.refl w
  have hca := Ra.cap
  have hma := Ra.max
  have hcb := Rb.cap
  have hmb := Rb.max
  rcases some_large [na, nb] 2 with hl | ⟨m, hm, hl⟩
  rotate_left
  · have HL := Lib.hid hl
    clear hl
    go_enter Try.func6, Try.ntmps6
    go_wp2_with fail
    refine (awake_any _).mono ?_
    rintro e w1 ⟨rfl, P1⟩
    go_wp2_with fail
    have LE := lens_two w1 22 Aa Ab na ca nb cb hca hma hcb hmb
    have P2 := (On.refl w1).alloc (.cells #[.slice Aa na ca, .slice Ab nb cb] 22)
    refine (large_yes _ _ _ _ _ LE rfl (by simp) m hm HL.out).mono ?_
    rintro e w' ⟨rfl, rfl⟩
    go_wp2_with fail
    refine (awake_any _).mono ?_
    rintro e w3 ⟨rfl, P3⟩
    go_wp2
    go_ret
    exact ⟨rfl, (P1.trans P2).trans P3⟩
  have hna : na ≤ 40 := hl 0 (by decide)
  have hnb : nb ≤ 40 := hl 1 (by decide)
  have HL := Lib.hid hl
  clear hl
  have Ta : tl xa ≤ 40 := Nat.le_trans (tl_le _) (by rw [Ra.len]; omega)
  have Tb : tl xb ≤ 40 := Nat.le_trans (tl_le _) (by rw [Rb.len]; omega)
  have HZ := Lib.hid hz
  clear hz
  go_enter Try.func6, Try.ntmps6
  go_wp2_with fail
  refine (awake_any _).mono ?_
  rintro e w1 ⟨rfl, P1⟩
  replace Ra := Ra.on P1
  replace Rb := Rb.on P1
  replace O := O.trans P1
  clear P1
  go_wp2_with fail
  have LE := lens_two w1 22 Aa Ab na ca nb cb hca hma hcb hmb
  have P2 := (On.refl w1).alloc (.cells #[.slice Aa na ca, .slice Ab nb cb] 22)
  refine (large_no _ _ _ _ _ LE rfl (by simp) HL.out).mono ?_
  rintro e w' ⟨rfl, rfl⟩
  replace Ra := Ra.on P2
  replace Rb := Rb.on P2
  replace O := O.trans P2
  clear P2
  clear HL LE
  go_wp2_with fail
  refine (div_zero _ _ _ _ _ _ _ _ _ Ra Rb (tl_zero_of_val HZ.out)).mono ?_
  rintro e w' ⟨rfl, rfl⟩
  go_wp2_with fail
  refine (rdiv_zero _ _ _ _ _ _ _ _ _ Ra Rb (by omega) HZ.out).mono ?_
  rintro e v1 ⟨rfl, P1⟩
  replace Ra := Ra.on P1
  replace Rb := Rb.on P1
  replace O := O.trans P1
  clear P1
  go_wp2_with fail
  refine (words_rd _ _ _ _ _ _ _ _ _ Rd.nil_ Rd.nil_ clean_nil clean_nil rfl).mono ?_
  rintro e v2 ⟨rfl, P2⟩
  replace Ra := Ra.on P2
  replace Rb := Rb.on P2
  replace O := O.trans P2
  clear P2
  go_wp2_with fail
  refine (words_rd _ _ _ _ _ _ _ _ _ Rd.nil_ Rd.nil_ clean_nil clean_nil rfl).mono ?_
  rintro e v3 ⟨rfl, P3⟩
  replace Ra := Ra.on P3
  replace Rb := Rb.on P3
  replace O := O.trans P3
  clear P3
  go_wp2_with fail
  refine (num_err _ _).mono ?_
  rintro e w' ⟨rfl, rfl⟩
  go_wp2_with fail
  refine (gcd_any _ _ _ _ _ _ _ 40 _ _ Ra Rb (by omega) (by omega) (Nat.le_trans Ta (by decide)) (Nat.le_trans Tb (by decide)) (by decide) (by decide)).mono ?_
  rintro e v4 ⟨Ag, ng, cg, rfl, ⟨xg, Rg, Cg, Vg, Lg⟩, P4⟩
  have Tg : tl xg ≤ 40 := Nat.le_trans (tl_le _) (by rw [Rg.len]; omega)
  have Hg := Lib.hid Vg
  clear Vg
  replace Ra := Ra.on P4
  replace Rb := Rb.on P4
  replace O := O.trans P4
  clear P4
  go_wp2_with fail
  refine (rgcd_any _ _ _ _ _ _ _ 40 _ _ Ra Rb (by omega) (by omega) (by decide)).mono ?_
  rintro e v5 ⟨Ah, nh, ch, rfl, ⟨xh, Rh, Ch, Vh, Lh⟩, P5⟩
  have Th : tl xh ≤ 40 := Nat.le_trans (tl_le _) (by rw [Rh.len]; omega)
  have Hh := Lib.hid Vh
  clear Vh
  replace Ra := Ra.on P5
  replace Rb := Rb.on P5
  replace Rg := Rg.on P5
  replace O := O.trans P5
  clear P5
  go_wp2_with fail
  refine (words_rd _ _ _ _ _ _ _ _ _ Rg Rh Cg Ch (by rw [Hg.out, Hh.out])).mono ?_
  rintro e v6 ⟨rfl, P6⟩
  replace Ra := Ra.on P6
  replace Rb := Rb.on P6
  replace Rg := Rg.on P6
  replace Rh := Rh.on P6
  replace O := O.trans P6
  clear P6
  go_wp2
  go_ret
  exact ⟨rfl, O⟩
set_option maxRecDepth 100000 in
set_option maxHeartbeats 4000000 in
theorem quot_pos3 (w : World) (Aa : Option Addr) (na ca : Nat) (xa : List Nat) (Ab : Option Addr) (nb cb : Nat) (xb : List Nat)  (Ra : Rd w Aa na ca xa) (Rb : Rd w Ab nb cb xb) (hp : 0 < val xb) (h12 : ¬ 12 < na) (h13 : ¬ 12 < nb) :
    Calls Try.prog 6 #[.slice Aa na ca, .slice Ab nb cb] w fun e w' => e = .returned (.bool true) ∧ On w w' := by
  have O := On.refl w
  have hca := Ra.cap
  have hma := Ra.max
  have hcb := Rb.cap
  have hmb := Rb.max
  rcases some_large [na, nb] 2 with hl | ⟨m, hm, hl⟩
  rotate_left
  · have HL := Lib.hid hl
    clear hl
    go_enter Try.func6, Try.ntmps6
    go_wp2_with fail
    refine (awake_any _).mono ?_
    rintro e w1 ⟨rfl, P1⟩
    go_wp2_with fail
    have LE := lens_two w1 22 Aa Ab na ca nb cb hca hma hcb hmb
    have P2 := (On.refl w1).alloc (.cells #[.slice Aa na ca, .slice Ab nb cb] 22)
    refine (large_yes _ _ _ _ _ LE rfl (by simp) m hm HL.out).mono ?_
    rintro e w' ⟨rfl, rfl⟩
    go_wp2_with fail
    refine (awake_any _).mono ?_
    rintro e w3 ⟨rfl, P3⟩
    go_wp2
    go_ret
    exact ⟨rfl, (P1.trans P2).trans P3⟩
  have hna : na ≤ 40 := hl 0 (by decide)
  have hnb : nb ≤ 40 := hl 1 (by decide)
  have HL := Lib.hid hl
  clear hl
  have Ta : tl xa ≤ 40 := Nat.le_trans (tl_le _) (by rw [Ra.len]; omega)
  have Tb : tl xb ≤ 40 := Nat.le_trans (tl_le _) (by rw [Rb.len]; omega)
  have HP := Lib.hid hp
  clear hp
  go_enter Try.func6, Try.ntmps6
  go_wp2_with fail
  refine (awake_any _).mono ?_
  rintro e w1 ⟨rfl, P1⟩
  replace Ra := Ra.on P1
  replace Rb := Rb.on P1
  replace O := O.trans P1
  clear P1
  go_wp2_with fail
  have LE := lens_two w1 22 Aa Ab na ca nb cb hca hma hcb hmb
  have P2 := (On.refl w1).alloc (.cells #[.slice Aa na ca, .slice Ab nb cb] 22)
  refine (large_no _ _ _ _ _ LE rfl (by simp) HL.out).mono ?_
  rintro e w' ⟨rfl, rfl⟩
  replace Ra := Ra.on P2
  replace Rb := Rb.on P2
  replace O := O.trans P2
  clear P2
  clear HL LE
  go_wp2_with fail
  refine (div_any _ _ _ _ _ _ _ 40 40 _ _ Ra Rb HP.out (by omega) Ta Tb (by decide)).mono ?_
  rintro e v1 ⟨Aq, nq, cq, Ar, nr, cr, rfl, ⟨xq, Rq, Cq, Vq, Lq⟩, ⟨xr, Rr, Cr, Vr, Lr⟩, P1⟩
  have Tq : tl xq ≤ 40 := Nat.le_trans (tl_le _) (by rw [Rq.len]; omega)
  have Hq := Lib.hid Vq
  clear Vq
  have Tr : tl xr ≤ 40 := Nat.le_trans (tl_le _) (by rw [Rr.len]; omega)
  have Hr := Lib.hid Vr
  clear Vr
  replace Ra := Ra.on P1
  replace Rb := Rb.on P1
  replace O := O.trans P1
  clear P1
  go_wp2_with fail
  refine (rdiv_pos _ _ _ _ _ _ _ _ _ Ra Rb (by omega) (by omega) HP.out).mono ?_
  rintro e v2 ⟨Ax, nx, cx, Ay, ny, cy, rfl, ⟨xx, Rx, Cx, Vx, Lx⟩, ⟨xy, Ry, Cy, Vy, Ly⟩, P2⟩
  have Tx : tl xx ≤ 40 := Nat.le_trans (tl_le _) (by rw [Rx.len]; omega)
  have Hx := Lib.hid Vx
  clear Vx
  have Ty : tl xy ≤ 40 := Nat.le_trans (tl_le _) (by rw [Ry.len]; omega)
  have Hy := Lib.hid Vy
  clear Vy
  replace Ra := Ra.on P2
  replace Rb := Rb.on P2
  replace Rq := Rq.on P2
  replace Rr := Rr.on P2
  replace O := O.trans P2
  clear P2
  go_wp2_with fail
  refine (words_rd _ _ _ _ _ _ _ _ _ Rq Rx Cq Cx (by rw [Hq.out, Hx.out])).mono ?_
  rintro e v3 ⟨rfl, P3⟩
  replace Ra := Ra.on P3
  replace Rb := Rb.on P3
  replace Rq := Rq.on P3
  replace Rr := Rr.on P3
  replace Rx := Rx.on P3
  replace Ry := Ry.on P3
  replace O := O.trans P3
  clear P3
  go_wp2_with fail
  refine (words_rd _ _ _ _ _ _ _ _ _ Rr Ry Cr Cy (by rw [Hr.out, Hy.out])).mono ?_
  rintro e v4 ⟨rfl, P4⟩
  replace Ra := Ra.on P4
  replace Rb := Rb.on P4
  replace Rq := Rq.on P4
  replace Rr := Rr.on P4
  replace Rx := Rx.on P4
  replace Ry := Ry.on P4
  replace O := O.trans P4
  clear P4
  go_wp2_with fail
  refine (num_nil _).mono ?_
  rintro e w' ⟨rfl, rfl⟩
  go_wp2_with fail
  refine (gcd_any _ _ _ _ _ _ _ 40 _ _ Ra Rb (by omega) (by omega) (Nat.le_trans Ta (by decide)) (Nat.le_trans Tb (by decide)) (by decide) (by decide)).mono ?_
  rintro e v5 ⟨Ag, ng, cg, rfl, ⟨xg, Rg, Cg, Vg, Lg⟩, P5⟩
  have Tg : tl xg ≤ 40 := Nat.le_trans (tl_le _) (by rw [Rg.len]; omega)
  have Hg := Lib.hid Vg
  clear Vg
  replace Ra := Ra.on P5
  replace Rb := Rb.on P5
  replace Rq := Rq.on P5
  replace Rr := Rr.on P5
  replace Rx := Rx.on P5
  replace Ry := Ry.on P5
  replace O := O.trans P5
  clear P5
  go_wp2_with fail
  refine (rgcd_any _ _ _ _ _ _ _ 40 _ _ Ra Rb (by omega) (by omega) (by decide)).mono ?_
  rintro e v6 ⟨Ah, nh, ch, rfl, ⟨xh, Rh, Ch, Vh, Lh⟩, P6⟩
  have Th : tl xh ≤ 40 := Nat.le_trans (tl_le _) (by rw [Rh.len]; omega)
  have Hh := Lib.hid Vh
  clear Vh
  replace Ra := Ra.on P6
  replace Rb := Rb.on P6
  replace Rq := Rq.on P6
  replace Rr := Rr.on P6
  replace Rx := Rx.on P6
  replace Ry := Ry.on P6
  replace Rg := Rg.on P6
  replace O := O.trans P6
  clear P6
  go_wp2_with fail
  refine (words_rd _ _ _ _ _ _ _ _ _ Rg Rh Cg Ch (by rw [Hg.out, Hh.out])).mono ?_
  rintro e v7 ⟨rfl, P7⟩
  replace Ra := Ra.on P7
  replace Rb := Rb.on P7
  replace Rq := Rq.on P7
  replace Rr := Rr.on P7
  replace Rx := Rx.on P7
  replace Ry := Ry.on P7
  replace Rg := Rg.on P7
  replace Rh := Rh.on P7
  replace O := O.trans P7
  clear P7
  go_wp2
  go_ret
  exact ⟨rfl, O⟩
theorem quotients_any (w : World) (Aa : Option Addr) (na ca : Nat) (xa : List Nat) (Ab : Option Addr) (nb cb : Nat) (xb : List Nat) (Ra : Rd w Aa na ca xa) (Rb : Rd w Ab nb cb xb) :
    Calls Try.prog 6 #[.slice Aa na ca, .slice Ab nb cb] w fun e w' => e = .returned (.bool true) ∧ On w w' := by
  by_cases h1 : 12 < na
  · rcases Nat.eq_zero_or_pos (val xb) with h | h
    · exact quot_zero1 w Aa na ca xa Ab nb cb xb Ra Rb h h1
    · exact quot_pos1 w Aa na ca xa Ab nb cb xb Ra Rb h h1
  · by_cases h2 : 12 < nb
    · rcases Nat.eq_zero_or_pos (val xb) with h | h
      · exact quot_zero2 w Aa na ca xa Ab nb cb xb Ra Rb h h1 h2
      · exact quot_pos2 w Aa na ca xa Ab nb cb xb Ra Rb h h1 h2
    · rcases Nat.eq_zero_or_pos (val xb) with h | h
      · exact quot_zero3 w Aa na ca xa Ab nb cb xb Ra Rb h h1 h2
      · exact quot_pos3 w Aa na ca xa Ab nb cb xb Ra Rb h h1 h2
end Num
end Go.Proofs.Ytnlihfhafnidlaa
