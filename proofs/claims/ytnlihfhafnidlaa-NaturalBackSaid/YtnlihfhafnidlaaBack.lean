/-
  The statement NaturalBack, walked: Parse undoes Text, Text undoes Parse.
-/
import Derived.Test.YtnlihfhafnidlaaPar2
import Derived.Test.YtnlihfhafnidlaaLawBase
namespace Go.Proofs.Ytnlihfhafnidlaa
open Go.RowKit
set_option linter.unusedVariables false
namespace Num
theorem text_len {v k : Nat} {bs : List Nat} (h : IsText v bs) (hk : 0 < k) (hv : v < 10 ^ k) : bs.length ≤ k := by
  rcases h with ⟨_, rfl⟩ | ⟨ds, rfl, d1, d2, d3, d4⟩
  · simp; omega
  · rw [List.length_reverse]
    have h1 := dvb_take_succ ds (ds.length - 1) (by omega)
    rw [show ds.length - 1 + 1 = ds.length from by omega, List.take_length, d2] at h1
    have h2 := d1.get (k := ds.length - 1) (by omega)
    have h3 : 10 ^ (ds.length - 1) * 1 ≤ 10 ^ (ds.length - 1) * (gw ds (ds.length - 1) - 48) := Nat.mul_le_mul_left _ (by omega)
    have h4 : 10 ^ (ds.length - 1) < 10 ^ k := by omega
    have := (Nat.pow_lt_pow_iff_right (by decide : 1 < 10)).1 h4
    omega
theorem text_len_bb {v n : Nat} {bs : List Nat} (h : IsText v bs) (hn : 0 < n) (hv : v < BB ^ n) : bs.length ≤ 10 * n :=
  text_len h (by omega) (Nat.lt_of_lt_of_le hv (pow_ten_bb n))
theorem str_size (bs : List Nat) : (str bs).size = bs.length := by simp [str, ByteArray.size]
theorem IsText.bl {v : Nat} {bs : List Nat} (h : IsText v bs) : bl (str bs) = bs := bl_str bs (fun b hb => by have := h.digs b hb; omega)
theorem IsText.yes {v : Nat} {bs : List Nat} (h : IsText v bs) : textB (str bs) = true := by
  unfold textB; rw [h.bl]; exact decide_eq_true h.ok.1
set_option maxRecDepth 100000 in
set_option maxHeartbeats 4000000 in
theorem back_long (w : World) (Aa : Option Addr) (na ca : Nat) (xa : List Nat) (s : ByteArray) (Ra : Rd w Aa na ca xa) (hs : s.size ≤ 9223372036854775807) (hl4 : 400 < s.size) :
    Calls Try.prog 12 #[.slice Aa na ca, .string s] w fun e w' => e = .returned (.bool true) ∧ On w w' := by
  have O := On.refl w
  have hca := Ra.cap
  have hma := Ra.max
  rcases some_large [na] 1 with hl | ⟨m, hm, hl⟩
  rotate_left
  · have HL := Lib.hid hl
    clear hl
    go_enter Try.func12, Try.ntmps12
    go_wp2_with fail
    refine (awake_any _).mono ?_
    rintro e w1 ⟨rfl, P1⟩
    go_wp2_with fail
    have LE := lens_one w1 22 Aa na ca hca hma
    have P2 := (On.refl w1).alloc (.cells #[.slice Aa na ca] 22)
    refine (large_yes _ _ _ _ _ LE rfl (by simp) m hm HL.out).mono ?_
    rintro e w' ⟨rfl, rfl⟩
    go_wp2_with fail
    refine (awake_any _).mono ?_
    rintro e w3 ⟨rfl, P3⟩
    go_wp2
    go_ret
    exact ⟨rfl, (P1.trans P2).trans P3⟩
  have hna : na ≤ 40 := hl 0 (by decide)
  have HL := Lib.hid hl
  clear hl
  have Ta : tl xa ≤ 40 := Nat.le_trans (tl_le _) (by rw [Ra.len]; omega)
  go_enter Try.func12, Try.ntmps12
  go_wp2_with fail
  refine (awake_any _).mono ?_
  rintro e w1 ⟨rfl, P1⟩
  replace Ra := Ra.on P1
  replace O := O.trans P1
  clear P1
  go_wp2_with fail
  have LE := lens_one w1 22 Aa na ca hca hma
  have P2 := (On.refl w1).alloc (.cells #[.slice Aa na ca] 22)
  refine (large_no _ _ _ _ _ LE rfl (by simp) HL.out).mono ?_
  rintro e w' ⟨rfl, rfl⟩
  replace Ra := Ra.on P2
  replace O := O.trans P2
  clear P2
  clear HL LE
  go_wp2_with fail
  refine (awake_any _).mono ?_
  rintro e vz ⟨rfl, PZ⟩
  replace Ra := Ra.on PZ
  replace O := O.trans PZ
  clear PZ
  go_wp2
  go_ret
  exact ⟨rfl, O⟩
set_option maxRecDepth 100000 in
set_option maxHeartbeats 4000000 in
theorem back_bad (w : World) (Aa : Option Addr) (na ca : Nat) (xa : List Nat) (s : ByteArray) (Ra : Rd w Aa na ca xa) (hs : s.size ≤ 9223372036854775807) (hl4 : ¬ 400 < s.size) (hb : textB s = false) :
    Calls Try.prog 12 #[.slice Aa na ca, .string s] w fun e w' => e = .returned (.bool true) ∧ On w w' := by
  have O := On.refl w
  have hca := Ra.cap
  have hma := Ra.max
  rcases some_large [na] 1 with hl | ⟨m, hm, hl⟩
  rotate_left
  · have HL := Lib.hid hl
    clear hl
    go_enter Try.func12, Try.ntmps12
    go_wp2_with fail
    refine (awake_any _).mono ?_
    rintro e w1 ⟨rfl, P1⟩
    go_wp2_with fail
    have LE := lens_one w1 22 Aa na ca hca hma
    have P2 := (On.refl w1).alloc (.cells #[.slice Aa na ca] 22)
    refine (large_yes _ _ _ _ _ LE rfl (by simp) m hm HL.out).mono ?_
    rintro e w' ⟨rfl, rfl⟩
    go_wp2_with fail
    refine (awake_any _).mono ?_
    rintro e w3 ⟨rfl, P3⟩
    go_wp2
    go_ret
    exact ⟨rfl, (P1.trans P2).trans P3⟩
  have hna : na ≤ 40 := hl 0 (by decide)
  have HL := Lib.hid hl
  clear hl
  have Ta : tl xa ≤ 40 := Nat.le_trans (tl_le _) (by rw [Ra.len]; omega)
  go_enter Try.func12, Try.ntmps12
  go_wp2_with fail
  refine (awake_any _).mono ?_
  rintro e w1 ⟨rfl, P1⟩
  replace Ra := Ra.on P1
  replace O := O.trans P1
  clear P1
  go_wp2_with fail
  have LE := lens_one w1 22 Aa na ca hca hma
  have P2 := (On.refl w1).alloc (.cells #[.slice Aa na ca] 22)
  refine (large_no _ _ _ _ _ LE rfl (by simp) HL.out).mono ?_
  rintro e w' ⟨rfl, rfl⟩
  replace Ra := Ra.on P2
  replace O := O.trans P2
  clear P2
  clear HL LE
  have HB := Lib.hid hb
  clear hb
  go_wp2_with fail
  refine (text_any _ _ _ _ _ Ra (by omega)).mono ?_
  rintro e vt ⟨bs, rfl, IT, PT⟩
  replace Ra := Ra.on PT
  replace O := O.trans PT
  clear PT
  have HIT := Lib.hid IT
  clear IT
  have hbl : bs.length ≤ 400 := text_len_bb (n := 40) HIT.out (by decide) (by
    have h1 := val_lt Ra.ok
    have h2 : BB ^ xa.length ≤ BB ^ 40 := Nat.pow_le_pow_right BB_pos (by rw [Ra.len]; exact hna)
    exact Nat.lt_of_lt_of_le h1 h2)
  have hss : (str bs).size ≤ 400 := by rw [str_size]; exact hbl
  go_wp2_with fail
  refine (parse_good _ _ (by omega) HIT.out.yes).mono ?_
  rintro e v1 ⟨Ax, nx, cx, rfl, ⟨xx, Rx, Cx, Vx, Lx⟩, P1⟩
  have Hx : Hid (val xx = val xa) := Lib.hid (by rw [Vx, HIT.out.bl]; exact HIT.out.ok.2)
  clear Vx
  have Tx : tl xx ≤ 50 := Nat.le_trans (tl_le _) (by rw [Rx.len]; omega)
  replace Ra := Ra.on P1
  replace O := O.trans P1
  clear P1
  go_wp2_with fail
  refine (cmp_same _ _ _ _ _ _ _ _ _ Rx Ra (by rw [Hx.out])).mono ?_
  rintro e v2 ⟨rfl, P2⟩
  replace Ra := Ra.on P2
  replace Rx := Rx.on P2
  replace O := O.trans P2
  clear P2
  go_wp2_with fail
  refine (clean_rd _ _ _ _ _ Rx Cx).mono ?_
  rintro e v3 ⟨rfl, P3⟩
  replace Ra := Ra.on P3
  replace Rx := Rx.on P3
  replace O := O.trans P3
  clear P3
  clear Rx Tx
  go_wp2_with fail
  refine (parse_bad _ s (by omega) HB.out).mono ?_
  rintro e w' ⟨rfl, rfl⟩
  go_wp2
  go_ret
  exact ⟨rfl, O⟩
set_option maxRecDepth 100000 in
set_option maxHeartbeats 4000000 in
theorem back_good (w : World) (Aa : Option Addr) (na ca : Nat) (xa : List Nat) (s : ByteArray) (Ra : Rd w Aa na ca xa) (hs : s.size ≤ 9223372036854775807) (hl4 : ¬ 400 < s.size) (hb : textB s = true) :
    Calls Try.prog 12 #[.slice Aa na ca, .string s] w fun e w' => e = .returned (.bool true) ∧ On w w' := by
  have O := On.refl w
  have hca := Ra.cap
  have hma := Ra.max
  rcases some_large [na] 1 with hl | ⟨m, hm, hl⟩
  rotate_left
  · have HL := Lib.hid hl
    clear hl
    go_enter Try.func12, Try.ntmps12
    go_wp2_with fail
    refine (awake_any _).mono ?_
    rintro e w1 ⟨rfl, P1⟩
    go_wp2_with fail
    have LE := lens_one w1 22 Aa na ca hca hma
    have P2 := (On.refl w1).alloc (.cells #[.slice Aa na ca] 22)
    refine (large_yes _ _ _ _ _ LE rfl (by simp) m hm HL.out).mono ?_
    rintro e w' ⟨rfl, rfl⟩
    go_wp2_with fail
    refine (awake_any _).mono ?_
    rintro e w3 ⟨rfl, P3⟩
    go_wp2
    go_ret
    exact ⟨rfl, (P1.trans P2).trans P3⟩
  have hna : na ≤ 40 := hl 0 (by decide)
  have HL := Lib.hid hl
  clear hl
  have Ta : tl xa ≤ 40 := Nat.le_trans (tl_le _) (by rw [Ra.len]; omega)
  go_enter Try.func12, Try.ntmps12
  go_wp2_with fail
  refine (awake_any _).mono ?_
  rintro e w1 ⟨rfl, P1⟩
  replace Ra := Ra.on P1
  replace O := O.trans P1
  clear P1
  go_wp2_with fail
  have LE := lens_one w1 22 Aa na ca hca hma
  have P2 := (On.refl w1).alloc (.cells #[.slice Aa na ca] 22)
  refine (large_no _ _ _ _ _ LE rfl (by simp) HL.out).mono ?_
  rintro e w' ⟨rfl, rfl⟩
  replace Ra := Ra.on P2
  replace O := O.trans P2
  clear P2
  clear HL LE
  have HB := Lib.hid hb
  clear hb
  go_wp2_with fail
  refine (text_any _ _ _ _ _ Ra (by omega)).mono ?_
  rintro e vt ⟨bs, rfl, IT, PT⟩
  replace Ra := Ra.on PT
  replace O := O.trans PT
  clear PT
  have HIT := Lib.hid IT
  clear IT
  have hbl : bs.length ≤ 400 := text_len_bb (n := 40) HIT.out (by decide) (by
    have h1 := val_lt Ra.ok
    have h2 : BB ^ xa.length ≤ BB ^ 40 := Nat.pow_le_pow_right BB_pos (by rw [Ra.len]; exact hna)
    exact Nat.lt_of_lt_of_le h1 h2)
  have hss : (str bs).size ≤ 400 := by rw [str_size]; exact hbl
  go_wp2_with fail
  refine (parse_good _ _ (by omega) HIT.out.yes).mono ?_
  rintro e v1 ⟨Ax, nx, cx, rfl, ⟨xx, Rx, Cx, Vx, Lx⟩, P1⟩
  have Hx : Hid (val xx = val xa) := Lib.hid (by rw [Vx, HIT.out.bl]; exact HIT.out.ok.2)
  clear Vx
  have Tx : tl xx ≤ 50 := Nat.le_trans (tl_le _) (by rw [Rx.len]; omega)
  replace Ra := Ra.on P1
  replace O := O.trans P1
  clear P1
  go_wp2_with fail
  refine (cmp_same _ _ _ _ _ _ _ _ _ Rx Ra (by rw [Hx.out])).mono ?_
  rintro e v2 ⟨rfl, P2⟩
  replace Ra := Ra.on P2
  replace Rx := Rx.on P2
  replace O := O.trans P2
  clear P2
  go_wp2_with fail
  refine (clean_rd _ _ _ _ _ Rx Cx).mono ?_
  rintro e v3 ⟨rfl, P3⟩
  replace Ra := Ra.on P3
  replace Rx := Rx.on P3
  replace O := O.trans P3
  clear P3
  clear Rx Tx
  go_wp2_with fail
  refine (parse_good _ s (by omega) HB.out).mono ?_
  rintro e v4 ⟨Ay, ny, cy, rfl, ⟨xy, Ry, Cy, Vy, Ly⟩, P4⟩
  have Hy := Lib.hid Vy
  clear Vy
  have Ty : tl xy ≤ 50 := Nat.le_trans (tl_le _) (by rw [Ry.len]; omega)
  replace Ra := Ra.on P4
  replace O := O.trans P4
  clear P4
  go_wp2_with fail
  refine (text_any _ _ _ _ _ Ry (by omega)).mono ?_
  rintro e vu ⟨bu, rfl, IU, PU⟩
  replace Ra := Ra.on PU
  replace Ry := Ry.on PU
  replace O := O.trans PU
  clear PU
  obtain rfl : bu = bl s := IsText.unique (v := dv (bl s)) (by rw [Hy.out] at IU; exact IU) (textB_ok HB.out).text
  rw [str_bl]
  clear IU
  go_wp2
  go_ret
  exact ⟨rfl, O⟩
theorem back_any (w : World) (Aa : Option Addr) (na ca : Nat) (xa : List Nat) (s : ByteArray) (Ra : Rd w Aa na ca xa) (hs : s.size ≤ 9223372036854775807) :
    Calls Try.prog 12 #[.slice Aa na ca, .string s] w fun e w' => e = .returned (.bool true) ∧ On w w' := by
  by_cases h1 : 400 < s.size
  · exact back_long w Aa na ca xa s Ra hs h1
  · cases h2 : textB s
    · exact back_bad w Aa na ca xa s Ra hs h1 h2
    · exact back_good w Aa na ca xa s Ra hs h1 h2
end Num
end Go.Proofs.Ytnlihfhafnidlaa
