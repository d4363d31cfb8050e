/-
  The statement NaturalTexts, walked: Text and Parse are as specified.
-/
import Derived.Test.YtnlihfhafnidlaaRpar
import Derived.Test.YtnlihfhafnidlaaRtext
namespace Go.Proofs.Ytnlihfhafnidlaa
open Go.RowKit
set_option linter.unusedVariables false
namespace Num
theorem rparse_no (w : World) (s : ByteArray) (hs : s.size ≤ 10000) (hb : textB s = false) :
    Calls Try.prog 43 #[.string s] w fun e w' => e = .returned (.tuple #[.slice none 0 0, .int .i64 2]) ∧ On w w' := by
  refine (rparse_any w s hs).mono ?_
  rintro e w' (⟨h, _⟩ | ⟨_, h1, h2⟩)
  · rw [hb] at h; cases h
  · exact ⟨h1, h2⟩
theorem rparse_yes (w : World) (s : ByteArray) (hs : s.size ≤ 10000) (hb : textB s = true) :
    Calls Try.prog 43 #[.string s] w (Gives2 w (dv (bl s)) s.size (.int .i64 0)) := by
  refine (rparse_any w s hs).mono ?_
  rintro e w' (⟨_, h⟩ | ⟨h, _⟩)
  · exact h
  · rw [hb] at h; cases h
set_option maxRecDepth 100000 in
set_option maxHeartbeats 4000000 in
theorem texts_skip (w : World) (Aa : Option Addr) (na ca : Nat) (xa : List Nat) (s : ByteArray) (Ra : Rd w Aa na ca xa) (hs : s.size ≤ 9223372036854775807) (h4 : 400 < s.size) (h6 : s.size ≤ 65536) :
    Calls Try.prog 8 #[.slice Aa na ca, .string s] w fun e w' => e = .returned (.bool true) ∧ On w w' := by
  have O := On.refl w
  have hca := Ra.cap
  have hma := Ra.max
  rcases some_large [na] 1 with hl | ⟨m, hm, hl⟩
  rotate_left
  · have HL := Lib.hid hl
    clear hl
    go_enter Try.func8, Try.ntmps8
    go_wp2_with fail
    refine (awake_any _).mono ?_
    rintro e w1 ⟨rfl, P1⟩
    go_wp2_with fail
    have LE := lens_one w1 22 Aa na ca hca hma
    have P2 := (On.refl w1).alloc (.cells #[.slice Aa na ca] 22)
    refine (large_yes _ _ _ _ _ LE rfl (by simp) m hm HL.out).mono ?_
    rintro e w' ⟨rfl, rfl⟩
    go_wp2_with fail
    refine (awake_any _).mono ?_
    rintro e w3 ⟨rfl, P3⟩
    go_wp2
    go_ret
    exact ⟨rfl, (P1.trans P2).trans P3⟩
  have hna : na ≤ 40 := hl 0 (by decide)
  have HL := Lib.hid hl
  clear hl
  have Ta : tl xa ≤ 40 := Nat.le_trans (tl_le _) (by rw [Ra.len]; omega)
  go_enter Try.func8, Try.ntmps8
  go_wp2_with fail
  refine (awake_any _).mono ?_
  rintro e w1 ⟨rfl, P1⟩
  replace Ra := Ra.on P1
  replace O := O.trans P1
  clear P1
  go_wp2_with fail
  have LE := lens_one w1 22 Aa na ca hca hma
  have P2 := (On.refl w1).alloc (.cells #[.slice Aa na ca] 22)
  refine (large_no _ _ _ _ _ LE rfl (by simp) HL.out).mono ?_
  rintro e w' ⟨rfl, rfl⟩
  replace Ra := Ra.on P2
  replace O := O.trans P2
  clear P2
  clear HL LE
  go_wp2_with fail
  refine (awake_any _).mono ?_
  rintro e vz ⟨rfl, PZ⟩
  replace Ra := Ra.on PZ
  replace O := O.trans PZ
  clear PZ
  go_wp2
  go_ret
  exact ⟨rfl, O⟩
set_option maxRecDepth 100000 in
set_option maxHeartbeats 4000000 in
theorem texts_large (w : World) (Aa : Option Addr) (na ca : Nat) (xa : List Nat) (s : ByteArray) (Ra : Rd w Aa na ca xa) (hs : s.size ≤ 9223372036854775807) (h4 : ¬ 400 < s.size ∨ 65536 < s.size) (h6 : 65536 < s.size) :
    Calls Try.prog 8 #[.slice Aa na ca, .string s] w fun e w' => e = .returned (.bool true) ∧ On w w' := by
  have O := On.refl w
  have hca := Ra.cap
  have hma := Ra.max
  rcases some_large [na] 1 with hl | ⟨m, hm, hl⟩
  rotate_left
  · have HL := Lib.hid hl
    clear hl
    go_enter Try.func8, Try.ntmps8
    go_wp2_with fail
    refine (awake_any _).mono ?_
    rintro e w1 ⟨rfl, P1⟩
    go_wp2_with fail
    have LE := lens_one w1 22 Aa na ca hca hma
    have P2 := (On.refl w1).alloc (.cells #[.slice Aa na ca] 22)
    refine (large_yes _ _ _ _ _ LE rfl (by simp) m hm HL.out).mono ?_
    rintro e w' ⟨rfl, rfl⟩
    go_wp2_with fail
    refine (awake_any _).mono ?_
    rintro e w3 ⟨rfl, P3⟩
    go_wp2
    go_ret
    exact ⟨rfl, (P1.trans P2).trans P3⟩
  have hna : na ≤ 40 := hl 0 (by decide)
  have HL := Lib.hid hl
  clear hl
  have Ta : tl xa ≤ 40 := Nat.le_trans (tl_le _) (by rw [Ra.len]; omega)
  go_enter Try.func8, Try.ntmps8
  go_wp2_with fail
  refine (awake_any _).mono ?_
  rintro e w1 ⟨rfl, P1⟩
  replace Ra := Ra.on P1
  replace O := O.trans P1
  clear P1
  go_wp2_with fail
  have LE := lens_one w1 22 Aa na ca hca hma
  have P2 := (On.refl w1).alloc (.cells #[.slice Aa na ca] 22)
  refine (large_no _ _ _ _ _ LE rfl (by simp) HL.out).mono ?_
  rintro e w' ⟨rfl, rfl⟩
  replace Ra := Ra.on P2
  replace O := O.trans P2
  clear P2
  clear HL LE
  clear h4
  go_wp2_with fail
  refine (parse_large _ s h6 hs).mono ?_
  rintro e w' ⟨rfl, rfl⟩
  go_wp2_with fail
  refine (rparse_large _ s h6 hs).mono ?_
  rintro e w' ⟨rfl, rfl⟩
  go_wp2_with fail
  refine (text_any _ _ _ _ _ Ra (by omega)).mono ?_
  rintro e vt ⟨bs, rfl, IT, PT⟩
  replace Ra := Ra.on PT
  replace O := O.trans PT
  clear PT
  have HIT := Lib.hid IT
  clear IT
  go_wp2_with fail
  refine (rtext_any _ _ _ _ _ Ra (by omega)).mono ?_
  rintro e vu ⟨bu, rfl, IU, PU⟩
  replace Ra := Ra.on PU
  replace O := O.trans PU
  clear PU
  obtain rfl : bs = bu := HIT.out.unique IU
  clear IU
  go_wp2_with fail
  refine (words_rd _ _ _ _ _ _ _ _ _ Rd.nil_ Rd.nil_ clean_nil clean_nil rfl).mono ?_
  rintro e v1 ⟨rfl, P1⟩
  replace Ra := Ra.on P1
  replace O := O.trans P1
  clear P1
  go_wp2_with fail
  refine (num_err _ _).mono ?_
  rintro e w' ⟨rfl, rfl⟩
  go_wp2
  go_ret
  exact ⟨rfl, O⟩
set_option maxRecDepth 100000 in
set_option maxHeartbeats 4000000 in
theorem texts_bad (w : World) (Aa : Option Addr) (na ca : Nat) (xa : List Nat) (s : ByteArray) (Ra : Rd w Aa na ca xa) (hs : s.size ≤ 9223372036854775807) (h4 : ¬ 400 < s.size) (hb : textB s = false) :
    Calls Try.prog 8 #[.slice Aa na ca, .string s] w fun e w' => e = .returned (.bool true) ∧ On w w' := by
  have O := On.refl w
  have hca := Ra.cap
  have hma := Ra.max
  rcases some_large [na] 1 with hl | ⟨m, hm, hl⟩
  rotate_left
  · have HL := Lib.hid hl
    clear hl
    go_enter Try.func8, Try.ntmps8
    go_wp2_with fail
    refine (awake_any _).mono ?_
    rintro e w1 ⟨rfl, P1⟩
    go_wp2_with fail
    have LE := lens_one w1 22 Aa na ca hca hma
    have P2 := (On.refl w1).alloc (.cells #[.slice Aa na ca] 22)
    refine (large_yes _ _ _ _ _ LE rfl (by simp) m hm HL.out).mono ?_
    rintro e w' ⟨rfl, rfl⟩
    go_wp2_with fail
    refine (awake_any _).mono ?_
    rintro e w3 ⟨rfl, P3⟩
    go_wp2
    go_ret
    exact ⟨rfl, (P1.trans P2).trans P3⟩
  have hna : na ≤ 40 := hl 0 (by decide)
  have HL := Lib.hid hl
  clear hl
  have Ta : tl xa ≤ 40 := Nat.le_trans (tl_le _) (by rw [Ra.len]; omega)
  go_enter Try.func8, Try.ntmps8
  go_wp2_with fail
  refine (awake_any _).mono ?_
  rintro e w1 ⟨rfl, P1⟩
  replace Ra := Ra.on P1
  replace O := O.trans P1
  clear P1
  go_wp2_with fail
  have LE := lens_one w1 22 Aa na ca hca hma
  have P2 := (On.refl w1).alloc (.cells #[.slice Aa na ca] 22)
  refine (large_no _ _ _ _ _ LE rfl (by simp) HL.out).mono ?_
  rintro e w' ⟨rfl, rfl⟩
  replace Ra := Ra.on P2
  replace O := O.trans P2
  clear P2
  clear HL LE
  have HB := Lib.hid hb
  clear hb
  go_wp2_with fail
  refine (parse_bad _ s (by omega) HB.out).mono ?_
  rintro e w' ⟨rfl, rfl⟩
  go_wp2_with fail
  refine (rparse_no _ s (by omega) HB.out).mono ?_
  rintro e vr ⟨rfl, PR⟩
  replace Ra := Ra.on PR
  replace O := O.trans PR
  clear PR
  go_wp2_with fail
  refine (text_any _ _ _ _ _ Ra (by omega)).mono ?_
  rintro e vt ⟨bs, rfl, IT, PT⟩
  replace Ra := Ra.on PT
  replace O := O.trans PT
  clear PT
  have HIT := Lib.hid IT
  clear IT
  go_wp2_with fail
  refine (rtext_any _ _ _ _ _ Ra (by omega)).mono ?_
  rintro e vu ⟨bu, rfl, IU, PU⟩
  replace Ra := Ra.on PU
  replace O := O.trans PU
  clear PU
  obtain rfl : bs = bu := HIT.out.unique IU
  clear IU
  go_wp2_with fail
  refine (words_rd _ _ _ _ _ _ _ _ _ Rd.nil_ Rd.nil_ clean_nil clean_nil rfl).mono ?_
  rintro e v1 ⟨rfl, P1⟩
  replace Ra := Ra.on P1
  replace O := O.trans P1
  clear P1
  go_wp2_with fail
  refine (num_err _ _).mono ?_
  rintro e w' ⟨rfl, rfl⟩
  go_wp2
  go_ret
  exact ⟨rfl, O⟩
set_option maxRecDepth 100000 in
set_option maxHeartbeats 4000000 in
theorem texts_good (w : World) (Aa : Option Addr) (na ca : Nat) (xa : List Nat) (s : ByteArray) (Ra : Rd w Aa na ca xa) (hs : s.size ≤ 9223372036854775807) (h4 : ¬ 400 < s.size) (hb : textB s = true) :
    Calls Try.prog 8 #[.slice Aa na ca, .string s] w fun e w' => e = .returned (.bool true) ∧ On w w' := by
  have O := On.refl w
  have hca := Ra.cap
  have hma := Ra.max
  rcases some_large [na] 1 with hl | ⟨m, hm, hl⟩
  rotate_left
  · have HL := Lib.hid hl
    clear hl
    go_enter Try.func8, Try.ntmps8
    go_wp2_with fail
    refine (awake_any _).mono ?_
    rintro e w1 ⟨rfl, P1⟩
    go_wp2_with fail
    have LE := lens_one w1 22 Aa na ca hca hma
    have P2 := (On.refl w1).alloc (.cells #[.slice Aa na ca] 22)
    refine (large_yes _ _ _ _ _ LE rfl (by simp) m hm HL.out).mono ?_
    rintro e w' ⟨rfl, rfl⟩
    go_wp2_with fail
    refine (awake_any _).mono ?_
    rintro e w3 ⟨rfl, P3⟩
    go_wp2
    go_ret
    exact ⟨rfl, (P1.trans P2).trans P3⟩
  have hna : na ≤ 40 := hl 0 (by decide)
  have HL := Lib.hid hl
  clear hl
  have Ta : tl xa ≤ 40 := Nat.le_trans (tl_le _) (by rw [Ra.len]; omega)
  go_enter Try.func8, Try.ntmps8
  go_wp2_with fail
  refine (awake_any _).mono ?_
  rintro e w1 ⟨rfl, P1⟩
  replace Ra := Ra.on P1
  replace O := O.trans P1
  clear P1
  go_wp2_with fail
  have LE := lens_one w1 22 Aa na ca hca hma
  have P2 := (On.refl w1).alloc (.cells #[.slice Aa na ca] 22)
  refine (large_no _ _ _ _ _ LE rfl (by simp) HL.out).mono ?_
  rintro e w' ⟨rfl, rfl⟩
  replace Ra := Ra.on P2
  replace O := O.trans P2
  clear P2
  clear HL LE
  have HB := Lib.hid hb
  clear hb
  go_wp2_with fail
  refine (parse_good _ s (by omega) HB.out).mono ?_
  rintro e v1 ⟨Ax, nx, cx, rfl, ⟨xx, Rx, Cx, Vx, Lx⟩, P1⟩
  have Hx := Lib.hid Vx
  clear Vx
  have Tx : tl xx ≤ 1000 := Nat.le_trans (tl_le _) (by rw [Rx.len]; omega)
  replace Ra := Ra.on P1
  replace O := O.trans P1
  clear P1
  go_wp2_with fail
  refine (rparse_yes _ s (by omega) HB.out).mono ?_
  rintro e v2 ⟨Ay, ny, cy, rfl, ⟨xy, Ry, Cy, Vy, Ly⟩, P2⟩
  have Hy := Lib.hid Vy
  clear Vy
  have Ty : tl xy ≤ 1000 := Nat.le_trans (tl_le _) (by rw [Ry.len]; omega)
  replace Ra := Ra.on P2
  replace Rx := Rx.on P2
  replace O := O.trans P2
  clear P2
  go_wp2_with fail
  refine (text_any _ _ _ _ _ Ra (by omega)).mono ?_
  rintro e vt ⟨bs, rfl, IT, PT⟩
  replace Ra := Ra.on PT
  replace Rx := Rx.on PT
  replace Ry := Ry.on PT
  replace O := O.trans PT
  clear PT
  have HIT := Lib.hid IT
  clear IT
  go_wp2_with fail
  refine (rtext_any _ _ _ _ _ Ra (by omega)).mono ?_
  rintro e vu ⟨bu, rfl, IU, PU⟩
  replace Ra := Ra.on PU
  replace Rx := Rx.on PU
  replace Ry := Ry.on PU
  replace O := O.trans PU
  clear PU
  obtain rfl : bs = bu := HIT.out.unique IU
  clear IU
  go_wp2_with fail
  refine (words_rd _ _ _ _ _ _ _ _ _ Rx Ry Cx Cy (by rw [Hx.out, Hy.out])).mono ?_
  rintro e v3 ⟨rfl, P3⟩
  replace Ra := Ra.on P3
  replace Rx := Rx.on P3
  replace Ry := Ry.on P3
  replace O := O.trans P3
  clear P3
  go_wp2_with fail
  refine (num_nil _).mono ?_
  rintro e w' ⟨rfl, rfl⟩
  go_wp2
  go_ret
  exact ⟨rfl, O⟩
theorem texts_any (w : World) (Aa : Option Addr) (na ca : Nat) (xa : List Nat) (s : ByteArray) (Ra : Rd w Aa na ca xa) (hs : s.size ≤ 9223372036854775807) :
    Calls Try.prog 8 #[.slice Aa na ca, .string s] w fun e w' => e = .returned (.bool true) ∧ On w w' := by
  by_cases h1 : 400 < s.size
  · by_cases h2 : s.size ≤ 65536
    · exact texts_skip w Aa na ca xa s Ra hs h1 h2
    · exact texts_large w Aa na ca xa s Ra hs (.inr (by omega)) (by omega)
  · cases h2 : textB s
    · exact texts_bad w Aa na ca xa s Ra hs h1 h2
    · exact texts_good w Aa na ca xa s Ra hs h1 h2
end Num
end Go.Proofs.Ytnlihfhafnidlaa
