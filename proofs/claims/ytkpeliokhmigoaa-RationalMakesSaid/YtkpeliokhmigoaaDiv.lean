/-
  Div, where the divisor is 0, longer than the number, or one word.
-/
import Derived.Test.YtkpeliokhmigoaaBits
namespace Go.Proofs.Ytkpeliokhmigoaa
open Go.RowKit
set_option linter.unusedVariables false
namespace Num
/-- quotient and rest -/
def QR (w : World) (a b L M : Nat) (e : Ending) (w' : World) : Prop :=
  ∃ A n c A' n' c', e = .returned (.tuple #[.slice A n c, .slice A' n' c', .nilIface]) ∧ Nm w' A n c (a / b) L ∧ Nm w' A' n' c' (a % b) M ∧ On w w'
theorem clean_val_zero {l : List Nat} (h : tl l = 0) : val l = 0 := val_of_tl_zero l h
theorem tl_zero_of_val {l : List Nat} (h : val l = 0) : tl l = 0 := by
  rcases Nat.eq_zero_or_pos (tl l) with h0 | h0
  · exact h0
  · have := val_pos (clean_take l) (by rw [List.length_take, Nat.min_eq_left (tl_le l)]; exact h0)
    rw [val_take_tl, h] at this; omega
set_option maxHeartbeats 400000 in
theorem div_zero (w : World) (A A' : Option Addr) (n c n' c' : Nat) (xs ys : List Nat) (h : Rd w A n c xs) (k : Rd w A' n' c' ys) (h0 : tl ys = 0) :
    Calls Try.prog 81 #[.slice A n c, .slice A' n' c'] w fun e w' => e = .returned (.tuple #[.slice none 0 0, .slice none 0 0, .iface 49 (.int .i64 8)]) ∧ w = w' := by
  have H0 := Lib.hid h0
  clear h0
  go_enter Try.func81, Try.ntmps81
  go_wp2_with fail
  refine (trim_any _ _ _ _ _ h).mono ?_
  rintro e w' ⟨rfl, rfl⟩
  go_wp2_with fail
  refine (trim_any _ _ _ _ _ k).mono ?_
  rintro e w' ⟨rfl, rfl⟩
  rw [H0.out]
  go_wp2
  go_ret3
  exact ⟨rfl, rfl⟩
set_option maxHeartbeats 400000 in
theorem div_less (w : World) (A A' : Option Addr) (n c n' c' L M : Nat) (xs ys : List Nat) (h : Rd w A n c xs) (k : Rd w A' n' c' ys) (h0 : tl xs < tl ys) (hn : n ≤ 100000000) (hM : tl ys ≤ M) :
    Calls Try.prog 81 #[.slice A n c, .slice A' n' c'] w (QR w (val xs) (val ys) L M) := by
  have T := h.take (k := tl xs) (by rw [← h.len]; exact tl_le xs)
  have hlt : val xs < val ys := by
    have := val_lt_of_len (a := xs.take (tl xs)) (b := ys.take (tl ys)) T.ok (clean_take ys) (by rw [List.length_take, List.length_take, Nat.min_eq_left (tl_le _), Nat.min_eq_left (tl_le _)]; exact h0)
    rwa [val_take_tl, val_take_tl] at this
  have hq : val xs / val ys = 0 := Nat.div_eq_of_lt hlt
  have hr : val xs % val ys = val xs := Nat.mod_eq_of_lt hlt
  have HQ := Lib.hid hq
  have HR := Lib.hid hr
  have hle : tl xs ≤ n := by rw [← h.len]; exact tl_le xs
  clear hq hr hlt
  go_enter Try.func81, Try.ntmps81
  go_wp2_with fail
  refine (trim_any _ _ _ _ _ h).mono ?_
  rintro e w' ⟨rfl, rfl⟩
  go_wp2_with fail
  refine (trim_any _ _ _ _ _ k).mono ?_
  rintro e w' ⟨rfl, rfl⟩
  have h1 : 0 < tl ys := by omega
  have hb1 : (((tl ys : Nat) : Int) == 0) = false := by simp; omega
  have C := clean_take xs
  have V := Lib.hid (val_take_tl xs)
  generalize tl ys = m' at *
  generalize hzs : xs.take (tl xs) = zs at *
  generalize tl xs = m at *
  clear hzs
  have hb2 : decide (m < m') = true := decide_eq_true h0
  go_wp2_with fail
  refine (clone_any _ _ _ _ _ T (by omega)).mono ?_
  rintro e w' ⟨A1, c1, rfl, R1, hon, _⟩
  go_wp2
  go_ret3
  exact ⟨_, _, _, _, _, _, rfl, ⟨[], Rd.nil_, clean_nil, by rw [HQ.out]; rfl, by omega⟩, ⟨zs, R1, C, by rw [HR.out, V.out], by omega⟩, hon⟩
set_option maxHeartbeats 800000 in
theorem div_word (w : World) (A A' : Option Addr) (n c n' c' L M : Nat) (xs ys : List Nat) (h : Rd w A n c xs) (k : Rd w A' n' c' ys) (h0 : tl ys = 1) (h1 : 1 ≤ tl xs) (hn : n ≤ 100000000) (hL : tl xs ≤ L) (hM : 2 ≤ M) :
    Calls Try.prog 81 #[.slice A n c, .slice A' n' c'] w (QR w (val xs) (val ys) L M) := by
  have T := h.take (k := tl xs) (by rw [← h.len]; exact tl_le xs)
  have T' := k.take (k := tl ys) (by rw [← k.len]; exact tl_le ys)
  have C := clean_take xs
  have C' := clean_take ys
  have V := Lib.hid (val_take_tl xs)
  have V' := Lib.hid (val_take_tl ys)
  have hle : tl xs ≤ n := by rw [← h.len]; exact tl_le xs
  rw [← V.out, ← V'.out]
  clear V V'
  generalize xs.take (tl xs) = zs at *
  generalize ys.take (tl ys) = us at *
  rw [h0] at T'
  have hlast := clean_last C' 0 T'.len
  have hv : val us = gw us 0 := by
    obtain ⟨u, rfl⟩ := List.length_eq_one_iff.1 T'.len
    simp [val, gw]
  rw [hv]
  have HZ := Lib.hid h0
  clear h0 hv C'
  go_enter Try.func81, Try.ntmps81
  go_wp2_with fail
  refine (trim_any _ _ _ _ _ h).mono ?_
  rintro e w' ⟨rfl, rfl⟩
  go_wp2_with fail
  refine (trim_any _ _ _ _ _ k).mono ?_
  rintro e w' ⟨rfl, rfl⟩
  rw [HZ.out]
  obtain ⟨ad, rfl, hb, hc⟩ := T'.at_ 0 (by omega)
  have hw0 := T'.ok.get 0
  generalize tl xs = m at *
  have hb1 : decide (m < 1) = false := decide_eq_false (by omega)
  go_wp2_with fail
  refine (clone_any _ _ _ _ _ T (by omega)).mono ?_
  rintro e w1 ⟨A1, c1, rfl, R1, hon, hown⟩
  obtain ⟨g, cur, rfl, hg, ho, hh⟩ := hown (by omega)
  have hc1 : w1.cell? ad = some (.int .u32 ((gw us 0 : Nat) : Int)) := (Below.cell hon hb).trans (by rw [add_nil] at hc; exact hc)
  go_wp2_with fail
  refine (divw_any w1 g 0 m c1 cur zs _ ho hh R1.len R1.cap (by omega) (by omega) (by omega) (by omega)).mono ?_
  rintro e w2 ⟨cur', qs, rfl, ho2, hh2, hl2, hv2, _, honly⟩
  rw [Int.toNat_natCast] at hv2 ⊢
  have R2 := Rd.own (n := m) (c := c1) ho2 hh2 (by rw [hl2, R1.len]) R1.cap R1.max
  have hon2 : On w w2 := hon.only honly hg
  have HV2 := Lib.hid hv2
  have HL2 := Lib.hid hl2
  clear hv2 hl2
  have hrl : val zs % gw us 0 < 4294967296 := Nat.lt_trans (Nat.mod_lt _ (by omega)) hw0
  generalize hrr : val zs % gw us 0 = rr at *
  have HRR := Lib.hid hrr
  clear hrr
  go_wp2_with fail
  refine (trim_any _ _ _ _ _ R2).mono ?_
  rintro e w' ⟨rfl, rfl⟩
  have N1 := nm_trim R2 (L := L) (Nat.le_trans (tl_le _) (by rw [R2.len]; omega))
  rw [HV2.out] at N1
  go_wp2_with fail
  refine (of64_any _ _ (by omega) (by omega)).mono ?_
  rintro e w3 ⟨A3, n3, c3, rfl, N3, hon3⟩
  rw [Int.toNat_natCast] at N3
  go_wp2
  go_ret3
  obtain ⟨ws, r1, r2, r3, r4⟩ := N3
  exact ⟨_, _, _, _, _, _, rfl, N1.on hon3, ⟨ws, r1, r2, by rw [r3, HRR.out], by omega⟩, hon2.trans hon3⟩
end Num
end Go.Proofs.Ytkpeliokhmigoaa
