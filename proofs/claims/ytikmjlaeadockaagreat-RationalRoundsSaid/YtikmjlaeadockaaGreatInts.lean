/-
  Int of the program and of the specification.
-/
import Derived.Test.YtikmjlaeadockaaGreatRatA
namespace Go.Proofs.YtikmjlaeadockaaGreat
open Go.RowKit
set_option linter.unusedVariables false
namespace Num
theorem val_low2 (xs : List Nat) (h : val xs < BB ^ 2) : val xs = gw xs 0 + 4294967296 * gw xs 1 := by
  have h1 := val_drop_any xs 0
  rw [List.drop_zero, val_drop_any xs 1] at h1
  have h2 : BB ^ 2 = 18446744073709551616 := by decide
  rw [h2] at h
  generalize val (xs.drop (1 + 1)) = t at *
  simp only [BB] at h1
  omega
set_option maxHeartbeats 400000 in
theorem to64_low (w : World) (A : Option Addr) (n c : Nat) (xs : List Nat) (h : Rd w A n c xs) (hv : val xs < BB ^ 2) :
    Calls Tryz.prog 99 #[.slice A n c] w fun e w' => e = .returned (.int .u64 (val xs : Nat)) ∧ w = w' := by
  have h0 := h.ok.get 0
  have h1 := h.ok.get 1
  have HV := Lib.hid (val_low2 xs hv)
  clear hv
  go_enter Tryz.func99, Tryz.ntmps99
  go_wp2_with fail
  refine (at_any _ _ _ _ _ h _ (by omega) (by omega)).mono ?_
  rintro e w' ⟨rfl, rfl⟩
  go_wp2_with fail
  refine (at_any _ _ _ _ _ h _ (by omega) (by omega)).mono ?_
  rintro e w' ⟨rfl, rfl⟩
  go_wp2
  go_ret
  exact ⟨ret_int ((or64 _ _ h1 h0).trans (by rw [HV.out])), rfl⟩
/-- a number as an int, and whether it fits -/
def intOfV (v : Nat) : Value := if v < 9223372036854775808 then .tuple #[.int .i64 (v : Int), .bool true] else .tuple #[.int .i64 0, .bool false]
set_option maxHeartbeats 400000 in
theorem int_any (w : World) (A : Option Addr) (n c : Nat) (xs : List Nat) (h : Rd w A n c xs) (hn : n ≤ 100000) :
    Calls Tryz.prog 68 #[.slice A n c] w fun e w' => e = .returned (intOfV (val xs)) ∧ w = w' := by
  have hb : nb (val xs) ≤ 63 ↔ val xs < 9223372036854775808 := nb_le_iff (val xs) 63
  have hb2 : nb (val xs) ≤ 32 * n := by
    rw [nb_le_iff, Nat.pow_mul]
    have := val_lt h.ok
    rw [h.len] at this
    exact this
  by_cases hv : val xs < 9223372036854775808
  · have HI : Hid (intOfV (val xs) = .tuple #[.int .i64 (val xs : Int), .bool true]) := by unfold intOfV; rw [if_pos hv]; exact rfl
    have h63 := hb.2 hv
    have h2 : val xs < BB ^ 2 := Nat.lt_trans hv (by decide)
    have H2 := Lib.hid h2
    clear hb h2
    go_enter Tryz.func68, Tryz.ntmps68
    go_wp2_with fail
    refine (bits_any _ _ _ _ _ h (by omega)).mono ?_
    rintro e w' ⟨rfl, rfl⟩
    generalize nb (val xs) = b at *
    go_wp2_with fail
    refine (to64_low _ _ _ _ _ h H2.out).mono ?_
    rintro e w' ⟨rfl, rfl⟩
    go_wp2
    go_ret2
    exact ⟨by rw [HI.out]; rfl, rfl⟩
  · have HI : Hid (intOfV (val xs) = .tuple #[.int .i64 0, .bool false]) := by unfold intOfV; rw [if_neg hv]; exact rfl
    have h63 : ¬ nb (val xs) ≤ 63 := fun e => hv (hb.1 e)
    have h63' : 63 < nb (val xs) := by omega
    clear hb h63
    go_enter Tryz.func68, Tryz.ntmps68
    go_wp2_with fail
    refine (bits_any _ _ _ _ _ h (by omega)).mono ?_
    rintro e w' ⟨rfl, rfl⟩
    generalize nb (val xs) = b at *
    go_wp2
    go_ret2
    exact ⟨by rw [HI.out]; rfl, rfl⟩
theorem or64r (x y : Nat) (hx : x < 4294967296) (hy : y < 4294967296) : bits .or .u64 (y : Int) ((x : Int) * 4294967296) = ((y + 4294967296 * x : Nat) : Int) := by
  have h := u64_or_nat y (x * 4294967296) (by omega) (by omega)
  rw [show ((x : Int) * 4294967296) = ((x * 4294967296 : Nat) : Int) from by omega, h, Nat.or_comm, nat_join 32 (x * 4294967296) y (by omega) (by omega)]
  omega
set_option maxHeartbeats 400000 in
theorem rint_any (w : World) (A : Option Addr) (n c : Nat) (xs : List Nat) (h : Rd w A n c xs) (hn : n ≤ 100000) :
    Calls Tryz.prog 70 #[.slice A n c] w fun e w' => e = .returned (intOfV (val xs)) ∧ w = w' := by
  have hb : nb (val xs) ≤ 63 ↔ val xs < 9223372036854775808 := nb_le_iff (val xs) 63
  have hb2 : nb (val xs) ≤ 32 * n := by
    rw [nb_le_iff, Nat.pow_mul]
    have := val_lt h.ok
    rw [h.len] at this
    exact this
  by_cases hv : val xs < 9223372036854775808
  · have HI : Hid (intOfV (val xs) = .tuple #[.int .i64 (val xs : Int), .bool true]) := by unfold intOfV; rw [if_pos hv]; exact rfl
    have h63 := hb.2 hv
    have hvl := val_low2 xs (Nat.lt_trans hv (by decide))
    have g0 := h.ok.get 0
    have g1 := h.ok.get 1
    have hor := or64r (gw xs 1) (gw xs 0) g1 g0
    rw [← hvl] at hor
    clear hb hvl
    go_enter Tryz.func70, Tryz.ntmps70
    go_wp2_with fail
    refine (rbits_any _ _ _ _ _ h hn).mono ?_
    rintro e w' ⟨rfl, rfl⟩
    generalize nb (val xs) = b at *
    go_wp2_with fail
    refine (word_is _ _ _ _ _ h _ 0 rfl (by omega)).mono ?_
    rintro e w' ⟨rfl, rfl⟩
    go_wp2_with fail
    refine (word_is _ _ _ _ _ h _ 1 rfl (by omega)).mono ?_
    rintro e w' ⟨rfl, rfl⟩
    go_wp2
    go_ret2
    exact ⟨by rw [HI.out]; rfl, rfl⟩
  · have HI : Hid (intOfV (val xs) = .tuple #[.int .i64 0, .bool false]) := by unfold intOfV; rw [if_neg hv]; exact rfl
    have h63' : 63 < nb (val xs) := by have : ¬ nb (val xs) ≤ 63 := fun e => hv (hb.1 e); omega
    clear hb
    go_enter Tryz.func70, Tryz.ntmps70
    go_wp2_with fail
    refine (rbits_any _ _ _ _ _ h hn).mono ?_
    rintro e w' ⟨rfl, rfl⟩
    generalize nb (val xs) = b at *
    go_wp2
    go_ret2
    exact ⟨by rw [HI.out]; rfl, rfl⟩
end Num
end Go.Proofs.YtikmjlaeadockaaGreat
