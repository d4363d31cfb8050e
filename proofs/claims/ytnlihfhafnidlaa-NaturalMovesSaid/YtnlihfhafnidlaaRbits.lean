/-
  Int of the program; Bits and Int of the specification.
-/
import Derived.Test.YtnlihfhafnidlaaRef4
namespace Go.Proofs.Ytnlihfhafnidlaa
open Go.RowKit
set_option linter.unusedVariables false
namespace Num
theorem val_low2 (xs : List Nat) (h : val xs < BB ^ 2) : val xs = gw xs 0 + 4294967296 * gw xs 1 := by
  have h1 := val_drop_any xs 0
  rw [List.drop_zero, val_drop_any xs 1] at h1
  have h2 : BB ^ 2 = 18446744073709551616 := by decide
  rw [h2] at h
  generalize val (xs.drop (1 + 1)) = t at *
  simp only [BB] at h1
  omega
set_option maxHeartbeats 400000 in
theorem to64_low (w : World) (A : Option Addr) (n c : Nat) (xs : List Nat) (h : Rd w A n c xs) (hv : val xs < BB ^ 2) :
    Calls Try.prog 48 #[.slice A n c] w fun e w' => e = .returned (.int .u64 (val xs : Nat)) ∧ w = w' := by
  have h0 := h.ok.get 0
  have h1 := h.ok.get 1
  have HV := Lib.hid (val_low2 xs hv)
  clear hv
  go_enter Try.func48, Try.ntmps48
  go_wp2_with fail
  refine (at_any _ _ _ _ _ h _ (by omega) (by omega)).mono ?_
  rintro e w' ⟨rfl, rfl⟩
  go_wp2_with fail
  refine (at_any _ _ _ _ _ h _ (by omega) (by omega)).mono ?_
  rintro e w' ⟨rfl, rfl⟩
  go_wp2
  go_ret
  exact ⟨ret_int ((or64 _ _ h1 h0).trans (by rw [HV.out])), rfl⟩
/-- a number as an int, and whether it fits -/
def intOfV (v : Nat) : Value := if v < 9223372036854775808 then .tuple #[.int .i64 (v : Int), .bool true] else .tuple #[.int .i64 0, .bool false]
set_option maxHeartbeats 400000 in
theorem int_any (w : World) (A : Option Addr) (n c : Nat) (xs : List Nat) (h : Rd w A n c xs) (hn : n ≤ 100000) :
    Calls Try.prog 16 #[.slice A n c] w fun e w' => e = .returned (intOfV (val xs)) ∧ w = w' := by
  have hb : nb (val xs) ≤ 63 ↔ val xs < 9223372036854775808 := nb_le_iff (val xs) 63
  have hb2 : nb (val xs) ≤ 32 * n := by
    rw [nb_le_iff, Nat.pow_mul]
    have := val_lt h.ok
    rw [h.len] at this
    exact this
  by_cases hv : val xs < 9223372036854775808
  · have HI : Hid (intOfV (val xs) = .tuple #[.int .i64 (val xs : Int), .bool true]) := by unfold intOfV; rw [if_pos hv]; exact rfl
    have h63 := hb.2 hv
    have h2 : val xs < BB ^ 2 := Nat.lt_trans hv (by decide)
    have H2 := Lib.hid h2
    clear hb h2
    go_enter Try.func16, Try.ntmps16
    go_wp2_with fail
    refine (bits_any _ _ _ _ _ h (by omega)).mono ?_
    rintro e w' ⟨rfl, rfl⟩
    generalize nb (val xs) = b at *
    go_wp2_with fail
    refine (to64_low _ _ _ _ _ h H2.out).mono ?_
    rintro e w' ⟨rfl, rfl⟩
    go_wp2
    go_ret2
    exact ⟨by rw [HI.out]; rfl, rfl⟩
  · have HI : Hid (intOfV (val xs) = .tuple #[.int .i64 0, .bool false]) := by unfold intOfV; rw [if_neg hv]; exact rfl
    have h63 : ¬ nb (val xs) ≤ 63 := fun e => hv (hb.1 e)
    have h63' : 63 < nb (val xs) := by omega
    clear hb h63
    go_enter Try.func16, Try.ntmps16
    go_wp2_with fail
    refine (bits_any _ _ _ _ _ h (by omega)).mono ?_
    rintro e w' ⟨rfl, rfl⟩
    generalize nb (val xs) = b at *
    go_wp2
    go_ret2
    exact ⟨by rw [HI.out]; rfl, rfl⟩
theorem bit_step (V P r k b x : Nat) (i : Nat) (hP : P = 2 ^ (32 * i)) (hV : V < P) (hr : r < 2 ^ k) (hb : b = 1) : nb (V + P * (r + 2 ^ k * b)) = 32 * i + k + 1 := by
  subst hb
  subst hP
  apply nb_unique
  · rw [Nat.pow_add]
    have : 2 ^ (32 * i) * 2 ^ k ≤ 2 ^ (32 * i) * (r + 2 ^ k * 1) := Nat.mul_le_mul_left _ (by omega)
    omega
  · rw [Nat.add_assoc, Nat.pow_add, Nat.pow_succ]
    have : 2 ^ (32 * i) * (r + 2 ^ k * 1 + 1) ≤ 2 ^ (32 * i) * (2 ^ k * 2) := Nat.mul_le_mul_left _ (by omega)
    rw [Nat.mul_add (2 ^ (32 * i)) _ 1] at this
    omega
theorem and_one (x k : Nat) (hx : x < 4294967296) : bits .and .u32 ((x : Int) / 2 ^ k) 1 = ((x / 2 ^ k % 2 : Nat) : Int) := by
  rw [show ((x : Int) / 2 ^ k) = ((x / 2 ^ k : Nat) : Int) from by rw [Int.natCast_ediv, Int.natCast_pow]; rfl]
  have := u32_and_nat (x / 2 ^ k) 1 (Nat.lt_of_le_of_lt (Nat.div_le_self _ _) hx) (by decide)
  rw [show ((1 : Nat) : Int) = 1 from rfl] at this
  rw [this, nat_mask1]
set_option maxRecDepth 100000 in
set_option maxHeartbeats 1000000 in
theorem rbits_any (w : World) (A : Option Addr) (n c : Nat) (xs : List Nat) (h : Rd w A n c xs) (hn : n ≤ 100000) :
    Calls Try.prog 24 #[.slice A n c] w fun e w' => e = .returned (.int .i64 ((nb (val xs) : Nat) : Int)) ∧ w = w' := by
  have hmax := h.max
  have hcap := h.cap
  go_enter Try.func24, Try.ntmps24
  go_wp2
  go_loop [3, 9] (fun s i => ∃ j : Nat, j ≤ n ∧ i = .int .i64 (j : Int) ∧ s = .int .i64 ((nb (val (xs.take j)) : Nat) : Int)) (fun _ i => n - (intOf i).toNat)
  case atStart => exact ⟨0, by omega, rfl, rfl⟩
  case round =>
    obtain ⟨j, hj, rfl, rfl⟩ := hrel
    by_cases hlt : j < n
    · obtain ⟨ad, rfl, hb, hc⟩ := h.at_ j hlt
      have hx := h.ok.get j
      have HVL := Lib.hid (val_take_lt h.ok j)
      go_wp2
      go_loop [3, 14] (fun s i => ∃ k : Nat, k ≤ 32 ∧ i = .int .i64 (k : Int) ∧ s = .int .i64 ((nb (val (xs.take j) + BB ^ j * (gw xs j % 2 ^ k)) : Nat) : Int)) (fun _ i => 32 - (intOf i).toNat)
      case atStart => exact ⟨0, by omega, rfl, by simp [Nat.mod_one]⟩
      case round =>
        obtain ⟨k, hk, rfl, rfl⟩ := hrel
        by_cases hkl : k < 32
        · have HA := and_one (gw xs j) k hx
          have hmb : gw xs j / 2 ^ k % 2 < 2 := Nat.mod_lt _ (by decide)
          have HPS := Lib.hid (Nat.mod_pow_succ (b := 2) (x := gw xs j) (k := k))
          have HPB : Hid (BB ^ j = 2 ^ (32 * j)) := by rw [Nat.pow_mul]; exact rfl
          have hmr : gw xs j % 2 ^ k < 2 ^ k := Nat.mod_lt _ (Nat.pow_pos (by decide))
          have HMR := Lib.hid hmr
          clear hmr
          by_cases hbit : gw xs j / 2 ^ k % 2 = 1
          · have HB := Lib.hid hbit
            rw [hbit] at HA
            have HF := Lib.hid (bit_step (val (xs.take j)) (BB ^ j) (gw xs j % 2 ^ k) k (gw xs j / 2 ^ k % 2) 0 j HPB.out HVL.out HMR.out hbit)
            clear hbit hmb
            go_wp2
            go_round
            case rel => exact ⟨k + 1, by omega, by go_num, by rw [HPS.out, HF.out]; congr 1⟩
            case measure => first | (simp [intOf]; done) | (simp [intOf]; omega)
          · have hb0 : gw xs j / 2 ^ k % 2 = 0 := by omega
            have HB := Lib.hid hb0
            rw [hb0] at HA
            clear hbit hmb hb0
            go_wp2
            go_round
            case rel => exact ⟨k + 1, by omega, by go_num, by rw [HPS.out, HB.out, Nat.mul_zero, Nat.add_zero]⟩
            case measure => first | (simp [intOf]; done) | (simp [intOf]; omega)
        · obtain rfl : k = 32 := by omega
          go_wp2
          go_round
          case rel => exact ⟨j + 1, by omega, by go_num, by rw [val_take_succ_any, Nat.mod_eq_of_lt (show gw xs j < 2 ^ 32 from hx)]⟩
          case measure => first | (simp [intOf]; done) | (simp [intOf]; omega)
    · obtain rfl : j = n := by omega
      go_wp2
      go_ret
      exact ⟨ret_int (by rw [List.take_of_length_le (Nat.le_of_eq h.len)]), rfl⟩
theorem or64r (x y : Nat) (hx : x < 4294967296) (hy : y < 4294967296) : bits .or .u64 (y : Int) ((x : Int) * 4294967296) = ((y + 4294967296 * x : Nat) : Int) := by
  have h := u64_or_nat y (x * 4294967296) (by omega) (by omega)
  rw [show ((x : Int) * 4294967296) = ((x * 4294967296 : Nat) : Int) from by omega, h, Nat.or_comm, nat_join 32 (x * 4294967296) y (by omega) (by omega)]
  omega
set_option maxHeartbeats 400000 in
theorem rint_any (w : World) (A : Option Addr) (n c : Nat) (xs : List Nat) (h : Rd w A n c xs) (hn : n ≤ 100000) :
    Calls Try.prog 17 #[.slice A n c] w fun e w' => e = .returned (intOfV (val xs)) ∧ w = w' := by
  have hb : nb (val xs) ≤ 63 ↔ val xs < 9223372036854775808 := nb_le_iff (val xs) 63
  have hb2 : nb (val xs) ≤ 32 * n := by
    rw [nb_le_iff, Nat.pow_mul]
    have := val_lt h.ok
    rw [h.len] at this
    exact this
  by_cases hv : val xs < 9223372036854775808
  · have HI : Hid (intOfV (val xs) = .tuple #[.int .i64 (val xs : Int), .bool true]) := by unfold intOfV; rw [if_pos hv]; exact rfl
    have h63 := hb.2 hv
    have hvl := val_low2 xs (Nat.lt_trans hv (by decide))
    have g0 := h.ok.get 0
    have g1 := h.ok.get 1
    have hor := or64r (gw xs 1) (gw xs 0) g1 g0
    rw [← hvl] at hor
    clear hb hvl
    go_enter Try.func17, Try.ntmps17
    go_wp2_with fail
    refine (rbits_any _ _ _ _ _ h hn).mono ?_
    rintro e w' ⟨rfl, rfl⟩
    generalize nb (val xs) = b at *
    go_wp2_with fail
    refine (word_is _ _ _ _ _ h _ 0 rfl (by omega)).mono ?_
    rintro e w' ⟨rfl, rfl⟩
    go_wp2_with fail
    refine (word_is _ _ _ _ _ h _ 1 rfl (by omega)).mono ?_
    rintro e w' ⟨rfl, rfl⟩
    go_wp2
    go_ret2
    exact ⟨by rw [HI.out]; rfl, rfl⟩
  · have HI : Hid (intOfV (val xs) = .tuple #[.int .i64 0, .bool false]) := by unfold intOfV; rw [if_neg hv]; exact rfl
    have h63' : 63 < nb (val xs) := by have : ¬ nb (val xs) ≤ 63 := fun e => hv (hb.1 e); omega
    clear hb
    go_enter Try.func17, Try.ntmps17
    go_wp2_with fail
    refine (rbits_any _ _ _ _ _ h hn).mono ?_
    rintro e w' ⟨rfl, rfl⟩
    generalize nb (val xs) = b at *
    go_wp2
    go_ret2
    exact ⟨by rw [HI.out]; rfl, rfl⟩
end Num
end Go.Proofs.Ytnlihfhafnidlaa
