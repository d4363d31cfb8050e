/-
  Bits of the specification.
-/
import Derived.Test.YtkpeliokhmigoaaRef4
namespace Go.Proofs.Ytkpeliokhmigoaa
open Go.RowKit
set_option linter.unusedVariables false
namespace Num
theorem bit_step (V P r k b x : Nat) (i : Nat) (hP : P = 2 ^ (32 * i)) (hV : V < P) (hr : r < 2 ^ k) (hb : b = 1) : nb (V + P * (r + 2 ^ k * b)) = 32 * i + k + 1 := by
  subst hb
  subst hP
  apply nb_unique
  · rw [Nat.pow_add]
    have : 2 ^ (32 * i) * 2 ^ k ≤ 2 ^ (32 * i) * (r + 2 ^ k * 1) := Nat.mul_le_mul_left _ (by omega)
    omega
  · rw [Nat.add_assoc, Nat.pow_add, Nat.pow_succ]
    have : 2 ^ (32 * i) * (r + 2 ^ k * 1 + 1) ≤ 2 ^ (32 * i) * (2 ^ k * 2) := Nat.mul_le_mul_left _ (by omega)
    rw [Nat.mul_add (2 ^ (32 * i)) _ 1] at this
    omega
theorem and_one (x k : Nat) (hx : x < 4294967296) : bits .and .u32 ((x : Int) / 2 ^ k) 1 = ((x / 2 ^ k % 2 : Nat) : Int) := by
  rw [show ((x : Int) / 2 ^ k) = ((x / 2 ^ k : Nat) : Int) from by rw [Int.natCast_ediv, Int.natCast_pow]; rfl]
  have := u32_and_nat (x / 2 ^ k) 1 (Nat.lt_of_le_of_lt (Nat.div_le_self _ _) hx) (by decide)
  rw [show ((1 : Nat) : Int) = 1 from rfl] at this
  rw [this, nat_mask1]
set_option maxRecDepth 100000 in
set_option maxHeartbeats 1000000 in
theorem rbits_any (w : World) (A : Option Addr) (n c : Nat) (xs : List Nat) (h : Rd w A n c xs) (hn : n ≤ 100000) :
    Calls Try.prog 38 #[.slice A n c] w fun e w' => e = .returned (.int .i64 ((nb (val xs) : Nat) : Int)) ∧ w = w' := by
  have hmax := h.max
  have hcap := h.cap
  go_enter Try.func38, Try.ntmps38
  go_wp2
  go_loop [3, 9] (fun s i => ∃ j : Nat, j ≤ n ∧ i = .int .i64 (j : Int) ∧ s = .int .i64 ((nb (val (xs.take j)) : Nat) : Int)) (fun _ i => n - (intOf i).toNat)
  case atStart => exact ⟨0, by omega, rfl, rfl⟩
  case round =>
    obtain ⟨j, hj, rfl, rfl⟩ := hrel
    by_cases hlt : j < n
    · obtain ⟨ad, rfl, hb, hc⟩ := h.at_ j hlt
      have hx := h.ok.get j
      have HVL := Lib.hid (val_take_lt h.ok j)
      go_wp2
      go_loop [3, 14] (fun s i => ∃ k : Nat, k ≤ 32 ∧ i = .int .i64 (k : Int) ∧ s = .int .i64 ((nb (val (xs.take j) + BB ^ j * (gw xs j % 2 ^ k)) : Nat) : Int)) (fun _ i => 32 - (intOf i).toNat)
      case atStart => exact ⟨0, by omega, rfl, by simp [Nat.mod_one]⟩
      case round =>
        obtain ⟨k, hk, rfl, rfl⟩ := hrel
        by_cases hkl : k < 32
        · have HA := and_one (gw xs j) k hx
          have hmb : gw xs j / 2 ^ k % 2 < 2 := Nat.mod_lt _ (by decide)
          have HPS := Lib.hid (Nat.mod_pow_succ (b := 2) (x := gw xs j) (k := k))
          have HPB : Hid (BB ^ j = 2 ^ (32 * j)) := by rw [Nat.pow_mul]; exact rfl
          have hmr : gw xs j % 2 ^ k < 2 ^ k := Nat.mod_lt _ (Nat.pow_pos (by decide))
          have HMR := Lib.hid hmr
          clear hmr
          by_cases hbit : gw xs j / 2 ^ k % 2 = 1
          · have HB := Lib.hid hbit
            rw [hbit] at HA
            have HF := Lib.hid (bit_step (val (xs.take j)) (BB ^ j) (gw xs j % 2 ^ k) k (gw xs j / 2 ^ k % 2) 0 j HPB.out HVL.out HMR.out hbit)
            clear hbit hmb
            go_wp2
            go_round
            case rel => exact ⟨k + 1, by omega, by go_num, by rw [HPS.out, HF.out]; congr 1⟩
            case measure => first | (simp [intOf]; done) | (simp [intOf]; omega)
          · have hb0 : gw xs j / 2 ^ k % 2 = 0 := by omega
            have HB := Lib.hid hb0
            rw [hb0] at HA
            clear hbit hmb hb0
            go_wp2
            go_round
            case rel => exact ⟨k + 1, by omega, by go_num, by rw [HPS.out, HB.out, Nat.mul_zero, Nat.add_zero]⟩
            case measure => first | (simp [intOf]; done) | (simp [intOf]; omega)
        · obtain rfl : k = 32 := by omega
          go_wp2
          go_round
          case rel => exact ⟨j + 1, by omega, by go_num, by rw [val_take_succ_any, Nat.mod_eq_of_lt (show gw xs j < 2 ^ 32 from hx)]⟩
          case measure => first | (simp [intOf]; done) | (simp [intOf]; omega)
    · obtain rfl : j = n := by omega
      go_wp2
      go_ret
      exact ⟨ret_int (by rw [List.take_of_length_le (Nat.le_of_eq h.len)]), rfl⟩
end Num
end Go.Proofs.Ytkpeliokhmigoaa
