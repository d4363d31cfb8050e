/-
  What the smallest functions of package natural do: trim, at.
-/
import Derived.Test.YtkpeliokhmigoaaMem
import Derived.Deep.QuietTactic
import Derived.BigQuiet
namespace Go.Proofs.Ytkpeliokhmigoaa
open Go.RowKit
set_option linter.unusedVariables false
namespace Num
set_option maxHeartbeats 400000 in
theorem trim_any (w : World) (A : Option Addr) (n c : Nat) (xs : List Nat) (h : Rd w A n c xs) :
    Calls Try.prog 67 #[.slice A n c] w fun e w' => e = .returned (.slice A (tl xs) c) ∧ w = w' := by
  have hlen := h.len
  have hcap := h.cap
  have hmax := h.max
  have htl := tl_le xs
  go_enter Try.func67, Try.ntmps67
  go_wp2
  go_loop [3] (fun i => ∃ k : Nat, k ≤ n ∧ i = .int .i64 k ∧ tl (xs.take k) = tl xs) (fun i => (intOf i).toNat)
  case atStart => exact ⟨n, Nat.le_refl _, rfl, by rw [List.take_of_length_le (by omega)]⟩
  case round =>
    obtain ⟨k, hk, rfl, ht⟩ := hrel
    have HT := Lib.hid ht
    clear ht
    rcases k with _ | k
    · go_wp2
      go_ret
      have h0 : tl xs = 0 := by rw [← HT.out]; rfl
      exact ⟨ret_slice h0.symm, rfl⟩
    · obtain ⟨ad, rfl, hb, hcell⟩ := h.at_ k (by omega)
      by_cases h0 : gw xs k = 0
      · have H0 := Lib.hid h0
        rw [h0] at hcell
        clear h0
        go_wp2
        go_round
        case rel => exact ⟨k, by omega, by go_num, by rw [← HT.out, tl_take_zero xs k (by omega) H0.out]⟩
        case measure => first | (simp [intOf]; done) | (simp [intOf]; omega)
      · have h1 : (((gw xs k : Nat) : Int) == 0) = false := by simp; omega
        have H0 := Lib.hid h0
        clear h0
        go_wp2
        go_ret
        exact ⟨ret_slice (by rw [← HT.out, tl_take_pos xs k (by omega) H0.out]), rfl⟩
/-- at(a, i): word i, 0 behind the end -/
theorem at_any (w : World) (A : Option Addr) (n c : Nat) (xs : List Nat) (h : Rd w A n c xs) (i : Int) (h0 : 0 ≤ i) (h1 : i ≤ 1000000000) :
    Calls Try.prog 107 #[.slice A n c, .int .i64 i] w fun e w' => e = .returned (.int .u32 (gw xs i.toNat : Nat)) ∧ w = w' := by
  obtain ⟨k, rfl⟩ := Int.eq_ofNat_of_zero_le h0
  rw [Int.toNat_natCast]
  have hcap := h.cap
  have hmax := h.max
  by_cases hk : k < n
  · obtain ⟨ad, rfl, hb, hcell⟩ := h.at_ k hk
    go_enter Try.func107, Try.ntmps107
    go_wp2
    go_ret
    exact ⟨rfl, rfl⟩
  · have hg := Lib.hid (getD_ge (l := xs) (k := k) (by rw [h.len]; omega))
    go_enter Try.func107, Try.ntmps107
    go_wp2
    go_ret
    exact ⟨by rw [hg.out]; rfl, rfl⟩
/-- the same, word j, the world on the left -/
theorem at_is (w : World) (A : Option Addr) (n c : Nat) (xs : List Nat) (h : Rd w A n c xs) (i : Int) (j : Nat) (hi : i = (j : Int)) (h1 : j ≤ 1000000000) :
    Calls Try.prog 107 #[.slice A n c, .int .i64 i] w fun e w' => e = .returned (.int .u32 ((gw xs j : Nat) : Int)) ∧ w' = w := by
  subst hi
  refine (at_any w A n c xs h (j : Int) (by omega) (by omega)).mono ?_
  rintro e w' ⟨he, hw⟩
  rw [Int.toNat_natCast] at he
  exact ⟨he, hw.symm⟩
end Num
end Go.Proofs.Ytkpeliokhmigoaa
