/-
  Bits: the number of bits.
-/
import Derived.Test.YtkpeliokhmigoaaShr
namespace Go.Proofs.Ytkpeliokhmigoaa
open Go.RowKit
set_option linter.unusedVariables false
namespace Num
/-- the number of bits of a number -/
def nb (v : Nat) : Nat := if v = 0 then 0 else Nat.log2 v + 1
theorem nb_zero : nb 0 = 0 := rfl
theorem nb_lt (v : Nat) : v < 2 ^ nb v := by
  unfold nb
  split
  · rename_i h; subst h; decide
  · exact Nat.lt_log2_self
theorem nb_ge (v : Nat) (h : v ≠ 0) : 2 ^ (nb v - 1) ≤ v := by
  unfold nb
  rw [if_neg h, Nat.add_sub_cancel]
  exact Nat.log2_self_le h
theorem nb_unique (v b : Nat) (h1 : 2 ^ b ≤ v) (h2 : v < 2 ^ (b + 1)) : nb v = b + 1 := by
  have h0 : v ≠ 0 := by have := Nat.pow_pos (n := b) (show 0 < 2 by decide); omega
  have a := nb_lt v
  have c := nb_ge v h0
  have hp : 0 < nb v := by
    rcases Nat.eq_zero_or_pos (nb v) with h | h
    · rw [h] at a; simp at a; omega
    · exact h
  have l1 : b < nb v := (Nat.pow_lt_pow_iff_right (by decide : 1 < 2)).1 (Nat.lt_of_le_of_lt h1 a)
  have l2 : nb v - 1 < b + 1 := (Nat.pow_lt_pow_iff_right (by decide : 1 < 2)).1 (Nat.lt_of_le_of_lt c h2)
  omega
theorem nb_le_iff (v b : Nat) : nb v ≤ b ↔ v < 2 ^ b := by
  constructor
  · intro h; exact Nat.lt_of_lt_of_le (nb_lt v) (Nat.pow_le_pow_right (by decide) h)
  · intro h
    rcases Nat.eq_zero_or_pos v with h0 | h0
    · subst h0; simp [nb_zero]
    · have c := nb_ge v (by omega)
      have := (Nat.pow_lt_pow_iff_right (by decide : 1 < 2)).1 (Nat.lt_of_le_of_lt c h)
      omega
theorem nb_half (v : Nat) (h : v ≠ 0) : nb v = 1 + nb (v / 2) := by
  rcases Nat.lt_or_ge v 2 with h2 | h2
  · obtain rfl : v = 1 := by omega
    decide
  · have hv : v / 2 ≠ 0 := by omega
    have a := nb_lt (v / 2)
    have c := nb_ge (v / 2) hv
    have hp : 0 < nb (v / 2) := by unfold nb; rw [if_neg hv]; omega
    rw [nb_unique v (nb (v / 2)) ?_ ?_]
    · omega
    · have : 2 ^ nb (v / 2) = 2 ^ (nb (v / 2) - 1) * 2 := by rw [← Nat.pow_succ]; congr 1; omega
      omega
    · rw [Nat.pow_succ]; omega
theorem bitLen_nb (x : Nat) (h : x < 2 ^ 64) : Lib.bitLen x = nb x := by
  induction x using Nat.strongRecOn with
  | _ x ih =>
    rcases Nat.eq_zero_or_pos x with h0 | h0
    · subst h0; rfl
    · rw [Lib.bitLen_half x (by omega) h, nb_half x (by omega), ih (x / 2) (by omega) (by omega)]
/-- the bits of a number are those of its top word, and 32 for each word below -/
theorem nb_val (l : List Nat) (h : Ok l) (m : Nat) (hl : l.length = m + 1) (ht : gw l m ≠ 0) : nb (val l) = 32 * m + nb (gw l m) := by
  have e := val_split l m (by omega)
  rw [val_drop l m (by omega), List.drop_of_length_le (by omega)] at e
  simp only [val, Nat.mul_zero, Nat.add_zero] at e
  have hlow := val_lt (h.take m)
  rw [List.length_take, Nat.min_eq_left (by omega)] at hlow
  have a := nb_lt (gw l m)
  have c := nb_ge (gw l m) ht
  have hp : 0 < nb (gw l m) := by unfold nb; rw [if_neg ht]; omega
  have hB : BB ^ m = 2 ^ (32 * m) := by rw [Nat.pow_mul]; rfl
  rw [hB] at e hlow
  obtain ⟨t, htt⟩ : ∃ t, nb (gw l m) = t + 1 := ⟨nb (gw l m) - 1, by omega⟩
  rw [htt] at a c
  rw [Nat.add_sub_cancel] at c
  rw [htt, nb_unique (val l) (32 * m + t) ?_ ?_]
  · omega
  · rw [Nat.pow_add, e]
    have := Nat.mul_le_mul_left (2 ^ (32 * m)) c
    omega
  · rw [Nat.add_assoc, Nat.pow_add, e]
    have : 2 ^ (32 * m) * (gw l m + 1) ≤ 2 ^ (32 * m) * 2 ^ (t + 1) := Nat.mul_le_mul_left _ a
    rw [Nat.mul_add] at this
    omega
set_option maxHeartbeats 400000 in
theorem bits_any (w : World) (A : Option Addr) (n c : Nat) (xs : List Nat) (h : Rd w A n c xs) (hn : n ≤ 100000000) :
    Calls Try.prog 36 #[.slice A n c] w fun e w' => e = .returned (.int .i64 ((nb (val xs) : Nat) : Int)) ∧ w = w' := by
  have T := h.take (k := tl xs) (by rw [← h.len]; exact tl_le xs)
  have V := Lib.hid (val_take_tl xs)
  have C := clean_take xs
  have hm : tl xs ≤ n := by rw [← h.len]; exact tl_le xs
  go_enter Try.func36, Try.ntmps36
  go_wp2_with fail
  refine (trim_any _ _ _ _ _ h).mono ?_
  rintro e w' ⟨rfl, rfl⟩
  generalize hzs : xs.take (tl xs) = zs at *
  generalize tl xs = m at *
  clear hzs
  rcases m with _ | m
  · obtain rfl := List.eq_nil_of_length_eq_zero T.len
    go_wp2
    go_ret
    exact ⟨by rw [← V.out]; rfl, rfl⟩
  · obtain ⟨ad, rfl, hb, hc⟩ := T.at_ m (by omega)
    have hz := T.ok.get m
    have hne := clean_last C m T.len
    have HV := Lib.hid (nb_val zs T.ok m T.len hne)
    have HB := Lib.hid (bitLen_nb (gw zs m) (by omega))
    clear C
    go_wp2_with fail
    refine (Try.bits_Len32 _ _ (by omega) (by omega)).mono ?_
    rintro e w' ⟨rfl, rfl⟩
    rw [Int.toNat_natCast, HB.out]
    have hle : nb (gw zs m) ≤ 32 := (nb_le_iff _ _).2 (by omega)
    generalize nb (gw zs m) = b at *
    go_wp2
    go_ret
    exact ⟨ret_int (by rw [← V.out, HV.out]; omega), rfl⟩
end Num
end Go.Proofs.Ytkpeliokhmigoaa
