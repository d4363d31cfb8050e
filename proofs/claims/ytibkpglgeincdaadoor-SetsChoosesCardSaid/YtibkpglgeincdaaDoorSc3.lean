/-
  The specification's Next.
-/
import Derived.Test.YtibkpglgeincdaaDoorSr1
import Derived.Test.YtibkpglgeincdaaDoorSs4
import Derived.Deep.QuietTactic
import Derived.BigQuiet
namespace Go.Proofs.YtibkpglgeincdaaDoor.Sb
open Go.RowKit
set_option linter.unusedVariables false
set_option maxRecDepth 100000
theorem w64n (a : Nat) (h : a ≤ 33554432) : wrap64 (a : Int) = (a : Int) := by unfold wrap64; omega
theorem w64m (t : Nat) (h0 : 0 < t) (h : t ≤ 33554432) : wrap64 (wrap64 (t : Int) - 1) = ((t - 1 : Nat) : Int) := by unfold wrap64; omega
theorem or64 (a b z : Nat) (ha : a ≤ 33554432) (hb : b ≤ 33554432) (h : a ||| b = z) : bits .or .i64 (a : Int) (b : Int) = (z : Int) := by rw [or_nat a b (by omega) (by omega), h]
theorem rnext_val (s l r q j1 : Nat) (hs : s < 16777216) (R : Run s l r q) (hj : l + r + 1 = j1) (h23 : j1 ≤ 23) :
    bits .or .i64 (bits .or .i64 (wrap64 ((s : Int) / 2 ^ j1 * 2 ^ j1)) (wrap64 (2 ^ j1))) (wrap64 (wrap64 (2 ^ r) - 1)) = ((succS s : Nat) : Int) := by
  have htop := R.top
  have heq := R.eq
  have hsucc := R.succ
  rw [hj] at htop
  have hj2 : l + r + 2 = j1 + 1 := by omega
  rw [hj, hj2, p2] at heq
  have hr : r ≤ j1 := by omega
  have hpj : 2 ^ j1 ≤ 2 ^ 23 := Nat.pow_le_pow_right (by decide) h23
  have hpr : 2 ^ r ≤ 2 ^ j1 := Nat.pow_le_pow_right (by decide) hr
  have hp0 : 0 < 2 ^ r := Nat.pow_pos (by decide)
  have hdiv : s / 2 ^ j1 * 2 ^ j1 ≤ s := Nat.div_mul_le_self s _
  rw [htop] at hdiv
  have ec : (s : Int) / 2 ^ j1 * 2 ^ j1 = ((2 * q * 2 ^ j1 : Nat) : Int) := by
    rw [← htop]; simp
  have ep : (2 : Int) ^ j1 = ((2 ^ j1 : Nat) : Int) := by simp
  have er : (2 : Int) ^ r = ((2 ^ r : Nat) : Int) := by simp
  rw [ec, er, ep]
  have htb : (2 * q * 2 ^ j1).testBit j1 = false := by
    rw [Nat.mul_comm, Nat.testBit_two_pow_mul]; simp
  have hor := or_bit (2 * q * 2 ^ j1) j1 htb
  have hjn : (2 * q * 2 ^ j1 + 2 ^ j1) ||| (2 ^ r - 1) = 2 * q * 2 ^ j1 + 2 ^ j1 + (2 ^ r - 1) := by
    refine nat_join j1 _ _ ?_ ?_
    · rw [Nat.mul_comm (2 * q)]; simp
    · omega
  have hcm : 2 ^ j1 * (2 * q) = 2 * q * 2 ^ j1 := Nat.mul_comm _ _
  rw [hcm] at heq
  generalize 2 * q * 2 ^ j1 = a at *
  generalize 2 ^ j1 = p at *
  generalize 2 ^ r = t at *
  generalize 2 ^ l = u at *
  have hp8 : p ≤ 8388608 := hpj
  have ha8 : a ≤ 16777216 := by clear hor hjn ec ep er htb hsucc heq; omega
  have ht8 : t ≤ 8388608 := Nat.le_trans hpr hp8
  have b1 := or64 a p (a + p) (Nat.le_trans ha8 (by decide)) (Nat.le_trans hp8 (by decide)) hor
  have b2 := or64 (a + p) (t - 1) _ (by clear hor hjn ec ep er htb hsucc heq b1; omega) (by clear hor hjn ec ep er htb hsucc heq b1; omega) hjn
  have hfin : a + p + (t - 1) = succS s := by rw [hsucc]; clear hor hjn b1 b2 ec ep er htb; omega
  rw [w64n a (Nat.le_trans ha8 (by decide)), w64n p (Nat.le_trans hp8 (by decide)), w64m t hp0 (Nat.le_trans ht8 (by decide)), b1, b2, hfin]
set_option maxHeartbeats 2000000 in
theorem rnext_bad (w : World) (s : Int) (h : ¬ (0 ≤ s ∧ s < 16777216)) :
    Calls Tryd.prog 10 #[.int .i64 s] w fun e w' => e = .returned (.tuple #[.int .i64 0, .int .i64 3]) ∧ On w w' := by
  have hV := fun W => rvalid_any W s
  rw [decide_eq_false h] at hV
  go_enter Tryd.func10, Tryd.ntmps10
  go_wp2_with (refine (hV _).mono ?_; rintro e w' ⟨rfl, rfl⟩)
  go_ret2
  exact ⟨rfl, On.refl _⟩
set_option maxHeartbeats 2000000 in
theorem rnext_zero (w : World) :
    Calls Tryd.prog 10 #[.int .i64 0] w fun e w' => e = .returned (.tuple #[.int .i64 0, .int .i64 20]) ∧ On w w' := by
  have hV := fun W => rvalid_any W 0
  rw [decide_eq_true (by decide)] at hV
  have hH : ∀ W (i : Nat), i < 24 → Calls Tryd.prog 27 #[.int .i64 0, .int .i64 (i : Int)] W fun e w' => e = .returned (.bool false) ∧ W = w' := fun W i hi => by
    have := rhas_in W 0 i hi
    have e : (cut 0).testBit i = false := by rw [show cut 0 = 0 from rfl]; simp
    rwa [e] at this
  go_enter Tryd.func10, Tryd.ntmps10
  go_wp2_with (refine (hV _).mono ?_; rintro e w' ⟨rfl, rfl⟩)
  clear hV
  go_loopw [9] (fun i wr => ∃ j : Nat, j ≤ 23 ∧ i = .int .i64 (j : Int) ∧ w = wr) (fun i _ => 23 - (intOf i).toNat)
  case atStart => exact ⟨0, by omega, rfl, rfl⟩
  case round =>
    obtain ⟨j, hj, rfl, rfl⟩ := hrel
    by_cases hlt : j < 23
    · have hh := fun W => hH W j (by omega)
      clear hH
      go_wp2_with (refine (hh _).mono ?_; rintro e w' ⟨rfl, rfl⟩)
      go_roundw
      case rel => exact ⟨j + 1, by omega, by go_num, trivial⟩
      case measure => simp [intOf]; omega
    · obtain rfl : j = 23 := by omega
      clear hH
      go_wp2
      go_ret2
      exact ⟨rfl, On.refl _⟩
set_option maxHeartbeats 2000000 in
theorem rnext_run (w : World) (s l r q : Nat) (hs : s < 16777216) (R : Run s l r q) (t : Nat) (ht : l + r = t) (h : t ≤ 22) :
    Calls Tryd.prog 10 #[.int .i64 (s : Int)] w fun e w' => e = .returned (.tuple #[.int .i64 (succS s : Nat), .int .i64 0]) ∧ On w w' := by
  have hV := fun W => rvalid_any W (s : Int)
  rw [decide_eq_true (show (0 : Int) ≤ (s : Int) ∧ (s : Int) < 16777216 by omega)] at hV
  have hH := fun W (i : Nat) (hi : i < 24) => rhas_in W (s : Int) i hi
  rw [cut_nat s hs] at hH
  have hlow := fun i (hi : i < l + r + 1) => R.tb_low i hi
  have htop := R.tb_top
  rw [ht] at hlow htop
  obtain ⟨z, hz⟩ : ∃ z, succS s = z := ⟨_, rfl⟩
  rw [hz]
  have HZ := Lib.hid hz
  have HL := Lib.hid hlow
  have HT := Lib.hid htop
  have HR := Lib.hid R
  clear hz hlow htop R
  go_enter Tryd.func10, Tryd.ntmps10
  go_wp2_with (refine (hV _).mono ?_; rintro e w' ⟨rfl, rfl⟩)
  clear hV
  go_loopw [4, 9] (fun b i wr => ∃ j : Nat, j ≤ t ∧ i = .int .i64 (j : Int) ∧ b = .int .i64 ((j - l : Nat) : Int) ∧ w = wr) (fun _ i _ => 23 - (intOf i).toNat)
  case atStart => exact ⟨0, by omega, rfl, by rw [Nat.zero_sub]; rfl, rfl⟩
  case round =>
    obtain ⟨j, hj, rfl, rfl, rfl⟩ := hrel
    have h1 := fun W => hH W j (by omega)
    have h2 := fun W => hH W (j + 1) (by omega)
    rw [HL.out j (by omega)] at h1
    obtain ⟨j1, hj1⟩ : ∃ j1, j + 1 = j1 := ⟨_, rfl⟩
    have e1 : (j : Int) + 1 = (j1 : Int) := by omega
    clear hH
    by_cases hlt : j < l
    · rw [decide_eq_false (show ¬ l ≤ j by omega)] at h1
      have e2 : j - l = 0 := by omega
      rw [e2]
      clear h2
      go_wp2_with (refine (h1 _).mono ?_; rintro e w' ⟨rfl, rfl⟩)
      go_roundw
      case rel => exact ⟨j + 1, by omega, by first | go_num | (rw [← hj1]; go_num), by rw [show j + 1 - l = 0 by omega]; rfl, trivial⟩
      case measure => simp [intOf]; omega
    · rw [decide_eq_true (show l ≤ j by omega)] at h1
      by_cases hend : j = t
      · subst hend
        rw [HT.out, hj1] at h2
        have e2 : j - l = r := by omega
        rw [e2]
        have HJ := Lib.hid hj1
        clear hj1 e2
        have w1 : wrap64 ((j1 : Int)) = (j1 : Int) := by unfold wrap64; omega
        go_wp2_with (first | (with_reducible refine (h1 _).mono ?_; rintro e w' ⟨rfl, rfl⟩) | (with_reducible refine (h2 _).mono ?_; rintro e w' ⟨rfl, rfl⟩))
        go_quiet (fail)
        go_wp2
        go_ret2
        refine ⟨?_, (On.refl _).drewN _⟩
        have hv := rnext_val s l r q j1 hs HR.out (by have := HJ.out; omega) (by have := HJ.out; omega)
        rw [HZ.out] at hv
        rw [← hv]; rfl
      · have e3 := HL.out (j + 1) (by omega)
        rw [hj1] at e3 h2
        rw [e3, decide_eq_true (show l ≤ j1 by omega)] at h2
        have w2 : wrap64 (((j - l : Nat) : Int) + 1) = ((j - l + 1 : Nat) : Int) := by unfold wrap64; omega
        obtain ⟨b, hb⟩ : ∃ b, j - l = b := ⟨_, rfl⟩
        rw [hb] at w2 ⊢
        have HB := Lib.hid hb
        have HJ := Lib.hid hj1
        clear hb hj1 e3
        go_wp2_with (first | (with_reducible refine (h1 _).mono ?_; rintro e w' ⟨rfl, rfl⟩) | (with_reducible refine (h2 _).mono ?_; rintro e w' ⟨rfl, rfl⟩))
        go_roundw
        case rel => exact ⟨j1, by have := HJ.out; omega, by first | rfl | go_num, by have := HJ.out; have := HB.out; rw [show j1 - l = b + 1 by omega]; first | rfl | go_num, trivial⟩
        case measure => have := HJ.out; simp [intOf]; omega
set_option maxHeartbeats 2000000 in
theorem rnext_top (w : World) (s l r q : Nat) (hs : s < 16777216) (R : Run s l r q) (h : l + r = 23) :
    Calls Tryd.prog 10 #[.int .i64 (s : Int)] w fun e w' => e = .returned (.tuple #[.int .i64 0, .int .i64 20]) ∧ On w w' := by
  have hV := fun W => rvalid_any W (s : Int)
  rw [decide_eq_true (show (0 : Int) ≤ (s : Int) ∧ (s : Int) < 16777216 by omega)] at hV
  have hH := fun W (i : Nat) (hi : i < 24) => rhas_in W (s : Int) i hi
  rw [cut_nat s hs] at hH
  have hlow := fun i (hi : i < l + r + 1) => R.tb_low i hi
  rw [h] at hlow
  have HL := Lib.hid hlow
  clear hlow R
  go_enter Tryd.func10, Tryd.ntmps10
  go_wp2_with (refine (hV _).mono ?_; rintro e w' ⟨rfl, rfl⟩)
  clear hV
  go_loopw [4, 9] (fun b i wr => ∃ j : Nat, j ≤ 23 ∧ i = .int .i64 (j : Int) ∧ b = .int .i64 ((j - l : Nat) : Int) ∧ w = wr) (fun _ i _ => 23 - (intOf i).toNat)
  case atStart => exact ⟨0, by omega, rfl, by rw [Nat.zero_sub]; rfl, rfl⟩
  case round =>
    obtain ⟨j, hj, rfl, rfl, rfl⟩ := hrel
    by_cases hlt : j < 23
    · have h1 := fun W => hH W j (by omega)
      have h2 := fun W => hH W (j + 1) (by omega)
      rw [HL.out j (by omega)] at h1
      rw [HL.out (j + 1) (by omega)] at h2
      obtain ⟨j1, hj1⟩ : ∃ j1, j + 1 = j1 := ⟨_, rfl⟩
      rw [hj1] at h2
      have e1 : (j : Int) + 1 = (j1 : Int) := by omega
      clear hH
      by_cases hl : j < l
      · rw [decide_eq_false (show ¬ l ≤ j by omega)] at h1
        have e2 : j - l = 0 := by omega
        rw [e2]
        clear h2
        go_wp2_with (refine (h1 _).mono ?_; rintro e w' ⟨rfl, rfl⟩)
        go_roundw
        case rel => exact ⟨j + 1, by omega, by first | go_num | (rw [← hj1]; go_num), by rw [show j + 1 - l = 0 by omega]; rfl, trivial⟩
        case measure => simp [intOf]; omega
      · rw [decide_eq_true (show l ≤ j by omega)] at h1
        rw [decide_eq_true (show l ≤ j1 by omega)] at h2
        have w2 : wrap64 (((j - l : Nat) : Int) + 1) = ((j - l + 1 : Nat) : Int) := by unfold wrap64; omega
        obtain ⟨b, hb⟩ : ∃ b, j - l = b := ⟨_, rfl⟩
        rw [hb] at w2 ⊢
        have HB := Lib.hid hb
        have HJ := Lib.hid hj1
        clear hb hj1
        go_wp2_with (first | (with_reducible refine (h1 _).mono ?_; rintro e w' ⟨rfl, rfl⟩) | (with_reducible refine (h2 _).mono ?_; rintro e w' ⟨rfl, rfl⟩))
        go_roundw
        case rel => exact ⟨j1, by have := HJ.out; omega, by first | rfl | go_num, by have := HJ.out; have := HB.out; rw [show j1 - l = b + 1 by omega]; first | rfl | go_num, trivial⟩
        case measure => have := HJ.out; simp [intOf]; omega
    · obtain rfl : j = 23 := by omega
      clear hH
      go_wp2
      go_ret2
      exact ⟨rfl, On.refl _⟩
theorem succ_lt (s l r q : Nat) (hs : s < 16777216) (R : Run s l r q) (h : l + r ≤ 22) : succS s < 16777216 := by
  have htop := R.top
  have heq := R.eq
  have hlow := R.low
  have hlt := low_lt l r
  rw [R.succ]
  have hj2 : l + r + 2 = l + r + 1 + 1 := by omega
  rw [hj2, p2] at heq
  have hr : 2 ^ r ≤ 2 ^ (l + r + 1) := Nat.pow_le_pow_right (by decide) (by omega)
  have hp0 : 0 < 2 ^ r := Nat.pow_pos (by decide)
  obtain ⟨d, hd⟩ : ∃ d, l + r + 1 + d = 23 := ⟨22 - l - r, by omega⟩
  have e24 : 16777216 = 2 ^ (l + r + 1) * (2 * 2 ^ d) := by
    rw [show (16777216 : Nat) = 2 ^ 24 from rfl, ← Nat.pow_succ', ← Nat.pow_add]; congr 1; omega
  have hq : q < 2 ^ d := by
    refine Classical.byContradiction fun hn => ?_
    have : 2 ^ (l + r + 1) * (2 * 2 ^ d) ≤ 2 ^ (l + r + 1) * (2 * q) := Nat.mul_le_mul_left _ (by omega)
    omega
  have hm : 2 ^ (l + r + 1) * (2 * q + 2) ≤ 2 ^ (l + r + 1) * (2 * 2 ^ d) := Nat.mul_le_mul_left _ (by omega)
  rw [Nat.mul_add] at hm
  omega
theorem succ_ge (s l r q : Nat) (R : Run s l r q) (h : l + r = 23) : 16777216 ≤ succS s := by
  rw [R.succ]
  have heq := R.eq
  rw [h, show 23 + 1 = 24 from rfl] at heq
  have : (2 : Nat) ^ 24 = 16777216 := rfl
  omega
theorem rnext_any (w : World) (s : Int) :
    Calls Tryd.prog 10 #[.int .i64 s] w fun e w' => e = .returned (.tuple #[.int .i64 ((nextS s).1 : Nat), .int .i64 ((nextS s).2 : Nat)]) ∧ On w w' := by
  by_cases h : 0 ≤ s ∧ s < 16777216
  · obtain ⟨n, rfl⟩ : ∃ n : Nat, s = (n : Int) := ⟨s.toNat, by omega⟩
    have hn : n < 16777216 := by omega
    unfold nextS
    rw [if_pos h, cut_nat n hn]
    by_cases h0 : n = 0
    · subst h0
      exact rnext_zero w
    · obtain ⟨l, r, q, R⟩ := run_of n h0
      have ht := R.top_lt hn
      have hg := succS_gt n h0
      by_cases h22 : l + r ≤ 22
      · have h1 := succ_lt n l r q hn R h22
        rw [if_neg (by omega)]
        exact rnext_run w n l r q hn R _ rfl h22
      · have h1 := succ_ge n l r q R (by omega)
        rw [if_pos (.inr h1)]
        exact rnext_top w n l r q hn R (by omega)
  · unfold nextS
    rw [if_neg h]
    exact rnext_bad w s h
end Go.Proofs.YtibkpglgeincdaaDoor.Sb
