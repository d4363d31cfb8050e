/-
  Package sets: successor and Next.
-/
import Derived.Test.YtibkpglgeincdaaDoorSs3
import Derived.Test.YtibkpglgeincdaaDoorSb4
namespace Go.Proofs.YtibkpglgeincdaaDoor.Sb
open Go.RowKit
set_option linter.unusedVariables false
theorem and_neg64 (s l m : Nat) (hs : s < 16777216) (e : s = 2 ^ l * (2 * m + 1)) : bits .and .i64 (s : Int) (-(s : Int)) = ((2 ^ l : Nat) : Int) := by
  have h0 : 0 < s := by rw [e]; exact Nat.mul_pos (Nat.pow_pos (by decide)) (by omega)
  have hl : 2 ^ l ≤ s := by rw [e]; exact Nat.le_mul_of_pos_right _ (by omega)
  show IntKind.i64.wrap ((BitVec.ofInt 64 (s : Int) &&& BitVec.ofInt 64 (-(s : Int))).toNat : Int) = _
  have h1 : (BitVec.ofInt 64 (s : Int)).toNat = s := nat64 s (by omega)
  have h2 : (BitVec.ofInt 64 (-(s : Int))).toNat = 2 ^ 64 - s := by rw [BitVec.toNat_ofInt]; omega
  have h3 := Lib.and_neg 64 l m (by rw [← e]; omega)
  rw [← e] at h3
  rw [BitVec.toNat_and, h1, h2, h3, wrapn _ (by omega)]
theorem succ_run (s p t d side z : Nat) (hs : s < 16777216) (hp : p ≤ s) (ht : t ≤ 16777216) (hand : bits .and .i64 (s : Int) (-(s : Int)) = (p : Int)) (hside : without s (s + p) = side) (hdiv : side / d = t - 1) (hjoin : (s + p) ||| (t - 1) = z) :
    bits .or .i64 (wrap64 ((s : Int) + bits .and .i64 (s : Int) (-(s : Int)))) (bits .andNot .i64 (s : Int) (wrap64 ((s : Int) + bits .and .i64 (s : Int) (-(s : Int)))) / (d : Int)) = (z : Int) := by
  have f2 : wrap64 ((s : Int) + (p : Int)) = ((s + p : Nat) : Int) := by clear hand hside hdiv hjoin; unfold wrap64; omega
  have b1 : s < 9223372036854775808 := by clear hand hside hdiv hjoin f2; omega
  have b2 : s + p < 9223372036854775808 := by clear hand hside hdiv hjoin f2; omega
  have b3 : t - 1 < 9223372036854775808 := by clear hand hside hdiv hjoin f2; omega
  have f3 := andNot_nat s (s + p) b1 b2
  have f4 := or_nat (s + p) (t - 1) b2 b3
  have f5 : ((side : Nat) : Int) / (d : Int) = ((t - 1 : Nat) : Int) := by rw [← hdiv]; exact (Int.natCast_ediv _ _).symm
  rw [hside] at f3
  rw [hjoin] at f4
  clear b1 b2 b3 hs hp ht
  rw [hand, f2, f3, f5, f4]
theorem zero_run : bits .or .i64 (wrap64 (bits .and .i64 0 0)) (bits .andNot .i64 0 (wrap64 (bits .and .i64 0 0))) = ((0 : Nat) : Int) := by
  have e2 : bits .and .i64 (0 : Int) 0 = 0 := by decide
  have e3 : bits .andNot .i64 (0 : Int) 0 = 0 := by decide
  have e4 : bits .or .i64 (0 : Int) 0 = 0 := by decide
  have e5 : wrap64 0 = 0 := by unfold wrap64; decide
  rw [e2, e5, e3, e4]; rfl
set_option maxHeartbeats 1000000 in
theorem successor_any (w : World) (s : Nat) (hs : s < 16777216) (hT : Tab w) :
    Calls Tryd.prog 23 #[.int .i64 (s : Int)] w fun e w' => e = .returned (.int .i64 (succS s : Nat)) ∧ w = w' := by
  have hL := least_any w (s : Int) hT
  rw [cut_nat s hs] at hL
  by_cases h0 : s = 0
  · subst h0
    rw [succS_zero]
    have e1 : least 0 = -1 := rfl
    rw [e1] at hL
    go_enter Tryd.func23, Tryd.ntmps23
    go_wp2_with (refine hL.mono ?_; rintro e w' ⟨rfl, rfl⟩)
    go_ret
    exact ⟨ret_i zero_run, rfl⟩
  · obtain ⟨l, r, q, R⟩ := run_of s h0
    obtain ⟨m, em⟩ := R.odd
    have hl := R.least hs
    rw [hl] at hL
    have htop := R.top_lt hs
    have hside := R.side
    have hjoin := R.join
    have hsucc := R.succ
    have hlp : 2 ^ l ≤ s := by rw [em]; exact Nat.le_mul_of_pos_right _ (by omega)
    have hand := and_neg64 s l m hs em
    have hrp : 2 ^ r ≤ 2 ^ 24 := Nat.pow_le_pow_right (by decide) (by omega)
    rw [← hsucc] at hjoin
    have key := succ_run s (2 ^ l) (2 ^ r) (2 ^ (l + 1)) _ (succS s) hs hlp hrp hand hside Run.shift hjoin
    have hpw : (((2 ^ (l + 1) : Nat)) : Int) = (2 : Int) ^ (l + 1) := by simp
    rw [hpw] at key
    have HK := Lib.hid key
    clear hand key hside hjoin hsucc R em hl hlp hrp hpw
    go_enter Tryd.func23, Tryd.ntmps23
    go_wp2_with (refine hL.mono ?_; rintro e w' ⟨rfl, rfl⟩)
    go_ret
    refine ⟨ret_i ?_, rfl⟩
    exact HK.out
/-- what Next returns -/
def nextS (s : Int) : Nat × Nat := if 0 ≤ s ∧ s < 16777216 then (if succS (cut s) = cut s ∨ 16777216 ≤ succS (cut s) then (0, 20) else (succS (cut s), 0)) else (0, 3)
set_option maxHeartbeats 1000000 in
theorem next_any (w : World) (s : Int) (hT : Tab w) :
    Calls Tryd.prog 6 #[.int .i64 s] w fun e w' => e = .returned (.tuple #[.int .i64 ((nextS s).1 : Nat), errV (nextS s).2]) ∧ w = w' := by
  have hV := fun W => valid_any W s
  by_cases h : 0 ≤ s ∧ s < 16777216
  · rw [decide_eq_true h] at hV
    obtain ⟨n, rfl⟩ : ∃ n : Nat, s = (n : Int) := ⟨s.toNat, by omega⟩
    have hn : n < 16777216 := by omega
    have hS := successor_any w n hn hT
    unfold nextS
    rw [if_pos h, cut_nat n hn]
    generalize succS n = z at hS ⊢
    have hZ := fun W => valid_any W (z : Int)
    by_cases h1 : z = n
    · subst h1
      rw [if_pos (.inl rfl)]
      go_enter Tryd.func6, Tryd.ntmps6
      go_wp2_with (first | (with_reducible refine (hV _).mono ?_; rintro e w' ⟨rfl, rfl⟩) | (with_reducible refine hS.mono ?_; rintro e w' ⟨rfl, rfl⟩))
      go_ret2
      exact ⟨rfl, rfl⟩
    · have h1' : ¬ (z : Int) = (n : Int) := by omega
      by_cases h2 : 16777216 ≤ z
      · have e : (if z = n ∨ 16777216 ≤ z then ((0 : Nat), (20 : Nat)) else (z, 0)) = (0, 20) := if_pos (Or.inr h2)
        rw [e]
        clear e
        rw [decide_eq_false (show ¬ ((0 : Int) ≤ (z : Int) ∧ (z : Int) < 16777216) by omega)] at hZ
        go_enter Tryd.func6, Tryd.ntmps6
        go_wp2_with (first | (with_reducible refine (hV _).mono ?_; rintro e w' ⟨rfl, rfl⟩) | (with_reducible refine hS.mono ?_; rintro e w' ⟨rfl, rfl⟩) | (with_reducible refine (hZ _).mono ?_; rintro e w' ⟨rfl, rfl⟩))
        go_ret2
        exact ⟨rfl, rfl⟩
      · have e : (if z = n ∨ 16777216 ≤ z then ((0 : Nat), (20 : Nat)) else (z, 0)) = (z, 0) := if_neg (fun h => h.elim h1 h2)
        rw [e]
        clear e
        rw [decide_eq_true (show (0 : Int) ≤ (z : Int) ∧ (z : Int) < 16777216 by omega)] at hZ
        go_enter Tryd.func6, Tryd.ntmps6
        go_wp2_with (first | (with_reducible refine (hV _).mono ?_; rintro e w' ⟨rfl, rfl⟩) | (with_reducible refine hS.mono ?_; rintro e w' ⟨rfl, rfl⟩) | (with_reducible refine (hZ _).mono ?_; rintro e w' ⟨rfl, rfl⟩))
        go_ret2
        exact ⟨rfl, rfl⟩
  · rw [decide_eq_false h] at hV
    unfold nextS
    rw [if_neg h]
    go_enter Tryd.func6, Tryd.ntmps6
    go_wp2_with (refine (hV _).mono ?_; rintro e w' ⟨rfl, rfl⟩)
    go_ret2
    exact ⟨rfl, rfl⟩
end Go.Proofs.YtibkpglgeincdaaDoor.Sb
