/-
  The specification's Valid, Cut, Count, Compare of sets.
-/
import Derived.Test.YtakkbemldccekaaDoorSn1
import Derived.Test.YtakkbemldccekaaDoorSb3
namespace Go.Proofs.YtakkbemldccekaaDoor.Sb
open Go.RowKit
set_option linter.unusedVariables false
set_option maxRecDepth 100000
set_option maxHeartbeats 400000 in
theorem rvalid_any (w : World) (s : Int) :
    Calls Tryd.prog 63 #[.int .i64 s] w fun e w' => e = .returned (.bool (decide (0 ≤ s ∧ s < 16777216))) ∧ w = w' := by
  have hd : decide (0 ≤ s ∧ s < 16777216) = (decide (0 ≤ s) && decide (s ≤ 16777215)) := by
    by_cases h1 : 0 ≤ s <;> by_cases h2 : s ≤ 16777215 <;> simp [h1, h2] <;> omega
  rw [hd]
  by_cases h : 0 ≤ s
  · go_enter Tryd.func63, Tryd.ntmps63
    go_wp2
    go_ret
    exact ⟨ret_b (by simp [h]; omega), rfl⟩
  · go_enter Tryd.func63, Tryd.ntmps63
    go_wp2
    go_ret
    exact ⟨ret_b (by rw [decide_eq_false (show ¬ 0 ≤ s by omega)]; rfl), rfl⟩
set_option maxHeartbeats 400000 in
theorem rcut_any (w : World) (s : Int) :
    Calls Tryd.prog 93 #[.int .i64 s] w fun e w' => e = .returned (.int .i64 (cut s : Nat)) ∧ w = w' := by
  go_enter Tryd.func93, Tryd.ntmps93
  go_wp2
  go_ret
  exact ⟨ret_i (and_full s), rfl⟩
set_option maxHeartbeats 1000000 in
theorem rcount_any (w : World) (s : Int) :
    Calls Tryd.prog 94 #[.int .i64 s] w fun e w' => e = .returned (.int .i64 (pc (cut s) : Nat)) ∧ w = w' := by
  have hC := fun W => rcut_any W s
  have hl := cut_lt' s
  have hp := pc_le (cut s)
  generalize cut s = c0 at hC hl hp ⊢
  go_enter Tryd.func94, Tryd.ntmps94
  go_wp2_with (with_reducible refine (hC _).mono ?_; rintro e w' ⟨rfl, rfl⟩)
  go_loop [0, 3] (fun a n => ∃ c k : Nat, a = .int .i64 (c : Int) ∧ n = .int .i64 (k : Int) ∧ c < 16777216 ∧ k + pc c = pc c0) (fun a _ => (intOf a).toNat)
  case atStart => exact ⟨c0, 0, rfl, rfl, hl, by omega⟩
  case round =>
    obtain ⟨c, k, rfl, rfl, hc, hk⟩ := hrel
    have HK := Lib.hid hk
    have HP := Lib.hid hp
    have hk2 : k ≤ 24 := by omega
    clear hC hk hp
    by_cases h0 : c = 0
    · subst h0
      have e : pc c0 = k := by have := HK.out; rw [pc_zero] at this; omega
      have HE := Lib.hid e
      clear e
      go_wp2
      go_ret
      exact ⟨ret_i (by rw [HE.out]), rfl⟩
    · have hand := and_nat c (c - 1) hc (by omega)
      have hd := pc_drop c h0 hc
      have hle : c &&& (c - 1) ≤ c - 1 := Nat.and_le_right
      have e1 : (c : Int) - 1 = ((c - 1 : Nat) : Int) := by omega
      generalize c &&& (c - 1) = d at *
      have HA := Lib.hid hand
      have HD := Lib.hid hd
      have HE := Lib.hid e1
      have h0' : ¬ (c : Int) = 0 := by omega
      clear hand hd e1
      go_wp2
      go_round
      case rel => exact ⟨d, k + 1, by rw [HE.out, HA.out], by go_num, by omega, by have := HK.out; have := HD.out; omega⟩
      case measure => rw [HE.out, HA.out]; simp only [intOf, Int.toNat_natCast]; omega
set_option maxHeartbeats 1000000 in
theorem rcompare_any (w : World) (a b : Int) :
    Calls Tryd.prog 80 #[.int .i64 a, .int .i64 b] w fun e w' => e = .returned (.int .i64 (cmpS (cut a) (cut b))) ∧ w = w' := by
  have hA := fun s W => rcut_any W s
  have hB := fun (n : Nat) (h : n < 16777216) W => rcount_any W (n : Int)
  have h1 := cut_lt' a
  have h2 := cut_lt' b
  have e1 : cut ((cut a : Nat) : Int) = cut a := cut_nat _ h1
  have e2 : cut ((cut b : Nat) : Int) = cut b := cut_nat _ h2
  have hB1 := hB _ h1
  have hB2 := hB _ h2
  rw [e1] at hB1
  rw [e2] at hB2
  have hA1 := hA a
  have hA2 := hA b
  clear hB e1 e2 hA
  generalize cut a = x at *
  generalize cut b = y at *
  unfold cmpS
  by_cases hxy : x = y
  · subst hxy
    rw [if_neg (by omega), if_neg (by omega), if_neg (by omega), if_neg (by omega)]
    go_enter Tryd.func80, Tryd.ntmps80
    go_wp2_with (first | (with_reducible refine (hA1 _).mono ?_; rintro e w' ⟨rfl, rfl⟩) | (with_reducible refine (hA2 _).mono ?_; rintro e w' ⟨rfl, rfl⟩))
    go_ret
    exact ⟨rfl, rfl⟩
  · have hxy' : ¬ (x : Int) = (y : Int) := by omega
    generalize pc x = px at *
    generalize pc y = py at *
    by_cases h3 : px < py
    · rw [if_pos h3]
      go_enter Tryd.func80, Tryd.ntmps80
      go_wp2_with (first | (with_reducible refine (hA1 _).mono ?_; rintro e w' ⟨rfl, rfl⟩) | (with_reducible refine (hA2 _).mono ?_; rintro e w' ⟨rfl, rfl⟩) | (with_reducible refine (hB1 _).mono ?_; rintro e w' ⟨rfl, rfl⟩) | (with_reducible refine (hB2 _).mono ?_; rintro e w' ⟨rfl, rfl⟩))
      go_ret
      exact ⟨rfl, rfl⟩
    · rw [if_neg h3]
      by_cases h4 : py < px
      · rw [if_pos h4]
        have h5 : ¬ (px : Int) = (py : Int) := by omega
        go_enter Tryd.func80, Tryd.ntmps80
        go_wp2_with (first | (with_reducible refine (hA1 _).mono ?_; rintro e w' ⟨rfl, rfl⟩) | (with_reducible refine (hA2 _).mono ?_; rintro e w' ⟨rfl, rfl⟩) | (with_reducible refine (hB1 _).mono ?_; rintro e w' ⟨rfl, rfl⟩) | (with_reducible refine (hB2 _).mono ?_; rintro e w' ⟨rfl, rfl⟩))
        go_ret
        exact ⟨rfl, rfl⟩
      · obtain rfl : px = py := by omega
        rw [if_neg h4]
        by_cases h5 : x < y
        · rw [if_pos h5]
          go_enter Tryd.func80, Tryd.ntmps80
          go_wp2_with (first | (with_reducible refine (hA1 _).mono ?_; rintro e w' ⟨rfl, rfl⟩) | (with_reducible refine (hA2 _).mono ?_; rintro e w' ⟨rfl, rfl⟩) | (with_reducible refine (hB1 _).mono ?_; rintro e w' ⟨rfl, rfl⟩) | (with_reducible refine (hB2 _).mono ?_; rintro e w' ⟨rfl, rfl⟩))
          go_ret
          exact ⟨rfl, rfl⟩
        · rw [if_neg h5, if_pos (by omega)]
          go_enter Tryd.func80, Tryd.ntmps80
          go_wp2_with (first | (with_reducible refine (hA1 _).mono ?_; rintro e w' ⟨rfl, rfl⟩) | (with_reducible refine (hA2 _).mono ?_; rintro e w' ⟨rfl, rfl⟩) | (with_reducible refine (hB1 _).mono ?_; rintro e w' ⟨rfl, rfl⟩) | (with_reducible refine (hB2 _).mono ?_; rintro e w' ⟨rfl, rfl⟩))
          go_ret
          exact ⟨rfl, rfl⟩
end Go.Proofs.YtakkbemldccekaaDoor.Sb
