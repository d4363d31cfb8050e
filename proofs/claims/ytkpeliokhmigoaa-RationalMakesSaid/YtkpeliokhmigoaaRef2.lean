/-
  The specification's functions: Of, Cmp, Add, Sub; Num.
-/
import Derived.Test.YtkpeliokhmigoaaRef1
namespace Go.Proofs.Ytkpeliokhmigoaa
open Go.RowKit
set_option linter.unusedVariables false
namespace Num
theorem val_split_any (l : List Nat) (k : Nat) : val l = val (l.take k) + BB ^ k * val (l.drop k) := by
  rcases Nat.lt_or_ge l.length k with h | h
  · rw [List.take_of_length_le (by omega), List.drop_of_length_le (by omega)]; simp [val]
  · exact val_split l k h
theorem val_take_lt {l : List Nat} (h : Ok l) (k : Nat) : val (l.take k) < BB ^ k := by
  have h1 := val_lt (h.take k)
  have h2 : BB ^ (l.take k).length ≤ BB ^ k := Nat.pow_le_pow_right BB_pos (by rw [List.length_take]; omega)
  omega
theorem val_lt_word {a b : List Nat} (ha : Ok a) (k : Nat) (hd : val (a.drop (k + 1)) = val (b.drop (k + 1))) (hw : gw a k < gw b k) : val a < val b := by
  have h1 := val_split_any a k
  have h2 := val_split_any b k
  rw [val_drop_any a k] at h1
  rw [val_drop_any b k, ← hd] at h2
  have h3 := val_take_lt ha k
  generalize val (a.drop (k + 1)) = t at *
  have h4 : BB ^ k * (gw a k + BB * t) + BB ^ k ≤ BB ^ k * (gw b k + BB * t) := by
    rw [← Nat.mul_succ]; exact Nat.mul_le_mul_left _ (by omega)
  omega
theorem cmp_word' {xs ys : List Nat} (hx : Ok xs) (hy : Ok ys) (k : Nat) (hd : val (xs.drop (k + 1)) = val (ys.drop (k + 1))) (hne : gw xs k ≠ gw ys k) : cmpI (gw xs k) (gw ys k) = cmpI (val xs) (val ys) := by
  rcases Nat.lt_or_gt_of_ne hne with h | h
  · rw [cmpI_lt h, cmpI_lt (val_lt_word hx k hd h)]
  · rw [cmpI_gt h, cmpI_gt (val_lt_word hy k hd.symm h)]
theorem num_nil (w : World) : Calls Try.prog 20 #[.nilIface] w fun e w' => e = .returned (.int .i64 0) ∧ w = w' := by
  go_enter Try.func20, Try.ntmps20
  go_wp2
  go_ret
  exact ⟨rfl, rfl⟩
theorem num_err (w : World) (x : Int) : Calls Try.prog 20 #[.iface 49 (.int .i64 x)] w fun e w' => e = .returned (.int .i64 x) ∧ w = w' := by
  have hta : ∀ W, (Instr.typeAssert (.iface 49 (.int .i64 x)) 28 49 true).run Try.prog W = .ok (.tuple #[.int .i64 x, .bool true]) W := fun _ => by kernel_rfl
  go_enter Try.func20, Try.ntmps20
  go_wp2
  go_ret
  exact ⟨rfl, rfl⟩
set_option maxHeartbeats 800000 in
theorem rcmp_any (w : World) (A A' : Option Addr) (n c n' c' : Nat) (xs ys : List Nat) (h : Rd w A n c xs) (k : Rd w A' n' c' ys) (hn : n ≤ 100000000) (hn' : n' ≤ 100000000) :
    Calls Try.prog 59 #[.slice A n c, .slice A' n' c'] w fun e w' => e = .returned (.int .i64 (cmpI (val xs) (val ys))) ∧ w = w' := by
  obtain ⟨m, hm, h1, h2⟩ : ∃ m, max n n' = m ∧ n ≤ m ∧ n' ≤ m := ⟨_, rfl, by omega, by omega⟩
  have hmm : max (n : Int) (n' : Int) = (m : Int) := by omega
  have hml : m ≤ 100000000 := by omega
  have HM := Lib.hid hm
  clear hm
  go_enter Try.func59, Try.ntmps59
  go_wp2
  go_loop [5] (fun i => ∃ k : Nat, k ≤ m ∧ i = .int .i64 ((k : Int) - 1) ∧ val (xs.drop k) = val (ys.drop k)) (fun i => (intOf i + 1).toNat)
  case atStart => exact ⟨m, Nat.le_refl _, rfl, by rw [List.drop_of_length_le (by rw [h.len]; exact h1), List.drop_of_length_le (by rw [k.len]; exact h2)]⟩
  case round =>
    obtain ⟨j, hj, rfl, hd⟩ := hrel
    have HD := Lib.hid hd
    clear hd
    rcases j with _ | j
    · go_wp2
      go_ret
      have h0 := HD.out
      simp only [List.drop_zero] at h0
      exact ⟨by rw [cmpI_eq h0]; rfl, rfl⟩
    · rw [show ((j + 1 : Nat) : Int) - 1 = (j : Int) from by omega]
      have gx := h.ok.get j
      have gy := k.ok.get j
      rcases Nat.lt_trichotomy (gw xs j) (gw ys j) with hlt | heq | hgt
      · have HC := Lib.hid (cmp_word' h.ok k.ok j HD.out (by omega))
        have HL := Lib.hid (cmpI_lt hlt)
        go_wp2_with fail
        refine (word_is _ _ _ _ _ h _ j rfl (by omega)).mono ?_
        rintro e w' ⟨rfl, rfl⟩
        go_wp2_with fail
        refine (word_is _ _ _ _ _ k _ j rfl (by omega)).mono ?_
        rintro e w' ⟨rfl, rfl⟩
        go_wp2
        go_ret
        exact ⟨ret_int (by rw [← HC.out, HL.out]), rfl⟩
      · have HE := Lib.hid heq
        have hnl : ¬ gw xs j < gw ys j := by omega
        have hng : ¬ gw ys j < gw xs j := by omega
        clear heq
        go_wp2_with fail
        refine (word_is _ _ _ _ _ h _ j rfl (by omega)).mono ?_
        rintro e w' ⟨rfl, rfl⟩
        go_wp2_with fail
        refine (word_is _ _ _ _ _ k _ j rfl (by omega)).mono ?_
        rintro e w' ⟨rfl, rfl⟩
        go_wp2_with fail
        refine (word_is _ _ _ _ _ h _ j rfl (by omega)).mono ?_
        rintro e w' ⟨rfl, rfl⟩
        go_wp2_with fail
        refine (word_is _ _ _ _ _ k _ j rfl (by omega)).mono ?_
        rintro e w' ⟨rfl, rfl⟩
        go_wp2
        go_round
        case rel => exact ⟨j, by omega, by go_num, by rw [val_drop_any xs, val_drop_any ys, HD.out, HE.out]⟩
        case measure => first | (simp [intOf]; done) | (simp [intOf]; omega)
      · have HC := Lib.hid (cmp_word' h.ok k.ok j HD.out (by omega))
        have HL := Lib.hid (cmpI_gt hgt)
        have hnl : ¬ gw xs j < gw ys j := by omega
        go_wp2_with fail
        refine (word_is _ _ _ _ _ h _ j rfl (by omega)).mono ?_
        rintro e w' ⟨rfl, rfl⟩
        go_wp2_with fail
        refine (word_is _ _ _ _ _ k _ j rfl (by omega)).mono ?_
        rintro e w' ⟨rfl, rfl⟩
        go_wp2_with fail
        refine (word_is _ _ _ _ _ h _ j rfl (by omega)).mono ?_
        rintro e w' ⟨rfl, rfl⟩
        go_wp2_with fail
        refine (word_is _ _ _ _ _ k _ j rfl (by omega)).mono ?_
        rintro e w' ⟨rfl, rfl⟩
        go_wp2
        go_ret
        exact ⟨ret_int (by rw [← HC.out, HL.out]), rfl⟩
set_option maxHeartbeats 800000 in
theorem rof_any (w : World) (x : Int) (h0 : -9223372036854775808 ≤ x) (h1 : x ≤ 9223372036854775807) :
    Calls Try.prog 93 #[.int .i64 x] w (Gives w x.toNat 2) := by
  by_cases hx : x < 0
  · have hmx : max x 0 = 0 := by omega
    have hz : x.toNat = 0 := by omega
    rw [hz]
    clear hz
    go_enter Try.func93, Try.ntmps93
    go_wp2_with fail
    have R := rd_two w 53 0 0 (by decide) (by decide)
    refine (rtrim_any _ _ _ _ 2 _ R (tl_le _) (by decide)).mono ?_
    rintro e w2 ⟨A2, n2, c2, rfl, N2, P2⟩
    go_wp2
    go_ret
    exact ⟨_, _, _, rfl, N2, ((On.refl w).alloc _).trans P2⟩
  · obtain ⟨k, rfl⟩ := Int.eq_ofNat_of_zero_le (show 0 ≤ x from by omega)
    have hmx : max (k : Int) 0 = (k : Int) := by omega
    rw [Int.toNat_natCast]
    go_enter Try.func93, Try.ntmps93
    go_wp2_with fail
    rw [show ((k : Int) % 4294967296) = ((k % 4294967296 : Nat) : Int) from by omega, show ((k : Int) / 4294967296) = ((k / 4294967296 : Nat) : Int) from by omega]
    have R := rd_two w 53 (k % 4294967296) (k / 4294967296) (by omega) (by omega)
    have hv : val [k % 4294967296, k / 4294967296] = k := by simp only [val, BB]; omega
    have HV := Lib.hid hv
    clear hv
    refine (rtrim_any _ _ _ _ 2 _ R (tl_le _) (by decide)).mono ?_
    rintro e w2 ⟨A2, n2, c2, rfl, N2, P2⟩
    rw [HV.out] at N2
    go_wp2
    go_ret
    exact ⟨_, _, _, rfl, N2, ((On.refl w).alloc _).trans P2⟩
end Num
end Go.Proofs.Ytkpeliokhmigoaa
