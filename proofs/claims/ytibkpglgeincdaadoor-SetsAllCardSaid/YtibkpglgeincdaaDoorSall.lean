/-
  The statement SetsAll, walked: Choose lists every set of k of n events once, ascending by Next; Binomial is Pascal's triangle.
-/
import Derived.Test.YtibkpglgeincdaaDoorSs9
import Derived.Test.YtibkpglgeincdaaDoorSc2
import Derived.Test.YtibkpglgeincdaaDoorSparts
namespace Go.Proofs.YtibkpglgeincdaaDoor.Sb
open Go.RowKit
set_option linter.unusedVariables false
set_option maxRecDepth 100000
set_option maxHeartbeats 400000 in
theorem clip_any (w : World) (x lo hi : Int) : Calls Tryd.prog 16 #[.int .i64 x, .int .i64 lo, .int .i64 hi] w fun e w' => e = .returned (.int .i64 (max lo (min x hi))) ∧ w = w' := by
  go_enter Tryd.func16, Tryd.ntmps16
  go_wp2
  go_ret
  exact ⟨rfl, rfl⟩
theorem nextS_of (x y : Nat) (hx : x < 16777216) (h : succS x = y) (hy : y < 16777216) (hne : x < y) : nextS (x : Int) = (y, 0) := by
  unfold nextS
  rw [if_pos (by omega), cut_nat x hx, h, if_neg (by omega)]
theorem all_tail (n k : Nat) (hn : n ≤ 24) (hk : k ≤ n) (h0 : ¬ (n = 0 ∨ k = 0)) : ∃ m j, m + 1 = n ∧ j + 1 = k ∧ bn m j + bn m (j + 1) = bn n k ∧ bn n k ≤ 2704156 := by
  obtain ⟨m, rfl⟩ : ∃ m, n = m + 1 := ⟨n - 1, by omega⟩
  obtain ⟨j, rfl⟩ : ∃ j, k = j + 1 := ⟨k - 1, by omega⟩
  exact ⟨m, j, rfl, rfl, bn_pascal m (by omega) j (by omega), ((bn_facts (m + 1) (by omega)).2.2.1 (j + 1) (by omega)).2⟩
theorem wr_i (i n2 : Nat) (h : i < n2) (h2 : (n2 : Int) ≤ 1024) : wrap64 ((i : Int) + 1) = (i : Int) + 1 := by unfold wrap64; omega
theorem wr_j (i n2 : Nat) (h : i < n2) (h2 : (n2 : Int) ≤ 1024) : wrap64 ((i : Int) - 1) = (i : Int) - 1 := by unfold wrap64; omega
theorem sum64 (a b c : Nat) (h : a + b = c) (hc : c ≤ 2704156) : wrap64 ((a : Int) + (b : Int)) = (c : Int) := by unfold wrap64; omega
set_option maxHeartbeats 8000000 in
theorem all_any (w : World) (n0 k0 : Int) (_ : -9223372036854775808 ≤ n0 ∧ n0 ≤ 9223372036854775807) (_ : -9223372036854775808 ≤ k0 ∧ k0 ≤ 9223372036854775807) (hT : Tab w) :
    Calls Tryd.prog 4 #[.int .i64 n0, .int .i64 k0] w fun e w' => e = .returned (.bool true) ∧ On w w' := by
  have hcl1 := fun W => clip_any W n0 0 24
  obtain ⟨n, hn⟩ : ∃ n : Nat, max 0 (min n0 24) = (n : Int) := ⟨(max 0 (min n0 24)).toNat, by omega⟩
  have hn24 : n ≤ 24 := by omega
  rw [hn] at hcl1
  have hcl2 := fun W => clip_any W k0 0 (n : Int)
  obtain ⟨k, hk⟩ : ∃ k : Nat, max 0 (min k0 (n : Int)) = (k : Int) := ⟨(max 0 (min k0 (n : Int))).toNat, by omega⟩
  have hkn : k ≤ n := by omega
  rw [hk] at hcl2
  clear hn hk
  have hB := fun W => Binomial_any W n k hn24 (by omega)
  rw [errV_zero] at hB
  have hpos := ((bn_facts n (by omega)).2.2.1 k (by omega)).1
  have hpos1 : ¬ ((bn n k : Nat) : Int) < 1 := by omega
  by_cases hbig : 1024 < bn n k
  · have hCh := fun W => choose_large W n k hn24 hkn hbig
    rw [errV_pos 4 (by decide)] at hCh
    have hI := fun W => is_err W 4
    have hbig' : (1024 : Int) < ((bn n k : Nat) : Int) := by omega
    generalize bn n k = Z at *
    go_enter Tryd.func4, Tryd.ntmps4
    go_wp2_with fail
    refine (awake_any _ hT).mono ?_
    rintro e w1 ⟨rfl, P1⟩
    go_wp2_with fail
    refine (hcl1 _).mono ?_
    rintro e w' ⟨rfl, rfl⟩
    go_wp2_with fail
    refine (hcl2 _).mono ?_
    rintro e w' ⟨rfl, rfl⟩
    go_wp2_with fail
    refine (hB _).mono ?_
    rintro e w' ⟨rfl, rfl⟩
    go_wp2_with fail
    refine (hCh _).mono ?_
    rintro e w' ⟨rfl, rfl⟩
    go_wp2_with fail
    refine (hI _).mono ?_
    rintro e w' ⟨rfl, rfl⟩
    go_wp2
    go_ret
    exact ⟨rfl, P1⟩
  · have hCh := fun W hW => choose_any W n k hn24 hkn (by omega) hW
    have hbig' : ¬ (1024 : Int) < ((bn n k : Nat) : Int) := by omega
    have hok := chk_all n k (bn n k) (2 ^ k - 1) (all_ok n (by omega) k (by omega) (by omega))
    have hlen := chooseL_len n k
    have hat := chooseL_at n k
    obtain ⟨p1, p2⟩ := pow_first n hn24
    have hn2 : 2 ^ n ≤ 16777216 := by
      have : 2 ^ n ≤ 2 ^ 24 := Nat.pow_le_pow_right (by decide) hn24
      exact this
    obtain ⟨s0, hs0⟩ : ∃ s0, 2 ^ k - 1 = s0 := ⟨_, rfl⟩
    rw [hs0] at hok hat
    obtain ⟨pn, hpn⟩ : ∃ pn, 2 ^ n = pn := ⟨_, rfl⟩
    rw [hpn] at p1 hok hn2
    have hcell : ∀ i (hi : i < bn n k), (VI (ints (chooseL n k)))[i]? = some (.int .i64 ((iter s0 i : Nat) : Int)) := fun i hi => by
      have hi2 : i < (chooseL n k).length := by rw [hlen]; exact hi
      rw [← hat i hi2]; simp [VI, ints, hi2]
    clear hat
    have hvl : (VI (ints (chooseL n k))).length = bn n k := by rw [← hlen]; simp [VI, ints]
    clear hlen
    obtain ⟨l, hl⟩ : ∃ l, VI (ints (chooseL n k)) = l := ⟨_, rfl⟩
    have htail := all_tail n k hn24 hkn
    have hBt := fun m (hm : m ≤ 24) j (hj : j ≤ m + 1) W => Binomial_any W m j hm hj
    obtain ⟨Z, hZ⟩ : ∃ Z, bn n k = Z := ⟨_, rfl⟩
    unfold GivesI at hCh
    simp only [hl] at hCh hvl hcell
    simp only [hZ] at hB hpos hpos1 hbig' hok hvl htail hcell
    clear hs0 hpn hl hZ p2 hbig
    have HOK := Lib.hid hok
    have HTL := Lib.hid htail
    have HP1 := Lib.hid p1
    have HCELL := Lib.hid hcell
    have HN2 := Lib.hid hn2
    have HB := Lib.hid hB
    have HBT := Lib.hid hBt
    clear hok htail hcell hn2 p1 hB hBt
    go_enter Tryd.func4, Tryd.ntmps4
    go_wp2_with fail
    refine (awake_any _ hT).mono ?_
    rintro e w1 ⟨rfl, P1⟩
    have T1 := hT.on P1
    go_wp2_with fail
    refine (hcl1 _).mono ?_
    rintro e w' ⟨rfl, rfl⟩
    go_wp2_with fail
    refine (hcl2 _).mono ?_
    rintro e w' ⟨rfl, rfl⟩
    go_wp2_with fail
    refine (HB.out _).mono ?_
    rintro e w' ⟨rfl, rfl⟩
    go_wp2_with fail
    refine (hCh _ T1).mono ?_
    rintro e w2 ⟨A2, n2, c2, rfl, Q, P2⟩
    rw [errV_zero]
    obtain rfl : n2 = Z := by rw [← hvl]; exact Q.len.symm
    have T2 := T1.on P2
    have hnx0 := fun W x hW => next_any W x hW
    clear hCh hvl
    go_wp2
    go_loopw [56] (fun i wr => ∃ j : Nat, j ≤ n2 ∧ i = .int .i64 (j : Int) ∧ w2 = wr) (fun i _ => n2 - (intOf i).toNat)
    case atStart => exact ⟨0, by omega, rfl, rfl⟩
    case round =>
      obtain ⟨i, hi, rfl, rfl⟩ := hrel
      by_cases hin : i < n2
      · obtain ⟨a1, a2, a3⟩ := HOK.out i hin
        have hx16 : iter s0 i < 16777216 := Nat.lt_of_lt_of_le a1 HN2.out
        obtain ⟨ad, rfl, _, hc⟩ := Q.at_ i _ (HCELL.out i hin)
        have hcnt := fun W => count_any W ((iter s0 i : Nat) : Int)
        rw [cut_nat _ hx16, pc_pop, a2] at hcnt
        obtain ⟨x, hx⟩ : ∃ x, iter s0 i = x := ⟨_, rfl⟩
        have HX := Lib.hid hx
        rw [hx] at hcnt hc a1 hx16
        have a3 : i + 1 < n2 → x < iter s0 (i + 1) := fun h => by rw [← HX.out]; exact a3 h
        have hnx := hnx0 w2 (x : Int) T2
        have HLT := Lib.hid a1
        have hw1 : wrap64 ((i : Int) + 1) = (i : Int) + 1 := wr_i i n2 hin hbig'
        have hp1 := HP1.out
        clear a1 a2 hx hnx0 hcl1 hcl2
        rcases Nat.eq_zero_or_pos i with hi0 | hi0 <;> by_cases hil : i + 1 < n2
        · subst hi0
          rw [add_nil] at hc
          obtain ⟨y, hy⟩ : ∃ y, iter s0 (0 + 1) = y := ⟨_, rfl⟩
          have b1 := (HOK.out (0 + 1) hil).1
          have b2 := a3 hil
          rw [hy] at b1 b2
          have hsu : succS x = y := by rw [← HX.out, ← hy]; rfl
          have hnn := nextS_of x y hx16 hsu (Nat.lt_of_lt_of_le b1 HN2.out) b2
          simp only [hnn, errV_zero] at hnx
          have hj1 := HCELL.out (0 + 1) hil
          rw [hy] at hj1
          obtain ⟨ad3, e3, _, hcy⟩ := Q.at_ (0 + 1) _ hj1
          cases e3
          obtain ⟨i1, hi1⟩ : ∃ i1, 0 + 1 = i1 := ⟨_, rfl⟩
          rw [hi1] at hcy
          have ei : (0 : Int) + 1 = (i1 : Int) := by omega
          have hi2 : (i1 : Int) < (n2 : Int) := by omega
          have hi3 : i1 < n2 := by omega
          clear hnn hj1 hi1 b1 b2 hsu hy hil
          clear a3 hx16 
          have HNX := Lib.hid hnx
          have HCNT := Lib.hid hcnt
          clear hnx hcnt
          go_wp2_with fail
          all_goals (try exact absurd HLT.out (by assumption))
          refine (HCNT.out _).mono ?_
          rintro e w' ⟨rfl, rfl⟩
          have hnx := HNX.out
          clear HNX HCNT hp1 hw1
          go_wp2_with (refine hnx.mono ?_; rintro e w' ⟨rfl, rfl⟩)
          go_roundw
          case rel => exact ⟨i1, by omega, by first | rfl | go_num, trivial⟩
          case measure => simp [intOf]; omega
        · subst hi0
          rw [add_nil] at hc
          obtain ⟨N, hN⟩ : ∃ N, (nextS (x : Int)).1 = N := ⟨_, rfl⟩
          obtain ⟨M, hM⟩ : ∃ M, errV (nextS (x : Int)).2 = M := ⟨_, rfl⟩
          simp only [hN, hM] at hnx
          have hnl : ¬ (0 : Int) + 1 < (n2 : Int) := by omega
          clear hN hM hil
          clear a3 hx16 
          have hlt : (x : Int) < (pn : Int) := by have := HLT.out; omega
          clear HLT
          have hnl : ¬ (0 : Int) + 1 < (n2 : Int) := by omega
          go_wp2_with fail
          refine (hcnt _).mono ?_
          rintro e w' ⟨rfl, rfl⟩
          go_wp2_with fail
          refine hnx.mono ?_
          rintro e w' ⟨rfl, rfl⟩
          go_wp2
          go_roundw
          case rel => exact ⟨1, by omega, by first | rfl | go_num, trivial⟩
          case measure => simp [intOf]; omega
        · obtain ⟨j, hj⟩ : ∃ j, j + 1 = i := ⟨i - 1, by omega⟩
          have hjZ : j < n2 := by omega
          have hl1 := (HOK.out j hjZ).2.2 (by omega)
          rw [hj, HX.out] at hl1
          obtain ⟨ad2, e2, _, hcj⟩ := Q.at_ j _ (HCELL.out j hjZ)
          cases e2
          obtain ⟨z, hz⟩ : ∃ z, iter s0 j = z := ⟨_, rfl⟩
          rw [hz] at hcj hl1
          have hw2 : wrap64 ((i : Int) - 1) = (i : Int) - 1 := wr_j i n2 hin hbig'
          have hl2 : ¬ (x : Int) ≤ (z : Int) := by omega
          have ej : (i : Int) - 1 = (j : Int) := by omega
          have hip : (0 : Int) < (i : Int) := by omega
          clear hl1 hz hj hi0 hjZ
          obtain ⟨y, hy⟩ : ∃ y, iter s0 (i + 1) = y := ⟨_, rfl⟩
          have b1 := (HOK.out (i + 1) hil).1
          have b2 := a3 hil
          rw [hy] at b1 b2
          have hsu : succS x = y := by rw [← HX.out, ← hy]; rfl
          have hnn := nextS_of x y hx16 hsu (Nat.lt_of_lt_of_le b1 HN2.out) b2
          simp only [hnn, errV_zero] at hnx
          have hj1 := HCELL.out (i + 1) hil
          rw [hy] at hj1
          obtain ⟨ad3, e3, _, hcy⟩ := Q.at_ (i + 1) _ hj1
          cases e3
          obtain ⟨i1, hi1⟩ : ∃ i1, i + 1 = i1 := ⟨_, rfl⟩
          rw [hi1] at hcy
          have ei : (i : Int) + 1 = (i1 : Int) := by omega
          have hi2 : (i1 : Int) < (n2 : Int) := by omega
          have hi3 : i1 < n2 := by omega
          clear hnn hj1 hi1 b1 b2 hsu hy hil
          clear a3 hx16 
          have HNX := Lib.hid hnx
          have HCNT := Lib.hid hcnt
          have HIP := Lib.hid hip
          clear hip
          clear hnx hcnt
          go_wp2_with fail
          all_goals (try exact absurd HLT.out (by assumption))
          refine (HCNT.out _).mono ?_
          rintro e w' ⟨rfl, rfl⟩
          have hnx := HNX.out
          have hip := HIP.out
          clear HNX HCNT hp1 hw1
          go_wp2_with (refine hnx.mono ?_; rintro e w' ⟨rfl, rfl⟩)
          go_roundw
          case rel => exact ⟨i1, by omega, by first | rfl | go_num, trivial⟩
          case measure => simp [intOf]; omega
        · obtain ⟨j, hj⟩ : ∃ j, j + 1 = i := ⟨i - 1, by omega⟩
          have hjZ : j < n2 := by omega
          have hl1 := (HOK.out j hjZ).2.2 (by omega)
          rw [hj, HX.out] at hl1
          obtain ⟨ad2, e2, _, hcj⟩ := Q.at_ j _ (HCELL.out j hjZ)
          cases e2
          obtain ⟨z, hz⟩ : ∃ z, iter s0 j = z := ⟨_, rfl⟩
          rw [hz] at hcj hl1
          have hw2 : wrap64 ((i : Int) - 1) = (i : Int) - 1 := wr_j i n2 hin hbig'
          have hl2 : ¬ (x : Int) ≤ (z : Int) := by omega
          have ej : (i : Int) - 1 = (j : Int) := by omega
          have hip : (0 : Int) < (i : Int) := by omega
          clear hl1 hz hj hi0 hjZ
          obtain ⟨N, hN⟩ : ∃ N, (nextS (x : Int)).1 = N := ⟨_, rfl⟩
          obtain ⟨M0, hM⟩ : ∃ M, (nextS (x : Int)).2 = M := ⟨_, rfl⟩
          simp only [hN, hM] at hnx
          have hnl : ¬ (i : Int) + 1 < (n2 : Int) := by omega
          clear hN hM hil
          clear a3 hx16
          rcases Nat.eq_zero_or_pos M0 with hm | hm
          · rw [hm, errV_zero] at hnx
            clear hm
            have HNX := Lib.hid hnx
            have HCNT := Lib.hid hcnt
            have HIP := Lib.hid hip
            have HIN := Lib.hid hin
            have HNL := Lib.hid hnl
            clear hip hnx hcnt hnl
            go_wp2_with fail
            all_goals (try exact absurd HLT.out (by assumption))
            refine (HCNT.out _).mono ?_
            rintro e w' ⟨rfl, rfl⟩
            have hip := HIP.out
            clear hp1
            go_wp2_with fail
            refine HNX.out.mono ?_
            rintro e w' ⟨rfl, rfl⟩
            go_wp2
            all_goals (try (first | exact absurd (by assumption) HNL.out | exact absurd (by assumption) (Int.not_lt.2 HNL.out)))
            all_goals (refine ⟨⟨i + 1, by have := HIN.out; omega, by first | rfl | go_num, trivial⟩, by have := HIN.out; simp [intOf]; omega⟩)
          · rw [errV_pos M0 (by clear hnx hcnt hp1 hw1 hw2; omega)] at hnx
            clear hm
            have HNX := Lib.hid hnx
            have HCNT := Lib.hid hcnt
            have HIP := Lib.hid hip
            have HIN := Lib.hid hin
            have HNL := Lib.hid hnl
            clear hip hnx hcnt hnl
            go_wp2_with fail
            all_goals (try exact absurd HLT.out (by assumption))
            refine (HCNT.out _).mono ?_
            rintro e w' ⟨rfl, rfl⟩
            have hip := HIP.out
            clear hp1
            go_wp2_with fail
            refine HNX.out.mono ?_
            rintro e w' ⟨rfl, rfl⟩
            go_wp2
            all_goals (try (first | exact absurd (by assumption) HNL.out | exact absurd (by assumption) (Int.not_lt.2 HNL.out)))
            all_goals (refine ⟨⟨i + 1, by have := HIN.out; omega, by first | rfl | go_num, trivial⟩, by have := HIN.out; simp [intOf]; omega⟩)
      · obtain rfl : i = n2 := by omega
        clear hnx0 hcl1 hcl2
        by_cases h0 : n = 0 ∨ k = 0
        · rcases h0 with h0 | h0
          · subst h0
            clear HB HBT HTL HOK HCELL
            go_wp2
            go_ret
            exact ⟨rfl, P1.trans P2⟩
          · subst h0
            clear HB HBT HTL HOK HCELL
            by_cases hn0 : n = 0
            · subst hn0
              go_wp2
              go_ret
              exact ⟨rfl, P1.trans P2⟩
            · have hn0' : ¬ (n : Int) = 0 := by omega
              go_wp2
              go_ret
              exact ⟨rfl, P1.trans P2⟩
        · obtain ⟨m, j, e1, e2, hs, hle⟩ := HTL.out h0
          have hA := fun W => HBT.out m (by omega) j (by omega) W
          have hB2 := fun W => HBT.out m (by omega) (j + 1) (by omega) W
          have hsum := sum64 _ _ _ hs hle
          rw [errV_zero] at hA hB2
          have hk1 : ((j + 1 : Nat) : Int) = (k : Int) := by omega
          rw [hk1] at hB2
          have hn1 : (n : Int) - 1 = (m : Int) := by omega
          have hk2 : (k : Int) - 1 = (j : Int) := by omega
          have hn0 : ¬ (n : Int) = 0 := by omega
          have hk0 : ¬ (k : Int) = 0 := by omega
          generalize bn m j = c1 at *
          generalize bn m (j + 1) = c2 at *
          have HH := Lib.hid (show ¬ (((n : Int) == 0) = true ∨ ((k : Int) == 0) = true) by simp; omega)
          clear hs hle h0 hk1 e1 e2 HB HBT HTL HOK HCELL
          go_wp2_with fail
          all_goals (try exact (HH.out (by assumption)).elim)
          refine (hA _).mono ?_
          rintro e w' ⟨rfl, rfl⟩
          go_wp2_with fail
          refine (hB2 _).mono ?_
          rintro e w' ⟨rfl, rfl⟩
          go_wp2
          go_ret
          exact ⟨rfl, P1.trans P2⟩
end Go.Proofs.YtibkpglgeincdaaDoor.Sb
