/-
  The specification's Choose, and both for any two ints.
-/
import Derived.Test.YtibkpglgeincdaaDoorSc3
import Derived.Test.YtibkpglgeincdaaDoorSc5
import Derived.Test.YtibkpglgeincdaaDoorSc6
namespace Go.Proofs.YtibkpglgeincdaaDoor.Sb
open Go.RowKit
set_option linter.unusedVariables false
set_option maxRecDepth 100000
theorem next_more (x y : Nat) (hx : x < 16777216) (hy : y < 16777216) (hne : y ≠ x) (e : succS x = y) : nextS (x : Int) = (y, 0) := by
  unfold nextS
  rw [if_pos (by omega), cut_nat x hx, e, if_neg (by omega)]
theorem next_none (x : Nat) (hx : x < 16777216) (h : succS x = x ∨ 16777216 ≤ succS x) : nextS (x : Int) = (0, 20) := by
  unfold nextS
  rw [if_pos (by omega), cut_nat x hx, if_pos h]
theorem range_get (s0 j : Nat) : ((List.range (j + 1)).map (iter s0)).getD j 0 = iter s0 j := by simp
theorem range_len (s0 j : Nat) : j < ((List.range (j + 1)).map (iter s0)).length := by simp
theorem pow24 (n : Nat) (hn : n ≤ 24) : wrap64 ((2 : Int) ^ n) = ((2 ^ n : Nat) : Int) := (pow_first n hn).1
/-- a list and an error's number, in new memory -/
def GivesC (w : World) (l : List Nat) (c : Nat) (e : Ending) (w' : World) : Prop := ∃ A n k, e = .returned (.tuple #[.slice A n k, .int .i64 (c : Int)]) ∧ Rd w' A n k (VI (ints l)) ∧ On w w'
set_option maxHeartbeats 4000000 in
theorem rchoose_run (w : World) (n k : Nat) (hn : n ≤ 24) (hk : k ≤ n) (h : bn n k ≤ 1024) :
    Calls Tryd.prog 11 #[.int .i64 (n : Int), .int .i64 (k : Int)] w (GivesC w (chooseL n k) 0) := by
  have hB := fun W => rbinomial_run W n k (by omega) hk
  have hok := chk_all n k (bn n k) (2 ^ k - 1) (all_ok n (by omega) k (by omega) h)
  have hend := all_end n (by omega) k (by omega) h
  have h0 := ((bn_facts n (by omega)).2.2.1 k (by omega)).1
  have hdef : chooseL n k = (List.range (bn n k)).map (iter (2 ^ k - 1)) := rfl
  have h' : ¬ (1024 : Int) < ((bn n k : Nat) : Int) := by omega
  obtain ⟨p1, p2⟩ := pow_first k (by omega)
  have p3 := pow24 n hn
  have hn2 : 2 ^ n ≤ 16777216 := by
    have : 2 ^ n ≤ 2 ^ 24 := Nat.pow_le_pow_right (by decide) hn
    exact this
  have HD := Lib.hid hdef
  have HOK := Lib.hid hok
  have HE := Lib.hid hend
  have hk1 : ¬ (k : Int) < 0 := by omega
  have hk2 : ¬ (n : Int) < (k : Int) := by omega
  have hn1 : ¬ (n : Int) < 0 := by omega
  have hn3 : ¬ (24 : Int) < (n : Int) := by omega
  have hn4 : (0 : Int) ≤ (n : Int) := by omega
  have hk4 : (0 : Int) ≤ (k : Int) := by omega
  clear hok hdef hend
  generalize bn n k = z at *
  obtain ⟨s0, hs0⟩ : ∃ s0, 2 ^ k - 1 = s0 := ⟨_, rfl⟩
  have hs16 : s0 < 16777216 := by
    rw [← hs0]
    have : 2 ^ k ≤ 2 ^ 24 := Nat.pow_le_pow_right (by decide) (by omega)
    omega
  have HW0 := Lib.hid (wrs s0 hs16)
  rw [hs0] at HD HOK p2 HE
  clear hs0 hs16
  obtain ⟨pk, hpk⟩ : ∃ pk, 2 ^ k = pk := ⟨_, rfl⟩
  rw [hpk] at p1 p2
  clear hpk
  obtain ⟨pn, hpn⟩ : ∃ pn, 2 ^ n = pn := ⟨_, rfl⟩
  rw [hpn] at p3 hn2
  have HPN := Lib.hid hpn
  have HN2 := Lib.hid hn2
  clear hpn hn2
  go_enter Tryd.func11, Tryd.ntmps11
  go_wp2_with (refine (hB _).mono ?_; rintro e w0 ⟨rfl, P0⟩)
  clear hB p1 p2 hk1 hk2 hn1 hn3 hk4 h'
  go_loopw [8] (fun v wr => ∃ j : Nat, j < z ∧ wr.ownsRow w0.heap.size 3 1 v (j + 1) (VI (ints ((List.range (j + 1)).map (iter s0)))) ∧ On w0 wr) (fun v _ => 2000 - lenV v)
  case atStart => exact ⟨0, h0, by rw [HW0.out]; exact row_one _ _ _, (On.refl w0).alloc _⟩
  case round =>
    obtain ⟨j, hj, hrow, hon⟩ := hrel
    obtain ⟨A4, c4, rfl⟩ := row_form hrow
    have hrd := rd_of_row hrow
    have hcap := hrd.cap
    have hmax := hrd.max
    obtain ⟨ad, e1, _, hc1⟩ := hrd.at_ j _ (ints_get (range_len s0 j))
    cases e1
    rw [range_get] at hc1
    have HR := Lib.hid hrow
    clear hrow hrd
    have hx16 : iter s0 j < 16777216 := Nat.lt_of_lt_of_le (HOK.out j hj).1 (by rw [HPN.out]; exact HN2.out)
    obtain ⟨m, hm⟩ : ∃ m, j + 1 = m := ⟨_, rfl⟩
    have q0 : (0 : Int) ≤ (j : Int) := by omega
    have q1 : (j : Int) < (m : Int) := by omega
    have q2 : IntKind.i64.wrap ((m : Int) - 1) = (j : Int) := by rw [IntKind.wrap_i64]; omega
    have q3 : j < m := by omega
    rw [hm] at HR hcap ⊢
    have hV := fun W => rnext_any W ((iter s0 j : Nat) : Int)
    by_cases hlt : j + 1 < z
    · have hy := HOK.out (j + 1) hlt
      rw [HPN.out] at hy
      have hxy := (HOK.out j hj).2.2 hlt
      rw [next_more _ _ hx16 (Nat.lt_of_lt_of_le hy.1 HN2.out) (by omega) rfl] at hV
      have hV2 : ∀ W, Calls Tryd.prog 10 #[.int .i64 (iter s0 j : Nat)] W fun e w' => e = .returned (.tuple #[.int .i64 (succS (iter s0 j) : Nat), .int .i64 0]) ∧ On W w' := hV
      clear hV
      have hi : iter s0 (j + 1) = succS (iter s0 j) := rfl
      obtain ⟨y, hyy⟩ : ∃ y, succS (iter s0 j) = y := ⟨_, rfl⟩
      rw [hi, hyy] at hy
      rw [hyy] at hV2 hi
      obtain ⟨x, hx⟩ : ∃ x, iter s0 j = x := ⟨_, rfl⟩
      rw [hx] at hc1 hV2
      have hvi : VI (ints ((List.range (m + 1)).map (iter s0))) = VI (ints ((List.range m).map (iter s0))) ++ [.int .i64 (y : Int)] := by
        rw [List.range_succ, ← hi, ← hm]; simp [VI, ints]
      have HV := Lib.hid hvi
      have hlt2 : ¬ (pn : Int) ≤ (y : Int) := by have := hy.1; omega
      have HM := Lib.hid hm
      have HLT := Lib.hid hlt
      clear hvi hx hi hyy hxy hy hx16 hm hlt
      go_wp2_with (first | (refine (hV2 _).mono ?_; rintro e w1 ⟨rfl, P1⟩; have HR1 := Lib.hid (row_on HR.out P1); have hon1 := hon.trans P1; have hsz := hon1.size) | (at_builtin; refine wpList_app rfl (.tmp 57) (.tmp 59) 27 rfl w0.heap.size 3 (.int .i64 0) 8 Tryd.underlying27 infoi rfl (by decide) (.slice (some ad) m c4) m (VI (ints ((List.range m).map (iter s0)))) rfl (row_alloc HR1.out _) (some ⟨w1.heap.size, 0, none⟩) 1 1 [.int .i64 (y : Int)] rfl (rd_one _ _ _) (by simp [Value.oneCell']) (by have := HM.out; omega) (by simp; omega) ?_; intro v' w5 hown5 hgrow5 _))
      have P5 : On w0 w5 := on_row (hon1.alloc _) (row_alloc HR1.out _) (Nat.le_refl _) hgrow5
      refine ⟨⟨m, by have := HLT.out; have := HM.out; omega, by rw [HV.out]; exact hown5, P5⟩, ?_⟩
      obtain ⟨A6, c6, rfl⟩ := row_form hown5
      have := HM.out
      have := HLT.out
      simp [lenV]; omega
    · obtain rfl : z = j + 1 := by omega
      have hl := chkE_last n j s0 HE.out
      rw [HPN.out] at hl
      have hrd := rd_of_row HR.out
      have hfin : List.map (iter s0) (List.range m) = chooseL n k := by rw [← hm]; exact HD.out.symm
      rw [hfin] at hrd
      have HF := Lib.hid hrd
      have hP := P0.trans hon
      by_cases hn0 : succS (iter s0 j) = iter s0 j ∨ 16777216 ≤ succS (iter s0 j)
      · rw [next_none _ hx16 hn0] at hV
        have hV2 : ∀ W, Calls Tryd.prog 10 #[.int .i64 (iter s0 j : Nat)] W fun e w' => e = .returned (.tuple #[.int .i64 0, .int .i64 20]) ∧ On W w' := hV
        obtain ⟨x, hx⟩ : ∃ x, iter s0 j = x := ⟨_, rfl⟩
        rw [hx] at hc1 hV2
        clear hV hn0 hl hx16 hx hfin hrd
        go_wp2_with (refine (hV2 _).mono ?_; rintro e w1 ⟨rfl, P1⟩)
        go_ret2
        exact ⟨_, _, _, rfl, HF.out.on P1, hP.trans P1⟩
      · have hy2 : pn ≤ succS (iter s0 j) := by rcases hl with e | e; exact absurd (.inl e) hn0; exact e
        rw [next_more _ _ hx16 (by omega) (by omega) rfl] at hV
        have hV2 : ∀ W, Calls Tryd.prog 10 #[.int .i64 (iter s0 j : Nat)] W fun e w' => e = .returned (.tuple #[.int .i64 (succS (iter s0 j) : Nat), .int .i64 0]) ∧ On W w' := hV
        obtain ⟨y, hyy⟩ : ∃ y, succS (iter s0 j) = y := ⟨_, rfl⟩
        rw [hyy] at hV2 hy2
        obtain ⟨x, hx⟩ : ∃ x, iter s0 j = x := ⟨_, rfl⟩
        rw [hx] at hc1 hV2
        have hlt2 : (pn : Int) ≤ (y : Int) := by omega
        clear hV hn0 hl hx16 hyy hx hfin hrd
        go_wp2_with (refine (hV2 _).mono ?_; rintro e w1 ⟨rfl, P1⟩)
        go_ret2
        exact ⟨_, _, _, rfl, HF.out.on P1, hP.trans P1⟩
end Go.Proofs.YtibkpglgeincdaaDoor.Sb
