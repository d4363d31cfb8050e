/-
  Package sets: Binomial and Choose, up to 24 events.
-/
import Derived.Test.YtibkpglgeincdaaDoorSc1
import Derived.Test.YtibkpglgeincdaaDoorSs4
import Derived.Test.YtibkpglgeincdaaDoorSs7
namespace Go.Proofs.YtibkpglgeincdaaDoor.Sb
open Go.RowKit
set_option linter.unusedVariables false
set_option maxRecDepth 100000
theorem bin_step (n i c c2 : Nat) (h : c * (n - i) = c2 * (i + 1)) (hi : i < n) (hn : n ≤ 24) (hc : c ≤ 2704156) : wrap64 ((c : Int) * ((n : Int) - (i : Int))) = ((c2 : Int) * ((i : Int) + 1)) ∧ ((c2 : Int) * ((i : Int) + 1)).tdiv ((i : Int) + 1) = (c2 : Int) := by
  have e1 : (c : Int) * ((n : Int) - (i : Int)) = ((c * (n - i) : Nat) : Int) := by
    rw [Int.natCast_mul]; congr 1; omega
  have e2 : (c2 : Int) * ((i : Int) + 1) = ((c2 * (i + 1) : Nat) : Int) := by rw [Int.natCast_mul]; rfl
  have hb : c * (n - i) ≤ 2704156 * 24 := Nat.mul_le_mul hc (by omega)
  constructor
  · rw [e1, e2, ← h]
    generalize c * (n - i) = z at *
    clear h e1 e2
    unfold wrap64; omega
  · exact Int.mul_tdiv_cancel _ (by omega)
theorem wr64 (c : Nat) (h : c ≤ 2704156) : wrap64 (c : Int) = (c : Int) := by unfold wrap64; omega
set_option maxHeartbeats 1000000 in
theorem binomial_any (w : World) (n k : Nat) (hn : n ≤ 24) (hk : k ≤ n) :
    Calls Tryd.prog 24 #[.int .i64 (n : Int), .int .i64 (k : Int)] w fun e w' => e = .returned (.int .i64 (bn n k : Nat)) ∧ w = w' := by
  obtain ⟨b0, bs, bb, _⟩ := bn_facts n (by omega)
  go_enter Tryd.func24, Tryd.ntmps24
  go_wp2
  go_loop [5, 8] (fun c i => ∃ j : Nat, j ≤ k ∧ i = .int .i64 (j : Int) ∧ c = .int .i64 (bn n j : Nat)) (fun _ i => k - (intOf i).toNat)
  case atStart => exact ⟨0, by omega, rfl, by rw [b0]; rfl⟩
  case round =>
    obtain ⟨j, hj, rfl, rfl⟩ := hrel
    by_cases hlt : j < k
    · have h1 := bs j (by omega)
      have h2 := (bb j (by omega)).2
      have h3 := (bb (j + 1) (by omega)).2
      obtain ⟨c, hc⟩ : ∃ c, bn n j = c := ⟨_, rfl⟩
      obtain ⟨c2, hc2⟩ : ∃ c, bn n (j + 1) = c := ⟨_, rfl⟩
      rw [hc] at h1 h2 ⊢
      rw [hc2] at h1 h3
      have hw := wr64 c2 h3
      have HC2 := Lib.hid hc2
      obtain ⟨s1, s2⟩ := bin_step n j c c2 h1 (Nat.lt_of_lt_of_le hlt hk) hn h2
      have hj1 : ¬ ((j : Int) + 1) = 0 := by clear s1 s2 h1 hw; omega
      have hj2 : wrap64 ((j : Int) + 1) = (j : Int) + 1 := by clear s1 s2 h1 hw; unfold wrap64; omega
      have hj3 : wrap64 ((n : Int) - (j : Int)) = (n : Int) - (j : Int) := by clear s1 s2 h1 hj2 hw; unfold wrap64; omega
      clear bs bb b0 h1 hc hc2 h2
      go_wp2
      clear s1 s2
      refine ⟨⟨j + 1, hlt, by go_num, ?_⟩, by clear hw; simp [intOf]; omega⟩
      rw [HC2.out]
    · obtain rfl : j = k := by omega
      clear bs bb b0
      go_wp2
      go_ret
      exact ⟨rfl, rfl⟩
set_option maxHeartbeats 1000000 in
theorem Binomial_any (w : World) (n k : Nat) (hn : n ≤ 24) (hk : k ≤ n + 1) :
    Calls Tryd.prog 9 #[.int .i64 (n : Int), .int .i64 (k : Int)] w fun e w' => e = .returned (.tuple #[.int .i64 (bn n k : Nat), errV 0]) ∧ w = w' := by
  rw [errV_zero]
  have hn' : (n : Int) ≤ 60 := by omega
  by_cases h : k ≤ n
  · have hB := fun W => binomial_any W n k hn h
    generalize bn n k = z at *
    have hk' : (k : Int) ≤ (n : Int) := by omega
    go_enter Tryd.func9, Tryd.ntmps9
    go_wp2_with (refine (hB _).mono ?_; rintro e w' ⟨rfl, rfl⟩)
    go_ret2
    exact ⟨rfl, rfl⟩
  · obtain rfl : k = n + 1 := by omega
    rw [(bn_facts n (by omega)).2.2.2]
    have hk' : ¬ ((n + 1 : Nat) : Int) ≤ (n : Int) := by omega
    go_enter Tryd.func9, Tryd.ntmps9
    go_wp2
    go_ret2
    exact ⟨rfl, rfl⟩
set_option maxHeartbeats 1000000 in
theorem choose_large (w : World) (n k : Nat) (hn : n ≤ 24) (hk : k ≤ n) (h : 1024 < bn n k) :
    Calls Tryd.prog 7 #[.int .i64 (n : Int), .int .i64 (k : Int)] w fun e w' => e = .returned (.tuple #[.slice none 0 0, errV 4]) ∧ w = w' := by
  have hB := fun W => binomial_any W n k hn hk
  have h' : (1024 : Int) < ((bn n k : Nat) : Int) := by omega
  generalize bn n k = z at *
  have hk' : (k : Int) ≤ (n : Int) := by omega
  have hn' : (n : Int) ≤ 24 := by omega
  go_enter Tryd.func7, Tryd.ntmps7
  go_wp2_with (refine (hB _).mono ?_; rintro e w' ⟨rfl, rfl⟩)
  go_ret2
  exact ⟨rfl, rfl⟩
theorem wrs (s : Nat) (h : s < 16777216) : wrap64 (s : Int) = (s : Int) := by unfold wrap64; omega
theorem pow_first (k : Nat) (h : k ≤ 24) : wrap64 ((2 : Int) ^ k) = ((2 ^ k : Nat) : Int) ∧ ((2 ^ k : Nat) : Int) - 1 = ((2 ^ k - 1 : Nat) : Int) := by
  have hp : 2 ^ k ≤ 2 ^ 24 := Nat.pow_le_pow_right (by decide) h
  have h0 : 0 < 2 ^ k := Nat.pow_pos (by decide)
  have e : (2 : Int) ^ k = ((2 ^ k : Nat) : Int) := by simp
  rw [e]
  generalize 2 ^ k = p at *
  constructor
  · unfold wrap64; omega
  · omega
set_option maxHeartbeats 2000000 in
theorem choose_any (w : World) (n k : Nat) (hn : n ≤ 24) (hk : k ≤ n) (h : bn n k ≤ 1024) (hT : Tab w) :
    Calls Tryd.prog 7 #[.int .i64 (n : Int), .int .i64 (k : Int)] w (GivesI w (ints (chooseL n k)) 0) := by
  have hB := fun W => binomial_any W n k hn hk
  have hok := chk_all n k (bn n k) (2 ^ k - 1) (all_ok n (by omega) k (by omega) h)
  have hlist := chooseL_len n k
  have hdef : chooseL n k = (List.range (bn n k)).map (iter (2 ^ k - 1)) := rfl
  have hmk := run_mk (bn n k) (by omega) w
  have HMK := Lib.hid (row_mk w (bn n k) (by omega))
  have h' : ¬ (1024 : Int) < ((bn n k : Nat) : Int) := by omega
  obtain ⟨p1, p2⟩ := pow_first k (by omega)
  have hn2 : 2 ^ n ≤ 16777216 := by
    have : 2 ^ n ≤ 2 ^ 24 := Nat.pow_le_pow_right (by decide) hn
    exact this
  have HD := Lib.hid hdef
  have HOK := Lib.hid hok
  have HN2 := Lib.hid hn2
  have hk' : (k : Int) ≤ (n : Int) := by omega
  have hn' : (n : Int) ≤ 24 := by omega
  have hk24 : (k : Int) ≤ 24 := by omega
  clear hok hdef hlist hn2
  generalize bn n k = z at *
  obtain ⟨s0, hs0⟩ : ∃ s0, 2 ^ k - 1 = s0 := ⟨_, rfl⟩
  have hs16 : s0 < 16777216 := by
    rw [← hs0]
    have : 2 ^ k ≤ 2 ^ 24 := Nat.pow_le_pow_right (by decide) (by omega)
    omega
  have HW0 := Lib.hid (wrs s0 hs16)
  rw [hs0] at HD HOK p2
  clear hs0 hs16
  obtain ⟨pk, hpk⟩ : ∃ pk, 2 ^ k = pk := ⟨_, rfl⟩
  rw [hpk] at p1 p2
  clear hpk
  go_enter Tryd.func7, Tryd.ntmps7
  go_wp2_with (refine (hB _).mono ?_; rintro e w' ⟨rfl, rfl⟩)
  clear hmk hB p1 p2
  go_loopw [7, 8, 37] (fun v s i wr => ∃ j : Nat, j ≤ z ∧ i = .int .i64 (j : Int) ∧ s = .int .i64 (iter s0 j : Nat) ∧ wr.ownsRow w.heap.size 3 1 v j (VI (ints ((List.range j).map (iter s0)))) ∧ On w wr) (fun _ _ i _ => z - (intOf i).toNat)
  case atStart => exact ⟨0, by omega, rfl, by rw [HW0.out]; rfl, HMK.out, (On.refl w).alloc _⟩
  case round =>
    obtain ⟨j, hj, rfl, rfl, hrow, hon⟩ := hrel
    obtain ⟨A4, c4, rfl⟩ := row_form hrow
    have HR := Lib.hid hrow
    have hsz := hon.size
    clear hrow
    by_cases hlt : j < z
    · have hlt16 : iter s0 j < 16777216 := Nat.lt_of_lt_of_le (HOK.out j hlt).1 HN2.out
      have hS := fun W hW => successor_any W (iter s0 j) hlt16 hW
      have hnext : succS (iter s0 j) = iter s0 (j + 1) := rfl
      rw [hnext] at hS
      obtain ⟨x, hx⟩ : ∃ x, iter s0 j = x := ⟨_, rfl⟩
      have hvi : VI (ints ((List.range (j + 1)).map (iter s0))) = VI (ints ((List.range j).map (iter s0))) ++ [.int .i64 (x : Int)] := by
        rw [List.range_succ, ← hx]; simp [VI, ints]
      have HV := Lib.hid hvi
      rw [hx] at hS ⊢
      clear hvi hx hnext hlt16
      go_wp2_with (first | (at_builtin; refine wpList_app rfl (.tmp 39) (.tmp 41) 27 rfl w.heap.size 3 (.int .i64 0) 8 Tryd.underlying27 infoi rfl (by decide) (.slice A4 j c4) j (VI (ints ((List.range j).map (iter s0)))) rfl (row_alloc HR.out _) (some ⟨wr.heap.size, 0, none⟩) 1 1 [.int .i64 (x : Int)] rfl (rd_one _ _ _) (by simp [Value.oneCell']) (by omega) (by simp; omega) ?_; intro v' w5 hown5 hgrow5 _) | fail)
      have P5 : On w w5 := on_row (hon.alloc _) (row_alloc HR.out _) (Nat.le_refl _) hgrow5
      refine (hS _ (hT.on P5)).mono ?_
      rintro e w' ⟨rfl, rfl⟩
      go_wp2
      refine ⟨⟨j + 1, by omega, by go_num, rfl, ?_, P5⟩, by simp [intOf]; omega⟩
      rw [HV.out]; exact hown5
    · obtain rfl : j = z := by omega
      have HR2 := rd_of_row HR.out
      clear hT
      go_wp2
      go_ret2
      exact ⟨A4, j, c4, rfl, by rw [HD.out]; exact HR2, hon⟩
end Go.Proofs.YtibkpglgeincdaaDoor.Sb
