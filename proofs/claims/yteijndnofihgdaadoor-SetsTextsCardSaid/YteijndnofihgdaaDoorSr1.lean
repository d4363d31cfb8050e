/-
  The specification's small functions of sets.
-/
import Derived.Test.YteijndnofihgdaaDoorSs3
namespace Go.Proofs.YteijndnofihgdaaDoor.Sb
open Go.RowKit
set_option linter.unusedVariables false
set_option maxRecDepth 100000
set_option maxHeartbeats 400000 in
theorem rvalid_any (w : World) (s : Int) :
    Calls Tryd.prog 13 #[.int .i64 s] w fun e w' => e = .returned (.bool (decide (0 ≤ s ∧ s < 16777216))) ∧ w = w' := by
  have hd : decide (0 ≤ s ∧ s < 16777216) = (decide (0 ≤ s) && decide (s ≤ 16777215)) := by
    by_cases h1 : 0 ≤ s <;> by_cases h2 : s ≤ 16777215 <;> simp [h1, h2] <;> omega
  rw [hd]
  by_cases h : 0 ≤ s
  · go_enter Tryd.func13, Tryd.ntmps13
    go_wp2
    go_ret
    exact ⟨ret_b (by simp [h]; omega), rfl⟩
  · go_enter Tryd.func13, Tryd.ntmps13
    go_wp2
    go_ret
    exact ⟨ret_b (by rw [decide_eq_false (show ¬ 0 ≤ s by omega)]; rfl), rfl⟩
set_option maxHeartbeats 400000 in
theorem rcut_any (w : World) (s : Int) :
    Calls Tryd.prog 15 #[.int .i64 s] w fun e w' => e = .returned (.int .i64 (cut s : Nat)) ∧ w = w' := by
  go_enter Tryd.func15, Tryd.ntmps15
  go_wp2
  go_ret
  exact ⟨ret_i (and_full s), rfl⟩
set_option maxHeartbeats 400000 in
theorem rhas_in (w : World) (s : Int) (i : Nat) (h : i < 24) :
    Calls Tryd.prog 19 #[.int .i64 s, .int .i64 (i : Int)] w fun e w' => e = .returned (.bool ((cut s).testBit i)) ∧ w = w' := by
  go_enter Tryd.func19, Tryd.ntmps19
  go_wp2
  go_ret
  refine ⟨ret_b ?_, rfl⟩
  rw [and_one, cut_tb s i h]
  rfl
set_option maxHeartbeats 400000 in
theorem rhas_out (w : World) (s i : Int) (h : i < 0 ∨ 24 ≤ i) :
    Calls Tryd.prog 19 #[.int .i64 s, .int .i64 i] w fun e w' => e = .returned (.bool false) ∧ w = w' := by
  rcases h with h | h
  · go_enter Tryd.func19, Tryd.ntmps19
    go_wp2
    go_ret
    exact ⟨rfl, rfl⟩
  · go_enter Tryd.func19, Tryd.ntmps19
    go_wp2
    go_ret
    exact ⟨rfl, rfl⟩

/-- a new slice of ints -/
def GivesL (w : World) (l : List Int) (e : Ending) (w' : World) : Prop := ∃ A n k, e = .returned (.slice A n k) ∧ Rd w' A n k (VI l) ∧ On w w'
set_option maxHeartbeats 1000000 in
theorem elements_any (w : World) (s : Int) :
    Calls Tryd.prog 49 #[.int .i64 s] w (GivesL w (ints (els (cut s)))) := by
  have hH := fun W i hi => rhas_in W s i hi
  generalize cut s = c at hH ⊢
  go_enter Tryd.func49, Tryd.ntmps49
  go_wp2
  go_loopw [3, 5] (fun v i wr => ∃ k : Nat, k ≤ 24 ∧ i = .int .i64 (k : Int) ∧ wr.ownsRow w.heap.size 3 1 v (elsTo c k).length (VI (ints (elsTo c k))) ∧ On w wr) (fun _ i _ => 24 - (intOf i).toNat)
  case atStart => exact ⟨0, by omega, rfl, row_nil _ _ _, On.refl _⟩
  case round =>
    obtain ⟨k, hk, rfl, hrow, hon⟩ := hrel
    by_cases hlt : k < 24
    · have hh := fun W => hH W k hlt
      clear hH
      obtain ⟨A4, c4, rfl⟩ := row_form hrow
      have hsucc := elsTo_succ c k
      have hle := elsTo_len c k
      have hsz := hon.size
      by_cases hb : c.testBit k = true
      · rw [if_pos hb] at hsucc
        rw [hb] at hh
        have HS := Lib.hid hsucc
        have HR := Lib.hid hrow
        clear hsucc hrow
        go_wp2_with (first | (with_reducible refine (hh _).mono ?_; rintro e w' ⟨rfl, rfl⟩) | (at_builtin; refine wpList_app rfl (.tmp 11) (.tmp 13) 28 rfl w.heap.size 3 (.int .i64 0) 8 Tryd.underlying28 infoi rfl (by decide) (.slice A4 (elsTo c k).length c4) _ (VI (ints (elsTo c k))) rfl (row_alloc HR.out _) (some ⟨wr.heap.size, 0, none⟩) 1 1 [.int .i64 (k : Int)] rfl (rd_one _ _ _) (by simp [Value.oneCell']) (by omega) (by simp; omega) ?_; intro v' w5 hown5 hgrow5 _))
        refine ⟨⟨k + 1, by omega, by go_num, ?_, ?_⟩, by simp [intOf]; omega⟩
        · rw [HS.out, List.length_append]
          have e : VI (ints (elsTo c k ++ [k])) = VI (ints (elsTo c k)) ++ [.int .i64 (k : Int)] := by simp [VI, ints]
          rw [e]; exact hown5
        · exact on_row (hon.alloc _) (row_alloc HR.out _) (Nat.le_refl _) hgrow5
      · have hb2 : c.testBit k = false := by simpa using hb
        rw [if_neg hb] at hsucc
        rw [hb2] at hh
        have HS := Lib.hid hsucc
        have HR := Lib.hid hrow
        clear hsucc hrow
        go_wp2_with (with_reducible refine (hh _).mono ?_; rintro e w' ⟨rfl, rfl⟩)
        refine ⟨⟨k + 1, by omega, by go_num, ?_, hon⟩, by simp [intOf]; omega⟩
        rw [HS.out]; exact HR.out
    · obtain rfl : k = 24 := by omega
      obtain ⟨A4, c4, rfl⟩ := row_form hrow
      clear hH
      have HR := Lib.hid hrow
      clear hrow
      go_wp2
      go_ret
      exact ⟨A4, _, c4, rfl, rd_of_row HR.out, hon⟩
set_option maxHeartbeats 1000000 in
theorem rcount_any (w : World) (s : Int) :
    Calls Tryd.prog 17 #[.int .i64 s] w fun e w' => e = .returned (.int .i64 (pc (cut s) : Nat)) ∧ w = w' := by
  have hC := fun W => rcut_any W s
  have hl := cut_lt' s
  have hp := pc_le (cut s)
  generalize cut s = c0 at hC hl hp ⊢
  go_enter Tryd.func17, Tryd.ntmps17
  go_wp2_with (with_reducible refine (hC _).mono ?_; rintro e w' ⟨rfl, rfl⟩)
  go_loop [0, 3] (fun a n => ∃ c k : Nat, a = .int .i64 (c : Int) ∧ n = .int .i64 (k : Int) ∧ c < 16777216 ∧ k + pc c = pc c0) (fun a _ => (intOf a).toNat)
  case atStart => exact ⟨c0, 0, rfl, rfl, hl, by omega⟩
  case round =>
    obtain ⟨c, k, rfl, rfl, hc, hk⟩ := hrel
    have HK := Lib.hid hk
    have HP := Lib.hid hp
    have hk2 : k ≤ 24 := by omega
    clear hC hk hp
    by_cases h0 : c = 0
    · subst h0
      have e : pc c0 = k := by have := HK.out; rw [pc_zero] at this; omega
      have HE := Lib.hid e
      clear e
      go_wp2
      go_ret
      exact ⟨ret_i (by rw [HE.out]), rfl⟩
    · have hand := and_nat c (c - 1) hc (by omega)
      have hd := pc_drop c h0 hc
      have hle : c &&& (c - 1) ≤ c - 1 := Nat.and_le_right
      have e1 : (c : Int) - 1 = ((c - 1 : Nat) : Int) := by omega
      generalize c &&& (c - 1) = d at *
      have HA := Lib.hid hand
      have HD := Lib.hid hd
      have HE := Lib.hid e1
      have h0' : ¬ (c : Int) = 0 := by omega
      clear hand hd e1
      go_wp2
      go_round
      case rel => exact ⟨d, k + 1, by rw [HE.out, HA.out], by go_num, by omega, by have := HK.out; have := HD.out; omega⟩
      case measure => rw [HE.out, HA.out]; simp only [intOf, Int.toNat_natCast]; omega
end Go.Proofs.YteijndnofihgdaaDoor.Sb
