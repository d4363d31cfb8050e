/-
  Package sets: Of and List.
-/
import Derived.Test.YtibkpglgeincdaaGreatDoorSs2
import Derived.Test.YtibkpglgeincdaaGreatDoorSn1
namespace Go.Proofs.YtibkpglgeincdaaGreatDoor.Sb
open Go.RowKit
set_option linter.unusedVariables false
theorem or_bit (s i : Nat) (h : s.testBit i = false) : s ||| 2 ^ i = s + 2 ^ i := by
  have hp : 0 < 2 ^ i := Nat.pow_pos (by decide)
  have hlo : s % 2 ^ i < 2 ^ i := Nat.mod_lt _ hp
  have hq : s / 2 ^ i % 2 = 0 := by
    rw [Nat.testBit_eq_decide_div_mod_eq] at h
    simp at h; omega
  have e : s = 2 ^ i * (s / 2 ^ i) + s % 2 ^ i := (Nat.div_add_mod _ _).symm
  have e2 : s + 2 ^ i = 2 ^ i * (s / 2 ^ i + 1) + s % 2 ^ i := by rw [Nat.mul_add, Nat.mul_one]; omega
  apply Nat.eq_of_testBit_eq
  intro j
  rw [e2, Nat.testBit_two_pow_mul_add _ hlo, Nat.testBit_or]
  generalize s / 2 ^ i = q at *
  generalize s % 2 ^ i = r at *
  subst e
  rw [Nat.testBit_two_pow_mul_add _ hlo, Nat.testBit_two_pow]
  by_cases hj : j < i
  · have : i ≠ j := by omega
    simp [hj, this]
  · by_cases he : i = j
    · subst he
      simp; omega
    · obtain ⟨k, rfl⟩ : ∃ k, j = i + (k + 1) := ⟨j - i - 1, by omega⟩
      have a1 : ¬ i + (k + 1) < i := by omega
      have a2 : i + (k + 1) - i = k + 1 := by omega
      simp only [a1, he, if_false, decide_false, Bool.or_false, a2, Nat.testBit_succ]
      rw [show (q + 1) / 2 = q / 2 by omega]
theorem or_lt (s i : Nat) (hs : s < 2 ^ 24) (hi : i < 24) : s ||| 2 ^ i < 2 ^ 24 := Nat.or_lt_two_pow hs (Nat.pow_lt_pow_right (by decide) hi)
theorem pow_lt24 (i : Nat) (hi : i < 24) : 2 ^ i < 16777216 := by
  have : 2 ^ i < 2 ^ 24 := Nat.pow_lt_pow_right (by decide) hi
  omega
theorem shlw (i : Nat) (hi : i < 24) : wrap64 ((2 : Int) ^ i) = ((2 ^ i : Nat) : Int) := by
  have h := pow_lt24 i hi
  have e : (2 : Int) ^ i = ((2 ^ i : Nat) : Int) := by simp
  rw [e]
  generalize 2 ^ i = p at *
  unfold wrap64; omega
/-- what Of makes of a list: the set, and the number of an error -/
def ofGo : Nat → List Int → Nat × Nat
  | s, [] => (s, 0)
  | s, i :: l => if i < 0 ∨ 24 ≤ i then (0, 3) else if s.testBit i.toNat then (0, 6) else ofGo (s ||| 2 ^ i.toNat) l
def ofS (l : List Int) : Nat × Nat := if 24 < l.length then (0, 4) else ofGo 0 l
theorem els_le (c : Nat) : (els c).length ≤ 24 := pc_le c
set_option maxHeartbeats 1000000 in
theorem list_bad (w : World) (s : Int) (h : ¬ (0 ≤ s ∧ s < 16777216)) :
    Calls Tryz.prog 51 #[.int .i64 s] w fun e w' => e = .returned (.tuple #[.slice none 0 0, errV 3]) ∧ w = w' := by
  have hV := fun W => valid_any W s
  rw [decide_eq_false h] at hV
  go_enter Tryz.func51, Tryz.ntmps51
  go_wp2_with (refine (hV _).mono ?_; rintro e w' ⟨rfl, rfl⟩)
  go_ret2
  exact ⟨rfl, rfl⟩
set_option maxHeartbeats 1000000 in
theorem list_any (w : World) (s : Nat) (h : s < 16777216) :
    Calls Tryz.prog 51 #[.int .i64 (s : Int)] w (GivesI w (ints (els s)) 0) := by
  have hV := fun W => valid_any W (s : Int)
  rw [decide_eq_true (show (0 : Int) ≤ (s : Int) ∧ (s : Int) < 16777216 by omega)] at hV
  have hC := fun W => count_any W (s : Int)
  have hH := fun W i hi => has_in W (s : Int) i hi
  rw [cut_nat s h] at hC hH
  have hp := pc_le s
  have hmk := run_mk (pc s) (by omega) w
  have HMK := row_mk w (pc s) (by omega)
  go_enter Tryz.func51, Tryz.ntmps51
  go_wp2_with (first | (refine (hV _).mono ?_; rintro e w' ⟨rfl, rfl⟩) | (refine (hC _).mono ?_; rintro e w' ⟨rfl, rfl⟩))
  go_loopw [4, 13] (fun v i wr => ∃ k : Nat, k ≤ 24 ∧ i = .int .i64 (k : Int) ∧ wr.ownsRow w.heap.size 3 1 v (elsTo s k).length (VI (ints (elsTo s k))) ∧ On w wr) (fun _ i _ => 24 - (intOf i).toNat)
  case atStart => exact ⟨0, by omega, rfl, HMK, (On.refl w).alloc _⟩
  case round =>
    obtain ⟨k, hk, rfl, hrow, hon⟩ := hrel
    clear hmk HMK hC hV
    by_cases hlt : k < 24
    · have hh := fun W => hH W k hlt
      clear hH
      obtain ⟨A4, c4, rfl⟩ := row_form hrow
      have hsucc := elsTo_succ s k
      have hle := elsTo_len s k
      by_cases hb : s.testBit k = true
      · rw [if_pos hb] at hsucc
        rw [hb] at hh
        have HS := Lib.hid hsucc
        have HR := Lib.hid hrow
        have hsz := hon.size
        clear hsucc hrow
        go_wp2_with (first | (refine (hh _).mono ?_; rintro e w' ⟨rfl, rfl⟩) | (at_builtin; refine wpList_app rfl (.tmp 19) (.tmp 21) 22 rfl w.heap.size 3 (.int .i64 0) 8 Tryz.underlying22 infoi rfl (by decide) (.slice A4 (elsTo s k).length c4) _ (VI (ints (elsTo s k))) rfl (row_alloc HR.out _) (some ⟨wr.heap.size, 0, none⟩) 1 1 [.int .i64 (k : Int)] rfl (rd_one _ _ _) (by simp [Value.oneCell']) (by omega) (by simp; omega) ?_; intro v' w5 hown5 hgrow5 _))
        refine ⟨⟨k + 1, by omega, by go_num, ?_, ?_⟩, by simp [intOf]; omega⟩
        · rw [HS.out, List.length_append]
          have e : VI (ints (elsTo s k ++ [k])) = VI (ints (elsTo s k)) ++ [.int .i64 (k : Int)] := by simp [VI, ints]
          rw [e]; exact hown5
        · exact on_row (hon.alloc _) (row_alloc HR.out _) (Nat.le_refl _) hgrow5
      · have hb2 : s.testBit k = false := by simpa using hb
        rw [if_neg hb] at hsucc
        rw [hb2] at hh
        have HS := Lib.hid hsucc
        have HR := Lib.hid hrow
        clear hsucc hrow
        go_wp2_with (refine (hh _).mono ?_; rintro e w' ⟨rfl, rfl⟩)
        refine ⟨⟨k + 1, by omega, by go_num, ?_, hon⟩, by simp [intOf]; omega⟩
        rw [HS.out]; exact HR.out
    · obtain rfl : k = 24 := by omega
      obtain ⟨A4, c4, rfl⟩ := row_form hrow
      clear hH
      have HR := Lib.hid hrow
      clear hrow
      go_wp2
      go_ret2
      exact ⟨A4, _, c4, rfl, rd_of_row HR.out, hon⟩
end Go.Proofs.YtibkpglgeincdaaGreatDoor.Sb
