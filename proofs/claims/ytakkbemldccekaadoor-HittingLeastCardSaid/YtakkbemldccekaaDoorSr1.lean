/-
  The specification's small functions of sets.
-/
import Derived.Test.YtakkbemldccekaaDoorSs3
import Derived.Test.YtakkbemldccekaaDoorSn2
namespace Go.Proofs.YtakkbemldccekaaDoor.Sb
open Go.RowKit
set_option linter.unusedVariables false
set_option maxRecDepth 100000
set_option maxHeartbeats 400000 in
theorem rhas_in (w : World) (s : Int) (i : Nat) (h : i < 24) :
    Calls Tryd.prog 72 #[.int .i64 s, .int .i64 (i : Int)] w fun e w' => e = .returned (.bool ((cut s).testBit i)) ∧ w = w' := by
  go_enter Tryd.func72, Tryd.ntmps72
  go_wp2
  go_ret
  refine ⟨ret_b ?_, rfl⟩
  rw [and_one, cut_tb s i h]
  rfl
set_option maxHeartbeats 400000 in
theorem rhas_out (w : World) (s i : Int) (h : i < 0 ∨ 24 ≤ i) :
    Calls Tryd.prog 72 #[.int .i64 s, .int .i64 i] w fun e w' => e = .returned (.bool false) ∧ w = w' := by
  rcases h with h | h
  · go_enter Tryd.func72, Tryd.ntmps72
    go_wp2
    go_ret
    exact ⟨rfl, rfl⟩
  · go_enter Tryd.func72, Tryd.ntmps72
    go_wp2
    go_ret
    exact ⟨rfl, rfl⟩

/-- a new slice of ints -/
def GivesL (w : World) (l : List Int) (e : Ending) (w' : World) : Prop := ∃ A n k, e = .returned (.slice A n k) ∧ Rd w' A n k (VI l) ∧ On w w'
set_option maxHeartbeats 1000000 in
theorem elements_any (w : World) (s : Int) :
    Calls Tryd.prog 52 #[.int .i64 s] w (GivesL w (ints (els (cut s)))) := by
  have hH := fun W i hi => rhas_in W s i hi
  generalize cut s = c at hH ⊢
  go_enter Tryd.func52, Tryd.ntmps52
  go_wp2
  go_loopw [3, 5] (fun v i wr => ∃ k : Nat, k ≤ 24 ∧ i = .int .i64 (k : Int) ∧ wr.ownsRow w.heap.size 3 1 v (elsTo c k).length (VI (ints (elsTo c k))) ∧ On w wr) (fun _ i _ => 24 - (intOf i).toNat)
  case atStart => exact ⟨0, by omega, rfl, row_nil _ _ _, On.refl _⟩
  case round =>
    obtain ⟨k, hk, rfl, hrow, hon⟩ := hrel
    by_cases hlt : k < 24
    · have hh := fun W => hH W k hlt
      clear hH
      obtain ⟨A4, c4, rfl⟩ := row_form hrow
      have hsucc := elsTo_succ c k
      have hle := elsTo_len c k
      have hsz := hon.size
      by_cases hb : c.testBit k = true
      · rw [if_pos hb] at hsucc
        rw [hb] at hh
        have HS := Lib.hid hsucc
        have HR := Lib.hid hrow
        clear hsucc hrow
        go_wp2_with (first | (with_reducible refine (hh _).mono ?_; rintro e w' ⟨rfl, rfl⟩) | (at_builtin; refine wpList_app rfl (.tmp 11) (.tmp 13) 22 rfl w.heap.size 3 (.int .i64 0) 8 Tryd.underlying22 infoi rfl (by decide) (.slice A4 (elsTo c k).length c4) _ (VI (ints (elsTo c k))) rfl (row_alloc HR.out _) (some ⟨wr.heap.size, 0, none⟩) 1 1 [.int .i64 (k : Int)] rfl (rd_one _ _ _) (by simp [Value.oneCell']) (by omega) (by simp; omega) ?_; intro v' w5 hown5 hgrow5 _))
        refine ⟨⟨k + 1, by omega, by go_num, ?_, ?_⟩, by simp [intOf]; omega⟩
        · rw [HS.out, List.length_append]
          have e : VI (ints (elsTo c k ++ [k])) = VI (ints (elsTo c k)) ++ [.int .i64 (k : Int)] := by simp [VI, ints]
          rw [e]; exact hown5
        · exact on_row (hon.alloc _) (row_alloc HR.out _) (Nat.le_refl _) hgrow5
      · have hb2 : c.testBit k = false := by simpa using hb
        rw [if_neg hb] at hsucc
        rw [hb2] at hh
        have HS := Lib.hid hsucc
        have HR := Lib.hid hrow
        clear hsucc hrow
        go_wp2_with (with_reducible refine (hh _).mono ?_; rintro e w' ⟨rfl, rfl⟩)
        refine ⟨⟨k + 1, by omega, by go_num, ?_, hon⟩, by simp [intOf]; omega⟩
        rw [HS.out]; exact HR.out
    · obtain rfl : k = 24 := by omega
      obtain ⟨A4, c4, rfl⟩ := row_form hrow
      clear hH
      have HR := Lib.hid hrow
      clear hrow
      go_wp2
      go_ret
      exact ⟨A4, _, c4, rfl, rd_of_row HR.out, hon⟩
end Go.Proofs.YtakkbemldccekaaDoor.Sb
