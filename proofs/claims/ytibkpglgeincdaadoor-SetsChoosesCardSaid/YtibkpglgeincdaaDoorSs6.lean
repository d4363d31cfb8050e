/-
  Package sets: Parts, as a whole.
-/
import Derived.Test.YtibkpglgeincdaaDoorSs5
namespace Go.Proofs.YtibkpglgeincdaaDoor.Sb
open Go.RowKit Go.Shelf Go.Lib Go.Sort
set_option linter.unusedVariables false
set_option maxHeartbeats 1000000 in
theorem parts_bad (w : World) (s : Int) (h : ¬ (0 ≤ s ∧ s < 16777216)) :
    Calls Tryd.prog 8 #[.int .i64 s] w fun e w' => e = .returned (.tuple #[.slice none 0 0, errV 3]) ∧ w = w' := by
  have hV := fun W => valid_any W s
  rw [decide_eq_false h] at hV
  go_enter Tryd.func8, Tryd.ntmps8
  go_wp2_with (refine (hV _).mono ?_; rintro e w' ⟨rfl, rfl⟩)
  go_ret2
  exact ⟨rfl, rfl⟩
set_option maxHeartbeats 1000000 in
theorem parts_large (w : World) (s : Nat) (hs : s < 16777216) (h : 10 < pc s) :
    Calls Tryd.prog 8 #[.int .i64 (s : Int)] w fun e w' => e = .returned (.tuple #[.slice none 0 0, errV 4]) ∧ w = w' := by
  have hV := fun W => valid_any W (s : Int)
  rw [decide_eq_true (show (0 : Int) ≤ (s : Int) ∧ (s : Int) < 16777216 by omega)] at hV
  have hC := fun W => count_any W (s : Int)
  rw [cut_nat s hs] at hC
  go_enter Tryd.func8, Tryd.ntmps8
  go_wp2_with (first | (with_reducible refine (hV _).mono ?_; rintro e w' ⟨rfl, rfl⟩) | (with_reducible refine (hC _).mono ?_; rintro e w' ⟨rfl, rfl⟩))
  go_ret2
  exact ⟨rfl, rfl⟩
/-- a list of the subsets, in order, in new memory -/
def GivesParts (w : World) (s : Nat) (e : Ending) (w' : World) : Prop := ∃ A n c l, e = .returned (.tuple #[.slice A n c, errV 0]) ∧ PartsL l s ∧ Rd w' A n c (VI (ints l)) ∧ On w w'
set_option maxRecDepth 100000
theorem shlp (p : Nat) (hp : p ≤ 10) : wrap64 ((2 : Int) ^ p) = ((2 ^ p : Nat) : Int) := shlw p (by omega)
set_option maxHeartbeats 2000000 in
theorem parts_any (w : World) (s : Nat) (hs : s < 16777216) (h : pc s ≤ 10) :
    Calls Tryd.prog 8 #[.int .i64 (s : Int)] w (GivesParts w s) := by
  have hV := fun W => valid_any W (s : Int)
  rw [decide_eq_true (show (0 : Int) ≤ (s : Int) ∧ (s : Int) < 16777216 by omega)] at hV
  have hC := fun W => count_any W (s : Int)
  rw [cut_nat s hs] at hC
  have hc := cnt_le s h
  have hpos := cnt_pos s
  have hmk := run_mk (cnt s) (by omega) w
  have HMK := Lib.hid (row_mk w (cnt s) (by omega))
  have hsh := shlp (pc s) h
  have e0 : ((2 ^ pc s : Nat) : Int) = ((cnt s : Nat) : Int) := rfl
  rw [e0] at hsh
  have h' : ¬ ((pc s : Nat) : Int) > 10 := by omega
  clear e0
  go_enter Tryd.func8, Tryd.ntmps8
  go_wp2_with (first | (with_reducible refine (hV _).mono ?_; rintro e w' ⟨rfl, rfl⟩) | (with_reducible refine (hC _).mono ?_; rintro e w' ⟨rfl, rfl⟩))
  clear hmk hV hC hsh
  go_loopw [4, 5] (fun v p wr => ∃ m : Nat, m < cnt s ∧ p = .int .i64 (pd 24 s (cnt s - 1 - m) : Nat) ∧ wr.ownsRow w.heap.size 3 1 v m (VI (ints (dl s m))) ∧ On w wr) (fun _ p _ => (intOf p).toNat)
  case atStart =>
    have e : pd 24 s (cnt s - 1 - 0) = s := by
      rw [Nat.sub_zero, cnt_pop]; exact pd_full 24 s hs
    exact ⟨0, hpos, by rw [e], HMK.out, (On.refl w).alloc _⟩
  case round =>
    obtain ⟨m, hm, rfl, hrow, hon⟩ := hrel
    obtain ⟨A4, c4, rfl⟩ := row_form hrow
    have hsz := hon.size
    have HR := Lib.hid hrow
    have hsucc := dl_succ s m
    obtain ⟨x, hx⟩ : ∃ x, pd 24 s (cnt s - 1 - m) = x := ⟨_, rfl⟩
    have hxl := pd_lt s (cnt s - 1 - m) hs
    rw [hx] at hsucc hxl ⊢
    have HS := Lib.hid hsucc
    clear hsucc hrow HMK
    have happ : VI (ints (dl s m ++ [x])) = VI (ints (dl s m)) ++ [.int .i64 (x : Int)] := by simp [VI, ints]
    have HA := Lib.hid happ
    clear happ
    by_cases hx0 : 0 < x
    · have hk : 0 < cnt s - 1 - m := by
        rcases Nat.eq_zero_or_pos (cnt s - 1 - m) with h0 | h0
        · rw [h0, pd_zero] at hx; omega
        · exact h0
      obtain ⟨_, hp2⟩ := pd_pred 24 s (cnt s - 1 - m) hk (by rw [← cnt_pop]; omega)
      rw [hx, show cnt s - 1 - m - 1 = cnt s - 1 - (m + 1) by omega] at hp2
      have hand := and_nat (x - 1) s (by omega) hs
      rw [hp2] at hand
      have hle : pd 24 s (cnt s - 1 - (m + 1)) ≤ x - 1 := by rw [← hp2]; exact Nat.and_le_left
      have HN := Lib.hid hand
      have HL := Lib.hid hle
      have hw1 : (x : Int) - 1 = ((x - 1 : Nat) : Int) := by
        clear hand hp2 hx
        omega
      have HW := Lib.hid hw1
      clear hand hp2 hx hw1 hle
      go_wp2_with (at_builtin; refine wpList_app rfl (.tmp 25) (.tmp 27) 27 rfl w.heap.size 3 (.int .i64 0) 8 Tryd.underlying27 infoi rfl (by decide) (.slice A4 m c4) m (VI (ints (dl s m))) rfl (row_alloc HR.out _) (some ⟨wr.heap.size, 0, none⟩) 1 1 [.int .i64 (x : Int)] rfl (rd_one _ _ _) (by simp [Value.oneCell']) (by omega) (by simp; omega) ?_; intro v' w5 hown5 hgrow5 _)
      refine ⟨⟨m + 1, by omega, ?_, ?_, ?_⟩, ?_⟩
      · rw [HW.out, HN.out]
      · rw [HS.out, HA.out]; exact hown5
      · exact on_row (hon.alloc _) (row_alloc HR.out _) (Nat.le_refl _) hgrow5
      · rw [HW.out, HN.out]
        have := HL.out
        simp only [intOf, Int.toNat_natCast]
        omega
    · obtain rfl : x = 0 := by omega
      have hm1 : m = cnt s - 1 := by
        refine Classical.byContradiction fun hne => ?_
        have hk : 0 < cnt s - 1 - m := by omega
        obtain ⟨hp1, _⟩ := pd_pred 24 s (cnt s - 1 - m) hk (by rw [← cnt_pop]; omega)
        omega
      have hm2 : m + 1 = cnt s := by omega
      have HM := Lib.hid hm2
      clear hm1 hm2 hx
      go_wp2_with (first | (at_builtin; refine wpList_app rfl (.tmp 29) (.tmp 30) 27 rfl w.heap.size 3 (.int .i64 0) 8 Tryd.underlying27 infoi rfl (by decide) (.slice A4 m c4) m (VI (ints (dl s m))) rfl (row_alloc HR.out _) (some ⟨wr.heap.size, 0, none⟩) 1 1 [.int .i64 0] rfl (rd_one _ _ _) (by simp [Value.oneCell']) (by omega) (by simp; omega) ?_; intro v' w5 hown5 hgrow5 _) | fail)
      obtain ⟨A5, c5, rfl⟩ := row_form hown5
      have P5 : On w w5 := on_row (hon.alloc _) (row_alloc HR.out _) (Nat.le_refl _) hgrow5
      have e2 : VI (ints (dl s m)) ++ [Value.int .i64 0] = VI (ints (dl s (cnt s))) := by
        rw [← HM.out, HS.out, HA.out]; rfl
      rw [e2, HM.out] at hown5
      rw [HM.out]
      have hS := sort_any w5 w.heap.size A5 c5 s hs hown5
      have H5 := Lib.hid hown5
      clear hown5 e2
      go_wp2_with (refine hS.mono ?_; rintro e w6 ⟨rfl, hrd, hon6⟩)
      go_ret2
      exact ⟨A5, cnt s, c5, _, rfl, sortS_parts s hs, hrd, hon6 w P5 (Nat.le_refl _)⟩
end Go.Proofs.YtibkpglgeincdaaDoor.Sb
