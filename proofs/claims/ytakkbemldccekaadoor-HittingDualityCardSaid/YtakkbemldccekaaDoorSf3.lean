/-
  Package family: minimal.
-/
import Derived.Test.YtakkbemldccekaaDoorSf2
namespace Go.Proofs.YtakkbemldccekaaDoor.Sb
open Go.RowKit
set_option linter.unusedVariables false
set_option maxRecDepth 100000
/-- a list in new memory, or ErrLarge -/
def GivesM (w : World) (l : List Nat) (e : Ending) (w' : World) : Prop := On w w' ∧ ((l.length ≤ 1024 ∧ ∃ A n c, e = .returned (.tuple #[.slice A n c, errV 0]) ∧ Rd w' A n c (VI (ints l))) ∨ (1024 < l.length ∧ e = .returned (.tuple #[.slice none 0 0, errV 4])))
/-- what is kept of the first j -/
def keptL (k : List Nat) (j : Nat) : List Nat := ((sortU k).take j).filter (isMin k)
theorem keptL_zero (k : List Nat) : keptL k 0 = [] := rfl
theorem keptL_all (k : List Nat) (j : Nat) (h : (sortU k).length ≤ j) : keptL k j = minL k := by unfold keptL; rw [List.take_of_length_le h]; rfl
theorem keptL_ok {k : List Nat} (hk : Ok k) (j : Nat) : Ok (keptL k j) := fun x hx => sortU_ok hk x (List.mem_of_mem_take (List.mem_filter.1 hx).1)
theorem keptL_succ {k : List Nat} (hk : Ok k) {j : Nat} (h : j < (sortU k).length) : keptL k (j + 1) = if cov (keptL k j) ((sortU k).getD j 0) then keptL k j else keptL k j ++ [(sortU k).getD j 0] := by
  have hx : (sortU k).getD j 0 = (sortU k)[j] := by simp [h]
  have e : sortU k = (sortU k).take j ++ (sortU k)[j] :: (sortU k).drop (j + 1) := by rw [← List.drop_eq_getElem_cons h, List.take_append_drop]
  have hm := min_upto hk _ _ _ e
  rw [hx]
  unfold keptL
  rw [List.take_add_one, List.getElem?_eq_getElem h, List.filter_append]
  cases hc : cov (((sortU k).take j).filter (isMin k)) (sortU k)[j] with
  | true => rw [hc] at hm; simp [hm]
  | false => rw [hc] at hm; simp [hm]
theorem keptL_le (k : List Nat) (j : Nat) : (keptL k j).length ≤ (minL k).length := by
  unfold keptL minL
  have : (sortU k).filter (isMin k) = ((sortU k).take j).filter (isMin k) ++ ((sortU k).drop j).filter (isMin k) := by rw [← List.filter_append, List.take_append_drop]
  rw [this, List.length_append]; omega
set_option maxHeartbeats 4000000 in
theorem minimal_any (w : World) (A : Option Addr) (n c : Nat) (k : List Nat) (h : Rd w A n c (VI (ints k))) (hk : Ok k) (hsm : n ≤ 1000000000) :
    Calls Tryd.prog 57 #[.slice A n c] w (GivesM w (minL k)) := by
  have hS := sorted_any w A n c k h hk hsm
  go_enter Tryd.func57, Tryd.ntmps57
  go_wp2_with fail
  refine hS.mono ?_
  rintro e w1 ⟨B, m, d, rfl, hnew⟩
  have R1 := hnew.rd
  have P1 := hnew.on
  have hm : (sortU k).length = m := by have := R1.len; rw [ints_len] at this; exact this
  have hcap := R1.cap
  have hmax := R1.max
  have HM := Lib.hid hm
  have HR1 := Lib.hid R1
  clear hS hnew hm R1
  go_wp2
  go_loopw [4, 10] (fun v i wr => ∃ j : Nat, j ≤ m ∧ i = .int .i64 (j : Int) ∧ (keptL k j).length ≤ 1024 ∧ wr.ownsRow w1.heap.size 3 1 v (keptL k j).length (VI (ints (keptL k j))) ∧ On w1 wr) (fun _ i _ => m - (intOf i).toNat)
  case atStart => exact ⟨0, by omega, rfl, by rw [keptL_zero]; decide, row_nil _ _ _, On.refl _⟩
  case round =>
    obtain ⟨j, hj, rfl, hle, hrow, hon⟩ := hrel
    obtain ⟨A4, c4, rfl⟩ := row_form hrow
    have HROW := Lib.hid hrow
    clear hrow
    by_cases hlt : j < m
    · have hjl : j < (sortU k).length := by rw [HM.out]; exact hlt
      obtain ⟨ad, e1, hb, hc⟩ := (HR1.out.on hon).at_ j _ (ints_get hjl)
      cases e1
      have hstep := keptL_succ hk hjl
      have hxm := getD_mem hjl
      obtain ⟨x, hx⟩ : ∃ x, (sortU k).getD j 0 = x := ⟨_, rfl⟩
      rw [hx] at hc hstep hxm
      have hx24 : x < 16777216 := sortU_ok hk x hxm
      have hC := covers_any wr A4 _ c4 (keptL k j) x (rd_of_row HROW.out) (keptL_ok hk j) hx24
      have hge := keptL_le k (j + 1)
      obtain ⟨b, hb2⟩ : ∃ b, cov (keptL k j) x = b := ⟨_, rfl⟩
      rw [hb2] at hC hstep
      obtain ⟨q, hq⟩ : ∃ q, (keptL k j).length = q := ⟨_, rfl⟩
      have HS := Lib.hid hstep
      have HG := Lib.hid hge
      have HQ := Lib.hid hq
      have hsz := hon.size
      rw [hq] at hC hle ⊢
      have HX24 := Lib.hid hx24
      clear hx hxm hstep hge hb2 hq hx24
      rcases b with _ | _
      · by_cases hfull : q = 1024
        · subst hfull
          have hbig : 1024 < (minL k).length := by
            have a1 := HS.out
            have a2 := HG.out
            rw [a1] at a2
            simp only [Bool.false_eq_true, if_false, List.length_append, List.length_singleton, HQ.out] at a2
            omega
          have HB := Lib.hid hbig
          clear hbig
          go_wp2_with (refine hC.mono ?_; rintro e w' ⟨rfl, rfl⟩)
          go_ret2
          exact ⟨P1.trans hon, .inr ⟨HB.out, rfl⟩⟩
        · have hq2 : ¬ (q : Int) = 1024 := by omega
          have hrow := HROW.out
          rw [HQ.out] at hrow
          have HR := Lib.hid hrow
          clear hrow
          go_wp2_with (first | (refine hC.mono ?_; rintro e w' ⟨rfl, rfl⟩) | (at_builtin; refine wpList_app rfl (.tmp 21) (.tmp 23) 22 rfl w1.heap.size 3 (.int .i64 0) 8 Tryd.underlying22 infoi rfl (by decide) (.slice A4 q c4) q (VI (ints (keptL k j))) rfl (row_alloc HR.out _) (some ⟨wr.heap.size, 0, none⟩) 1 1 [.int .i64 (x : Int)] rfl (rd_one _ _ _) (by simp [Value.oneCell']) (by omega) (by simp; omega) ?_; intro v' w5 hown5 hgrow5 _))
          have hs2 : keptL k (j + 1) = keptL k j ++ [x] := by
            have a1 := HS.out
            simpa using a1
          refine ⟨⟨j + 1, by omega, by go_num, ?_, ?_, ?_⟩, by simp [intOf]; omega⟩
          · rw [hs2, List.length_append, HQ.out, List.length_singleton]; omega
          · rw [hs2, List.length_append, HQ.out, List.length_singleton, VI_snoc]; exact hown5
          · exact on_row (hon.alloc _) (row_alloc HR.out _) (Nat.le_refl _) hgrow5
      · go_wp2_with (refine hC.mono ?_; rintro e w' ⟨rfl, rfl⟩)
        have hs2 : keptL k (j + 1) = keptL k j := by
          have a1 := HS.out
          simpa using a1
        refine ⟨⟨j + 1, by omega, by go_num, ?_, ?_, hon⟩, by simp [intOf]; omega⟩
        · rw [hs2, HQ.out]; exact hle
        · have := HROW.out
          rw [HQ.out] at this
          rw [hs2, HQ.out]; exact this
    · obtain rfl : j = m := by omega
      have hall := keptL_all k j (by rw [HM.out]; omega)
      have hrd := rd_of_row HROW.out
      have HA := Lib.hid hall
      have HRD := Lib.hid hrd
      have HLE := Lib.hid hle
      clear hall hrd hle
      go_wp2
      go_ret2
      refine ⟨P1.trans hon, .inl ⟨by rw [← HA.out]; exact HLE.out, _, _, _, rfl, ?_⟩⟩
      rw [← HA.out]; exact HRD.out
end Go.Proofs.YtakkbemldccekaaDoor.Sb
