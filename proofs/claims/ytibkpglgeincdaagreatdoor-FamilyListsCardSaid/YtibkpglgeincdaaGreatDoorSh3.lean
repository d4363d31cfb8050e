/-
  Package family: Maximal, walked.
-/
import Derived.Test.YtibkpglgeincdaaGreatDoorSh2
namespace Go.Proofs.YtibkpglgeincdaaGreatDoor.Sb
open Go.RowKit
set_option linter.unusedVariables false
set_option maxRecDepth 100000
set_option maxHeartbeats 4000000 in
theorem Maximal_ok (w : World) (A : Option Addr) (n c : Nat) (k : List Nat) (h : Rd w A n c (VI (ints k))) (hk : Ok k) (hl : k.length ≤ 1024) :
    Calls Tryz.prog 8 #[.slice A n c] w fun e w' => ∃ A n c, e = .returned (.tuple #[.slice A n c, .nilIface]) ∧ Rd w' A n c (VI (ints (maxL k))) ∧ On w w' := by
  have hn : k.length = n := by have := h.len; rw [ints_len] at this; exact this
  have hA := accept1 w A n c _ h
  rw [lerr_ok hk hl, errV_zero] at hA
  have P1 := (On.refl w).alloc (.cells #[.slice A n c] 22)
  have hS := sorted_any (w.alloc (.cells #[.slice A n c] 22)) A n c k (h.alloc _) hk (by omega)
  clear hn h
  go_enter Tryz.func8, Tryz.ntmps8
  go_wp2_with fail
  refine hA.mono ?_
  rintro e w1 ⟨rfl, rfl⟩
  generalize w.alloc (.cells #[.slice A n c] 22) = w1 at *
  clear hA
  go_wp2_with fail
  refine hS.mono ?_
  rintro e w2 ⟨B, m, d, rfl, hnew⟩
  have hR := reverse_any w2 w1.heap.size B m d (sortU k) (sortU_ok hk) hnew.row
  have P2 := hnew.on
  clear hS hnew
  go_wp2_with fail
  refine hR.mono ?_
  rintro e w3 ⟨rfl, R3, hP3⟩
  have P3 := hP3 w1 P2 (Nat.le_refl _)
  have hm : (sortU k).reverse.length = m := by have := R3.len; rw [ints_len] at this; exact this
  have hcap := R3.cap
  have hmax := R3.max
  have HM := Lib.hid hm
  have HR := Lib.hid R3
  clear hR P2 hP3 hm R3
  go_wp2
  go_loopw [5, 21] (fun v i wr => ∃ j : Nat, j ≤ m ∧ i = .int .i64 (j : Int) ∧ wr.ownsRow w3.heap.size 3 1 v (keptX k j).length (VI (ints (keptX k j))) ∧ On w3 wr) (fun _ i _ => m - (intOf i).toNat)
  case atStart => exact ⟨0, by omega, rfl, row_nil _ _ _, On.refl _⟩
  case round =>
    obtain ⟨j, hj, rfl, hrow, hon⟩ := hrel
    obtain ⟨A4, c4, rfl⟩ := row_form hrow
    have HROW := Lib.hid hrow
    clear hrow
    by_cases hlt : j < m
    · have hjl : j < (sortU k).reverse.length := by rw [HM.out]; exact hlt
      obtain ⟨ad, e1, hb, hc⟩ := (HR.out.on hon).at_ j _ (ints_get hjl)
      cases e1
      have hstep := keptX_succ hk hjl
      have hxm := getD_mem hjl
      obtain ⟨x, hx⟩ : ∃ x, (sortU k).reverse.getD j 0 = x := ⟨_, rfl⟩
      rw [hx] at hc hstep hxm
      have hx24 : x < 16777216 := sortU_ok hk x (by simpa using hxm)
      have hok := keptX_ok hk j
      have hql := keptX_len k j
      have hz : On wr (wr.alloc (.cells #[.int .i64 (x : Int)] 3)) := (On.refl wr).alloc _
      have hcz : (wr.alloc (.cells #[.int .i64 (x : Int)] 3)).cell? ⟨wr.heap.size, 0, none⟩ = some (.int .i64 (x : Int)) := by
        rw [(Own.new wr 3 _).cell]; rfl
      have hlt2 : wr.heap.size < (wr.alloc (.cells #[.int .i64 (x : Int)] 3)).heap.size := (Own.new wr 3 #[.int .i64 (x : Int)]).lt
      have hC := contains_any _ w3.heap.size A4 _ c4 (keptX k j) hok (row_on HROW.out hz) wr.heap.size x hx24 hlt2 hcz
      obtain ⟨b, hb2⟩ : ∃ b, inn (keptX k j) x = b := ⟨_, rfl⟩
      obtain ⟨q, hq⟩ : ∃ q, (keptX k j).length = q := ⟨_, rfl⟩
      rw [hb2] at hC hstep
      rw [hq] at hC hql ⊢
      have hrz := row_on HROW.out hz
      rw [hq] at hrz
      have hsz := hon.size
      have HS := Lib.hid hstep
      have HQ := Lib.hid hq
      have HRZ := Lib.hid hrz
      have HZ := Lib.hid hz
      have HCZ := Lib.hid hcz
      have HL2 := Lib.hid hlt2
      have HQL := Lib.hid hql
      clear hx hxm hstep hok hx24 hz hcz hlt2 hb2 hq hrz hql
      go_wp2_with fail
      refine hC.mono ?_
      rintro e w5 ⟨rfl, P5⟩
      have P35 := hon.trans (HZ.out.trans P5)
      have hc5 := (Below.cell P5 (p := ⟨wr.heap.size, 0, none⟩) HL2.out).trans HCZ.out
      have hr5 := row_on HRZ.out P5
      have HR5 := Lib.hid hr5
      have hsz5 := P35.size
      clear hC hr5
      rcases b with _ | _
      · go_wp2_with (at_builtin; refine wpList_app rfl (.tmp 30) (.tmp 32) 22 rfl w3.heap.size 3 (.int .i64 0) 8 Tryz.underlying22 infoi rfl (by decide) (.slice A4 q c4) q (VI (ints (keptX k j))) rfl (row_alloc HR5.out _) (some ⟨w5.heap.size, 0, none⟩) 1 1 [.int .i64 (x : Int)] rfl (rd_one _ _ _) (by simp [Value.oneCell']) (by have := HQL.out; omega) (by simp; omega) ?_; intro v' w6 hown6 hgrow6 _)
        have hs2 : keptX k (j + 1) = keptX k j ++ [x] := by simpa using HS.out
        refine ⟨⟨j + 1, by omega, by go_num, ?_, on_row (P35.alloc _) (row_alloc HR5.out _) (Nat.le_refl _) hgrow6⟩, by simp [intOf]; omega⟩
        rw [hs2, List.length_append, List.length_singleton, VI_snoc, HQ.out]; exact hown6
      · have hs2 : keptX k (j + 1) = keptX k j := by simpa using HS.out
        have HS2 := Lib.hid hs2
        clear hs2
        go_wp2
        go_roundw
        case rel => exact ⟨j + 1, by omega, by go_num, by rw [HS2.out, HQ.out]; exact HR5.out, P35⟩
        case measure => simp [intOf]; omega
    · obtain rfl : j = m := by omega
      have hall := keptX_all k j (by have := HM.out; rw [List.length_reverse] at this; omega)
      have hok := keptX_ok hk j
      have hR := reverse_any wr w3.heap.size A4 _ c4 (keptX k j) hok HROW.out
      rw [hall] at hR
      clear hall hok
      go_wp2_with fail
      refine hR.mono ?_
      rintro e w6 ⟨rfl, R6, hP6⟩
      have P6 := hP6 w3 hon (Nat.le_refl _)
      clear hR hP6
      go_wp2
      go_ret2
      exact ⟨_, _, _, rfl, R6, (P1.trans P3).trans P6⟩
end Go.Proofs.YtibkpglgeincdaaGreatDoor.Sb
