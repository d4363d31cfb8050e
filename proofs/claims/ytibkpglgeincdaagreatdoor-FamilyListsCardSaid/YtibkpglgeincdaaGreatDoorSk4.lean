/-
  The specification's Sizes, for lists of sets.
-/
import Derived.Test.YtibkpglgeincdaaGreatDoorSk2
namespace Go.Proofs.YtibkpglgeincdaaGreatDoor.Sb
open Go.RowKit
set_option linter.unusedVariables false
set_option maxRecDepth 100000
set_option maxHeartbeats 4000000 in
theorem rSizes_ok (w : World) (A : Option Addr) (n c : Nat) (k : List Nat) (h : Rd w A n c (VI (ints k))) (hk : Ok k) (hl : k.length ≤ 1024) :
    Calls Tryz.prog 16 #[.slice A n c] w fun e w' => ∃ A n c, e = .returned (.tuple #[.slice A n c, .int .i64 0]) ∧ Rd w' A n c (VI (ints (szs (sortU k)))) ∧ On w w' := by
  have hn : k.length = n := by have := h.len; rw [ints_len] at this; exact this
  have hA := Error_any w A n c _ h
  rw [lerr_ok hk hl] at hA
  have hS := rsort_any n w A n c k (Nat.le_refl _) h hk (by omega)
  clear hn h
  go_enter Tryz.func16, Tryz.ntmps16
  go_wp2_with fail
  refine hA.mono ?_
  rintro e w' ⟨rfl, rfl⟩
  clear hA
  go_wp2_with fail
  refine hS.mono ?_
  rintro e w2 ⟨B, m, d, rfl, R2, P2⟩
  have hm : (sortU k).length = m := by have := R2.len; rw [ints_len] at this; exact this
  have hm2 : m ≤ 1024 := by have := sortU_len k; omega
  have hcap := R2.cap
  have hmax := R2.max
  have HM := Lib.hid hm
  have HR := Lib.hid R2
  clear hS hm R2
  go_wp2
  go_loopw [5, 16] (fun v i wr => ∃ j : Nat, j ≤ m ∧ i = .int .i64 (j : Int) ∧ wr.ownsRow w2.heap.size 3 1 v (szs ((sortU k).take j)).length (VI (ints (szs ((sortU k).take j)))) ∧ On w2 wr) (fun _ i _ => m - (intOf i).toNat)
  case atStart => exact ⟨0, by omega, rfl, row_nil _ _ _, On.refl _⟩
  case round =>
    obtain ⟨j, hj, rfl, hrow, hon⟩ := hrel
    obtain ⟨A4, c4, rfl⟩ := row_form hrow
    obtain ⟨wo, hwo⟩ : ∃ wo, wo = wr := ⟨_, rfl⟩
    subst hwo
    have HROW := Lib.hid hrow
    clear hrow
    by_cases hlt : j < m
    · have hjl : j < (sortU k).length := by rw [HM.out]; exact hlt
      obtain ⟨ad, e1, hb, hc⟩ := (HR.out.on hon).at_ j _ (ints_get hjl)
      cases e1
      have hstep := szs_take hjl
      have hxm := sortU_ok hk _ (getD_mem hjl)
      have hsum := szs_sum ((sortU k).take j)
      rw [List.length_take, HM.out] at hsum
      have hlen := szs_len ((sortU k).take j)
      obtain ⟨x, hx⟩ : ∃ x, (sortU k).getD j 0 = x := ⟨_, rfl⟩
      rw [hx] at hc hstep hxm
      have hC := fun W => rcount_any W (x : Int)
      rw [cut_nat x hxm] at hC
      have hp24 := pc_le x
      obtain ⟨p, hp⟩ : ∃ p, pc x = p := ⟨_, rfl⟩
      rw [hp] at hC hstep hp24
      obtain ⟨L, hL⟩ : ∃ L, szs ((sortU k).take j) = L := ⟨_, rfl⟩
      have hrow2 := HROW.out
      rw [hL] at hstep hsum hlen hrow2 ⊢
      have HST := Lib.hid hstep
      have HROW2 := Lib.hid hrow2
      have HSUM := Lib.hid hsum
      clear hx hxm hstep hp hL hrow2 HROW hsum
      go_wp2
      go_loopw [5] (fun v wr => ∃ q : Nat, L.length + q ≤ max L.length (p + 1) ∧ wr.ownsRow w2.heap.size 3 1 v (padTo L q).length (VI (ints (padTo L q))) ∧ On w2 wr) (fun v _ => 26 - lenV v)
      case atStart => exact ⟨0, by omega, by unfold padTo; simpa using HROW2.out, hon⟩
      case round =>
        obtain ⟨q, hq, hrow, hon2⟩ := hrel
        obtain ⟨A5, c5, rfl⟩ := row_form hrow
        have HR5 := Lib.hid hrow
        have hpl := padTo_len L q
        have hsz := hon2.size
        clear hrow
        obtain ⟨N, hN⟩ : ∃ N, (padTo L q).length = N := ⟨_, rfl⟩
        rw [hN] at hpl
        have hr := HR5.out
        rw [hN] at hr ⊢
        have HR6 := Lib.hid hr
        have HNN := Lib.hid hN
        clear hr hN HR5
        by_cases hle : N ≤ p
        · have hle2 : (N : Int) ≤ (p : Int) := by omega
          have HPL := Lib.hid hpl
          have hNs : N ≤ 60 := by omega
          clear hpl
          go_wp2_with (first | (with_reducible refine (hC _).mono ?_; rintro e w' ⟨rfl, rfl⟩) | (at_builtin; refine wpList_app rfl (.tmp 25) (.tmp 26) 22 rfl w2.heap.size 3 (.int .i64 0) 8 Tryz.underlying22 infoi rfl (by decide) (.slice A5 N c5) N (VI (ints (padTo L q))) rfl (row_alloc HR6.out _) (some ⟨wr.heap.size, 0, none⟩) 1 1 [.int .i64 0] rfl (rd_one _ _ _) (by simp [Value.oneCell']) (by omega) (by simp; omega) ?_; intro v' w5 hown5 hgrow5 _))
          have hpl := HPL.out
          obtain ⟨A6, c6, rfl⟩ := row_form hown5
          refine ⟨⟨q + 1, by omega, ?_, on_row (hon2.alloc _) (row_alloc HR6.out _) (Nat.le_refl _) hgrow5⟩, by simp [lenV]; omega⟩
          rw [padTo_succ, List.length_append, List.length_singleton, VI_snoc, HNN.out]; exact hown5
        · have hle2 : ¬ (N : Int) ≤ (p : Int) := by omega
          have hpN : p < N := by omega
          have epad : padTo L q = pad L p := by
            unfold padTo pad
            congr 2
            omega
          obtain ⟨g, cur, rfl, hg, ho, hcell⟩ := row_block2 HR6.out (by omega)
          have hpl2 : p < (padTo L q).length := by rw [HNN.out]; exact hpN
          have hc1 := hcell p _ (ints_get hpl2)
          have hfz := ho.frozen p
          have hval : (padTo L q).getD p 0 ≤ 1024 := by
            have a1 := le_sum (padTo L q) p
            have a2 : (padTo L q).sum = L.sum := by rw [epad, pad_sum]
            have := HSUM.out
            omega
          obtain ⟨y, hy⟩ : ∃ y, (padTo L q).getD p 0 = y := ⟨_, rfl⟩
          rw [hy] at hc1 hval
          have hw : wrap64 ((y : Int) + 1) = ((y + 1 : Nat) : Int) := by clear hcell; unfold wrap64; omega
          have hs2 : szs ((sortU k).take (j + 1)) = (padTo L q).set p (y + 1) := by
            rw [HST.out, ← hy, epad]; rfl
          have HS2 := Lib.hid hs2
          have HOW := Lib.hid hg
          have q0 : (0 : Int) ≤ (p : Int) := by omega
          have q1 : (p : Int) < (N : Int) := by omega
          clear hs2 hy hpl2 epad hcell ho hg hpl
          go_wp2_with (with_reducible refine (hC _).mono ?_; rintro e w' ⟨rfl, rfl⟩)
          go_roundw
          case rel =>
            refine ⟨j + 1, by omega, by go_num, ?_, hon2.setCell (by have := HOW.out; omega) _⟩
            rw [HS2.out, List.length_set, HNN.out, ← VI_set]
            first | exact row_set HR6.out _ | (have h9 := row_set (i := p) HR6.out (.int .i64 ((y + 1 : Nat) : Int)); exact h9)
          case measure => simp [intOf]; omega
    · obtain rfl : j = m := by omega
      have e0 : (sortU k).take j = sortU k := List.take_of_length_le (by rw [HM.out]; omega)
      have hrd := rd_of_row HROW.out
      have E0 := Lib.hid e0
      have HRD := Lib.hid hrd
      clear e0 hrd
      go_wp2
      go_ret2
      exact ⟨_, _, _, rfl, by have := HRD.out; rw [E0.out] at this; rw [E0.out]; exact this, P2.trans hon⟩
end Go.Proofs.YtibkpglgeincdaaGreatDoor.Sb
