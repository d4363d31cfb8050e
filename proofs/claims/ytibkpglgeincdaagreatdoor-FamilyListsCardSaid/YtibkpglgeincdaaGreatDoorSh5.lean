/-
  Package family: Sizes.
-/
import Derived.Test.YtibkpglgeincdaaGreatDoorSh1
import Derived.Test.YtibkpglgeincdaaGreatDoorSg1
namespace Go.Proofs.YtibkpglgeincdaaGreatDoor.Sb
open Go.RowKit
set_option linter.unusedVariables false
set_option maxRecDepth 100000
theorem row_set {w : World} {base g n c i : Nat} {t : TypeId} {xs : List Value} (h : w.ownsRow base t 1 (.slice (some ⟨g, 0, none⟩) n c) n xs) (u : Value) : (w.setCell ⟨g, i, none⟩ u).ownsRow base t 1 (.slice (some ⟨g, 0, none⟩) n c) n (xs.set i u) := by
  refine ⟨by rw [List.length_set]; exact h.1, ?_⟩
  rcases h.2 with ⟨hv, _⟩ | ⟨g', cap, cur, hv, hb, hh, hcap, hmax, hsz, htake⟩
  · injection hv with h1 _ _
    cases h1
  · injection hv with h1 h2 h3
    injection h1 with h1
    injection h1 with h1 _ _
    subst h1
    subst h3
    have ho : Own w g t cur := hh
    refine .inr ⟨g, c, cur.setIfInBounds i u, rfl, hb, ho.set_ i u, hcap, hmax, by simp [hsz], ?_⟩
    rw [Array.toList_setIfInBounds, List.take_set, htake]
theorem VI_set (l : List Nat) (i x : Nat) : (VI (ints l)).set i (.int .i64 (x : Int)) = VI (ints (l.set i x)) := by
  unfold VI ints
  rw [List.map_set, List.map_set]
/-- one set more of p elements -/
def pad (L : List Nat) (p : Nat) : List Nat := L ++ List.replicate (p + 1 - L.length) 0
def szAdd (L : List Nat) (p : Nat) : List Nat := (pad L p).set p ((pad L p).getD p 0 + 1)
theorem pad_len (L : List Nat) (p : Nat) : p < (pad L p).length := by unfold pad; rw [List.length_append, List.length_replicate]; omega
theorem pad_sum (L : List Nat) (p : Nat) : (pad L p).sum = L.sum := by unfold pad; simp
theorem sum_set (L : List Nat) : ∀ (p : Nat), p < L.length → (L.set p (L.getD p 0 + 1)).sum = L.sum + 1 := by
  induction L with
  | nil => intro p hp; simp at hp
  | cons x L ih =>
    intro p hp
    rcases p with _ | p
    · simp only [List.set_cons_zero, List.sum_cons, List.getD_cons_zero]; omega
    · have := ih p (by simpa using hp)
      simp only [List.set_cons_succ, List.sum_cons, List.getD_cons_succ]
      omega
theorem szAdd_sum (L : List Nat) (p : Nat) : (szAdd L p).sum = L.sum + 1 := by
  unfold szAdd
  rw [sum_set _ _ (pad_len L p), pad_sum]
theorem le_sum (L : List Nat) : ∀ p, L.getD p 0 ≤ L.sum := by
  induction L with
  | nil => intro p; simp
  | cons x L ih =>
    intro p
    rcases p with _ | p
    · simp
    · have := ih p
      simp only [List.getD_cons_succ, List.sum_cons]; omega
theorem szAdd_len (L : List Nat) (p : Nat) (hp : p ≤ 24) (hL : L.length ≤ 25) : (szAdd L p).length ≤ 25 := by
  unfold szAdd pad
  rw [List.length_set, List.length_append, List.length_replicate]; omega
/-- how many sets of each size -/
def szs (l : List Nat) : List Nat := l.foldl (fun L s => szAdd L (pc s)) []
theorem szs_take {l : List Nat} {j : Nat} (h : j < l.length) : szs (l.take (j + 1)) = szAdd (szs (l.take j)) (pc (l.getD j 0)) := by
  unfold szs
  rw [take_get h, List.foldl_append]; rfl
theorem szs_sum (l : List Nat) : (szs l).sum = l.length := by
  have key : ∀ (l L : List Nat), (l.foldl (fun L s => szAdd L (pc s)) L).sum = L.sum + l.length := by
    intro l
    induction l with
    | nil => intro L; rfl
    | cons x l ih => intro L; rw [List.foldl_cons, ih, szAdd_sum, List.length_cons]; omega
  have := key l []
  simpa [szs] using this
theorem szs_len (l : List Nat) : (szs l).length ≤ 25 := by
  have key : ∀ (l L : List Nat), L.length ≤ 25 → (l.foldl (fun L s => szAdd L (pc s)) L).length ≤ 25 := by
    intro l
    induction l with
    | nil => intro L h; exact h
    | cons x l ih => intro L h; rw [List.foldl_cons]; exact ih _ (szAdd_len _ _ (pc_le x) h)
  exact key l [] (by simp)
/-- with q zeros behind -/
def padTo (L : List Nat) (q : Nat) : List Nat := L ++ List.replicate q 0
theorem padTo_succ (L : List Nat) (q : Nat) : padTo L (q + 1) = padTo L q ++ [0] := by unfold padTo; rw [List.replicate_succ', List.append_assoc]
theorem padTo_len (L : List Nat) (q : Nat) : (padTo L q).length = L.length + q := by unfold padTo; simp
set_option maxHeartbeats 4000000 in
theorem Sizes_ok (w : World) (A : Option Addr) (n c : Nat) (k : List Nat) (h : Rd w A n c (VI (ints k))) (hk : Ok k) (hl : k.length ≤ 1024) :
    Calls Tryz.prog 10 #[.slice A n c] w fun e w' => ∃ A n c, e = .returned (.tuple #[.slice A n c, .nilIface]) ∧ Rd w' A n c (VI (ints (szs (sortU k)))) ∧ On w w' := by
  have hn : k.length = n := by have := h.len; rw [ints_len] at this; exact this
  have hA := accept1 w A n c _ h
  rw [lerr_ok hk hl, errV_zero] at hA
  have P1 := (On.refl w).alloc (.cells #[.slice A n c] 22)
  have hS := sorted_any (w.alloc (.cells #[.slice A n c] 22)) A n c k (h.alloc _) hk (by omega)
  clear hn h
  go_enter Tryz.func10, Tryz.ntmps10
  go_wp2_with fail
  refine hA.mono ?_
  rintro e w1 ⟨rfl, rfl⟩
  generalize w.alloc (.cells #[.slice A n c] 22) = w1 at *
  clear hA
  go_wp2_with fail
  refine hS.mono ?_
  rintro e w2 ⟨B, m, d, rfl, hnew⟩
  have R2 := hnew.rd
  have P2 := P1.trans hnew.on
  have hm : (sortU k).length = m := by have := R2.len; rw [ints_len] at this; exact this
  have hm2 : m ≤ 1024 := by have := sortU_len k; omega
  have hcap := R2.cap
  have hmax := R2.max
  have HM := Lib.hid hm
  have HR := Lib.hid R2
  clear hS hnew P1 hm R2
  go_wp2
  go_loopw [5, 18] (fun v i wr => ∃ j : Nat, j ≤ m ∧ i = .int .i64 (j : Int) ∧ wr.ownsRow w2.heap.size 3 1 v (szs ((sortU k).take j)).length (VI (ints (szs ((sortU k).take j)))) ∧ On w2 wr) (fun _ i _ => m - (intOf i).toNat)
  case atStart => exact ⟨0, by omega, rfl, row_nil _ _ _, On.refl _⟩
  case round =>
    obtain ⟨j, hj, rfl, hrow, hon⟩ := hrel
    obtain ⟨A4, c4, rfl⟩ := row_form hrow
    obtain ⟨wo, hwo⟩ : ∃ wo, wo = wr := ⟨_, rfl⟩
    subst hwo
    have HROW := Lib.hid hrow
    clear hrow
    by_cases hlt : j < m
    · have hjl : j < (sortU k).length := by rw [HM.out]; exact hlt
      obtain ⟨ad, e1, hb, hc⟩ := (HR.out.on hon).at_ j _ (ints_get hjl)
      cases e1
      have hstep := szs_take hjl
      have hxm := sortU_ok hk _ (getD_mem hjl)
      have hsum := szs_sum ((sortU k).take j)
      rw [List.length_take, HM.out] at hsum
      have hlen := szs_len ((sortU k).take j)
      obtain ⟨x, hx⟩ : ∃ x, (sortU k).getD j 0 = x := ⟨_, rfl⟩
      rw [hx] at hc hstep hxm
      have hC := fun W => count_any W (x : Int)
      rw [cut_nat x hxm] at hC
      have hp24 := pc_le x
      obtain ⟨p, hp⟩ : ∃ p, pc x = p := ⟨_, rfl⟩
      rw [hp] at hC hstep hp24
      obtain ⟨L, hL⟩ : ∃ L, szs ((sortU k).take j) = L := ⟨_, rfl⟩
      have hrow2 := HROW.out
      rw [hL] at hstep hsum hlen hrow2 ⊢
      have HST := Lib.hid hstep
      have HROW2 := Lib.hid hrow2
      have HSUM := Lib.hid hsum
      clear hx hxm hstep hp hL hrow2 HROW hsum
      go_wp2_with (refine (hC _).mono ?_; rintro e w' ⟨rfl, rfl⟩)
      clear hC
      go_loopw [5] (fun v wr => ∃ q : Nat, L.length + q ≤ max L.length (p + 1) ∧ wr.ownsRow w2.heap.size 3 1 v (padTo L q).length (VI (ints (padTo L q))) ∧ On w2 wr) (fun v _ => 26 - lenV v)
      case atStart => exact ⟨0, by omega, by unfold padTo; simpa using HROW2.out, hon⟩
      case round =>
        obtain ⟨q, hq, hrow, hon2⟩ := hrel
        obtain ⟨A5, c5, rfl⟩ := row_form hrow
        have HR5 := Lib.hid hrow
        have hpl := padTo_len L q
        have hsz := hon2.size
        clear hrow
        obtain ⟨N, hN⟩ : ∃ N, (padTo L q).length = N := ⟨_, rfl⟩
        rw [hN] at hpl
        have hr := HR5.out
        rw [hN] at hr ⊢
        have HR6 := Lib.hid hr
        have HNN := Lib.hid hN
        clear hr hN HR5
        by_cases hle : N ≤ p
        · have hle2 : (N : Int) ≤ (p : Int) := by omega
          go_wp2_with (at_builtin; refine wpList_app rfl (.tmp 28) (.tmp 29) 22 rfl w2.heap.size 3 (.int .i64 0) 8 Tryz.underlying22 infoi rfl (by decide) (.slice A5 N c5) N (VI (ints (padTo L q))) rfl (row_alloc HR6.out _) (some ⟨wr.heap.size, 0, none⟩) 1 1 [.int .i64 0] rfl (rd_one _ _ _) (by simp [Value.oneCell']) (by omega) (by simp; omega) ?_; intro v' w5 hown5 hgrow5 _)
          obtain ⟨A6, c6, rfl⟩ := row_form hown5
          refine ⟨⟨q + 1, by omega, ?_, on_row (hon2.alloc _) (row_alloc HR6.out _) (Nat.le_refl _) hgrow5⟩, by simp [lenV]; omega⟩
          rw [padTo_succ, List.length_append, List.length_singleton, VI_snoc, HNN.out]; exact hown5
        · have hle2 : ¬ (N : Int) ≤ (p : Int) := by omega
          have hpN : p < N := by omega
          have epad : padTo L q = pad L p := by
            unfold padTo pad
            congr 2
            omega
          obtain ⟨g, cur, rfl, hg, ho, hcell⟩ := row_block2 HR6.out (by omega)
          have hpl2 : p < (padTo L q).length := by rw [HNN.out]; exact hpN
          have hc1 := hcell p _ (ints_get hpl2)
          have hfz := ho.frozen p
          have hval : (padTo L q).getD p 0 ≤ 1024 := by
            have a1 := le_sum (padTo L q) p
            have a2 : (padTo L q).sum = L.sum := by rw [epad, pad_sum]
            have := HSUM.out
            omega
          obtain ⟨y, hy⟩ : ∃ y, (padTo L q).getD p 0 = y := ⟨_, rfl⟩
          rw [hy] at hc1 hval
          have hw : wrap64 ((y : Int) + 1) = ((y + 1 : Nat) : Int) := by clear hcell; unfold wrap64; omega
          have hs2 : szs ((sortU k).take (j + 1)) = (padTo L q).set p (y + 1) := by
            rw [HST.out, ← hy, epad]; rfl
          have HS2 := Lib.hid hs2
          have HOW := Lib.hid hg
          have q0 : (0 : Int) ≤ (p : Int) := by omega
          have q1 : (p : Int) < (N : Int) := by omega
          clear hs2 hy hpl2 epad hcell ho hg
          go_wp2
          go_roundw
          case rel =>
            refine ⟨j + 1, by omega, by go_num, ?_, hon2.setCell (by have := HOW.out; omega) _⟩
            rw [HS2.out, List.length_set, HNN.out, ← VI_set]
            first | exact row_set HR6.out _ | (have h9 := row_set (i := p) HR6.out (.int .i64 ((y + 1 : Nat) : Int)); exact h9)
          case measure => simp [intOf]; omega
    · obtain rfl : j = m := by omega
      have e0 : (sortU k).take j = sortU k := List.take_of_length_le (by rw [HM.out]; omega)
      have hrd := rd_of_row HROW.out
      have E0 := Lib.hid e0
      have HRD := Lib.hid hrd
      clear e0 hrd
      go_wp2
      go_ret2
      exact ⟨_, _, _, rfl, by have := HRD.out; rw [E0.out] at this; rw [E0.out]; exact this, P2.trans hon⟩
end Go.Proofs.YtibkpglgeincdaaGreatDoor.Sb
