/-
  The specification's Maximal, for lists of sets.
-/
import Derived.Test.YtibkpglgeincdaaGreatDoorSk2
namespace Go.Proofs.YtibkpglgeincdaaGreatDoor.Sb
open Go.RowKit
set_option linter.unusedVariables false
set_option maxRecDepth 100000
/-- s is a proper part of some set of l -/
def supP (l : List Nat) (s : Nat) : Bool := l.any fun x => (s != x) && (s &&& x == s)
theorem supP_take {l : List Nat} {q : Nat} (h : q < l.length) (s : Nat) : supP (l.take (q + 1)) s = (supP (l.take q) s || ((s != l.getD q 0) && (s &&& l.getD q 0 == s))) := by
  unfold supP
  rw [take_get h, List.any_append]; simp
theorem isMax_sup (l : List Nat) (s : Nat) : isMax l s = !supP l s := by
  unfold isMax supP
  induction l with
  | nil => rfl
  | cons x l ih =>
    rw [List.all_cons, List.any_cons, ih]
    generalize l.any (fun x => (s != x) && (s &&& x == s)) = r
    by_cases h : x = s
    · subst h
      rw [beq_self_eq_true, Bool.or_true, Bool.true_and, bne_self_eq_false, Bool.false_and, Bool.false_or]
    · have e1 : (x == s) = false := beq_eq_false_iff_ne.2 h
      have e2 : (s != x) = true := by rw [bne_iff_ne]; exact fun e => h e.symm
      rw [e1, e2, Bool.or_false, Bool.true_and]
      cases (s &&& x == s) <;> cases r <;> rfl
def keptM (k : List Nat) (j : Nat) : List Nat := ((sortU k).take j).filter (isMax k)
theorem keptM_succ {k : List Nat} {j : Nat} (h : j < (sortU k).length) : keptM k (j + 1) = keptM k j ++ (if supP k ((sortU k).getD j 0) then [] else [(sortU k).getD j 0]) := by
  unfold keptM
  rw [take_get h, List.filter_append, List.filter_cons, isMax_sup]
  cases supP k ((sortU k).getD j 0) <;> simp
theorem keptM_all (k : List Nat) (j : Nat) (h : (sortU k).length ≤ j) : keptM k j = maxL k := by
  unfold keptM maxL
  rw [List.take_of_length_le h]
theorem keptM_len (k : List Nat) (j : Nat) : (keptM k j).length ≤ (sortU k).length := by
  unfold keptM
  refine Nat.le_trans (List.length_filter_le _ _) ?_
  rw [List.length_take]; omega
set_option maxHeartbeats 4000000 in
theorem rMaximal_ok (w : World) (A : Option Addr) (n c : Nat) (k : List Nat) (h : Rd w A n c (VI (ints k))) (hk : Ok k) (hl : k.length ≤ 1024) :
    Calls Tryz.prog 14 #[.slice A n c] w fun e w' => ∃ A n c, e = .returned (.tuple #[.slice A n c, .int .i64 0]) ∧ Rd w' A n c (VI (ints (maxL k))) ∧ On w w' := by
  have hn : k.length = n := by have := h.len; rw [ints_len] at this; exact this
  have hA := Error_any w A n c _ h
  rw [lerr_ok hk hl] at hA
  have hS := rsort_any n w A n c k (Nat.le_refl _) h hk (by omega)
  have hcapk := h.cap
  have hmaxk := h.max
  have H := Lib.hid h
  have HN := Lib.hid hn
  clear h
  go_enter Tryz.func14, Tryz.ntmps14
  go_wp2_with fail
  refine hA.mono ?_
  rintro e w' ⟨rfl, rfl⟩
  go_wp2_with fail
  refine hS.mono ?_
  rintro e w1 ⟨B, m, d, rfl, R1, P1⟩
  have hm : (sortU k).length = m := by have := R1.len; rw [ints_len] at this; exact this
  have hmn : m ≤ 1000000 := by have := sortU_len k; omega
  have hn1 : n ≤ 1024 := by omega
  have hcap := R1.cap
  have hmax := R1.max
  have HM := Lib.hid hm
  have HR1 := Lib.hid R1
  have HK := Lib.hid (H.out.on P1)
  clear hS hm R1 hn hA
  go_wp2
  go_loopw [5, 19] (fun v i wr => ∃ j : Nat, j ≤ m ∧ i = .int .i64 (j : Int) ∧ wr.ownsRow w1.heap.size 3 1 v (keptM k j).length (VI (ints (keptM k j))) ∧ On w1 wr) (fun _ i _ => m - (intOf i).toNat)
  case atStart => exact ⟨0, by omega, rfl, row_nil _ _ _, On.refl _⟩
  case round =>
    obtain ⟨j, hj, rfl, hrow, hon⟩ := hrel
    obtain ⟨A4, c4, rfl⟩ := row_form hrow
    obtain ⟨wo, hwo⟩ : ∃ wo, wo = wr := ⟨_, rfl⟩
    subst hwo
    have HROW := Lib.hid hrow
    clear hrow
    by_cases hlt : j < m
    · have hjl : j < (sortU k).length := by rw [HM.out]; exact hlt
      obtain ⟨ad, e1, hb, hc⟩ := (HR1.out.on hon).at_ j _ (ints_get hjl)
      cases e1
      have hstep := keptM_succ hjl
      have hxm := sortU_ok hk _ (getD_mem hjl)
      have hql : (keptM k j).length ≤ 1000000 := by
        have a1 := keptM_len k j
        have := HM.out
        omega
      obtain ⟨x, hx⟩ : ∃ x, (sortU k).getD j 0 = x := ⟨_, rfl⟩
      rw [hx] at hc hstep hxm
      obtain ⟨q, hq⟩ : ∃ q, (keptM k j).length = q := ⟨_, rfl⟩
      have hrow2 := HROW.out
      rw [hq] at hrow2 hql ⊢
      have HS := Lib.hid hstep
      have HQ := Lib.hid hq
      have HROW2 := Lib.hid hrow2
      have HX24 := Lib.hid hxm
      have HKo := Lib.hid (HK.out.on hon)
      clear hx hxm hstep hq hrow2 HROW
      go_wp2
      go_loopw [8, 25] (fun b i wr => ∃ p : Nat, p ≤ n ∧ i = .int .i64 (p : Int) ∧ b = .bool (!supP (k.take p) x) ∧ wo = wr) (fun _ i _ => n - (intOf i).toNat)
      case atStart => exact ⟨0, by omega, rfl, rfl, rfl⟩
      case round =>
        obtain ⟨p, hp, rfl, rfl, hwq⟩ := hrel
        subst hwq
        by_cases hlt2 : p < n
        · have hpl : p < k.length := by rw [HN.out]; exact hlt2
          obtain ⟨ad2, e2, hb2, hc2⟩ := HKo.out.at_ p _ (ints_get hpl)
          cases e2
          have hst := supP_take hpl x
          have hym := hk _ (getD_mem hpl)
          obtain ⟨y, hy⟩ : ∃ y, k.getD p 0 = y := ⟨_, rfl⟩
          rw [hy] at hc2 hst hym
          have hP := fun W => rpart_any W x y HX24.out hym
          obtain ⟨b2, hb3⟩ : ∃ b, ((x != y) && (x &&& y == x)) = b := ⟨_, rfl⟩
          rw [hb3] at hP hst
          obtain ⟨b1, hb1⟩ : ∃ b, supP (k.take p) x = b := ⟨_, rfl⟩
          rw [hb1] at hst ⊢
          have HST := Lib.hid hst
          clear hy hym hb3 hb1 hst
          rcases b1 with _ | _
          · go_wp2_with (refine (hP _).mono ?_; rintro e w' ⟨rfl, rfl⟩)
            go_roundw
            case rel => exact ⟨p + 1, by omega, by go_num, by rw [HST.out]; rfl, trivial⟩
            case measure => simp [intOf]; omega
          · go_wp2
            go_roundw
            case rel => exact ⟨p + 1, by omega, by go_num, by rw [HST.out]; rfl, trivial⟩
            case measure => simp [intOf]; omega
        · obtain rfl : p = n := by omega
          have hall : k.take p = k := List.take_of_length_le (by rw [HN.out]; omega)
          rw [hall]
          obtain ⟨b, hb3⟩ : ∃ b, supP k x = b := ⟨_, rfl⟩
          have hs3 := HS.out
          rw [hb3] at hs3 ⊢
          have HS3 := Lib.hid hs3
          have hsz := hon.size
          clear hall hb3 hs3
          rcases b with _ | _
          · go_wp2_with (at_builtin; refine wpList_app rfl (.tmp 38) (.tmp 40) 22 rfl w1.heap.size 3 (.int .i64 0) 8 Tryz.underlying22 infoi rfl (by decide) (.slice A4 q c4) q (VI (ints (keptM k j))) rfl (row_alloc HROW2.out _) (some ⟨wo.heap.size, 0, none⟩) 1 1 [.int .i64 (x : Int)] rfl (rd_one _ _ _) (by simp [Value.oneCell']) (by omega) (by simp; omega) ?_; intro v' w5 hown5 hgrow5 _)
            have hs2 : keptM k (j + 1) = keptM k j ++ [x] := by simpa using HS3.out
            refine ⟨⟨j + 1, by omega, by go_num, ?_, on_row (hon.alloc _) (row_alloc HROW2.out _) (Nat.le_refl _) hgrow5⟩, by simp [intOf]; omega⟩
            rw [hs2, List.length_append, List.length_singleton, VI_snoc, HQ.out]; exact hown5
          · have hs2 : keptM k (j + 1) = keptM k j := by simpa using HS3.out
            have HS2 := Lib.hid hs2
            clear hs2
            go_wp2
            go_roundw
            case rel => exact ⟨j + 1, by omega, by go_num, by rw [HS2.out, HQ.out]; exact HROW2.out, hon⟩
            case measure => simp [intOf]; omega
    · obtain rfl : j = m := by omega
      have hall := keptM_all k j (by rw [HM.out]; omega)
      have hrd := rd_of_row HROW.out
      have HALL := Lib.hid hall
      have HRD := Lib.hid hrd
      clear hall hrd
      go_wp2
      go_ret2
      exact ⟨_, _, _, rfl, by have := HRD.out; rw [HALL.out] at this; rw [HALL.out]; exact this, P1.trans hon⟩
end Go.Proofs.YtibkpglgeincdaaGreatDoor.Sb
