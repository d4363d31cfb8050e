/-
  Package family: Check.
-/
import Derived.Test.YtakkbemldccekaaDoorSf8
import Derived.Test.YtakkbemldccekaaDoorSg1
namespace Go.Proofs.YtakkbemldccekaaDoor.Sb
open Go.RowKit
set_option linter.unusedVariables false
set_option maxRecDepth 100000
theorem getD_get {k : List Nat} {i : Nat} (h : i < k.length) : k.getD i 0 = k[i] := by simp [h]
theorem asc_step {k : List Nat} {i : Nat} (h : i + 1 < k.length) (ha : Asc (k.take (i + 1))) (hc : cmpS (k.getD i 0) (k.getD (i + 1) 0) < 0) : Asc (k.take (i + 2)) := by
  unfold Asc at *
  rw [take_get h, List.pairwise_append]
  refine ⟨ha, List.pairwise_singleton _ _, fun x hx y hy => ?_⟩
  obtain rfl : y = k.getD (i + 1) 0 := by simpa using hy
  obtain ⟨j, hj, rfl⟩ := List.getElem_of_mem hx
  rw [List.getElem_take]
  have hj2 : j < i + 1 := by rw [List.length_take] at hj; omega
  rcases Nat.eq_or_lt_of_le (Nat.le_of_lt_succ hj2) with e | e
  · subst e; rw [← getD_get (show j < k.length by omega)]; exact hc
  · have hp := List.pairwise_iff_getElem.1 ha j i hj (by rw [List.length_take]; omega) e
    rw [List.getElem_take, List.getElem_take] at hp
    rw [getD_get (show i < k.length by omega)] at hc
    exact cmpS_trans _ _ _ hp hc
theorem asc_fail {k : List Nat} {i : Nat} (h : i + 1 < k.length) (hc : ¬ cmpS (k.getD i 0) (k.getD (i + 1) 0) < 0) : k ≠ sortU k := by
  intro e
  have ha := sortU_asc k
  rw [← e] at ha
  have hp := List.pairwise_iff_getElem.1 ha i (i + 1) (by omega) h (by omega)
  rw [getD_get (show i < k.length by omega), getD_get h] at hc
  exact hc hp
theorem asc_short {k : List Nat} (h : k.length < 2) : Asc k := by
  unfold Asc
  match k, h with
  | [], _ => exact List.Pairwise.nil
  | [x], _ => exact List.pairwise_singleton _ _
/-- no set of the first j contains one before it -/
def anti (k : List Nat) (j : Nat) : Prop := ∀ i, i < j → cov (k.take i) (k.getD i 0) = false
theorem anti_all {k : List Nat} (hk : Ok k) (ha : Asc k) (h : anti k k.length) : k = minL k := by
  refine asc_eq _ _ ha (minL_asc k) fun x => ?_
  rw [minL_mem]
  constructor
  · intro hx
    refine ⟨hx, fun y hy hs => Classical.byContradiction fun hne => ?_⟩
    obtain ⟨i, hi, rfl⟩ := List.getElem_of_mem hx
    obtain ⟨j, hj, rfl⟩ := List.getElem_of_mem hy
    have hcmp := cmp_sub (hk _ hy) (hk _ hx) hs hne
    have hji : j < i := by
      refine Classical.byContradiction fun hn => ?_
      rcases Nat.eq_or_lt_of_le (Nat.le_of_not_lt hn) with e | e
      · subst e; exact hne rfl
      · have := List.pairwise_iff_getElem.1 ha i j hi hj e
        rw [cmpS_neg] at this; omega
    have h1 := h i hi
    rw [getD_get hi, Bool.eq_false_iff] at h1
    refine h1 ((cov_iff _ _).2 ⟨k[j], ?_, hs⟩)
    rw [List.mem_iff_getElem]
    exact ⟨j, by rw [List.length_take]; omega, by rw [List.getElem_take]⟩
  · exact fun hx => hx.1
theorem anti_fail {k : List Nat} {i : Nat} (hi : i < k.length) (ha : Asc k) (h : cov (k.take i) (k.getD i 0) = true) : k ≠ minL k := by
  intro e
  obtain ⟨y, hy, hs⟩ := (cov_iff _ _).1 h
  rw [getD_get hi] at hs
  have hm : k[i] ∈ minL k := by rw [← e]; exact List.getElem_mem hi
  have e2 := ((minL_mem k _).1 hm).2 y (List.mem_of_mem_take hy) hs
  obtain ⟨j, hj, hjy⟩ := List.getElem_of_mem hy
  have hj2 : j < i := by rw [List.length_take] at hj; omega
  rw [List.getElem_take] at hjy
  have hp := List.pairwise_iff_getElem.1 ha j i (by omega) hi hj2
  rw [hjy, e2] at hp
  exact cmpS_irr _ hp
/-- what Check says -/
def chk (k : List Nat) : Nat := if k = sortU k then (if k = minL k then 0 else 2) else 13
theorem minL_sorted (k : List Nat) : minL k = sortU (minL k) := (sortU_of_asc (minL_asc k)).symm
theorem chk_min {k : List Nat} (hk : Ok k) : chk (minL k) = 0 := by
  unfold chk
  rw [if_pos (minL_sorted k), if_pos (minL_min hk).symm]
theorem chk_max {k : List Nat} (hk : Ok k) : chk (maxL k) = 0 := by
  have h1 : maxL k = sortU (maxL k) := (sortU_of_asc (maxL_asc k)).symm
  have h2 : maxL k = minL (maxL k) := asc_eq _ _ (maxL_asc k) (minL_asc _) fun x => by
    rw [minL_mem]
    constructor
    · intro hx
      exact ⟨hx, fun y hy hs => (((maxL_mem k y).1 hy).2 x ((maxL_mem k x).1 hx).1 hs).symm⟩
    · exact fun h => h.1
  unfold chk
  rw [if_pos h1, if_pos h2]
set_option maxHeartbeats 4000000 in
theorem Check_ok (w : World) (A : Option Addr) (n c : Nat) (k : List Nat) (h : Rd w A n c (VI (ints k))) (hk : Ok k) (hl : k.length ≤ 1024) :
    Calls Tryd.prog 30 #[.slice A n c] w fun e w' => e = .returned (errV (chk k)) ∧ On w w' := by
  have hn : k.length = n := by have := h.len; rw [ints_len] at this; exact this
  have hA := accept1 w A n c _ h
  rw [lerr_ok hk hl, errV_zero] at hA
  have P1 := (On.refl w).alloc (.cells #[.slice A n c] 22)
  have h1 := h.on P1
  have hcap := h.cap
  have hmax := h.max
  have hn2 : n ≤ 1024 := by omega
  have HN := Lib.hid hn
  obtain ⟨E, hE⟩ : ∃ E, chk k = E := ⟨_, rfl⟩
  rw [hE]
  have HE := Lib.hid hE
  clear h hn hE hl
  go_enter Tryd.func30, Tryd.ntmps30
  go_wp2_with fail
  refine hA.mono ?_
  rintro e w1 ⟨rfl, rfl⟩
  generalize w.alloc (.cells #[.slice A n c] 22) = w1 at *
  clear hA
  have H := Lib.hid h1
  clear h1
  go_wp2
  go_loopw [4] (fun i wr => ∃ j : Nat, (j ≤ n ∨ j = 1) ∧ 1 ≤ j ∧ i = .int .i64 (j : Int) ∧ Asc (k.take j) ∧ On w1 wr) (fun i _ => n + 1 - (intOf i).toNat)
  case atStart => exact ⟨1, .inr rfl, Nat.le_refl _, rfl, asc_short (by rw [List.length_take]; omega), On.refl _⟩
  case round =>
    obtain ⟨j, hj, hj1, rfl, hasc, hon⟩ := hrel
    obtain ⟨i, rfl⟩ : ∃ i, j = i + 1 := ⟨j - 1, by omega⟩
    have HA := Lib.hid hasc
    clear hasc
    by_cases hlt : i + 1 < n
    · have hjl : i + 1 < k.length := by rw [HN.out]; exact hlt
      have hil : i < k.length := by omega
      obtain ⟨ad, e1, hb, hc⟩ := (H.out.on hon).at_ i _ (ints_get hil)
      cases e1
      obtain ⟨ad2, e2, hb2, hc2⟩ := (H.out.on hon).at_ (i + 1) _ (ints_get hjl)
      cases e2
      have hstep := asc_step hjl HA.out
      have hfail := asc_fail hjl
      have hx := hk _ (getD_mem hil)
      have hy := hk _ (getD_mem hjl)
      obtain ⟨x, hx2⟩ : ∃ x, k.getD i 0 = x := ⟨_, rfl⟩
      obtain ⟨y, hy2⟩ : ∃ y, k.getD (i + 1) 0 = y := ⟨_, rfl⟩
      rw [hx2] at hc hstep hfail hx
      rw [hy2] at hc2 hstep hfail hy
      have hK : ∀ W, Calls Tryd.prog 56 #[.int .i64 (x : Int), .int .i64 (y : Int)] W fun e w' => e = .returned (.int .i64 (cmpS x y)) ∧ w' = W := fun W => (compare_any W (x : Int) (y : Int)).mono fun e w' h => by rw [cut_nat x hx, cut_nat y hy] at h; exact ⟨h.1, h.2.symm⟩
      obtain ⟨cv, hcv⟩ : ∃ cv, cmpS x y = cv := ⟨_, rfl⟩
      rw [hcv] at hK hstep hfail
      obtain ⟨i1, hi1⟩ : ∃ i1, i + 1 = i1 := ⟨_, rfl⟩
      rw [hi1] at hc2 hlt
      have ei : (i : Int) + 1 = (i1 : Int) := by omega
      have ei2 : (i1 : Int) - 1 = (i : Int) := by omega
      have ei3 : IntKind.i64.wrap ((i1 : Int) - 1) = (i : Int) := by rw [IntKind.wrap_i64]; omega
      have ei4 : wrap64 ((i1 : Int) - 1) = (i : Int) := by unfold wrap64; omega
      have q0 : (0 : Int) ≤ (i : Int) := by omega
      have q1 : (i : Int) < (n : Int) := by omega
      have q2 : (0 : Int) ≤ (i1 : Int) := by omega
      have q3 : (i1 : Int) < (n : Int) := by omega
      have q4 : i < n := by omega
      have HST := Lib.hid hstep
      have HFL := Lib.hid hfail
      have HI1 := Lib.hid hi1
      have e0 : ((i + 1 : Nat) : Int) = (i1 : Int) := by omega
      rw [e0]
      clear hstep hfail hx hy hx2 hy2 hcv hi1 e0
      by_cases hneg : cv < 0
      · go_wp2
        go_quiet ((go_at_call 56; go_must (exact Calls.quiet_of_same (hK _))))
        go_wp2
        go_roundw
        case rel => exact ⟨i1 + 1, .inl (by omega), by omega, by go_num, by rw [← HI1.out]; exact HST.out hneg, hon.drewN _⟩
        case measure => simp [intOf]; omega
      · obtain rfl : E = 13 := by
          rw [← HE.out]; unfold chk
          rw [if_neg (HFL.out hneg)]
        go_wp2
        go_quiet ((go_at_call 56; go_must (exact Calls.quiet_of_same (hK _))))
        go_wp2
        go_ret
        exact ⟨rfl, (P1.trans hon).drewN _⟩
    · have hall : k.take (i + 1) = k := List.take_of_length_le (by rw [HN.out]; omega)
      have hasc2 := HA.out
      rw [hall] at hasc2
      have hsort : k = sortU k := (sortU_of_asc hasc2).symm
      have HAS := Lib.hid hasc2
      have HSO := Lib.hid hsort
      have hlt2 : ¬ ((i + 1 : Nat) : Int) < (n : Int) := by omega
      obtain ⟨wo, hwo⟩ : ∃ wo, wo = wr := ⟨_, rfl⟩
      subst hwo
      clear hall hasc2 hsort HA hlt hj hj1
      go_wp2
      go_loopw [33] (fun i wr => ∃ j : Nat, j ≤ n ∧ i = .int .i64 (j : Int) ∧ anti k j ∧ wo = wr) (fun i _ => n - (intOf i).toNat)
      case atStart => exact ⟨0, by omega, rfl, fun i hi => absurd hi (Nat.not_lt_zero _), rfl⟩
      case round =>
        obtain ⟨j, hj, rfl, hanti, hwq⟩ := hrel
        subst hwq
        have HAN := Lib.hid hanti
        clear hanti
        by_cases hlt3 : j < n
        · have hjl : j < k.length := by rw [HN.out]; exact hlt3
          obtain ⟨ad, e1, hb, hc⟩ := (H.out.on hon).at_ j _ (ints_get hjl)
          cases e1
          have hx := hk _ (getD_mem hjl)
          have hfail := anti_fail hjl HAS.out
          have hstep : cov (k.take j) (k.getD j 0) = false → anti k (j + 1) := fun e i hi => by
            rcases Nat.eq_or_lt_of_le (Nat.le_of_lt_succ hi) with e2 | e2
            · subst e2; exact e
            · exact HAN.out i e2
          obtain ⟨x, hx2⟩ : ∃ x, k.getD j 0 = x := ⟨_, rfl⟩
          rw [hx2] at hc hfail hstep hx
          have hC := covers_any wo (some ad) j c (k.take j) x (rd_take (H.out.on hon) hj) (fun z hz => hk z (List.mem_of_mem_take hz)) hx
          obtain ⟨b, hb2⟩ : ∃ b, cov (k.take j) x = b := ⟨_, rfl⟩
          rw [hb2] at hC hstep hfail
          have sl := fun W => run_upto W (some ad) n c j hj hcap hmax
          have q0 : (0 : Int) ≤ (j : Int) := by omega
          have q1 : (j : Int) ≤ (c : Int) := by omega
          have HST := Lib.hid hstep
          have HFL := Lib.hid hfail
          clear hstep hfail hx hx2 hb2
          rcases b with _ | _
          · go_wp2_with (refine hC.mono ?_; rintro e w' ⟨rfl, rfl⟩)
            go_roundw
            case rel => exact ⟨j + 1, by omega, by go_num, by first | exact HST.out rfl | exact HST.out trivial, trivial⟩
            case measure => simp [intOf]; omega
          · obtain rfl : E = 2 := by
              rw [← HE.out]; unfold chk
              rw [if_pos HSO.out, if_neg (HFL.out rfl)]
            go_wp2_with (refine hC.mono ?_; rintro e w' ⟨rfl, rfl⟩)
            go_ret
            exact ⟨rfl, P1.trans hon⟩
        · obtain rfl : j = n := by omega
          obtain rfl : E = 0 := by
            have := HAN.out
            rw [← HE.out]; unfold chk
            rw [if_pos HSO.out, if_pos (anti_all hk HAS.out (by rw [HN.out]; exact this))]
          go_wp2
          go_ret
          exact ⟨rfl, P1.trans hon⟩
end Go.Proofs.YtakkbemldccekaaDoor.Sb
