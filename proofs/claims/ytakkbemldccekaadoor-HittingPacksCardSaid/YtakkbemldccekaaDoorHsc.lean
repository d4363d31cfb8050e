/-
  Package hitting: All, Packing, for any list of ints.
-/
import Derived.Test.YtakkbemldccekaaDoorHsb
import Derived.Test.YtakkbemldccekaaDoorHk1
import Derived.Test.YtakkbemldccekaaDoorSg7
namespace Go.Proofs.YtakkbemldccekaaDoor.Sb
open Go.RowKit
set_option linter.unusedVariables false
set_option maxRecDepth 100000
def allR (l : List Int) : List Nat × Nat := if lerr l = 0 then allN (natsOf l) else ([], lerr l)
def packR (l : List Int) : List Nat × Nat := if lerr l = 0 then (packL 0 (minL (natsOf l)), 0) else ([], lerr l)
theorem drop_get {k : List Nat} {j : Nat} (h : j < k.length) : k.drop j = k.getD j 0 :: k.drop (j + 1) := by
  rw [List.drop_eq_getElem_cons h]; simp [h]
theorem packL_cons (t s : Nat) (l : List Nat) : packL t (s :: l) = if s &&& t = 0 then s :: packL (t ||| s) l else packL t l := rfl
theorem packL_nil (t : Nat) : packL t [] = [] := rfl
theorem minimal_gives (w : World) (A : Option Addr) (n c : Nat) (l : List Int) (h : Rd w A n c (VI l)) (hz : lerr l = 0) :
    Calls Tryd.prog 31 #[.slice A n c] w (GivesI w (ints (minL (natsOf l))) 0) := by
  have := Minimal_all w A n c l h
  unfold oneR at this
  rwa [if_pos hz] at this
theorem minimal_fails (w : World) (A : Option Addr) (n c : Nat) (l : List Int) (h : Rd w A n c (VI l)) (hz : lerr l ≠ 0) :
    Calls Tryd.prog 31 #[.slice A n c] w (GivesI w [] (lerr l)) := by
  have := Minimal_all w A n c l h
  unfold oneR at this
  rwa [if_neg hz] at this
set_option maxHeartbeats 8000000 in
theorem All_all (w : World) (A : Option Addr) (n c : Nat) (l : List Int) (h : Rd w A n c (VI l)) :
    Calls Tryd.prog 11 #[.slice A n c] w (GivesI w (ints (allR l).1) (allR l).2) := by
  unfold allR
  by_cases hz : lerr l = 0
  · rw [if_pos hz]
    have hM := minimal_gives w A n c l h hz
    obtain ⟨hlk, hok, hlen⟩ := lerr_nats l hz
    have hmo := minL_ok hok
    have hml := min_len1 hlen
    have hal : allN (natsOf l) = hitGo [0] (minL (natsOf l)) := rfl
    generalize minL (natsOf l) = k at hM hmo hml hal
    generalize allN (natsOf l) = R at hal ⊢
    have HAL := Lib.hid hal
    clear h hz hlk hok hlen hal
    go_enter Tryd.func11, Tryd.ntmps11
    go_wp2_with fail
    refine hM.mono ?_
    rintro e w1 ⟨A1, m, c1, rfl, R1, P1⟩
    have hm : k.length = m := by have := R1.len; rw [ints_len] at this; exact this
    have hcap := R1.cap
    have hmax := R1.max
    rw [errV_zero]
    have HM := Lib.hid hm
    have HR := Lib.hid R1
    have HMO := Lib.hid hmo
    have hst : Rd (w1.alloc (.cells #[.int .i64 0] 3)) (some ⟨w1.heap.size, 0, none⟩) 1 1 (VI (ints [0])) := rd_one _ _ _
    have HST := Lib.hid hst
    have hon1 := P1.alloc (.cells #[.int .i64 0] 3)
    have hon0 := (On.refl w1).alloc (.cells #[.int .i64 0] 3)
    have HON1 := Lib.hid hon1
    have HON0 := Lib.hid hon0
    clear hM hm R1 hmo hst hon1 hon0
    go_wp2
    go_loopw [5, 19] (fun v i wr => ∃ (j : Nat) (f : List Nat) (A2 : Option Addr) (n2 c2 : Nat), j ≤ m ∧ i = .int .i64 (j : Int) ∧ v = .slice A2 n2 c2 ∧ Hid (Rd wr A2 n2 c2 (VI (ints f))) ∧ Hid (Ok f) ∧ Hid (f.length ≤ 1024) ∧ Hid (R = hitGo f (k.drop j)) ∧ Hid (On w1 wr)) (fun _ i _ => m - (intOf i).toNat)
    case atStart => exact ⟨0, [0], _, _, _, by omega, rfl, rfl, HST, ok_zero, by show [0].length ≤ 1024; decide, HAL.out, HON0⟩
    case round =>
      obtain ⟨j, f, A2, n2, c2, hj, rfl, rfl, HF, HOF, HLF, HGO, HW⟩ := hrel
      by_cases hlt : j < m
      · have hjl : j < k.length := by rw [HM.out]; exact hlt
        obtain ⟨ad, e1, hb, hc⟩ := (HR.out.on HW.out).at_ j _ (ints_get hjl)
        cases e1
        have hx24 := HMO.out _ (getD_mem hjl)
        have hgo := HGO.out
        rw [drop_get hjl] at hgo
        unfold hitGo at hgo
        obtain ⟨x, hx⟩ : ∃ x, k.getD j 0 = x := ⟨_, rfl⟩
        rw [hx] at hc hx24 hgo
        have HGO2 := Lib.hid hgo
        have hS := singles_any wr x hx24
        clear hx hgo
        go_wp2_with fail
        refine hS.mono ?_
        rintro e w2 ⟨A3, n3, c3, rfl, hrow3, P3⟩
        have R3 := rd_of_row hrow3
        have hP := Product_all w2 A2 n2 c2 _ (HF.out.on P3) A3 n3 c3 _ R3
        have l1 := lerr_ok HOF.out HLF.out
        have l2 := lerr_ok (sgl_ok x) (Nat.le_trans (sgl_len x) (by decide))
        have eP : prodR (ints f) (ints (sgl x)) = lim (minL (uni f (sgl x))) := by
          unfold prodR both
          rw [if_pos l1, if_pos l2, nats_ints, nats_ints]
        rw [eP] at hP
        have hou := minL_ok (uni_ok HOF.out (sgl_ok x))
        generalize minL (uni f (sgl x)) = L at hP HGO2 hou
        have HOU := Lib.hid hou
        clear hS eP l1 l2 hrow3 R3 hou
        by_cases hl : L.length ≤ 1024
        · have eL : lim L = (L, 0) := by unfold lim; rw [if_pos hl]
          rw [eL] at hP
          have hg2 := HGO2.out
          rw [if_pos hl] at hg2
          have HG := Lib.hid hg2
          have HLL := Lib.hid hl
          clear eL hg2 hl
          go_wp2_with fail
          refine hP.mono ?_
          rintro e w4 ⟨A4, n4, c4, rfl, R4, P4⟩
          rw [errV_zero]
          have HR4 := Lib.hid R4
          have HW4 := Lib.hid ((HW.out.trans P3).trans P4)
          clear hP R4
          go_wp2
          exact ⟨⟨j + 1, L, A4, n4, c4, by omega, by go_num, rfl, HR4, HOU, HLL, HG, HW4⟩, by simp [intOf]; omega⟩
        · have eL : lim L = ([], 4) := by unfold lim; rw [if_neg hl]
          rw [eL] at hP
          have hg2 := HGO2.out
          rw [if_neg hl] at hg2
          have HG := Lib.hid hg2
          clear eL hg2 hl
          go_wp2_with fail
          refine hP.mono ?_
          rintro e w4 ⟨A4, n4, c4, rfl, R4, P4⟩
          rw [errV_pos 4 (by decide)]
          have HW4 := Lib.hid ((HW.out.trans P3).trans P4)
          clear hP R4
          go_wp2
          go_ret2
          exact ⟨none, 0, 0, by rw [HG.out]; rfl, by rw [HG.out]; exact Rd.nil_ _, P1.trans HW4.out⟩
      · obtain rfl : j = m := by omega
        have hgo := HGO.out
        rw [List.drop_of_length_le (by rw [HM.out]; omega)] at hgo
        unfold hitGo at hgo
        have HG := Lib.hid hgo
        clear hgo
        go_wp2
        go_ret2
        exact ⟨A2, n2, c2, by rw [HG.out]; rfl, by rw [HG.out]; exact HF.out, P1.trans HW.out⟩
  · rw [if_neg hz]
    have hM := minimal_fails w A n c l h hz
    generalize lerr l = E at hz hM ⊢
    clear h
    go_enter Tryd.func11, Tryd.ntmps11
    go_wp2_with fail
    refine hM.mono ?_
    rintro e w1 ⟨A1, n1, c1, rfl, R1, P1⟩
    rw [errV_pos E hz]
    clear R1 hM
    go_wp2
    go_ret2
    exact ⟨none, 0, 0, by rw [errV_pos E hz]; rfl, Rd.nil_ _, P1⟩
set_option maxHeartbeats 8000000 in
theorem Packing_all (w : World) (A : Option Addr) (n c : Nat) (l : List Int) (h : Rd w A n c (VI l)) :
    Calls Tryd.prog 12 #[.slice A n c] w (GivesI w (ints (packR l).1) (packR l).2) := by
  unfold packR
  by_cases hz : lerr l = 0
  · rw [if_pos hz]
    have hM := minimal_gives w A n c l h hz
    obtain ⟨hlk, hok, hlen⟩ := lerr_nats l hz
    have hmo := minL_ok hok
    have hml := min_len1 hlen
    generalize minL (natsOf l) = k at hM hmo hml ⊢
    clear h hz hlk hok hlen
    go_enter Tryd.func12, Tryd.ntmps12
    go_wp2_with fail
    refine hM.mono ?_
    rintro e w1 ⟨A1, m, c1, rfl, R1, P1⟩
    have hm : k.length = m := by have := R1.len; rw [ints_len] at this; exact this
    have hcap := R1.cap
    have hmax := R1.max
    rw [errV_zero]
    have hm10 : m ≤ 1024 := by omega
    have HM := Lib.hid hm
    have HR := Lib.hid R1
    have HMO := Lib.hid hmo
    clear hM hm R1 hmo hml
    go_wp2
    go_loopw [5, 6, 19] (fun v t i wr => ∃ (j tk : Nat) (p : List Nat), j ≤ m ∧ i = .int .i64 (j : Int) ∧ t = .int .i64 (tk : Int) ∧ tk < 16777216 ∧ p.length ≤ j ∧ Hid (packL 0 k = p ++ packL tk (k.drop j)) ∧ wr.ownsRow w1.heap.size 3 1 v p.length (VI (ints p)) ∧ On w1 wr) (fun _ _ i _ => m - (intOf i).toNat)
    case atStart => exact ⟨0, 0, [], by omega, rfl, rfl, by decide, by decide, rfl, row_nil _ _ _, On.refl _⟩
    case round =>
      obtain ⟨j, tk, p, hj, rfl, rfl, htk, hpl, HP, hrow, hon⟩ := hrel
      obtain ⟨A4, c4, rfl⟩ := row_form hrow
      have HROW := Lib.hid hrow
      clear hrow
      by_cases hlt : j < m
      · have hjl : j < k.length := by rw [HM.out]; exact hlt
        obtain ⟨ad, e1, hb, hc⟩ := (HR.out.on hon).at_ j _ (ints_get hjl)
        cases e1
        have hx24 := HMO.out _ (getD_mem hjl)
        have hpk := HP.out
        rw [drop_get hjl, packL_cons] at hpk
        obtain ⟨x, hx⟩ : ∃ x, k.getD j 0 = x := ⟨_, rfl⟩
        rw [hx] at hc hx24 hpk
        have hand := and_nat x tk hx24 htk
        have hor := or_nat tk x (Nat.lt_trans htk (by decide)) (Nat.lt_trans hx24 (by decide))
        have hor24 := or_lt24 htk hx24
        have hsz := hon.size
        obtain ⟨z, hzz⟩ : ∃ z, x &&& tk = z := ⟨_, rfl⟩
        rw [hzz] at hand hpk
        have HPK := Lib.hid hpk
        clear hx hpk hzz
        by_cases hz : z = 0
        · subst hz
          have hp2 := HPK.out
          rw [if_pos rfl] at hp2
          have HP2 := Lib.hid hp2
          have HPL := Lib.hid hpl
          clear hp2 hpl
          go_wp2_with (at_builtin; refine wpList_app rfl (.tmp 27) (.tmp 29) 22 rfl w1.heap.size 3 (.int .i64 0) 8 Tryd.underlying22 infoi rfl (by decide) (.slice A4 p.length c4) _ (VI (ints p)) rfl (row_alloc HROW.out _) (some ⟨wr.heap.size, 0, none⟩) 1 1 [.int .i64 (x : Int)] rfl (rd_one _ _ _) (by simp [Value.oneCell']) (by have := HPL.out; omega) (by simp; omega) ?_; intro v' w5 hown5 hgrow5 _)
          refine ⟨⟨j + 1, tk ||| x, p ++ [x], by omega, by go_num, rfl, hor24, by have := HPL.out; simp; omega, ?_, ?_, ?_⟩, by simp [intOf]; omega⟩
          · show packL 0 k = _
            rw [HP2.out, List.append_assoc]; rfl
          · rw [List.length_append, List.length_singleton, VI_snoc]; exact hown5
          · exact on_row (hon.alloc _) (row_alloc HROW.out _) (Nat.le_refl _) hgrow5
        · have hz2 : ¬ (z : Int) = 0 := by omega
          have hp2 := HPK.out
          rw [if_neg hz] at hp2
          have HP2 := Lib.hid hp2
          clear hp2
          go_wp2
          exact ⟨⟨j + 1, tk, p, by omega, by go_num, rfl, htk, by omega, HP2, HROW.out, hon⟩, by simp [intOf]; omega⟩
      · obtain rfl : j = m := by omega
        have hpk := HP.out
        rw [List.drop_of_length_le (by rw [HM.out]; omega)] at hpk
        rw [packL_nil, List.append_nil] at hpk
        have HPK := Lib.hid hpk
        clear hpk
        go_wp2
        go_ret2
        exact ⟨A4, _, c4, rfl, by show Rd _ _ _ _ (VI (ints (packL 0 k))); rw [HPK.out]; exact rd_of_row HROW.out, P1.trans hon⟩
  · rw [if_neg hz]
    have hM := minimal_fails w A n c l h hz
    generalize lerr l = E at hz hM ⊢
    clear h
    go_enter Tryd.func12, Tryd.ntmps12
    go_wp2_with fail
    refine hM.mono ?_
    rintro e w1 ⟨A1, n1, c1, rfl, R1, P1⟩
    rw [errV_pos E hz]
    clear R1 hM
    go_wp2
    go_ret2
    exact ⟨none, 0, 0, by rw [errV_pos E hz]; rfl, Rd.nil_ _, P1⟩
end Go.Proofs.YtakkbemldccekaaDoor.Sb
/-
  Package hitting: Minimal, Dual, for any arguments.
-/
namespace Go.Proofs.YtakkbemldccekaaDoor.Sb
open Go.RowKit
set_option linter.unusedVariables false
set_option maxRecDepth 100000
/-- whether a set is a minimal hitting set, and the number of an error -/
def minR (l : List Int) (s : Int) : Bool × Nat :=
  if (meetsR l s).2 = 0 ∧ (meetsR l s).1 = true then ((els s.toNat).all fun i => !meets (natsOf l) (without s.toNat (2 ^ i)), 0) else (false, (meetsR l s).2)
theorem meetsR_ok {l : List Int} {s : Int} (h : (meetsR l s).2 = 0) : lerr l = 0 ∧ ∃ x : Nat, s = (x : Int) ∧ x < 16777216 ∧ (meetsR l s).1 = meets (natsOf l) x := by
  unfold meetsR at h ⊢
  by_cases hz : lerr l = 0
  · rw [if_pos hz] at h ⊢
    by_cases hv : vI s = true
    · rw [if_pos hv] at h ⊢
      have := of_decide_eq_true hv
      exact ⟨hz, s.toNat, by omega, by omega, rfl⟩
    · rw [if_neg hv] at h; simp at h
  · rw [if_neg hz] at h; exact absurd h hz
theorem meetsR_nat {l : List Int} (hz : lerr l = 0) {x : Nat} (hx : x < 16777216) : meetsR l (x : Int) = (meets (natsOf l) x, 0) := by
  unfold meetsR vI
  rw [if_pos hz, if_pos (decide_eq_true (by omega))]; rfl
set_option maxHeartbeats 8000000 in
theorem HMinimal_all (w : World) (A : Option Addr) (n c : Nat) (l : List Int) (h : Rd w A n c (VI l)) (s : Int) :
    Calls Tryd.prog 21 #[.slice A n c, .int .i64 s] w fun e w' => e = .returned (.tuple #[.bool (minR l s).1, errV (minR l s).2]) ∧ On w w' := by
  have hM := fun W h s => Meets_all W A n c l h s
  have hM1 := hM w h s
  have hok := meetsR_ok (l := l) (s := s)
  have hn := meetsR_nat (l := l)
  unfold minR
  generalize meetsR l s = R at hM1 hok ⊢
  obtain ⟨b, er⟩ := R
  simp only at hM1 hok ⊢
  have HR := Lib.hid h
  have HMM := Lib.hid hM
  have HOK := Lib.hid hok
  have HNN := Lib.hid hn
  clear h hM hok hn
  by_cases her : er = 0
  · subst her
    obtain ⟨hz, x, rfl, hx24, hbx⟩ := HOK.out rfl
    rw [errV_zero] at hM1
    cases b with
    | false =>
      rw [if_neg (by simp)]
      go_enter Tryd.func21, Tryd.ntmps21
      go_wp2_with fail
      refine hM1.mono ?_
      rintro e w1 ⟨rfl, P1⟩
      clear hM1
      go_wp2
      go_ret2
      exact ⟨rfl, P1⟩
    | true =>
      rw [if_pos ⟨rfl, rfl⟩]
      have hS := fun W => singles_any W x hx24
      have hmt := fun W h i => HMM.out W h ((without x (2 ^ i) : Nat) : Int)
      have hwl : ∀ i, without x (2 ^ i) < 16777216 := fun i => Nat.lt_of_le_of_lt (without_le _ _) hx24
      simp only [HNN.out hz (hwl _)] at hmt
      have HMT := Lib.hid hmt
      rw [Int.toNat_natCast]
      clear hmt hbx
      go_enter Tryd.func21, Tryd.ntmps21
      go_wp2_with fail
      refine hM1.mono ?_
      rintro e w1 ⟨rfl, P1⟩
      clear hM1
      go_wp2_with fail
      refine (hS _).mono ?_
      rintro e w2 ⟨A2, m, c2, rfl, hrow, P2⟩
      have R2 := rd_of_row hrow
      have hm : (sgl x).length = m := by have := R2.len; rw [ints_len] at this; exact this
      have hcap := R2.cap
      have hmax := R2.max
      have HM := Lib.hid hm
      have HR2 := Lib.hid R2
      have HP := Lib.hid (P1.trans P2)
      clear hS hrow R2 hm
      go_wp2
      go_loopw [28] (fun i wr => ∃ j : Nat, j ≤ m ∧ i = .int .i64 (j : Int) ∧ Hid (((els x).take j).all (fun i => !meets (natsOf l) (without x (2 ^ i))) = true) ∧ Hid (On w2 wr)) (fun i _ => m - (intOf i).toNat)
      case atStart => exact ⟨0, by omega, rfl, by show _ = true; simp, On.refl w2⟩
      case round =>
        obtain ⟨j, hj, rfl, HA, HW⟩ := hrel
        by_cases hlt : j < m
        · have hjl : j < (sgl x).length := by rw [HM.out]; exact hlt
          obtain ⟨i, hi, hxi, hget, htake⟩ := sgl_get hjl
          obtain ⟨ad, e1, hb, hc⟩ := (HR2.out.on HW.out).at_ j _ (ints_get hjl)
          cases e1
          rw [hget] at hc
          have hCM := HMT.out wr (HR.out.on (HP.out.trans HW.out)) i
          have hle : 2 ^ i + without x (2 ^ i) = x := by
            have := split_bit (fun i => 2 ^ i) hi hxi
            rw [sumR_mask, sumR_mask, Nat.mod_eq_of_lt (show x < 2 ^ 24 from hx24), Nat.mod_eq_of_lt (show without x (2 ^ i) < 2 ^ 24 from hwl i)] at this
            exact this.symm
          have hnew : ∀ b, meets (natsOf l) (without x (2 ^ i)) = b → ((els x).take (j + 1)).all (fun i => !meets (natsOf l) (without x (2 ^ i))) = !b := by
            intro b hb
            rw [htake, List.all_append, HA.out, Bool.true_and]; simp [hb]
          have hbad : meets (natsOf l) (without x (2 ^ i)) = true → (els x).all (fun i => !meets (natsOf l) (without x (2 ^ i))) = false := by
            intro hb
            rw [Bool.eq_false_iff, ne_eq, List.all_eq_true]
            intro hall
            have := hall i ((mem_els x i).2 ⟨hi, hxi⟩)
            rw [hb] at this; cases this
          obtain ⟨b, hbb⟩ : ∃ b, meets (natsOf l) (without x (2 ^ i)) = b := ⟨_, rfl⟩
          rw [hbb] at hCM
          have hn2 := hnew b hbb
          have hb2 : b = true → (els x).all (fun i => !meets (natsOf l) (without x (2 ^ i))) = false := fun e => hbad (by rw [hbb, e])
          have hdl := hwl i
          generalize without x (2 ^ i) = d at hle hCM hdl
          generalize 2 ^ i = p at hle hc
          have hsub : (x : Int) - (p : Int) = (d : Int) := by omega
          have HN2 := Lib.hid hn2
          have HB2 := Lib.hid hb2
          rw [errV_zero] at hCM
          clear hn2 hb2 hnew hbad hbb hle htake hget
          cases b with
          | false =>
            go_wp2_with fail
            refine hCM.mono ?_
            rintro e w3 ⟨rfl, P3⟩
            clear hCM
            have HW3 := Lib.hid (HW.out.trans P3)
            go_wp2
            exact ⟨⟨j + 1, by omega, by go_num, HN2, HW3⟩, by simp [intOf]; omega⟩
          | true =>
            go_wp2_with fail
            refine hCM.mono ?_
            rintro e w3 ⟨rfl, P3⟩
            clear hCM
            go_wp2
            go_ret2
            have hb3 := HB2.out (by trivial)
            exact ⟨by rw [hb3]; rfl, HP.out.trans (HW.out.trans P3)⟩
        · obtain rfl : j = m := by omega
          have ha := HA.out
          rw [List.take_of_length_le (by rw [← sgl_length, HM.out]; omega)] at ha
          have HA2 := Lib.hid ha
          clear ha
          go_wp2
          go_ret2
          exact ⟨by rw [HA2.out]; rfl, HP.out.trans HW.out⟩
  · rw [if_neg (fun h => her h.1)]
    rw [errV_pos er her] at hM1 ⊢
    go_enter Tryd.func21, Tryd.ntmps21
    go_wp2_with fail
    refine hM1.mono ?_
    rintro e w1 ⟨rfl, P1⟩
    clear hM1
    go_wp2
    go_ret2
    exact ⟨rfl, P1⟩
/-- whether b has the minimal hitting sets of a, and the number of an error -/
def dualR (a b : List Int) : Bool × Nat :=
  if both a b = 0 then (if (allR a).2 = 0 then (decide ((allR a).1 = minL (natsOf b)), 0) else (false, (allR a).2)) else (false, both a b)
theorem allR_ok {a : List Int} (hz : lerr a = 0) (h : (allR a).2 = 0) : Ok (allR a).1 ∧ minL (allR a).1 = (allR a).1 ∧ (allR a).1.length ≤ 1024 := by
  unfold allR at h ⊢
  rw [if_pos hz] at h ⊢
  obtain ⟨h1, h2, h3, _⟩ := allN_spec (lerr_nats a hz).2.1 h
  exact ⟨h1, h2, h3⟩
theorem dualR_a {a b : List Int} (h : lerr a ≠ 0) : dualR a b = (false, lerr a) := by
  unfold dualR both; rw [if_neg h, if_neg h]
theorem dualR_b {a b : List Int} (h : lerr a = 0) (k : lerr b ≠ 0) : dualR a b = (false, lerr b) := by
  unfold dualR both; rw [if_pos h, if_neg k]
theorem dualR_c {a b : List Int} (h : lerr a = 0) (k : lerr b = 0) : dualR a b = if (allR a).2 = 0 then (decide ((allR a).1 = minL (natsOf b)), 0) else (false, (allR a).2) := by
  unfold dualR both; rw [if_pos h, if_pos k]
theorem support_gives (w : World) (A : Option Addr) (n c : Nat) (l : List Int) (h : Rd w A n c (VI l)) (hz : lerr l = 0) :
    Calls Tryd.prog 36 #[.slice A n c] w fun e w' => e = .returned (.tuple #[.int .i64 ((orL (natsOf l) : Nat) : Int), .nilIface]) ∧ On w w' := by
  have := Support_all w A n c l h
  unfold supR at this
  rwa [if_pos hz] at this
theorem support_fails (w : World) (A : Option Addr) (n c : Nat) (l : List Int) (h : Rd w A n c (VI l)) (hz : lerr l ≠ 0) :
    Calls Tryd.prog 36 #[.slice A n c] w fun e w' => e = .returned (.tuple #[.int .i64 0, .iface 50 (.int .i64 (lerr l : Int))]) ∧ On w w' := by
  have := Support_all w A n c l h
  unfold supR at this
  rw [if_neg hz, errV_pos _ hz] at this
  exact this
set_option maxHeartbeats 8000000 in
theorem Dual_all (w : World) (A : Option Addr) (n c : Nat) (a : List Int) (h : Rd w A n c (VI a)) (B : Option Addr) (m d : Nat) (b : List Int) (h2 : Rd w B m d (VI b)) :
    Calls Tryd.prog 13 #[.slice A n c, .slice B m d] w fun e w' => e = .returned (.tuple #[.bool (dualR a b).1, errV (dualR a b).2]) ∧ On w w' := by
  have P0 := (On.refl w).alloc (.cells #[.slice A n c, .slice B m d] 22)
  have hRD := rd_lit w 22 #[.slice A n c, .slice B m d] [.slice A n c, .slice B m d] 2 rfl rfl (by decide)
  have HSA := Lib.hid (fun W (k : On w W) => support_gives W A n c a (h.on k))
  have HSB := Lib.hid (fun W (k : On w W) => support_gives W B m d b (h2.on k))
  have HFA := Lib.hid (fun W (k : On w W) => support_fails W A n c a (h.on k))
  have HFB := Lib.hid (fun W (k : On w W) => support_fails W B m d b (h2.on k))
  have HAL := Lib.hid (fun W (k : On w W) => All_all W A n c a (h.on k))
  have HAO := Lib.hid (allR_ok (a := a))
  have HDA := Lib.hid (dualR_a (a := a) (b := b))
  have HDB := Lib.hid (dualR_b (a := a) (b := b))
  have HDC := Lib.hid (dualR_c (a := a) (b := b))
  have HR2 := Lib.hid h2
  have HRD := Lib.hid hRD
  have HP0 := Lib.hid P0
  clear h h2 hRD P0
  generalize dualR a b = R at HDA HDB HDC ⊢
  go_enter Tryd.func13, Tryd.ntmps13
  go_wp2
  obtain ⟨w1, hw1⟩ : ∃ w1, w.alloc (.cells #[.slice A n c, .slice B m d] 22) = w1 := ⟨_, rfl⟩
  rw [hw1] at HRD HP0 ⊢
  clear hw1
  go_loopw [16] (fun i wr => ∃ j : Nat, j ≤ 2 ∧ i = .int .i64 (j : Int) ∧ Hid (0 < j → lerr a = 0) ∧ Hid (1 < j → lerr b = 0) ∧ Hid (On w1 wr)) (fun i _ => 2 - (intOf i).toNat)
  case atStart => exact ⟨0, by omega, rfl, fun h => absurd h (by omega), fun h => absurd h (by omega), On.refl w1⟩
  case round =>
    obtain ⟨j, hj, rfl, HA, HB, HW⟩ := hrel
    have hwo := Lib.hid (HP0.out.trans HW.out)
    match j, hj, HA, HB with
    | 0, _, _, _ =>
      obtain ⟨ad, e1, _, hc⟩ := (HRD.out.on HW.out).at_ 0 (.slice A n c) rfl
      cases e1
      rw [add_nil] at hc
      by_cases hz : lerr a = 0
      · have hS := HSA.out wr hwo.out hz
        have HZ := Lib.hid hz
        clear hz
        go_wp2_with fail
        refine hS.mono ?_
        rintro e w2 ⟨rfl, P2⟩
        have HW2 := Lib.hid (HW.out.trans P2)
        clear hS
        go_wp2
        exact ⟨⟨1, by omega, rfl, fun _ => HZ.out, fun h => absurd h (by omega), HW2⟩, by simp [intOf]⟩
      · have hS := HFA.out wr hwo.out hz
        have HD := Lib.hid (HDA.out hz)
        have HZ := Lib.hid hz
        clear hz
        go_wp2_with fail
        refine hS.mono ?_
        rintro e w2 ⟨rfl, P2⟩
        clear hS
        go_wp2
        go_ret2
        exact ⟨by rw [HD.out, errV_pos _ HZ.out]; rfl, hwo.out.trans P2⟩
    | 1, _, HA, _ =>
      obtain ⟨ad, e1, _, hc⟩ := (HRD.out.on HW.out).at_ 1 (.slice B m d) rfl
      cases e1
      rw [add_plain] at hc
      have hza := Lib.hid (HA.out (by omega))
      by_cases hz : lerr b = 0
      · have hS := HSB.out wr hwo.out hz
        have HZ := Lib.hid hz
        clear hz
        go_wp2_with fail
        refine hS.mono ?_
        rintro e w2 ⟨rfl, P2⟩
        have HW2 := Lib.hid (HW.out.trans P2)
        clear hS
        go_wp2
        exact ⟨⟨2, by omega, rfl, fun _ => hza.out, fun _ => HZ.out, HW2⟩, by simp [intOf]⟩
      · have hS := HFB.out wr hwo.out hz
        have HD := Lib.hid (HDB.out hza.out hz)
        have HZ := Lib.hid hz
        clear hz
        go_wp2_with fail
        refine hS.mono ?_
        rintro e w2 ⟨rfl, P2⟩
        clear hS
        go_wp2
        go_ret2
        exact ⟨by rw [HD.out, errV_pos _ HZ.out]; rfl, hwo.out.trans P2⟩
    | 2, _, HA, HB =>
      have hza := HA.out (by omega)
      have hzb := HB.out (by omega)
      have hd := HDC.out hza hzb
      have hao := HAO.out hza
      have hsm := fun (W : World) (A' : Option Addr) (n' c' : Nat) (f : List Nat) (hR : Rd W A' n' c' (VI (ints f))) (k : On w W) => Same_all W A' n' c' (ints f) hR B m d b (HR2.out.on k)
      have hso : ∀ f, Ok f → f.length ≤ 1024 → sameR (ints f) b = (decide (minL f = minL (natsOf b)), 0) := by
        intro f h1 h2
        unfold sameR both
        rw [if_pos (lerr_ok h1 h2), if_pos hzb, nats_ints]
      have hAL := HAL.out wr hwo.out
      generalize allR a = F at hd hao hAL
      obtain ⟨f, er⟩ := F
      simp only at hd hao hAL
      have HSM := Lib.hid hsm
      have HSO := Lib.hid hso
      have HHD := Lib.hid hd
      have HHA := Lib.hid hao
      clear hza hzb hd hao hsm hso
      go_wp2_with fail
      refine hAL.mono ?_
      rintro e w2 ⟨A2, n2, c2, rfl, R2, P2⟩
      clear hAL
      by_cases her : er = 0
      · subst her
        obtain ⟨ho, hmm, hl⟩ := HHA.out rfl
        have hd := HHD.out
        rw [if_pos rfl] at hd
        have HD := Lib.hid hd
        have hS := HSM.out w2 A2 n2 c2 f R2 (hwo.out.trans P2)
        rw [HSO.out f ho hl, hmm] at hS
        simp only [errV_zero] at hS ⊢
        clear hd ho hmm hl R2
        go_wp2_with fail
        refine hS.mono ?_
        rintro e w3 ⟨rfl, P3⟩
        clear hS
        go_wp2
        go_ret2
        exact ⟨by rw [HD.out]; rfl, (hwo.out.trans P2).trans P3⟩
      · have hd := HHD.out
        rw [if_neg her] at hd
        have HD := Lib.hid hd
        rw [errV_pos er her]
        clear hd R2
        go_wp2
        go_ret2
        exact ⟨by rw [HD.out, errV_pos er her]; rfl, hwo.out.trans P2⟩
end Go.Proofs.YtakkbemldccekaaDoor.Sb
