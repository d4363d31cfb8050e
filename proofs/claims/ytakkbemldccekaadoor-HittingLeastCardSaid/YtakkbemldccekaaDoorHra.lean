/-
  The specification of families: Product of a list with a short one.
-/
import Derived.Test.YtakkbemldccekaaDoorSg3
import Derived.Test.YtakkbemldccekaaDoorHsc
import Derived.Test.YtakkbemldccekaaDoorSr1
namespace Go.Proofs.YtakkbemldccekaaDoor.Sb
open Go.RowKit
set_option linter.unusedVariables false
set_option maxRecDepth 100000
theorem uni_bound2 (a b i j : Nat) (ha : a ≤ 1024) (hb : b ≤ 24) (hi : i ≤ a * b) (hj : j ≤ b) : i + j + 1 ≤ 1000000000 ∧ i ≤ 24576 := by
  have : a * b ≤ 1024 * 24 := Nat.mul_le_mul ha hb
  omega
set_option maxHeartbeats 8000000 in
theorem rproduct_big (w : World) (A : Option Addr) (n c : Nat) (l : List Int) (h : Rd w A n c (VI l)) (B : Option Addr) (m d : Nat) (k : List Int) (h2 : Rd w B m d (VI k)) (hs1 : lerr l = 0 → l.length ≤ 1024) (hs2 : lerr k = 0 → k.length ≤ 24) :
    Calls Tryd.prog 40 #[.slice A n c, .slice B m d] w (GivesK w (prodR l k).1 (prodR l k).2) := by
  have hB := rboth_any w A n c l h B m d k h2
  unfold prodR
  by_cases hb : both l k = 0
  · rw [if_pos hb]
    rw [hb] at hB
    obtain ⟨h3, h4⟩ := both_zero hb
    have hs3 := hs1 h3
    have hs4 := hs2 h4
    obtain ⟨e1, o1, l1⟩ := lerr_nats l h3
    obtain ⟨e2, o2, l2⟩ := lerr_nats k h4
    rw [e1] at h
    rw [e2] at h2
    rw [e1, ints_length] at hs3
    rw [e2, ints_length] at hs4
    clear hs1 hs2
    generalize natsOf l = a at *
    generalize natsOf k = b at *
    have hn : a.length = n := by have := h.len; rw [ints_len] at this; exact this
    have hm : b.length = m := by have := h2.len; rw [ints_len] at this; exact this
    have capA := h.cap
    have maxA := h.max
    have capB := h2.cap
    have maxB := h2.max
    have HN := Lib.hid hn
    have HM := Lib.hid hm
    have RA := Lib.hid h
    have RB := Lib.hid h2
    clear h h2 e1 e2 hb h3 h4 hn hm l1 l2
    go_enter Tryd.func40, Tryd.ntmps40
    go_wp2_with fail
    refine hB.mono ?_
    rintro e w' ⟨rfl, rfl⟩
    clear hB
    go_wp2
    go_loopw [7, 20] (fun v i wr => ∃ q : Nat, q ≤ n ∧ i = .int .i64 (q : Int) ∧ wr.ownsRow w.heap.size 3 1 v (uniTo a b q).length (VI (ints (uniTo a b q))) ∧ On w wr) (fun _ i _ => n - (intOf i).toNat)
    case atStart => exact ⟨0, by omega, rfl, row_nil _ _ _, On.refl _⟩
    case round =>
      obtain ⟨i, hi, rfl, hrow, hon⟩ := hrel
      obtain ⟨wo, hwo⟩ : ∃ wo, wo = wr := ⟨_, rfl⟩
      subst hwo
      have HROW := Lib.hid hrow
      clear hrow
      by_cases hlt : i < n
      · have hjl : i < a.length := by rw [HN.out]; exact hlt
        obtain ⟨ad, e1, hb1, hc⟩ := (RA.out.on hon).at_ i _ (ints_get hjl)
        cases e1
        have hst := uniTo_succ a b i hjl
        have hxm := getD_mem hjl
        obtain ⟨x, hx⟩ : ∃ x, a.getD i 0 = x := ⟨_, rfl⟩
        rw [hx] at hc hst hxm
        have hx24 := o1 x hxm
        have HST := Lib.hid hst
        have hul := uniTo_len a b i
        have HUL := Lib.hid hul
        clear hx hxm hst hul
        go_wp2
        go_loopw [7, 26] (fun v j wr => ∃ q : Nat, q ≤ m ∧ j = .int .i64 (q : Int) ∧ wr.ownsRow w.heap.size 3 1 v (uniTo a b i ++ uniRow x b q).length (VI (ints (uniTo a b i ++ uniRow x b q))) ∧ On w wr) (fun _ j _ => m - (intOf j).toNat)
        case atStart =>
          refine ⟨0, by omega, rfl, ?_, hon⟩
          have e0 : uniRow x b 0 = [] := rfl
          rw [e0, List.append_nil]
          exact HROW.out
        case round =>
          obtain ⟨j, hj, rfl, hrow2, hon2⟩ := hrel
          obtain ⟨A5, c5, rfl⟩ := row_form hrow2
          have HROW2 := Lib.hid hrow2
          clear hrow2
          by_cases hlt2 : j < m
          · have hjl2 : j < b.length := by rw [HM.out]; exact hlt2
            obtain ⟨ad2, e2, hb2, hc2⟩ := (RB.out.on hon2).at_ j _ (ints_get hjl2)
            cases e2
            have hst2 := uniRow_succ x b j hjl2
            have hym := getD_mem hjl2
            obtain ⟨y, hy⟩ : ∃ y, b.getD j 0 = y := ⟨_, rfl⟩
            rw [hy] at hc2 hst2 hym
            have hy24 := o2 y hym
            have hor := or_step x y hx24 hy24
            have hsz := hon2.size
            have hrl := uniRow_len x b j
            have hbnd : (uniTo a b i ++ uniRow x b j).length + 1 ≤ 1000000000 := by
              rw [List.length_append]
              exact (uni_bound2 a.length b.length _ _ hs3 hs4 HUL.out hrl).1
            obtain ⟨z, hz⟩ : ∃ z, x ||| y = z := ⟨_, rfl⟩
            rw [hz] at hor hst2
            have HST2 := Lib.hid hst2
            have HBND := Lib.hid hbnd
            have HOR := Lib.hid hor
            clear hy hym hst2 hrl hz hy24 hbnd
            go_wp2_with (at_builtin; refine wpList_app rfl (.tmp 30) (.tmp 34) 22 rfl w.heap.size 3 (.int .i64 0) 8 Tryd.underlying22 infoi rfl (by decide) (.slice A5 (uniTo a b i ++ uniRow x b j).length c5) _ (VI (ints (uniTo a b i ++ uniRow x b j))) rfl (row_alloc HROW2.out _) (some ⟨wr.heap.size, 0, none⟩) 1 1 [.int .i64 (z : Int)] (by first | rfl | (rw [← HOR.out]; rfl)) (by first | exact rd_one _ _ _ | (rw [← HOR.out]; exact rd_one _ _ _)) (by simp [Value.oneCell']) HBND.out (by simp; omega) ?_; intro v' w5 hown5 hgrow5 _)
            refine ⟨⟨j + 1, by omega, by go_num, ?_, ?_⟩, by simp [intOf]; omega⟩
            · rw [HST2.out, ← List.append_assoc, List.length_append (bs := [z]), List.length_singleton, VI_snoc]; exact hown5
            · exact on_row (hon2.alloc _) (row_alloc HROW2.out _) (Nat.le_refl _) hgrow5
          · obtain rfl : j = m := by omega
            have efull : uniTo a b i ++ uniRow x b j = uniTo a b (i + 1) := by
              rw [HST.out, HM.out]
            have HE := Lib.hid efull
            clear efull
            go_wp2
            go_roundw
            case rel =>
              refine ⟨i + 1, by omega, by go_num, ?_, hon2⟩
              rw [← HE.out]; exact HROW2.out
            case measure => simp [intOf]; omega
      · obtain rfl : i = n := by omega
        obtain ⟨A5, c5, rfl⟩ := row_form HROW.out
        have e0 : uniTo a b i = uni a b := by unfold uniTo; rw [List.take_of_length_le (by rw [HN.out]; omega)]
        have r1 := rd_of_row HROW.out
        have hbnd : (uniTo a b i).length ≤ 1000000 := by
          have := uniTo_len a b i
          have := (uni_bound2 a.length b.length _ 0 hs3 hs4 this (Nat.zero_le _)).2
          omega
        have hL := rleast_any wo A5 _ c5 _ r1 (by rw [e0]; exact uni_ok o1 o2) hbnd
        have E0 := Lib.hid e0
        clear e0 r1 hbnd
        go_wp2_with fail
        refine hL.mono ?_
        rintro e w7 ⟨A7, n7, c7, rfl, R7, P7⟩
        rw [E0.out] at R7
        have hI := rlimited_any w7 A7 n7 c7 _ R7
        clear hL
        go_wp2_with fail
        refine hI.mono ?_
        rintro e w8 ⟨A8, n8, c8, rfl, R8, P8⟩
        have P := (hon.trans P7).trans P8
        clear hI R7 P7 P8
        go_wp2
        go_ret2
        exact ⟨_, _, _, rfl, R8, P⟩
  · rw [if_neg hb]
    generalize both l k = E at *
    have h0 : ¬ (E : Int) = 0 := by omega
    go_enter Tryd.func40, Tryd.ntmps40
    go_wp2_with fail
    refine hB.mono ?_
    rintro e w' ⟨rfl, rfl⟩
    go_wp2
    go_ret2
    exact ⟨none, 0, 0, rfl, Rd.nil_ _, On.refl _⟩
end Go.Proofs.YtakkbemldccekaaDoor.Sb
/-
  The specification of hitting sets: singles, All, Packing, for any list of ints.
-/
namespace Go.Proofs.YtakkbemldccekaaDoor.Sb
open Go.RowKit
set_option linter.unusedVariables false
set_option maxRecDepth 100000
theorem els_get {x j : Nat} (h : j < (els x).length) : ∃ i, i < 24 ∧ x.testBit i = true ∧ (els x).getD j 0 = i ∧ (els x).take (j + 1) = (els x).take j ++ [i] ∧ (sgl x).take (j + 1) = (sgl x).take j ++ [2 ^ i] := by
  refine ⟨(els x)[j], ((mem_els x _).1 (List.getElem_mem h)).1, ((mem_els x _).1 (List.getElem_mem h)).2, by simp [h], ?_, ?_⟩
  · rw [List.take_add_one, List.getElem?_eq_getElem h]; rfl
  · unfold sgl
    rw [List.take_add_one]; simp [h]
set_option maxHeartbeats 4000000 in
theorem rsingles_any (w : World) (s : Nat) (hs : s < 16777216) :
    Calls Tryd.prog 41 #[.int .i64 (s : Int)] w (GivesL w (ints (sgl s))) := by
  have hE := elements_any w (s : Int)
  rw [cut_nat s hs] at hE
  go_enter Tryd.func41, Tryd.ntmps41
  go_wp2_with fail
  refine hE.mono ?_
  rintro e w1 ⟨A1, m, c1, rfl, R1, P1⟩
  have hm : (els s).length = m := by have := R1.len; rw [ints_len] at this; exact this
  have hcap := R1.cap
  have hmax := R1.max
  have hm24 : m ≤ 24 := by rw [← hm]; exact pc_le s
  have HM := Lib.hid hm
  have HR := Lib.hid R1
  clear hE hm R1
  go_wp2
  go_loopw [3, 9] (fun v i wr => ∃ j : Nat, j ≤ m ∧ i = .int .i64 (j : Int) ∧ wr.ownsRow w1.heap.size 3 1 v ((sgl s).take j).length (VI (ints ((sgl s).take j))) ∧ On w1 wr) (fun _ i _ => m - (intOf i).toNat)
  case atStart => exact ⟨0, by omega, rfl, row_nil _ _ _, On.refl _⟩
  case round =>
    obtain ⟨j, hj, rfl, hrow, hon⟩ := hrel
    obtain ⟨A4, c4, rfl⟩ := row_form hrow
    have HROW := Lib.hid hrow
    clear hrow
    by_cases hlt : j < m
    · obtain ⟨i, hi, hb, hget, _, htk⟩ := els_get (x := s) (j := j) (by rw [HM.out]; exact hlt)
      obtain ⟨ad, e1, _, hc⟩ := (HR.out.on hon).at_ j _ (ints_get (by rw [HM.out]; exact hlt))
      cases e1
      rw [hget] at hc
      have hsh := shlw i hi
      have hsz := hon.size
      obtain ⟨p, hp⟩ : ∃ p, 2 ^ i = p := ⟨_, rfl⟩
      rw [hp] at htk hsh
      have hle : ((sgl s).take j).length ≤ 24 := by rw [List.length_take]; omega
      have HTK := Lib.hid htk
      have HLE := Lib.hid hle
      have HSH := Lib.hid hsh
      clear htk hget hle hb hp
      go_wp2_with (at_builtin; refine wpList_app rfl (.tmp 13) (.tmp 16) 22 rfl w1.heap.size 3 (.int .i64 0) 8 Tryd.underlying22 infoi rfl (by decide) (.slice A4 ((sgl s).take j).length c4) _ (VI (ints ((sgl s).take j))) rfl (row_alloc HROW.out _) (some ⟨wr.heap.size, 0, none⟩) 1 1 [.int .i64 (p : Int)] (by first | rfl | (rw [← HSH.out]; rfl)) (by first | exact rd_one _ _ _ | (rw [← HSH.out]; exact rd_one _ _ _)) (by simp [Value.oneCell']) (by have := HLE.out; omega) (by simp; omega) ?_; intro v' w5 hown5 hgrow5 _)
      refine ⟨⟨j + 1, by omega, by go_num, ?_, ?_⟩, by simp [intOf]; omega⟩
      · rw [HTK.out, List.length_append, List.length_singleton, VI_snoc]; exact hown5
      · exact on_row (hon.alloc _) (row_alloc HROW.out _) (Nat.le_refl _) hgrow5
    · obtain rfl : j = m := by omega
      have hall : (sgl s).take j = sgl s := List.take_of_length_le (by rw [sgl_length, HM.out]; omega)
      have hr := rd_of_row HROW.out
      rw [hall] at hr
      have HRR := Lib.hid hr
      have HQ := Lib.hid (congrArg List.length hall)
      clear hall hr
      go_wp2
      go_ret
      exact ⟨A4, (sgl s).length, c4, by rw [HQ.out]; rfl, HRR.out, P1.trans hon⟩
set_option maxHeartbeats 8000000 in
theorem rAll_all (w : World) (A : Option Addr) (n c : Nat) (l : List Int) (h : Rd w A n c (VI l)) :
    Calls Tryd.prog 14 #[.slice A n c] w (GivesK w (allR l).1 (allR l).2) := by
  have hE := Error_any w A n c l h
  unfold allR
  by_cases hz : lerr l = 0
  · rw [if_pos hz]
    obtain ⟨hlk, hok, hlen⟩ := lerr_nats l hz
    rw [hlk] at h
    have hn : (natsOf l).length = n := by have := h.len; rw [ints_len] at this; exact this
    have hM := rleast_any w A n c (natsOf l) h hok (by omega)
    rw [hz] at hE
    have hmo := minL_ok hok
    have hml := min_len1 hlen
    have hal : allN (natsOf l) = hitGo [0] (minL (natsOf l)) := rfl
    have P0 := (On.refl w).alloc (.cells #[.int .i64 0] 3)
    have hM2 := fun W (k : On w W) => rleast_any W A n c (natsOf l) (h.on k) hok (by omega)
    generalize minL (natsOf l) = k at hM hM2 hmo hml hal
    generalize allN (natsOf l) = R at hal ⊢
    have HAL := Lib.hid hal
    have HM2 := Lib.hid hM2
    clear h hz hlk hok hlen hal hn hM hM2
    go_enter Tryd.func14, Tryd.ntmps14
    go_wp2_with fail
    refine hE.mono ?_
    rintro e w0 ⟨rfl, rfl⟩
    have hM := HM2.out _ P0
    have hst : Rd (w.alloc (.cells #[.int .i64 0] 3)) (some ⟨w.heap.size, 0, none⟩) 1 1 (VI (ints [0])) := rd_one _ _ _
    go_wp2_with fail
    refine hM.mono ?_
    rintro e w1 ⟨A1, m, c1, rfl, R1, P1⟩
    have hm : k.length = m := by have := R1.len; rw [ints_len] at this; exact this
    have hcap := R1.cap
    have hmax := R1.max
    have HM := Lib.hid hm
    have HR := Lib.hid R1
    have HMO := Lib.hid hmo
    have HST := Lib.hid (hst.on P1)
    have HP1 := Lib.hid (P0.trans P1)
    clear hM hm R1 hmo hst P0 P1 hE
    go_wp2
    go_loopw [5, 19] (fun v i wr => ∃ (j : Nat) (f : List Nat) (A2 : Option Addr) (n2 c2 : Nat), j ≤ m ∧ i = .int .i64 (j : Int) ∧ v = .slice A2 n2 c2 ∧ Hid (Rd wr A2 n2 c2 (VI (ints f))) ∧ Hid (Ok f) ∧ Hid (f.length ≤ 1024) ∧ Hid (R = hitGo f (k.drop j)) ∧ Hid (On w1 wr)) (fun _ i _ => m - (intOf i).toNat)
    case atStart => exact ⟨0, [0], _, _, _, by omega, rfl, rfl, HST, ok_zero, by show [0].length ≤ 1024; decide, HAL.out, On.refl w1⟩
    case round =>
      obtain ⟨j, f, A2, n2, c2, hj, rfl, rfl, HF, HOF, HLF, HGO, HW⟩ := hrel
      by_cases hlt : j < m
      · have hjl : j < k.length := by rw [HM.out]; exact hlt
        obtain ⟨ad, e1, hb, hc⟩ := (HR.out.on HW.out).at_ j _ (ints_get hjl)
        cases e1
        have hx24 := HMO.out _ (getD_mem hjl)
        have hgo := HGO.out
        rw [drop_get hjl] at hgo
        unfold hitGo at hgo
        obtain ⟨x, hx⟩ : ∃ x, k.getD j 0 = x := ⟨_, rfl⟩
        rw [hx] at hc hx24 hgo
        have HGO2 := Lib.hid hgo
        have hS := rsingles_any wr x hx24
        clear hx hgo
        go_wp2_with fail
        refine hS.mono ?_
        rintro e w2 ⟨A3, n3, c3, rfl, R3, P3⟩
        have hP := rproduct_big w2 A2 n2 c2 _ (HF.out.on P3) A3 n3 c3 _ R3 (fun _ => by rw [ints_length]; exact HLF.out) (fun _ => by rw [ints_length]; exact sgl_len x)
        have l1 := lerr_ok HOF.out HLF.out
        have l2 := lerr_ok (sgl_ok x) (Nat.le_trans (sgl_len x) (by decide))
        have eP : prodR (ints f) (ints (sgl x)) = lim (minL (uni f (sgl x))) := by
          unfold prodR both
          rw [if_pos l1, if_pos l2, nats_ints, nats_ints]
        rw [eP] at hP
        have hou := minL_ok (uni_ok HOF.out (sgl_ok x))
        generalize minL (uni f (sgl x)) = L at hP HGO2 hou
        have HOU := Lib.hid hou
        clear hS eP l1 l2 R3 hou
        by_cases hl : L.length ≤ 1024
        · have eL : lim L = (L, 0) := by unfold lim; rw [if_pos hl]
          rw [eL] at hP
          have hg2 := HGO2.out
          rw [if_pos hl] at hg2
          have HG := Lib.hid hg2
          have HLL := Lib.hid hl
          clear eL hg2 hl
          go_wp2_with fail
          refine hP.mono ?_
          rintro e w4 ⟨A4, n4, c4, rfl, R4, P4⟩
          have HR4 := Lib.hid R4
          have HW4 := Lib.hid ((HW.out.trans P3).trans P4)
          clear hP R4
          go_wp2
          exact ⟨⟨j + 1, L, A4, n4, c4, by omega, by go_num, rfl, HR4, HOU, HLL, HG, HW4⟩, by simp [intOf]; omega⟩
        · have eL : lim L = ([], 4) := by unfold lim; rw [if_neg hl]
          rw [eL] at hP
          have hg2 := HGO2.out
          rw [if_neg hl] at hg2
          have HG := Lib.hid hg2
          clear eL hg2 hl
          go_wp2_with fail
          refine hP.mono ?_
          rintro e w4 ⟨A4, n4, c4, rfl, R4, P4⟩
          have HW4 := Lib.hid ((HW.out.trans P3).trans P4)
          clear hP R4
          go_wp2
          go_ret2
          exact ⟨none, 0, 0, by rw [HG.out]; rfl, by rw [HG.out]; exact Rd.nil_ _, HP1.out.trans HW4.out⟩
      · obtain rfl : j = m := by omega
        have hgo := HGO.out
        rw [List.drop_of_length_le (by rw [HM.out]; omega)] at hgo
        unfold hitGo at hgo
        have HG := Lib.hid hgo
        clear hgo
        go_wp2
        go_ret2
        exact ⟨A2, n2, c2, by rw [HG.out]; rfl, by rw [HG.out]; exact HF.out, HP1.out.trans HW.out⟩
  · rw [if_neg hz]
    generalize lerr l = E at hz hE ⊢
    have h0 : ¬ (E : Int) = 0 := by omega
    clear h
    go_enter Tryd.func14, Tryd.ntmps14
    go_wp2_with fail
    refine hE.mono ?_
    rintro e w0 ⟨rfl, rfl⟩
    go_wp2
    go_ret2
    exact ⟨none, 0, 0, rfl, Rd.nil_ _, On.refl _⟩
set_option maxHeartbeats 8000000 in
theorem rPacking_all (w : World) (A : Option Addr) (n c : Nat) (l : List Int) (h : Rd w A n c (VI l)) :
    Calls Tryd.prog 15 #[.slice A n c] w (GivesK w (packR l).1 (packR l).2) := by
  have hE := Error_any w A n c l h
  unfold packR
  by_cases hz : lerr l = 0
  · rw [if_pos hz]
    obtain ⟨hlk, hok, hlen⟩ := lerr_nats l hz
    rw [hlk] at h
    have hn : (natsOf l).length = n := by have := h.len; rw [ints_len] at this; exact this
    have hM := rleast_any w A n c (natsOf l) h hok (by omega)
    rw [hz] at hE
    have hmo := minL_ok hok
    have hml := min_len1 hlen
    generalize minL (natsOf l) = k at hM hmo hml ⊢
    clear h hz hlk hok hlen hn
    go_enter Tryd.func15, Tryd.ntmps15
    go_wp2_with fail
    refine hE.mono ?_
    rintro e w0 ⟨rfl, rfl⟩
    go_wp2_with fail
    refine hM.mono ?_
    rintro e w1 ⟨A1, m, c1, rfl, R1, P1⟩
    have hm : k.length = m := by have := R1.len; rw [ints_len] at this; exact this
    have hcap := R1.cap
    have hmax := R1.max
    have hm10 : m ≤ 1024 := by omega
    have HM := Lib.hid hm
    have HR := Lib.hid R1
    have HMO := Lib.hid hmo
    clear hM hm R1 hmo hml hE
    go_wp2
    go_loopw [5, 6, 17] (fun v t i wr => ∃ (j tk : Nat) (p : List Nat), j ≤ m ∧ i = .int .i64 (j : Int) ∧ t = .int .i64 (tk : Int) ∧ tk < 16777216 ∧ p.length ≤ j ∧ Hid (packL 0 k = p ++ packL tk (k.drop j)) ∧ wr.ownsRow w1.heap.size 3 1 v p.length (VI (ints p)) ∧ On w1 wr) (fun _ _ i _ => m - (intOf i).toNat)
    case atStart => exact ⟨0, 0, [], by omega, rfl, rfl, by decide, by decide, rfl, row_nil _ _ _, On.refl _⟩
    case round =>
      obtain ⟨j, tk, p, hj, rfl, rfl, htk, hpl, HP, hrow, hon⟩ := hrel
      obtain ⟨A4, c4, rfl⟩ := row_form hrow
      have HROW := Lib.hid hrow
      clear hrow
      by_cases hlt : j < m
      · have hjl : j < k.length := by rw [HM.out]; exact hlt
        obtain ⟨ad, e1, hb, hc⟩ := (HR.out.on hon).at_ j _ (ints_get hjl)
        cases e1
        have hx24 := HMO.out _ (getD_mem hjl)
        have hpk := HP.out
        rw [drop_get hjl, packL_cons] at hpk
        obtain ⟨x, hx⟩ : ∃ x, k.getD j 0 = x := ⟨_, rfl⟩
        rw [hx] at hc hx24 hpk
        have hand := and_nat x tk hx24 htk
        have hor := or_nat tk x (Nat.lt_trans htk (by decide)) (Nat.lt_trans hx24 (by decide))
        have hor24 := or_lt24 htk hx24
        have hsz := hon.size
        obtain ⟨z, hzz⟩ : ∃ z, x &&& tk = z := ⟨_, rfl⟩
        rw [hzz] at hand hpk
        have HPK := Lib.hid hpk
        clear hx hpk hzz
        by_cases hz : z = 0
        · subst hz
          have hp2 := HPK.out
          rw [if_pos rfl] at hp2
          have HP2 := Lib.hid hp2
          have HPL := Lib.hid hpl
          clear hp2 hpl
          go_wp2_with (at_builtin; refine wpList_app rfl (.tmp 25) (.tmp 27) 22 rfl w1.heap.size 3 (.int .i64 0) 8 Tryd.underlying22 infoi rfl (by decide) (.slice A4 p.length c4) _ (VI (ints p)) rfl (row_alloc HROW.out _) (some ⟨wr.heap.size, 0, none⟩) 1 1 [.int .i64 (x : Int)] rfl (rd_one _ _ _) (by simp [Value.oneCell']) (by have := HPL.out; omega) (by simp; omega) ?_; intro v' w5 hown5 hgrow5 _)
          refine ⟨⟨j + 1, tk ||| x, p ++ [x], by omega, by go_num, rfl, hor24, by have := HPL.out; simp; omega, ?_, ?_, ?_⟩, by simp [intOf]; omega⟩
          · show packL 0 k = _
            rw [HP2.out, List.append_assoc]; rfl
          · rw [List.length_append, List.length_singleton, VI_snoc]; exact hown5
          · exact on_row (hon.alloc _) (row_alloc HROW.out _) (Nat.le_refl _) hgrow5
        · have hz2 : ¬ (z : Int) = 0 := by omega
          have hp2 := HPK.out
          rw [if_neg hz] at hp2
          have HP2 := Lib.hid hp2
          clear hp2
          go_wp2
          exact ⟨⟨j + 1, tk, p, by omega, by go_num, rfl, htk, by omega, HP2, HROW.out, hon⟩, by simp [intOf]; omega⟩
      · obtain rfl : j = m := by omega
        have hpk := HP.out
        rw [List.drop_of_length_le (by rw [HM.out]; omega)] at hpk
        rw [packL_nil, List.append_nil] at hpk
        have HPK := Lib.hid hpk
        clear hpk
        go_wp2
        go_ret2
        exact ⟨A4, _, c4, rfl, by show Rd _ _ _ _ (VI (ints (packL 0 k))); rw [HPK.out]; exact rd_of_row HROW.out, P1.trans hon⟩
  · rw [if_neg hz]
    generalize lerr l = E at hz hE ⊢
    have h0 : ¬ (E : Int) = 0 := by omega
    clear h
    go_enter Tryd.func15, Tryd.ntmps15
    go_wp2_with fail
    refine hE.mono ?_
    rintro e w0 ⟨rfl, rfl⟩
    go_wp2
    go_ret2
    exact ⟨none, 0, 0, rfl, Rd.nil_ _, On.refl _⟩
end Go.Proofs.YtakkbemldccekaaDoor.Sb
/-
  The specification of hitting sets: Dual, Minimal, for any arguments.
-/
namespace Go.Proofs.YtakkbemldccekaaDoor.Sb
open Go.RowKit
set_option linter.unusedVariables false
set_option maxRecDepth 100000
set_option maxHeartbeats 8000000 in
theorem rDual_all (w : World) (A : Option Addr) (n c : Nat) (a : List Int) (h : Rd w A n c (VI a)) (B : Option Addr) (m d : Nat) (b : List Int) (h2 : Rd w B m d (VI b)) :
    Calls Tryd.prog 16 #[.slice A n c, .slice B m d] w fun e w' => e = .returned (.tuple #[.bool (dualR a b).1, .int .i64 ((dualR a b).2 : Nat)]) ∧ On w w' := by
  have hB := rboth_any w A n c a h B m d b h2
  have hAL := rAll_all w A n c a h
  unfold dualR
  by_cases hb : both a b = 0
  · obtain ⟨hza, hzb⟩ := both_zero hb
    rw [if_pos hb]
    rw [hb] at hB
    have hao := allR_ok hza
    obtain ⟨e2, o2, l2⟩ := lerr_nats b hzb
    rw [e2] at h2
    have hm : (natsOf b).length = m := by have := h2.len; rw [ints_len] at this; exact this
    have hLe := fun W (k : On w W) => rleast_any W B m d (natsOf b) (h2.on k) o2 (by omega)
    generalize minL (natsOf b) = k at hLe ⊢
    generalize allR a = F at hao hAL ⊢
    obtain ⟨f, er⟩ := F
    simp only at hao hAL ⊢
    have HLe := Lib.hid hLe
    clear h h2 e2 o2 l2 hm hLe hao hb hza hzb
    by_cases her : er = 0
    · subst her
      rw [if_pos rfl]
      go_enter Tryd.func16, Tryd.ntmps16
      go_wp2_with fail
      refine hB.mono ?_
      rintro e w0 ⟨rfl, rfl⟩
      go_wp2_with fail
      refine hAL.mono ?_
      rintro e w1 ⟨A1, n1, c1, rfl, R1, P1⟩
      have hL := HLe.out w1 P1
      clear hB hAL
      go_wp2_with fail
      refine hL.mono ?_
      rintro e w2 ⟨A2, n2, c2, rfl, R2, P2⟩
      have hI := ints_any w2 A1 n1 c1 (ints f) A2 n2 c2 (ints k) (R1.on P2) R2
      rw [show decide (ints f = ints k) = decide (f = k) from decide_eq_decide.2 ints_inj] at hI
      clear hL
      go_wp2_with fail
      refine hI.mono ?_
      rintro e w3 ⟨rfl, P3⟩
      clear hI
      have PP := P1.trans P2
      go_wp2
      go_ret2
      exact ⟨rfl, PP.trans P3⟩
    · rw [if_neg her]
      have h0 : ¬ (er : Int) = 0 := by omega
      go_enter Tryd.func16, Tryd.ntmps16
      go_wp2_with fail
      refine hB.mono ?_
      rintro e w0 ⟨rfl, rfl⟩
      go_wp2_with fail
      refine hAL.mono ?_
      rintro e w1 ⟨A1, n1, c1, rfl, R1, P1⟩
      clear hB hAL
      go_wp2
      go_ret2
      exact ⟨rfl, P1⟩
  · rw [if_neg hb]
    generalize both a b = E at hb hB ⊢
    have h0 : ¬ (E : Int) = 0 := by omega
    clear h h2
    go_enter Tryd.func16, Tryd.ntmps16
    go_wp2_with fail
    refine hB.mono ?_
    rintro e w0 ⟨rfl, rfl⟩
    go_wp2
    go_ret2
    exact ⟨rfl, On.refl _⟩
set_option maxHeartbeats 8000000 in
theorem rMinimal_any (w : World) (A : Option Addr) (n c : Nat) (l : List Int) (h : Rd w A n c (VI l)) (s : Int) :
    Calls Tryd.prog 24 #[.slice A n c, .int .i64 s] w fun e w' => e = .returned (.tuple #[.bool (minR l s).1, .int .i64 ((minR l s).2 : Nat)]) ∧ On w w' := by
  have hM := fun W h s => rmeets_all W A n c l h s
  have hM1 := hM w h s
  have hok := meetsR_ok (l := l) (s := s)
  have hn := meetsR_nat (l := l)
  unfold minR
  generalize meetsR l s = R at hM1 hok ⊢
  obtain ⟨b, er⟩ := R
  simp only at hM1 hok ⊢
  have HR := Lib.hid h
  have HMM := Lib.hid hM
  have HOK := Lib.hid hok
  have HNN := Lib.hid hn
  clear h hM hok hn
  by_cases her : er = 0
  · subst her
    obtain ⟨hz, x, rfl, hx24, hbx⟩ := HOK.out rfl
    cases b with
    | false =>
      rw [if_neg (by simp)]
      go_enter Tryd.func24, Tryd.ntmps24
      go_wp2_with fail
      refine hM1.mono ?_
      rintro e w1 ⟨rfl, P1⟩
      clear hM1
      go_wp2
      go_ret2
      exact ⟨rfl, P1⟩
    | true =>
      rw [if_pos ⟨rfl, rfl⟩]
      have hS := fun W => elements_any W (x : Int)
      rw [cut_nat x hx24] at hS
      have hmt := fun W h i => HMM.out W h ((without x (2 ^ i) : Nat) : Int)
      have hwl : ∀ i, without x (2 ^ i) < 16777216 := fun i => Nat.lt_of_le_of_lt (without_le _ _) hx24
      simp only [HNN.out hz (hwl _)] at hmt
      have HMT := Lib.hid hmt
      rw [Int.toNat_natCast]
      clear hmt hbx
      go_enter Tryd.func24, Tryd.ntmps24
      go_wp2_with fail
      refine hM1.mono ?_
      rintro e w1 ⟨rfl, P1⟩
      clear hM1
      go_wp2_with fail
      refine (hS _).mono ?_
      rintro e w2 ⟨A2, m, c2, rfl, R2, P2⟩
      have hm : (els x).length = m := by have := R2.len; rw [ints_len] at this; exact this
      have hcap := R2.cap
      have hmax := R2.max
      have HM := Lib.hid hm
      have HR2 := Lib.hid R2
      have HP := Lib.hid (P1.trans P2)
      clear hS R2 hm
      go_wp2
      go_loopw [28] (fun i wr => ∃ j : Nat, j ≤ m ∧ i = .int .i64 (j : Int) ∧ Hid (((els x).take j).all (fun i => !meets (natsOf l) (without x (2 ^ i))) = true) ∧ Hid (On w2 wr)) (fun i _ => m - (intOf i).toNat)
      case atStart => exact ⟨0, by omega, rfl, by show _ = true; simp, On.refl w2⟩
      case round =>
        obtain ⟨j, hj, rfl, HA, HW⟩ := hrel
        by_cases hlt : j < m
        · have hjl : j < (els x).length := by rw [HM.out]; exact hlt
          obtain ⟨i, hi, hxi, hget, htake, _⟩ := els_get hjl
          obtain ⟨ad, e1, hb, hc⟩ := (HR2.out.on HW.out).at_ j _ (ints_get hjl)
          cases e1
          rw [hget] at hc
          have hCM := HMT.out wr (HR.out.on (HP.out.trans HW.out)) i
          have hnew : ∀ b, meets (natsOf l) (without x (2 ^ i)) = b → ((els x).take (j + 1)).all (fun i => !meets (natsOf l) (without x (2 ^ i))) = !b := by
            intro b hb
            rw [htake, List.all_append, HA.out, Bool.true_and]; simp [hb]
          have hbad : meets (natsOf l) (without x (2 ^ i)) = true → (els x).all (fun i => !meets (natsOf l) (without x (2 ^ i))) = false := by
            intro hb
            rw [Bool.eq_false_iff, ne_eq, List.all_eq_true]
            intro hall
            have := hall i ((mem_els x i).2 ⟨hi, hxi⟩)
            rw [hb] at this; cases this
          obtain ⟨b, hbb⟩ : ∃ b, meets (natsOf l) (without x (2 ^ i)) = b := ⟨_, rfl⟩
          rw [hbb] at hCM
          have hn2 := hnew b hbb
          have hb2 : b = true → (els x).all (fun i => !meets (natsOf l) (without x (2 ^ i))) = false := fun e => hbad (by rw [hbb, e])
          have hdl := hwl i
          have hsh := shlw i hi
          have hp24 := two_lt hi
          have hnot := andNot_nat x (2 ^ i) (Nat.lt_trans hx24 (by decide)) (Nat.lt_trans hp24 (by decide))
          generalize without x (2 ^ i) = d at hCM hdl hnot
          obtain ⟨p, hp⟩ : ∃ p, 2 ^ i = p := ⟨_, rfl⟩
          rw [hp] at hsh hnot
          have HN2 := Lib.hid hn2
          have HB2 := Lib.hid hb2
          clear hn2 hb2 hnew hbad hbb htake hget hp hp24
          cases b with
          | false =>
            go_wp2_with fail
            refine hCM.mono ?_
            rintro e w3 ⟨rfl, P3⟩
            clear hCM
            have HW3 := Lib.hid (HW.out.trans P3)
            go_wp2
            exact ⟨⟨j + 1, by omega, by go_num, HN2, HW3⟩, by simp [intOf]; omega⟩
          | true =>
            go_wp2_with fail
            refine hCM.mono ?_
            rintro e w3 ⟨rfl, P3⟩
            clear hCM
            have hb3 := HB2.out (by trivial)
            have HB3 := Lib.hid hb3
            clear hb3
            go_wp2
            go_ret2
            exact ⟨by rw [HB3.out]; rfl, HP.out.trans (HW.out.trans P3)⟩
        · obtain rfl : j = m := by omega
          have ha := HA.out
          rw [List.take_of_length_le (by rw [HM.out]; omega)] at ha
          have HA2 := Lib.hid ha
          clear ha
          go_wp2
          go_ret2
          exact ⟨by rw [HA2.out]; rfl, HP.out.trans HW.out⟩
  · rw [if_neg (fun h => her h.1)]
    have h0 : ¬ (er : Int) = 0 := by omega
    go_enter Tryd.func24, Tryd.ntmps24
    go_wp2_with fail
    refine hM1.mono ?_
    rintro e w1 ⟨rfl, P1⟩
    clear hM1
    go_wp2
    go_ret2
    exact ⟨rfl, P1⟩
end Go.Proofs.YtakkbemldccekaaDoor.Sb
