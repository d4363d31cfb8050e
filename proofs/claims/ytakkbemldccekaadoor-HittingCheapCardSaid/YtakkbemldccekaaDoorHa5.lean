/-
  HittingCheap: the walk.
-/
import Derived.Test.YtakkbemldccekaaDoorHa3
import Derived.Test.YtakkbemldccekaaDoorSfa
namespace Go.Proofs.YtakkbemldccekaaDoor.Sb
open Go.RowKit
set_option linter.unusedVariables false
set_option maxRecDepth 100000
theorem is_other (w : World) : Calls Tryd.prog 27 #[.iface 50 (.int .i64 17), .int .i64 3] w fun e w' => e = .returned (.bool false) ∧ w = w' := by
  have hta : ∀ W, (Instr.typeAssert (.iface 50 (.int .i64 17)) 26 50 true).run Tryd.prog W = .ok (.tuple #[.int .i64 17, .bool true]) W := fun _ => by kernel_rfl
  go_enter Tryd.func27, Tryd.ntmps27
  go_wp2
  go_ret
  exact ⟨rfl, rfl⟩
theorem greatest_lt (c : Nat) : greatest c < 24 := by
  unfold greatest
  cases h : (els c).getLast? with
  | none => decide
  | some i =>
    have := ((mem_els c i).1 (List.mem_of_getLast? h)).1
    show (i : Int) < 24
    omega
theorem Bst.cost {l : List Nat} {c : Nat → Nat} {H K : Nat} (h : Bst l c H) (hK : K < 16777216) (hm : meets l K = true) : sumR c H 24 ≤ sumR c K 24 := by
  have h1 := h.2.2 K hK hm
  rw [wt_sum c H h.1, wt_sum c K hK] at h1
  have := pc_le H
  have := pc_le K
  have := h.1
  omega
def ones : List Int := List.replicate 24 1
theorem ones_ok : okC ones = true := by decide
theorem ones_cof {i : Nat} (h : i < 24) : cof ones i = 1 := by
  unfold cof ones
  rw [List.getD_eq_getElem?_getD, List.getElem?_replicate, if_pos h]; rfl
theorem ones_sum (s : Nat) : sumR (cof ones) s 24 = pc s := by
  rw [← sumR_one]
  exact sumR_congr 24 fun i hi => ⟨rfl, fun _ => ones_cof hi⟩
theorem zero_sum (s : Nat) : ∀ n, sumR (fun _ => 0) s n = 0 := by
  intro n
  induction n with
  | zero => rfl
  | succ n ih => unfold sumR; rw [ih]; simp
theorem ones_arith (p r H K : Nat) (hp : p ≤ 24) (hr : r ≤ 24) (hH : H < 16777216) (hK : K < 16777216) (h : p * 16777216 + H + p * 536870912 ≤ r * 16777216 + K + r * 536870912) : p * 16777216 + H ≤ r * 16777216 + K := by
  have h2 : p ≤ r := by omega
  by_cases h3 : p = r
  · subst h3; exact Nat.le_of_add_le_add_right h
  · have h4 : (p + 1) * 16777216 ≤ r * 16777216 := Nat.mul_le_mul_right _ (by omega)
    rw [Nat.add_mul, Nat.one_mul] at h4
    exact Nat.le_trans (Nat.add_le_add_left (Nat.le_of_lt hH) _) (Nat.le_trans h4 (Nat.le_add_right _ K))
theorem ones_bst {l : List Nat} {H : Nat} (h : Bst l (cof ones) H) : Bst l (fun _ => 0) H := by
  refine ⟨h.1, h.2.1, fun K hK hm => ?_⟩
  have h1 := h.2.2 K hK hm
  have a := h.1
  rw [wt_sum _ H h.1, wt_sum _ K hK, ones_sum, ones_sum] at h1
  rw [wt_sum _ H h.1, wt_sum _ K hK, zero_sum, zero_sum]
  rw [Nat.zero_mul, Nat.add_zero, Nat.add_zero]
  exact ones_arith _ _ _ _ (pc_le H) (pc_le K) a hK h1
theorem made_zero : madeCells #[Value.int .i64 0] 24 = wv (fun _ => 0) := by
  apply Array.toList_inj.1
  rw [toList_madeCells_one]; rfl
theorem run_mk24' (w : World) :
    (Instr.makeSlice 22 (.int .i64 24) (.int .i64 24)).run Tryd.prog w = .ok (.slice (some ⟨w.heap.size, 0, none⟩) 24 24) (w.alloc (.cells (wv fun _ => 0) 3)) := by
  obtain ⟨i, hi, hz, hs, hb⟩ := info_parts' infoi
  have hr : _ = Result.ok (Value.slice (some ⟨w.heap.size, 0, none⟩) 24 24) (w.alloc (.cells (madeCells #[.int .i64 0] (24 * i.size)) 3)) := run_make (P := Tryd.prog) w 22 3 i (.int .i64 0) Tryd.underlying22 hi hz .i64 .i64 24 24 (by decide) (by decide) (by rw [hb]; decide) (by decide)
  rw [hs, made_zero] at hr
  exact hr
theorem rd_ones {w : World} {q : Nat} (h : Own w q 3 (wv fun k => if k < 24 then 1 else 0)) : Rd w (some ⟨q, 0, none⟩) 24 24 (VI ones) := by
  have hl : ones.length = 24 := List.length_replicate ..
  refine ⟨by rw [VI_length]; exact hl, by omega, by omega, fun e => (by cases e), fun _ => ⟨⟨q, 0, none⟩, rfl, h.lt, fun j u hj => ?_⟩⟩
  have hj24 : j < 24 := by
    have := (List.getElem?_eq_some_iff.1 hj).1
    rwa [VI_length, hl] at this
  rw [add_plain, h.cell, Nat.zero_add, wv_get _ hj24, if_pos hj24, ← hj, VI_get (by rw [hl]; exact hj24)]
  unfold ones
  rw [List.getD_eq_getElem?_getD, List.getElem?_replicate, if_pos hj24]; rfl
set_option maxHeartbeats 8000000 in
theorem hcheap_any (w : World) (A : Option Addr) (n c : Nat) (la : List Int) (B : Option Addr) (m d : Nat) (lb : List Int) (R1 : Rd w A n c (VI la)) (R2 : Rd w B m d (VI lb)) (hT : Tab w) :
    Calls Tryd.prog 8 #[.slice A n c, .slice B m d] w fun e w' => e = .returned (.bool true) ∧ On w w' := by
  have hV := hvalid_any w A n c la R1
  have hAW := hawake_any w hT
  have capB := R2.cap
  have maxB := R2.max
  by_cases hv : validH la = true
  · rw [hv] at hV
    by_cases h24 : m < 24
    · have d1 : decide ((m : Int) < 24) = true := decide_eq_true (by omega)
      clear R1 R2 hT
      go_enter Tryd.func8, Tryd.ntmps8
      go_wp2_with fail
      refine hV.mono ?_
      rintro e w' ⟨rfl, rfl⟩
      go_wp2_with fail
      refine hAW.mono ?_
      rintro e w1 ⟨rfl, P1⟩
      go_wp2
      go_ret
      exact ⟨rfl, P1⟩
    · have d1 : decide ((m : Int) < 24) = false := decide_eq_false (by omega)
      by_cases h40 : 40 < m
      · have d2 : decide ((40 : Int) < (m : Int)) = true := decide_eq_true (by omega)
        clear R1 R2 hT
        go_enter Tryd.func8, Tryd.ntmps8
        go_wp2_with fail
        refine hV.mono ?_
        rintro e w' ⟨rfl, rfl⟩
        go_wp2_with fail
        refine hAW.mono ?_
        rintro e w1 ⟨rfl, P1⟩
        go_wp2
        go_ret
        exact ⟨rfl, P1⟩
      · have d2 : decide ((40 : Int) < (m : Int)) = false := decide_eq_false (by omega)
        obtain ⟨hz, _⟩ := validH_ok hv
        have hok := (lerr_nats la hz).2.1
        have hm : lb.length = m := by have := R2.len; rw [VI_length] at this; exact this
        have K1 := Lib.hid (fun W (k : On w W) => Cheapest_all W A n c la (R1.on k) B m d lb (R2.on k) (hT.on k))
        have K2 := Lib.hid (fun W (k : On w W) => All_all W A n c la (R1.on k))
        have K3 := Lib.hid (fun W (k : On w W) s => Meets_all W A n c la (R1.on k) s)
        have K4 := Lib.hid (fun W (k : On w W) x (hx : x < 16777216) (hc : okC lb = true) => htotal_any W x hx B m d lb (R2.on k) hc (by omega))
        have K5 := Lib.hid (fun W (k : On w W) q (hO : Own W q 3 (wv fun k => if k < 24 then 1 else 0)) => Cheapest_all W A n c la (R1.on k) _ _ _ ones (rd_ones hO) (hT.on k))
        have K6 := Lib.hid (fun W (k : On w W) => Least_all W A n c la (R1.on k) (hT.on k))
        have hcase : ∀ s t er, Ch la lb s t er → er = 3 ∨ (er = 17 ∧ allR la = ([], 0)) ∨ (er = 0 ∧ okC lb = true ∧ 0 ∉ natsOf la ∧ Bst (natsOf la) (cof lb) s ∧ t = sumR (cof lb) s 24) := by
          intro s t er h
          rcases h with ⟨h1, _⟩ | ⟨_, h1, _⟩ | ⟨_, _, _, _, _, h1⟩ | ⟨_, _, hc, h1, h2⟩
          · exact absurd hz h1
          · have := greatest_lt (orL (natsOf la)); omega
          · exact .inl h1
          · rcases h1 with ⟨h3, _⟩ | ⟨_, h3, _, h4⟩ | ⟨_, h3, h4, h5⟩
            · exact absurd hz h3
            · refine .inr (.inl ⟨h4, ?_⟩)
              unfold allR
              rw [if_pos hz]; exact allN_zero h3
            · exact .inr (.inr ⟨h5, hc, h3, h4, h2⟩)
        have hones : 0 ∉ natsOf la → ∀ s t er, Ch la ones s t er → er = 0 ∧ Bst (natsOf la) (fun _ => 0) s ∧ t = pc s := by
          intro h0 s t er h
          rcases h with ⟨h1, _⟩ | ⟨_, h1, _⟩ | ⟨_, _, h1, _⟩ | ⟨_, _, _, h1, h2⟩
          · exact absurd hz h1
          · have := greatest_lt (orL (natsOf la)); have e : ones.length = 24 := rfl; omega
          · rw [ones_ok] at h1; cases h1
          · rcases h1 with ⟨h3, _⟩ | ⟨_, h3, _⟩ | ⟨_, _, h4, h5⟩
            · exact absurd hz h3
            · exact absurd h3 h0
            · exact ⟨h5, ones_bst h4, by rw [h2, ones_sum]⟩
        have hleast : 0 ∉ natsOf la → ∀ s er, Lt la (fun _ => 0) s er → er = 0 ∧ Bst (natsOf la) (fun _ => 0) s := by
          intro h0 s er h
          rcases h with ⟨h3, _⟩ | ⟨_, h3, _⟩ | ⟨_, _, h4, h5⟩
          · exact absurd hz h3
          · exact absurd h3 h0
          · exact ⟨h5, h4⟩
        have hME := fun s (hs : s < 16777216) (hb : meets (natsOf la) s = true) => (meetsR_nat hz hs).trans (by rw [hb])
        have hcs := allR_cases hz
        have hao := allR_ok hz
        have hmt : (allR la).2 = 0 → ∀ x ∈ (allR la).1, meets (natsOf la) x = true := by
          intro h0 x hx
          unfold allR at h0 hx
          rw [if_pos hz] at h0 hx
          exact (allN_min hok h0 hx).1
        generalize allR la = F at K2 hcase hcs hao hmt
        obtain ⟨fa, ea⟩ := F
        simp only at K2 hcs hao hmt
        have HCASE := Lib.hid hcase
        have HONES := Lib.hid hones
        have HLEAST := Lib.hid hleast
        have HME := Lib.hid hME
        have HCS := Lib.hid hcs
        have HAO := Lib.hid hao
        have HMT := Lib.hid hmt
        clear hok hm hcase hones hleast hME hcs hao hmt R1 R2 hT hz hv
        go_enter Tryd.func8, Tryd.ntmps8
        go_wp2_with fail
        refine hV.mono ?_
        rintro e w' ⟨rfl, rfl⟩
        go_wp2_with fail
        refine hAW.mono ?_
        rintro e w1 ⟨rfl, P1⟩
        clear hV hAW
        go_wp2_with fail
        refine (K1.out w1 P1).mono ?_
        rintro e w2 ⟨s, t, er, hch, rfl, Q2⟩
        have P2 := P1.trans Q2
        have hcc := HCASE.out s t er hch
        clear hch K1 HCASE
        go_wp2_with fail
        refine (K2.out w2 P2).mono ?_
        rintro e w3 ⟨A3, n3, c3, rfl, S3, Q3⟩
        have P3 := Lib.hid (P2.trans Q3)
        clear P1 P2 Q2 Q3 K2
        rcases hcc with rfl | ⟨rfl, hF⟩ | ⟨rfl, hokc, h0, hB, rfl⟩
        · rw [errV_pos 3 (by decide)]
          have hI := is_err w3 3
          clear S3
          go_wp2_with fail
          refine hI.mono ?_
          rintro e w' ⟨rfl, rfl⟩
          go_wp2
          go_ret
          exact ⟨rfl, P3.out⟩
        · cases hF
          have hn3 : n3 = 0 := by have := S3.len; rw [ints_len] at this; simpa using this.symm
          subst hn3
          rw [errV_pos 17 (by decide), errV_zero]
          have hI := is_err w3 17
          have hI2 := is_other w3
          clear S3
          go_wp2_with fail
          refine hI2.mono ?_
          rintro e w' ⟨rfl, rfl⟩
          go_wp2_with fail
          refine hI.mono ?_
          rintro e w' ⟨rfl, rfl⟩
          go_wp2
          go_ret
          exact ⟨rfl, P3.out⟩
        · have hs24 := hB.1
          have hMM := K3.out w3 P3.out (s : Int)
          rw [HME.out s hs24 hB.2.1] at hMM
          simp only [errV_zero] at hMM ⊢
          have hcost := fun K hK hm => hB.cost (K := K) hK hm
          obtain ⟨t, ht⟩ : ∃ t, sumR (cof lb) s 24 = t := ⟨_, rfl⟩
          have hTT := fun W k => K4.out W k s hs24 hokc
          rw [ht] at hTT hcost ⊢
          have HCOST := Lib.hid hcost
          have HON := Lib.hid (HONES.out h0)
          have HLE := Lib.hid (HLEAST.out h0)
          clear hcost ht hB h0 HONES HLEAST
          go_wp2_with fail
          refine hMM.mono ?_
          rintro e w4 ⟨rfl, Q4⟩
          have P4 := P3.out.trans Q4
          have hT4 := hTT w4 P4
          clear hMM hTT
          go_wp2_with fail
          refine hT4.mono ?_
          rintro e w' ⟨rfl, rfl⟩
          clear hT4
          rcases HCS.out with rfl | rfl
          · obtain ⟨hfo, _, _⟩ := HAO.out rfl
            have hmt := HMT.out rfl
            have HFO := Lib.hid hfo
            have HMT2 := Lib.hid hmt
            have hfl : fa.length = n3 := by have := S3.len; rw [ints_len] at this; exact this
            have HFL := Lib.hid hfl
            have hcap3 := S3.cap
            have hmax3 := S3.max
            have HS := Lib.hid (S3.on Q4)
            have HP4 := Lib.hid P4
            simp only [errV_zero]
            clear hfo hmt hfl S3 Q4 P4 HCS HAO HMT
            go_wp2
            go_loop [93] (fun i => ∃ j : Nat, j ≤ n3 ∧ i = .int .i64 (j : Int)) (fun i => n3 - (intOf i).toNat)
            case atStart => exact ⟨0, by omega, rfl⟩
            case round =>
              obtain ⟨j, hj, rfl⟩ := hrel
              by_cases hlt : j < n3
              · have hjl : j < fa.length := by rw [HFL.out]; exact hlt
                obtain ⟨ad, e1, _, hc⟩ := HS.out.at_ j _ (ints_get hjl)
                cases e1
                have hxf := getD_mem hjl
                obtain ⟨x, hx⟩ : ∃ x, fa.getD j 0 = x := ⟨_, rfl⟩
                rw [hx] at hc hxf
                have hx24 := HFO.out x hxf
                have hle := HCOST.out x hx24 (HMT2.out x hxf)
                have hTX := K4.out w4 HP4.out x hx24 hokc
                obtain ⟨y, hy⟩ : ∃ y, sumR (cof lb) x 24 = y := ⟨_, rfl⟩
                rw [hy] at hle hTX
                have hnl : ¬ (y : Int) < (t : Int) := by omega
                clear hx hxf hx24 hy
                go_wp2_with fail
                refine hTX.mono ?_
                rintro e w' ⟨rfl, rfl⟩
                clear hTX
                go_wp2
                exact ⟨⟨j + 1, by omega, by go_num⟩, by simp [intOf]; omega⟩
              · obtain rfl : j = n3 := by omega
                have hmk := run_mk24' w4
                obtain ⟨q, hq⟩ : ∃ q, w4.heap.size = q := ⟨_, rfl⟩
                rw [hq] at hmk
                have hO0 : Own (w4.alloc (.cells (wv fun _ => 0) 3)) q 3 (wv fun k => if k < 0 then 1 else 0) := by
                  rw [← hq]; exact Own.new w4 _ _
                have HO0 := Lib.hid hO0
                have hon0 := (On.refl w4).alloc (.cells (wv fun _ => 0) 3)
                have HON0 := Lib.hid hon0
                clear hO0 hon0
                go_wp2
                go_loopw [106] (fun i wr => ∃ j : Nat, j ≤ 24 ∧ i = .int .i64 (j : Int) ∧ Own wr q 3 (wv fun k => if k < j then 1 else 0) ∧ On w4 wr) (fun i _ => 24 - (intOf i).toNat)
                case atStart => exact ⟨0, by omega, rfl, HO0.out, HON0.out⟩
                case round =>
                  obtain ⟨i, hi, rfl, hO, hon⟩ := hrel
                  clear hmk
                  by_cases hlt2 : i < 24
                  · have hc1 := (hO.cell i).trans (wv_get _ hlt2)
                    have hf1 := hO.frozen i
                    have hO2 := hO.set_ i (.int .i64 ((1 : Nat) : Int))
                    rw [wv_set _ i _ hlt2] at hO2
                    have hon2 := hon.setCell (p := ⟨q, i, none⟩) (by simp; omega) (.int .i64 1)
                    have HO2 := Lib.hid hO2
                    have HON2 := Lib.hid hon2
                    clear hO2 hon2 hO hon
                    go_wp2
                    refine ⟨⟨i + 1, by omega, by go_num, ?_, HON2.out⟩, by simp [intOf]; omega⟩
                    rw [wv_congr]
                    · exact HO2.out
                    · intro k hk
                      by_cases h1 : k = i
                      · rw [if_pos h1, if_pos (by omega)]
                      · rw [if_neg h1]
                        by_cases h2 : k < i
                        · rw [if_pos h2, if_pos (by omega)]
                        · rw [if_neg h2, if_neg (by omega)]
                  · obtain rfl : i = 24 := by omega
                    have hon5 := HP4.out.trans hon
                    have hC5 := K5.out wr hon5 q hO
                    have HP5 := Lib.hid hon5
                    clear hO hon hon5
                    go_wp2_with fail
                    refine hC5.mono ?_
                    rintro e w6 ⟨s6, t6, e6, hch, rfl, Q6⟩
                    obtain ⟨rfl, hb6, rfl⟩ := HON.out s6 t6 e6 hch
                    have P6 := HP5.out.trans Q6
                    have hL6 := K6.out w6 P6
                    simp only [errV_zero]
                    clear hC5 hch
                    go_wp2_with fail
                    refine hL6.mono ?_
                    rintro e w7 ⟨s7, e7, hlt7, rfl, Q7⟩
                    obtain ⟨rfl, hb7⟩ := HLE.out s7 e7 hlt7
                    obtain rfl := hb6.uniq hb7
                    have P7 := P6.trans Q7
                    have hs6 := hb6.1
                    have hCN := count_any w7 (s6 : Int)
                    rw [cut_nat s6 hs6] at hCN
                    simp only [errV_zero]
                    clear hL6 hlt7 hb6 hb7 P6 Q6 Q7
                    go_wp2_with fail
                    refine hCN.mono ?_
                    rintro e w' ⟨rfl, rfl⟩
                    go_wp2
                    go_ret
                    exact ⟨rfl, P7⟩
          · rw [errV_pos 4 (by decide)]
            have hI := is_err w4 4
            clear S3
            go_wp2_with fail
            refine hI.mono ?_
            rintro e w' ⟨rfl, rfl⟩
            go_wp2
            go_ret
            exact ⟨rfl, P4⟩
  · rw [Bool.not_eq_true] at hv
    rw [hv] at hV
    clear R1 R2 hT
    go_enter Tryd.func8, Tryd.ntmps8
    go_wp2_with fail
    refine hV.mono ?_
    rintro e w' ⟨rfl, rfl⟩
    go_wp2_with fail
    refine hAW.mono ?_
    rintro e w1 ⟨rfl, P1⟩
    go_wp2
    go_ret
    exact ⟨rfl, P1⟩
end Go.Proofs.YtakkbemldccekaaDoor.Sb
