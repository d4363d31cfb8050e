/-
  CubePairs.
-/
import Derived.Test.YthamjboppnlpdaaCi
namespace Go.Proofs.Ythamjboppnlpdaa.Cu
open Go.RowKit Go.Proofs.Ythamjboppnlpdaa.Sb
set_option linter.unusedVariables false
set_option maxRecDepth 100000
theorem chk_pair {a b : Cz} (h : chkL [a, b] = 0) : ∃ x y : Cb, a = zc x ∧ b = zc y ∧ OkC x ∧ OkC y := by
  have h' : (if chkC a = 0 then (if chkC b = 0 then 0 else chkC b) else chkC a) = 0 := h
  by_cases k : chkC a = 0
  · rw [if_pos k] at h'
    by_cases k2 : chkC b = 0
    · obtain ⟨x, hx, ox⟩ := chkC_zero k
      obtain ⟨y, hy, oy⟩ := chkC_zero k2
      exact ⟨x, y, hx, hy, ox, oy⟩
    · rw [if_neg k2] at h'; exact absurd h' k2
  · rw [if_neg k] at h'; exact absurd h' k
set_option maxHeartbeats 8000000 in
theorem pairs_ok (w : World) (a1 a2 b1 b2 : Nat) (ha : OkC (a1, a2)) (hb : OkC (b1, b2)) :
    Calls Try.prog 4 #[.agg #[.int .i64 (a1 : Int), .int .i64 (a2 : Int)], .agg #[.int .i64 (b1 : Int), .int .i64 (b2 : Int)]] w fun e w' => e = .returned (.bool true) ∧ On w w' := by
  obtain ⟨q, hq⟩ : ∃ q, w.heap.size = q := ⟨_, rfl⟩
  obtain ⟨w0, hw0⟩ : ∃ w0, (w.alloc (.cells #[.int .i64 (a1 : Int), .int .i64 (a2 : Int)] 23)).alloc (.cells #[.int .i64 (b1 : Int), .int .i64 (b2 : Int)] 23) = w0 := ⟨_, rfl⟩
  obtain ⟨O0, E0, P0⟩ := box2 hq hw0
  have cI := fun W => implies2_ok W (a1, a2) (b1, b2) ha hb
  have cM := fun W => meet_ok W (a1, a2) (b1, b2) ha hb
  have cD := fun W => minus2_ok W (a1, a2) (b1, b2) ha hb
  have cC := fun W => cons_ok W (a1, a2) (b1, b2) ha hb
  have cB := fun W => both_any W ((a1 : Int), (a2 : Int)) ((b1 : Int), (b2 : Int))
  have rM := fun W => rmeet_ok W (a1, a2) (b1, b2) ha hb
  have rC := fun W => rcons_ok W (a1, a2) (b1, b2) ha hb
  have rI := fun W => rimplies_ok W (a1, a2) (b1, b2) ha hb
  have rD := fun W => rminus_ok W (a1, a2) (b1, b2) ha hb
  have h0 := chk_two ha hb
  simp only at h0
  rw [h0] at cB
  obtain ⟨⟨⟨m1, m2⟩, mb⟩, hm⟩ : ∃ z, meetOut (a1, a2) (b1, b2) = z := ⟨_, rfl⟩
  obtain ⟨⟨⟨c1, c2⟩, cb⟩, hc⟩ : ∃ z, consOut (a1, a2) (b1, b2) = z := ⟨_, rfl⟩
  obtain ⟨ib, hi⟩ : ∃ z, implC (a1, a2) (b1, b2) = z := ⟨_, rfl⟩
  obtain ⟨l, hl⟩ : ∃ z, minusL (a1, a2) (b1, b2) = z := ⟨_, rfl⟩
  rw [hm] at cM rM
  rw [hc] at cC rC
  rw [hi] at cI rI
  rw [hl] at cD rD
  unfold cbV at cI cM cD cC rM rC rI rD
  unfold czV at cB
  simp only at cI cM cD cC cB rM rC rI rD
  clear hm hc hi hl h0 ha hb
  have HC := Lib.hid (And.intro (And.intro cI (And.intro cM (And.intro cD cC))) (And.intro cB (And.intro rM (And.intro rC (And.intro rI rD)))))
  clear cI cM cD cC cB rM rC rI rD
  have HW := Lib.hid P0
  have HA := Lib.hid O0
  have HB := Lib.hid E0
  clear P0 O0 E0
  go_enter Try.func4, Try.ntmps4
  subst hq
  have hQ := awake_any w0
  go_wp2_with fail
  refine hQ.mono ?_
  rintro e v1 ⟨rfl, P1⟩
  clear hQ
  replace HW := Lib.hid (HW.out.trans P1)
  replace HA := Lib.hid (HA.out.on P1)
  replace HB := Lib.hid (HB.out.on P1)
  clear P1
  obtain ⟨HAc0, HAc1⟩ := own2 HA.out
  obtain ⟨HBc0, HBc1⟩ := own2 HB.out
  have hQ := HC.out.1.1 v1
  go_wp2_with fail
  refine hQ.mono ?_
  rintro e v2 ⟨rfl, P2⟩
  clear hQ
  clear HAc0 HAc1 HBc0 HBc1
  replace HW := Lib.hid (HW.out.trans P2)
  replace HA := Lib.hid (HA.out.on P2)
  replace HB := Lib.hid (HB.out.on P2)
  clear P2
  obtain ⟨HAc0, HAc1⟩ := own2 HA.out
  obtain ⟨HBc0, HBc1⟩ := own2 HB.out
  have hQ := HC.out.1.2.1 v2
  go_wp2_with fail
  refine hQ.mono ?_
  rintro e v3 ⟨rfl, P3⟩
  clear hQ
  clear HAc0 HAc1 HBc0 HBc1
  replace HW := Lib.hid (HW.out.trans P3)
  replace HA := Lib.hid (HA.out.on P3)
  replace HB := Lib.hid (HB.out.on P3)
  clear P3
  have Z0 : Own (v3.alloc (.cells #[.int .i64 0, .int .i64 0] 23)) v3.heap.size 23 #[.int .i64 0, .int .i64 0] := Own.new _ _ _
  obtain ⟨k0, k1⟩ := own2 Z0
  have f0 := Z0.frozen 0
  have f1 := Z0.frozen 1
  go_upto_region 5 with fail
  clear k0 k1 f0 f1 Z0
  obtain ⟨v4, hwv4⟩ : ∃ z, v3.alloc (.cells #[.int .i64 (m1 : Int), .int .i64 (m2 : Int)] 23) = z := ⟨_, rfl⟩
  obtain ⟨OZ, P4⟩ := box1 rfl hwv4
  rw [hwv4]
  clear hwv4
  replace HW := Lib.hid (HW.out.trans P4)
  replace HA := Lib.hid (HA.out.on P4)
  replace HB := Lib.hid (HB.out.on P4)
  have HM := Lib.hid (OZ)
  obtain ⟨bHM, hbHM⟩ : ∃ z, v3.heap.size = z := ⟨_, rfl⟩
  rw [hbHM] at HM ⊢
  clear hbHM OZ P4
  obtain ⟨HAc0, HAc1⟩ := own2 HA.out
  obtain ⟨HBc0, HBc1⟩ := own2 HB.out
  have hQ := HC.out.1.2.2.1 v4
  go_wp2_with fail
  refine hQ.mono ?_
  rintro e v5 ⟨AL, cL, rfl, RL, P5⟩
  clear hQ
  clear HAc0 HAc1 HBc0 HBc1
  replace HW := Lib.hid (HW.out.trans P5)
  replace HA := Lib.hid (HA.out.on P5)
  replace HB := Lib.hid (HB.out.on P5)
  replace HM := Lib.hid (HM.out.on P5)
  have HL := Lib.hid (RL)
  clear P5
  clear RL
  have hcap := HL.out.cap
  have hmax := HL.out.max
  obtain ⟨HAc0, HAc1⟩ := own2 HA.out
  obtain ⟨HBc0, HBc1⟩ := own2 HB.out
  have hQ := HC.out.1.2.2.2 v5
  go_wp2_with fail
  refine hQ.mono ?_
  rintro e v6 ⟨rfl, P6⟩
  clear hQ
  clear HAc0 HAc1 HBc0 HBc1
  replace HW := Lib.hid (HW.out.trans P6)
  replace HA := Lib.hid (HA.out.on P6)
  replace HB := Lib.hid (HB.out.on P6)
  replace HM := Lib.hid (HM.out.on P6)
  replace HL := Lib.hid (HL.out.on P6)
  clear P6
  have Z0 : Own (v6.alloc (.cells #[.int .i64 0, .int .i64 0] 23)) v6.heap.size 23 #[.int .i64 0, .int .i64 0] := Own.new _ _ _
  obtain ⟨k0, k1⟩ := own2 Z0
  have f0 := Z0.frozen 0
  have f1 := Z0.frozen 1
  go_upto_region 7 with fail
  clear k0 k1 f0 f1 Z0
  obtain ⟨v7, hwv7⟩ : ∃ z, v6.alloc (.cells #[.int .i64 (c1 : Int), .int .i64 (c2 : Int)] 23) = z := ⟨_, rfl⟩
  obtain ⟨OZ, P7⟩ := box1 rfl hwv7
  rw [hwv7]
  clear hwv7
  replace HW := Lib.hid (HW.out.trans P7)
  replace HA := Lib.hid (HA.out.on P7)
  replace HB := Lib.hid (HB.out.on P7)
  replace HM := Lib.hid (HM.out.on P7)
  replace HL := Lib.hid (HL.out.on P7)
  have HK := Lib.hid (OZ)
  obtain ⟨bHK, hbHK⟩ : ∃ z, v6.heap.size = z := ⟨_, rfl⟩
  rw [hbHK] at HK ⊢
  clear hbHK OZ P7
  obtain ⟨HAc0, HAc1⟩ := own2 HA.out
  obtain ⟨HBc0, HBc1⟩ := own2 HB.out
  have hQ := HC.out.2.1 v7
  go_wp2_with fail
  refine hQ.mono ?_
  rintro e v8 ⟨rfl, P8⟩
  clear hQ
  clear HAc0 HAc1 HBc0 HBc1
  replace HW := Lib.hid (HW.out.trans P8)
  replace HA := Lib.hid (HA.out.on P8)
  replace HB := Lib.hid (HB.out.on P8)
  replace HM := Lib.hid (HM.out.on P8)
  replace HL := Lib.hid (HL.out.on P8)
  replace HK := Lib.hid (HK.out.on P8)
  clear P8
  obtain ⟨HAc0, HAc1⟩ := own2 HA.out
  obtain ⟨HBc0, HBc1⟩ := own2 HB.out
  have hQ := HC.out.2.2.1 v8
  go_wp2_with fail
  refine hQ.mono ?_
  rintro e v9 ⟨rfl, P9⟩
  clear hQ
  clear HAc0 HAc1 HBc0 HBc1
  replace HW := Lib.hid (HW.out.trans P9)
  replace HA := Lib.hid (HA.out.on P9)
  replace HB := Lib.hid (HB.out.on P9)
  replace HM := Lib.hid (HM.out.on P9)
  replace HL := Lib.hid (HL.out.on P9)
  replace HK := Lib.hid (HK.out.on P9)
  clear P9
  have Z0 : Own (v9.alloc (.cells #[.int .i64 0, .int .i64 0] 23)) v9.heap.size 23 #[.int .i64 0, .int .i64 0] := Own.new _ _ _
  obtain ⟨k0, k1⟩ := own2 Z0
  have f0 := Z0.frozen 0
  have f1 := Z0.frozen 1
  go_upto_region 11 with fail
  clear k0 k1 f0 f1 Z0
  obtain ⟨v10, hwv10⟩ : ∃ z, v9.alloc (.cells #[.int .i64 (m1 : Int), .int .i64 (m2 : Int)] 23) = z := ⟨_, rfl⟩
  obtain ⟨OZ, P10⟩ := box1 rfl hwv10
  rw [hwv10]
  clear hwv10
  replace HW := Lib.hid (HW.out.trans P10)
  replace HA := Lib.hid (HA.out.on P10)
  replace HB := Lib.hid (HB.out.on P10)
  replace HM := Lib.hid (HM.out.on P10)
  replace HL := Lib.hid (HL.out.on P10)
  replace HK := Lib.hid (HK.out.on P10)
  have HN := Lib.hid (OZ)
  obtain ⟨bHN, hbHN⟩ : ∃ z, v9.heap.size = z := ⟨_, rfl⟩
  rw [hbHN] at HN ⊢
  clear hbHN OZ P10
  obtain ⟨HAc0, HAc1⟩ := own2 HA.out
  obtain ⟨HBc0, HBc1⟩ := own2 HB.out
  have hQ := HC.out.2.2.2.1 v10
  go_wp2_with fail
  refine hQ.mono ?_
  rintro e v11 ⟨rfl, P11⟩
  clear hQ
  clear HAc0 HAc1 HBc0 HBc1
  replace HW := Lib.hid (HW.out.trans P11)
  replace HA := Lib.hid (HA.out.on P11)
  replace HB := Lib.hid (HB.out.on P11)
  replace HM := Lib.hid (HM.out.on P11)
  replace HL := Lib.hid (HL.out.on P11)
  replace HK := Lib.hid (HK.out.on P11)
  replace HN := Lib.hid (HN.out.on P11)
  clear P11
  have Z0 : Own (v11.alloc (.cells #[.int .i64 0, .int .i64 0] 23)) v11.heap.size 23 #[.int .i64 0, .int .i64 0] := Own.new _ _ _
  obtain ⟨k0, k1⟩ := own2 Z0
  have f0 := Z0.frozen 0
  have f1 := Z0.frozen 1
  go_upto_region 12 with fail
  clear k0 k1 f0 f1 Z0
  obtain ⟨v12, hwv12⟩ : ∃ z, v11.alloc (.cells #[.int .i64 (c1 : Int), .int .i64 (c2 : Int)] 23) = z := ⟨_, rfl⟩
  obtain ⟨OZ, P12⟩ := box1 rfl hwv12
  rw [hwv12]
  clear hwv12
  replace HW := Lib.hid (HW.out.trans P12)
  replace HA := Lib.hid (HA.out.on P12)
  replace HB := Lib.hid (HB.out.on P12)
  replace HM := Lib.hid (HM.out.on P12)
  replace HL := Lib.hid (HL.out.on P12)
  replace HK := Lib.hid (HK.out.on P12)
  replace HN := Lib.hid (HN.out.on P12)
  have HJ := Lib.hid (OZ)
  obtain ⟨bHJ, hbHJ⟩ : ∃ z, v11.heap.size = z := ⟨_, rfl⟩
  rw [hbHJ] at HJ ⊢
  clear hbHJ OZ P12
  obtain ⟨HAc0, HAc1⟩ := own2 HA.out
  obtain ⟨HBc0, HBc1⟩ := own2 HB.out
  have hQ := HC.out.2.2.2.2.1 v12
  go_wp2_with fail
  refine hQ.mono ?_
  rintro e v13 ⟨rfl, P13⟩
  clear hQ
  clear HAc0 HAc1 HBc0 HBc1
  replace HW := Lib.hid (HW.out.trans P13)
  replace HA := Lib.hid (HA.out.on P13)
  replace HB := Lib.hid (HB.out.on P13)
  replace HM := Lib.hid (HM.out.on P13)
  replace HL := Lib.hid (HL.out.on P13)
  replace HK := Lib.hid (HK.out.on P13)
  replace HN := Lib.hid (HN.out.on P13)
  replace HJ := Lib.hid (HJ.out.on P13)
  clear P13
  obtain ⟨HAc0, HAc1⟩ := own2 HA.out
  obtain ⟨HBc0, HBc1⟩ := own2 HB.out
  obtain ⟨HMc0, HMc1⟩ := own2 HM.out
  obtain ⟨HKc0, HKc1⟩ := own2 HK.out
  obtain ⟨HNc0, HNc1⟩ := own2 HN.out
  obtain ⟨HJc0, HJc1⟩ := own2 HJ.out
  have hQ := HC.out.2.2.2.2.2 v13
  go_wp2_with fail
  refine hQ.mono ?_
  rintro e v14 ⟨AM, cM, rfl, RM, P14⟩
  clear hQ
  clear HAc0 HAc1 HBc0 HBc1 HMc0 HMc1 HKc0 HKc1 HNc0 HNc1 HJc0 HJc1
  replace HW := Lib.hid (HW.out.trans P14)
  replace HA := Lib.hid (HA.out.on P14)
  replace HB := Lib.hid (HB.out.on P14)
  replace HM := Lib.hid (HM.out.on P14)
  replace HL := Lib.hid (HL.out.on P14)
  replace HK := Lib.hid (HK.out.on P14)
  replace HN := Lib.hid (HN.out.on P14)
  replace HJ := Lib.hid (HJ.out.on P14)
  have HR := Lib.hid (RM)
  clear P14
  clear RM
  have hcap2 := HR.out.cap
  have hmax2 := HR.out.max
  have hQ := rsame_ok v14 AL l.length cL l HL.out AM l.length cM HR.out
  go_wp2_with fail
  refine hQ.mono ?_
  rintro e v15 ⟨rfl, P15⟩
  clear hQ
  replace HW := Lib.hid (HW.out.trans P15)
  replace HA := Lib.hid (HA.out.on P15)
  replace HB := Lib.hid (HB.out.on P15)
  replace HM := Lib.hid (HM.out.on P15)
  replace HL := Lib.hid (HL.out.on P15)
  replace HK := Lib.hid (HK.out.on P15)
  replace HN := Lib.hid (HN.out.on P15)
  replace HJ := Lib.hid (HJ.out.on P15)
  replace HR := Lib.hid (HR.out.on P15)
  clear P15
  go_wp2
  go_ret
  exact ⟨by simp, HW.out⟩
set_option maxHeartbeats 8000000 in
theorem pairs_bad (w : World) (a1 a2 b1 b2 : Int) (hz : chkL [(a1, a2), (b1, b2)] ≠ 0) :
    Calls Try.prog 4 #[.agg #[.int .i64 a1, .int .i64 a2], .agg #[.int .i64 b1, .int .i64 b2]] w fun e w' => e = .returned (.bool true) ∧ On w w' := by
  obtain ⟨q, hq⟩ : ∃ q, w.heap.size = q := ⟨_, rfl⟩
  obtain ⟨w0, hw0⟩ : ∃ w0, (w.alloc (.cells #[.int .i64 a1, .int .i64 a2] 23)).alloc (.cells #[.int .i64 b1, .int .i64 b2] 23) = w0 := ⟨_, rfl⟩
  obtain ⟨O0, E0, P0⟩ := box2 hq hw0
  have cI := fun W => implies2_bad W (a1, a2) (b1, b2) hz
  have cM := fun W => meet_bad W (a1, a2) (b1, b2) hz
  have cD := fun W => minus2_bad W (a1, a2) (b1, b2) hz
  have cC := fun W => cons_bad W (a1, a2) (b1, b2) hz
  have cB := fun W => both_any W (a1, a2) (b1, b2)
  obtain ⟨x, hx⟩ : ∃ x, chkL [(a1, a2), (b1, b2)] = x := ⟨_, rfl⟩
  rw [hx] at cI cM cD cC cB hz
  have cN := fun W => num_any W x
  have cV := errV_pos x hz
  rw [cV] at cI cM cD cC cN
  have hx1 : ((x : Int) != 0) = true := by rw [bne_iff_ne]; omega
  unfold czV at cI cM cD cC cB
  simp only at cI cM cD cC cB
  have cM2 : ∀ W, Calls Try.prog 19 #[.agg #[.int .i64 a1, .int .i64 a2], .agg #[.int .i64 b1, .int .i64 b2]] W fun e w' => e = .returned (.tuple #[.agg #[.int .i64 0, .int .i64 0], .bool false, .iface 62 (.int .i64 (x : Int))]) ∧ On W w' := cM
  have cC2 : ∀ W, Calls Try.prog 21 #[.agg #[.int .i64 a1, .int .i64 a2], .agg #[.int .i64 b1, .int .i64 b2]] W fun e w' => e = .returned (.tuple #[.agg #[.int .i64 0, .int .i64 0], .bool false, .iface 62 (.int .i64 (x : Int))]) ∧ On W w' := cC
  clear hx hz cV cM cC
  have HC := Lib.hid (And.intro cI (And.intro cM2 (And.intro cD (And.intro cC2 (And.intro cB cN)))))
  clear cI cM2 cD cC2 cB cN
  have HW := Lib.hid P0
  have HA := Lib.hid O0
  have HB := Lib.hid E0
  clear P0 O0 E0
  go_enter Try.func4, Try.ntmps4
  subst hq
  have hQ := awake_any w0
  go_wp2_with fail
  refine hQ.mono ?_
  rintro e v1 ⟨rfl, P1⟩
  clear hQ
  replace HW := Lib.hid (HW.out.trans P1)
  replace HA := Lib.hid (HA.out.on P1)
  replace HB := Lib.hid (HB.out.on P1)
  clear P1
  obtain ⟨HAc0, HAc1⟩ := own2 HA.out
  obtain ⟨HBc0, HBc1⟩ := own2 HB.out
  have hQ := HC.out.1 v1
  go_wp2_with fail
  refine hQ.mono ?_
  rintro e v2 ⟨rfl, P2⟩
  clear hQ
  clear HAc0 HAc1 HBc0 HBc1
  replace HW := Lib.hid (HW.out.trans P2)
  replace HA := Lib.hid (HA.out.on P2)
  replace HB := Lib.hid (HB.out.on P2)
  clear P2
  obtain ⟨HAc0, HAc1⟩ := own2 HA.out
  obtain ⟨HBc0, HBc1⟩ := own2 HB.out
  have hQ := HC.out.2.1 v2
  go_wp2_with fail
  refine hQ.mono ?_
  rintro e v3 ⟨rfl, P3⟩
  clear hQ
  clear HAc0 HAc1 HBc0 HBc1
  replace HW := Lib.hid (HW.out.trans P3)
  replace HA := Lib.hid (HA.out.on P3)
  replace HB := Lib.hid (HB.out.on P3)
  clear P3
  have Z0 : Own (v3.alloc (.cells #[.int .i64 0, .int .i64 0] 23)) v3.heap.size 23 #[.int .i64 0, .int .i64 0] := Own.new _ _ _
  obtain ⟨k0, k1⟩ := own2 Z0
  have f0 := Z0.frozen 0
  have f1 := Z0.frozen 1
  go_upto_region 5 with fail
  clear k0 k1 f0 f1 Z0
  obtain ⟨v4, hwv4⟩ : ∃ z, v3.alloc (.cells #[.int .i64 0, .int .i64 0] 23) = z := ⟨_, rfl⟩
  obtain ⟨OZ, P4⟩ := box1 rfl hwv4
  rw [hwv4]
  clear hwv4
  replace HW := Lib.hid (HW.out.trans P4)
  replace HA := Lib.hid (HA.out.on P4)
  replace HB := Lib.hid (HB.out.on P4)
  have HM := Lib.hid (OZ)
  obtain ⟨bHM, hbHM⟩ : ∃ z, v3.heap.size = z := ⟨_, rfl⟩
  rw [hbHM] at HM ⊢
  clear hbHM OZ P4
  obtain ⟨HAc0, HAc1⟩ := own2 HA.out
  obtain ⟨HBc0, HBc1⟩ := own2 HB.out
  have hQ := HC.out.2.2.1 v4
  go_wp2_with fail
  refine hQ.mono ?_
  rintro e v5 ⟨rfl, P5⟩
  clear hQ
  clear HAc0 HAc1 HBc0 HBc1
  replace HW := Lib.hid (HW.out.trans P5)
  replace HA := Lib.hid (HA.out.on P5)
  replace HB := Lib.hid (HB.out.on P5)
  replace HM := Lib.hid (HM.out.on P5)
  clear P5
  obtain ⟨HAc0, HAc1⟩ := own2 HA.out
  obtain ⟨HBc0, HBc1⟩ := own2 HB.out
  have hQ := HC.out.2.2.2.1 v5
  go_wp2_with fail
  refine hQ.mono ?_
  rintro e v6 ⟨rfl, P6⟩
  clear hQ
  clear HAc0 HAc1 HBc0 HBc1
  replace HW := Lib.hid (HW.out.trans P6)
  replace HA := Lib.hid (HA.out.on P6)
  replace HB := Lib.hid (HB.out.on P6)
  replace HM := Lib.hid (HM.out.on P6)
  clear P6
  have Z0 : Own (v6.alloc (.cells #[.int .i64 0, .int .i64 0] 23)) v6.heap.size 23 #[.int .i64 0, .int .i64 0] := Own.new _ _ _
  obtain ⟨k0, k1⟩ := own2 Z0
  have f0 := Z0.frozen 0
  have f1 := Z0.frozen 1
  go_upto_region 7 with fail
  clear k0 k1 f0 f1 Z0
  obtain ⟨v7, hwv7⟩ : ∃ z, v6.alloc (.cells #[.int .i64 0, .int .i64 0] 23) = z := ⟨_, rfl⟩
  obtain ⟨OZ, P7⟩ := box1 rfl hwv7
  rw [hwv7]
  clear hwv7
  replace HW := Lib.hid (HW.out.trans P7)
  replace HA := Lib.hid (HA.out.on P7)
  replace HB := Lib.hid (HB.out.on P7)
  replace HM := Lib.hid (HM.out.on P7)
  have HK := Lib.hid (OZ)
  obtain ⟨bHK, hbHK⟩ : ∃ z, v6.heap.size = z := ⟨_, rfl⟩
  rw [hbHK] at HK ⊢
  clear hbHK OZ P7
  obtain ⟨HAc0, HAc1⟩ := own2 HA.out
  obtain ⟨HBc0, HBc1⟩ := own2 HB.out
  have hQ := HC.out.2.2.2.2.1 v7
  go_wp2_with fail
  refine hQ.mono ?_
  rintro e v8 ⟨rfl, P8⟩
  clear hQ
  clear HAc0 HAc1 HBc0 HBc1
  replace HW := Lib.hid (HW.out.trans P8)
  replace HA := Lib.hid (HA.out.on P8)
  replace HB := Lib.hid (HB.out.on P8)
  replace HM := Lib.hid (HM.out.on P8)
  replace HK := Lib.hid (HK.out.on P8)
  clear P8
  obtain ⟨HMc0, HMc1⟩ := own2 HM.out
  obtain ⟨HKc0, HKc1⟩ := own2 HK.out
  have hQ := HC.out.2.2.2.2.2 v8
  go_wp2_with fail
  refine hQ.mono ?_
  rintro e v9 ⟨rfl, rfl⟩
  clear hQ
  clear HMc0 HMc1 HKc0 HKc1
  have hQ := HC.out.2.2.2.2.2 v8
  go_wp2_with fail
  refine hQ.mono ?_
  rintro e v10 ⟨rfl, rfl⟩
  clear hQ
  have hQ := HC.out.2.2.2.2.2 v8
  go_wp2_with fail
  refine hQ.mono ?_
  rintro e v11 ⟨rfl, rfl⟩
  clear hQ
  have hQ := HC.out.2.2.2.2.2 v8
  go_wp2_with fail
  refine hQ.mono ?_
  rintro e v12 ⟨rfl, rfl⟩
  clear hQ
  go_wp2
  go_ret
  exact ⟨by simp, HW.out⟩
theorem ltpairs_any (w : World) (a1 a2 b1 b2 : Int) :
    Calls Try.prog 4 #[.agg #[.int .i64 a1, .int .i64 a2], .agg #[.int .i64 b1, .int .i64 b2]] w fun e w' => e = .returned (.bool true) ∧ On w w' := by
  by_cases hz : chkL [(a1, a2), (b1, b2)] = 0
  · obtain ⟨⟨x1, x2⟩, ⟨y1, y2⟩, h1, h2, o1, o2⟩ := chk_pair hz
    unfold zc at h1 h2
    injection h1 with e1 e2
    injection h2 with e3 e4
    simp only at e1 e2 e3 e4
    subst e1; subst e2; subst e3; subst e4
    exact pairs_ok w x1 x2 y1 y2 o1 o2
  · exact pairs_bad w a1 a2 b1 b2 hz
end Go.Proofs.Ythamjboppnlpdaa.Cu
