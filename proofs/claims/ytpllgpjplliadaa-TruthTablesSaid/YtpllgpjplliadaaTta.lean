/-
  TruthTables.
-/
import Derived.Test.YtpllgpjplliadaaTe
import Derived.Test.YtpllgpjplliadaaFlm
namespace Go.Proofs.Ytpllgpjplliadaa.Fm
open Go.RowKit Go.Proofs.Ytpllgpjplliadaa.Sb
set_option linter.unusedVariables false
set_option maxRecDepth 100000
set_option maxHeartbeats 16000000 in
theorem lttables_any (w : World) (vars top : Int) (A : Option Addr) (n c : Nat) (xs : List Nd) (h : RdN w A n c xs) (hv : I64 vars) (ht : I64 top) :
    Calls Try.prog 3 #[.agg #[.int .i64 vars, .slice A n c, .int .i64 top]] w fun e w' => e = .returned (.bool true) ∧ On w w' := by
  obtain ⟨q, hq⟩ : ∃ q, w.heap.size = q := ⟨_, rfl⟩
  obtain ⟨w0, hw0⟩ : ∃ w0, w.alloc (.cells #[.int .i64 vars, .slice A n c, .int .i64 top] 24) = w0 := ⟨_, rfl⟩
  have O0 : Own w0 q 24 #[.int .i64 vars, .slice A n c, .int .i64 top] := by rw [← hw0, ← hq]; exact Own.new _ _ _
  have P0 : On w w0 := by rw [← hw0]; exact (On.refl w).alloc _
  have hAw := awakeT_any w0
  have hL1 := fun W (k : On w W) => light_any W vars top A n c xs (h.on k)
  have H0 := Lib.hid (And.intro P0 (And.intro hw0 O0))
  clear P0 O0
  go_enter Try.func3, Try.ntmps3
  subst hq
  go_wp2_with fail
  refine hAw.mono ?_
  rintro e w1 ⟨rfl, P1⟩
  have Pw1 := H0.out.1.trans P1
  have O1 := (H0.out.2.2).on P1
  obtain ⟨r0, r1, r2⟩ := own3 O1
  have hl1 := hL1 w1 Pw1
  clear hAw hL1 hw0 H0
  by_cases hb : lightB xs = true
  · rw [hb] at hl1
    go_wp2_with fail
    refine hl1.mono ?_
    rintro e w2 ⟨rfl, P2⟩
    have Pw2 := Pw1.trans P2
    have O2 := O1.on P2
    clear hl1 r0 r1 r2 P2 Pw1 O1 hb
    have R2 := h.on Pw2
    by_cases hc : chkT vars xs top = 0
    · obtain ⟨f, hf, rfl, rfl, rfl, hv12⟩ := chkT_le vars xs top hc
      obtain ⟨m, hm⟩ : ∃ m, 2 ^ f.vars = m := ⟨_, rfl⟩
      clear hc
      have hT := ttab_ok w2 f hf hv12 A n c R2 m hm
      obtain ⟨s0, s1, s2⟩ := own3 O2
      go_wp2_with fail
      refine hT.mono ?_
      rintro e w3 ⟨B, d, rfl, T3, P3⟩
      have Pw3 := Pw2.trans P3
      have O3 := O2.on P3
      have R3 := R2.on P3
      clear hT s0 s1 s2 P3 Pw2 O2 R2
      have hN := tcnt_ok w3 f hf hv12 A n c R3
      obtain ⟨s0, s1, s2⟩ := own3 O3
      go_wp2_with fail
      refine hN.mono ?_
      rintro e w4 ⟨rfl, P4⟩
      have Pw4 := Pw3.trans P4
      have O4 := O3.on P4
      have R4 := R3.on P4
      have T4 := T3.on P4
      clear hN s0 s1 s2 P4 Pw3 O3 R3 T3
      have hW := twts_ok w4 f hf hv12 A n c R4
      obtain ⟨s0, s1, s2⟩ := own3 O4
      go_wp2_with fail
      refine hW.mono ?_
      rintro e w5 ⟨Bw, dw, rfl, W5, P5⟩
      have Pw5 := Pw4.trans P5
      have O5 := O4.on P5
      have R5 := R4.on P5
      have T5 := T4.on P5
      clear hW s0 s1 s2 P5 Pw4 O4 R4 T4
      have hM := tmon_ok w5 f hf hv12 A n c R5
      obtain ⟨s0, s1, s2⟩ := own3 O5
      go_wp2_with fail
      refine hM.mono ?_
      rintro e w6 ⟨rfl, P6⟩
      have Pw6 := Pw5.trans P6
      have O6 := O5.on P6
      have R6 := R5.on P6
      have T6 := T5.on P6
      have W6 := W5.on P6
      clear hM s0 s1 s2 P6 Pw5 O5 R5 T5 W5
      have hS := trel_ok w6 f hf hv12 A n c R6
      obtain ⟨s0, s1, s2⟩ := own3 O6
      go_wp2_with fail
      refine hS.mono ?_
      rintro e w7 ⟨rfl, P7⟩
      have Pw7 := Pw6.trans P7
      have O7 := O6.on P7
      have R7 := R6.on P7
      have T7 := T6.on P7
      have W7 := W6.on P7
      clear hS s0 s1 s2 P7 Pw6 O6 R6 T6 W6
      have hC := rchkT_any w7 (f.vars : Int) (f.top : Int) A n c _ R7 (by unfold I64; omega) (by unfold I64; have := hf.2.2.2; have := hf.2.1; omega)
      rw [chkT_ok hf hv12] at hC
      obtain ⟨s0, s1, s2⟩ := own3 O7
      go_wp2_with fail
      refine hC.mono ?_
      rintro e w8 ⟨rfl, P8⟩
      have Pw8 := Pw7.trans P8
      have O8 := O7.on P8
      have R8 := R7.on P8
      have T8 := T7.on P8
      have W8 := W7.on P8
      clear hC s0 s1 s2 P8 Pw7 O7 R7 T7 W7
      have hRT := rtable_ok w8 f hf hv12 A n c R8 m hm
      obtain ⟨s0, s1, s2⟩ := own3 O8
      go_wp2_with fail
      refine hRT.mono ?_
      rintro e w9 ⟨B2, d2, rfl, U9, _, P9⟩
      have Pw9 := Pw8.trans P9
      have O9 := O8.on P9
      have R9 := R8.on P9
      have T9 := T8.on P9
      have W9 := W8.on P9
      clear hRT s0 s1 s2 P9 Pw8 O8 R8 T8 W8
      have hB := bools_eq w9 B m d B2 m d2 (tab f) T9 U9
      obtain ⟨s0, s1, s2⟩ := own3 O9
      go_wp2_with fail
      refine hB.mono ?_
      rintro e w10 ⟨rfl, P10⟩
      have Pw10 := Pw9.trans P10
      have O10 := O9.on P10
      have R10 := R9.on P10
      have W10 := W9.on P10
      clear hB s0 s1 s2 P10 Pw9 O9 R9 W9 T9 U9
      have hRC := rcount_ok w10 f hf hv12 A n c R10
      obtain ⟨s0, s1, s2⟩ := own3 O10
      go_wp2_with fail
      refine hRC.mono ?_
      rintro e w11 ⟨rfl, P11⟩
      have Pw11 := Pw10.trans P11
      have O11 := O10.on P11
      have R11 := R10.on P11
      have W11 := W10.on P11
      clear hRC s0 s1 s2 P11 Pw10 O10 R10 W10
      have hRW := rweights_ok w11 f hf hv12 A n c R11
      obtain ⟨s0, s1, s2⟩ := own3 O11
      go_wp2_with fail
      refine hRW.mono ?_
      rintro e w12 ⟨g2, rfl, G12, _, P12⟩
      have Pw12 := Pw11.trans P12
      have O12 := O11.on P12
      have R12 := R11.on P12
      have W12 := W11.on P12
      clear hRW s0 s1 s2 P12 Pw11 O11 R11 W11
      have hI := ints_eq w12 Bw (f.vars + 1) dw (some ⟨g2, 0, none⟩) (f.vars + 1) (f.vars + 1) (ints (wts f)) W12 (own_rdI G12 (wts_len f) (by omega))
      obtain ⟨s0, s1, s2⟩ := own3 O12
      go_wp2_with fail
      refine hI.mono ?_
      rintro e w13 ⟨rfl, P13⟩
      have Pw13 := Pw12.trans P13
      have O13 := O12.on P13
      have R13 := R12.on P13
      clear hI s0 s1 s2 P13 Pw12 O12 R12 W12 G12
      have hRM := rmonotone_ok w13 f hf hv12 A n c R13
      obtain ⟨s0, s1, s2⟩ := own3 O13
      go_wp2_with fail
      refine hRM.mono ?_
      rintro e w14 ⟨rfl, P14⟩
      have Pw14 := Pw13.trans P14
      have O14 := O13.on P14
      have R14 := R13.on P14
      clear hRM s0 s1 s2 P14 Pw13 O13 R13
      have hRR := rrelevant_ok w14 f hf hv12 A n c R14
      obtain ⟨s0, s1, s2⟩ := own3 O14
      go_wp2_with fail
      refine hRR.mono ?_
      rintro e w15 ⟨rfl, P15⟩
      have Pw15 := Pw14.trans P15
      have O15 := O14.on P15
      have R15 := R14.on P15
      clear hRR s0 s1 s2 P15 Pw14 O14 R14
      go_wp2
      go_ret
      exact ⟨rfl, Pw15⟩
    · obtain ⟨er, her⟩ : ∃ er, chkT vars xs top = er := ⟨_, rfl⟩
      have hE : ¬ (er : Int) = 0 := by rw [her] at hc; omega
      have hT := ttab_bad w2 vars top A n c xs R2 hv ht hc
      rw [her, errV_pos er (her ▸ hc)] at hT
      obtain ⟨s0, s1, s2⟩ := own3 O2
      go_wp2_with fail
      refine hT.mono ?_
      rintro e w3 ⟨B, d, rfl, P3⟩
      have Pw3 := Pw2.trans P3
      have O3 := O2.on P3
      have R3 := R2.on P3
      clear hT s0 s1 s2 P3 Pw2 O2 R2
      have hN := tcnt_bad w3 vars top A n c xs R3 hv ht hc
      rw [her, errV_pos er (her ▸ hc)] at hN
      obtain ⟨s0, s1, s2⟩ := own3 O3
      go_wp2_with fail
      refine hN.mono ?_
      rintro e w4 ⟨rfl, P4⟩
      have Pw4 := Pw3.trans P4
      have O4 := O3.on P4
      have R4 := R3.on P4
      clear hN s0 s1 s2 P4 Pw3 O3 R3
      have hW := twts_bad w4 vars top A n c xs R4 hv ht hc
      rw [her, errV_pos er (her ▸ hc)] at hW
      obtain ⟨s0, s1, s2⟩ := own3 O4
      go_wp2_with fail
      refine hW.mono ?_
      rintro e w5 ⟨Bw, dw, rfl, P5⟩
      have Pw5 := Pw4.trans P5
      have O5 := O4.on P5
      have R5 := R4.on P5
      clear hW s0 s1 s2 P5 Pw4 O4 R4
      have hM := tmon_bad w5 vars top A n c xs R5 hv ht hc
      rw [her, errV_pos er (her ▸ hc)] at hM
      obtain ⟨s0, s1, s2⟩ := own3 O5
      go_wp2_with fail
      refine hM.mono ?_
      rintro e w6 ⟨rfl, P6⟩
      have Pw6 := Pw5.trans P6
      have O6 := O5.on P6
      have R6 := R5.on P6
      clear hM s0 s1 s2 P6 Pw5 O5 R5
      have hS := trel_bad w6 vars top A n c xs R6 hv ht hc
      rw [her, errV_pos er (her ▸ hc)] at hS
      obtain ⟨s0, s1, s2⟩ := own3 O6
      go_wp2_with fail
      refine hS.mono ?_
      rintro e w7 ⟨rfl, P7⟩
      have Pw7 := Pw6.trans P7
      have O7 := O6.on P7
      have R7 := R6.on P7
      clear hS s0 s1 s2 P7 Pw6 O6 R6
      have hC := rchkT_any w7 vars top A n c xs R7 hv ht
      rw [her] at hC
      obtain ⟨s0, s1, s2⟩ := own3 O7
      go_wp2_with fail
      refine hC.mono ?_
      rintro e w8 ⟨rfl, P8⟩
      have Pw8 := Pw7.trans P8
      have O8 := O7.on P8
      have R8 := R7.on P8
      clear hC s0 s1 s2 P8 Pw7 O7 R7
      have hNum := fun W => numT_any W er
      rw [errV_pos er (her ▸ hc)] at hNum
      obtain ⟨E, hEV⟩ : ∃ E, Value.iface 50 (.int .i64 (er : Int)) = E := ⟨_, rfl⟩
      obtain ⟨g, hg⟩ : ∃ g, w8.heap.size = g := ⟨_, rfl⟩
      obtain ⟨w9, hw9⟩ : ∃ w9, w8.alloc (.cells #[.iface 50 (.int .i64 (er : Int)), .iface 50 (.int .i64 (er : Int)), .iface 50 (.int .i64 (er : Int)), .iface 50 (.int .i64 (er : Int)), .iface 50 (.int .i64 (er : Int))] 29) = w9 := ⟨_, rfl⟩
      have G9 : Own w9 g 29 #[.iface 50 (.int .i64 (er : Int)), .iface 50 (.int .i64 (er : Int)), .iface 50 (.int .i64 (er : Int)), .iface 50 (.int .i64 (er : Int)), .iface 50 (.int .i64 (er : Int))] := by rw [← hw9, ← hg]; exact Own.new _ _ _
      have hcell : ∀ k, k < 5 → w9.cell? ⟨g, k, none⟩ = some (.iface 50 (.int .i64 (er : Int))) := by
        intro k hk
        rw [G9.cell]
        have : k = 0 ∨ k = 1 ∨ k = 2 ∨ k = 3 ∨ k = 4 := by omega
        rcases this with rfl | rfl | rfl | rfl | rfl <;> rfl
      have P9 : On w8 w9 := by rw [← hw9]; exact (On.refl _).alloc _
      have H9 := Lib.hid (And.intro hcell (Pw8.trans P9))
      have HW9 := Lib.hid hw9
      clear G9 P9 hcell hw9 Pw8 O8 R8 hEV her
      go_upto_region 11 with fail
      rw [HW9.out]
      have hEb : ((er : Int) != 0) = true := by simp; omega
      simp only [hEb]
      clear HW9 hEb
      go_loopw [60] (fun i wr => ∃ k : Nat, k ≤ 5 ∧ i = .int .i64 (k : Int) ∧ ∃ z, wr = w9.drewN z) (fun i _ => 5 - (intOf i).toNat)
      case atStart => exact ⟨0, by omega, rfl, 0, rfl⟩
      case round =>
        obtain ⟨k, hk, rfl, z, rfl⟩ := hrel
        by_cases hlt : k < 5
        · have hcl := H9.out.1 k hlt
          go_wp2_with fail
          refine (hNum _).mono ?_
          rintro e w10 ⟨rfl, rfl⟩
          go_wp2
          go_roundw
          case rel => exact ⟨k + 1, by omega, by go_num, z, rfl⟩
          case measure => simp [intOf] <;> omega
        · obtain rfl : k = 5 := by omega
          go_wp2
          go_ret
          exact ⟨rfl, H9.out.2.drewN z⟩
  · rw [Bool.eq_false_iff.2 hb] at hl1
    have hA2 := fun W => awakeT_any W
    go_wp2_with fail
    refine hl1.mono ?_
    rintro e w7 ⟨rfl, P7⟩
    clear hl1 r0 r1 r2
    go_wp2_with fail
    refine (hA2 _).mono ?_
    rintro e w8 ⟨rfl, P8⟩
    go_wp2
    go_ret
    exact ⟨rfl, (Pw1.trans P7).trans P8⟩
end Go.Proofs.Ytpllgpjplliadaa.Fm
