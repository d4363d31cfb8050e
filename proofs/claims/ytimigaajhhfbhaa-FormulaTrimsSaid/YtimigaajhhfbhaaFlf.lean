/-
  FormulaTrims.
-/
import Derived.Test.YtimigaajhhfbhaaFlm
namespace Go.Proofs.Ytimigaajhhfbhaa.Fm
open Go.RowKit Go.Proofs.Ytimigaajhhfbhaa.Sb
set_option linter.unusedVariables false
set_option maxRecDepth 100000
set_option maxHeartbeats 16000000 in
theorem ltrims_any (w : World) (vars top : Int) (A : Option Addr) (n c : Nat) (xs : List Nd) (h : RdN w A n c xs) (hv : I64 vars) (ht : I64 top) (failed : Int) :
    Calls Try.prog 8 #[.agg #[.int .i64 vars, .slice A n c, .int .i64 top], .int .i64 failed] w fun e w' => e = .returned (.bool true) ∧ On w w' := by
  obtain ⟨q, hq⟩ : ∃ q, w.heap.size = q := ⟨_, rfl⟩
  obtain ⟨w0, hw0⟩ : ∃ w0, w.alloc (.cells #[.int .i64 vars, .slice A n c, .int .i64 top] 24) = w0 := ⟨_, rfl⟩
  have O0 : Own w0 q 24 #[.int .i64 vars, .slice A n c, .int .i64 top] := by rw [← hw0, ← hq]; exact Own.new _ _ _
  have P0 : On w w0 := by rw [← hw0]; exact (On.refl w).alloc _
  have hAw := awake_any w0
  have hL := fun W (k : On w W) => light_any W vars top A n c xs (h.on k)
  have hC := fun W (k : On w W) => check_any W vars top A n c xs (h.on k) hv ht
  have HO := Lib.hid (And.intro O0 (And.intro P0 hw0))
  have HR := Lib.hid h
  clear h O0 P0
  go_enter Try.func8, Try.ntmps8
  go_wp2_with fail
  refine hAw.mono ?_
  rintro e w1 ⟨rfl, P1⟩
  have Pw1 := HO.out.2.1.trans P1
  have O1 := HO.out.1.on P1
  obtain ⟨r0, r1, r2⟩ := own3 O1
  have hL1 := hL w1 Pw1
  clear hAw hL hw0
  by_cases hl : lightB xs = true
  · rw [hl] at hL1
    go_wp2_with fail
    refine hL1.mono ?_
    rintro e w2 ⟨rfl, P2⟩
    have Pw2 := Pw1.trans P2
    have O2 := O1.on P2
    obtain ⟨s0, s1, s2⟩ := own3 O2
    have hC2 := hC w2 Pw2
    clear hL1 hC r0 r1 r2 P1 P2 Pw1 O1
    by_cases hc : chk vars xs top = 0
    · rw [hc, errV_zero] at hC2
      obtain ⟨f, hf, rfl, rfl, rfl⟩ := chk_zero hc
      go_wp2_with fail
      refine hC2.mono ?_
      rintro e w3 ⟨rfl, P3⟩
      have Pw3 := Pw2.trans P3
      have O3 := O2.on P3
      have R3 := HR.out.on Pw3
      clear hC2 s0 s1 s2 P3 Pw2 O2 HR hv ht hc hl
      have hn : f.nodes.length = n := by have := R3.len; rwa [raw_len] at this
      obtain ⟨s0, s1, s2⟩ := own3 O3
      have hX := trim_ok w3 f hf A n c R3
      go_wp2_with fail
      refine hX.mono ?_
      rintro e w4 ⟨A4, c4, rfl, T4, P4⟩
      have Pw4 := Pw3.trans P4
      have O4 := O3.on P4
      have R4 := R3.on P4
      clear hX s0 s1 s2 P4 Pw3 O3 R3 
      have htw := trim_wf hf
      have htv : (trim f).vars = f.vars := rfl
      have hval := trim_val hf (cut failed % 2 ^ f.vars)
      have hdep := trim_dep hf
      have hsup := trim_sup hf
      obtain ⟨hsiz, hsn⟩ := trim_siz hf
      have hag := trim_again hf
      obtain ⟨t, ht⟩ : ∃ t, trim f = t := ⟨_, rfl⟩
      rw [ht] at htw htv hval hdep hsup hsiz hsn hag T4 ⊢
      obtain ⟨no, hno⟩ : ∃ no, t.nodes.length = no := ⟨_, rfl⟩
      obtain ⟨tp, htp⟩ : ∃ tp, t.top = tp := ⟨_, rfl⟩
      have ha1 := and_all failed f.vars hf.1
      have hcl := cut_mod_lt failed f.vars
      have e1 := shl_step f.vars hf.1
      have hp1 := pow_pos2 f.vars
      have hp24 := pow24 hf.1
      have hv24 := hf.1
      have hv64 : f.vars < 64 := by omega
      have htt := htw.2.2.2
      have htn := htw.2.1
      have C0 := fun W (R : RdN W A4 no c4 (rawL t.nodes)) => check_any W (t.vars : Int) (t.top : Int) A4 no c4 _ R (by unfold I64; omega) (by unfold I64; omega)
      rw [chk_ok htw, errV_zero, htv, htp] at C0
      have C1 := fun W (R : RdN W A4 no c4 (rawL t.nodes)) => trim_ok W t htw A4 no c4 R
      rw [hag, htv, htp, hno] at C1
      have C2 := fun W (R : RdN W A n c (rawL f.nodes)) => value_ok W f hf A n c R (cut failed % 2 ^ f.vars) hcl
      have C3 := fun W (R : RdN W A4 no c4 (rawL t.nodes)) => value_ok W t htw A4 no c4 R (cut failed % 2 ^ f.vars) (by rw [htv]; exact hcl)
      rw [hval, htv, htp] at C3
      have C4 := fun W (R : RdN W A n c (rawL f.nodes)) => size_ok W f hf A n c R
      have C5 := fun W (R : RdN W A4 no c4 (rawL t.nodes)) => size_ok W t htw A4 no c4 R
      rw [hsiz, htv, htp] at C5
      have C6 := fun W (R : RdN W A n c (rawL f.nodes)) => depth_ok W f hf A n c R
      have C7 := fun W (R : RdN W A4 no c4 (rawL t.nodes)) => depth_ok W t htw A4 no c4 R
      rw [hdep, htv, htp] at C7
      have C8 := fun W (R : RdN W A n c (rawL f.nodes)) => support_ok W f hf A n c R
      have C9 := fun W (R : RdN W A4 no c4 (rawL t.nodes)) => support_ok W t htw A4 no c4 R
      rw [hsup, htv, htp] at C9
      have C10 := fun W A' c' (R : RdN W A4 no c4 (rawL t.nodes)) (R' : RdN W A' no c' (rawL t.nodes)) => formula_eq W (f.vars : Int) (tp : Int) A4 no c4 A' no c' (rawL t.nodes) R R'
      have hs1 : (siz f).1 = no := by rw [← hsiz, hsn, hno]
      obtain ⟨⟨z1, z2⟩, hz⟩ : ∃ z, siz f = z := ⟨_, rfl⟩
      rw [hz] at C4 C5 hs1
      simp only at C4 C5 hs1
      subst hs1
      obtain ⟨sv, hsv⟩ : ∃ sv, val f (cut failed % 2 ^ f.vars) = sv := ⟨_, rfl⟩
      rw [hsv] at C2 C3
      obtain ⟨s1_, hs1_⟩ : ∃ s1_, cut failed % 2 ^ f.vars = s1_ := ⟨_, rfl⟩
      obtain ⟨p2, hp2⟩ : ∃ p2, 2 ^ f.vars = p2 := ⟨_, rfl⟩
      rw [hs1_] at C2 C3 ha1
      rw [hp2] at e1 ha1 hp1 hp24
      obtain ⟨dp, hdp⟩ : ∃ dp, dep f = dp := ⟨_, rfl⟩
      obtain ⟨sf, hsf⟩ : ∃ sf, sup f = sf := ⟨_, rfl⟩
      rw [hdp] at C6 C7
      rw [hsf] at C8 C9
      rw [hno] at T4 ⊢
      rw [htp]
      have hbe := beq_self sv
      have HC := Lib.hid (And.intro C0 (And.intro C1 (And.intro C2 (And.intro C3 (And.intro C4 (And.intro C5 (And.intro C6 (And.intro C7 (And.intro C8 (And.intro C9 C10))))))))))
      have HZ := Lib.hid (And.intro ha1 (And.intro e1 (And.intro hp1 hp24)))
      have hcp := fun W => clip_any W f.vars hf.1
      clear C0 C1 C2 C3 C4 C5 C6 C7 C8 C9 C10 ha1 e1 hp1 hp24 htw htv hval hdep hsup hsiz hsn hag hno htp hz hsv hs1_ hp2 hdp hsf htt htn hcl hv24 ht hn
      obtain ⟨b5, hb5⟩ : ∃ b5, w4.heap.size = b5 := ⟨_, rfl⟩
      obtain ⟨w5, hw5⟩ : ∃ w5, w4.alloc (.cells #[.int .i64 (f.vars : Int), .slice A4 z1 c4, .int .i64 (tp : Int)] 24) = w5 := ⟨_, rfl⟩
      have B5 : Own w5 b5 24 #[.int .i64 (f.vars : Int), .slice A4 z1 c4, .int .i64 (tp : Int)] := by rw [← hw5, ← hb5]; exact Own.new _ _ _
      have P5 : On w4 w5 := by rw [← hw5]; exact (On.refl w4).alloc _
      have Pw5 := Pw4.trans P5
      have O5 := O4.on P5
      have R5 := R4.on P5
      have T5 := T4.on P5
      clear Pw4 O4 R4 T4 P5
      obtain ⟨s0, s1, s2⟩ := own3 O5
      obtain ⟨u0, u1, u2⟩ := own3 B5
      have hX := HC.out.1 w5 T5
      go_wp2_with fail
      refine hX.mono ?_
      rintro e w6 ⟨rfl, P6⟩
      have Pw6 := Pw5.trans P6
      have O6 := O5.on P6
      have R6 := R5.on P6
      have T6 := T5.on P6
      have B6 := B5.on P6
      clear hX hw5 hb5 s0 s1 s2 u0 u1 u2 P6 Pw5 O5 R5 T5 B5
      obtain ⟨s0, s1, s2⟩ := own3 O6
      obtain ⟨u0, u1, u2⟩ := own3 B6
      have hX := HC.out.2.1 w6 T6
      go_wp2_with fail
      refine hX.mono ?_
      rintro e w7 ⟨A7, c7, rfl, U7, P7⟩
      have Pw7 := Pw6.trans P7
      have O7 := O6.on P7
      have R7 := R6.on P7
      have T7 := T6.on P7
      have B7 := B6.on P7
      clear hX s0 s1 s2 u0 u1 u2 P7 Pw6 O6 R6 T6 B6
      obtain ⟨b8, hb8⟩ : ∃ b8, w7.heap.size = b8 := ⟨_, rfl⟩
      obtain ⟨w8, hw8⟩ : ∃ w8, w7.alloc (.cells #[.int .i64 (f.vars : Int), .slice A7 z1 c7, .int .i64 (tp : Int)] 24) = w8 := ⟨_, rfl⟩
      have D8 : Own w8 b8 24 #[.int .i64 (f.vars : Int), .slice A7 z1 c7, .int .i64 (tp : Int)] := by rw [← hw8, ← hb8]; exact Own.new _ _ _
      have P8 : On w7 w8 := by rw [← hw8]; exact (On.refl w7).alloc _
      have Pw8 := Pw7.trans P8
      have O8 := O7.on P8
      have R8 := R7.on P8
      have T8 := T7.on P8
      have B8 := B7.on P8
      have U8 := U7.on P8
      clear Pw7 O7 R7 T7 B7 U7 P8
      obtain ⟨s0, s1, s2⟩ := own3 O8
      have hX := hcp w8
      go_wp2_with fail
      refine hX.mono ?_
      rintro e w8b ⟨rfl, rfl⟩
      clear hX hw8 hb8 s0 s1 s2 hcp
      have e1 := HZ.out.2.1
      have hp1 := HZ.out.2.2.1
      have hp24 := HZ.out.2.2.2
      have ha1 := HZ.out.1
      obtain ⟨s0, s1, s2⟩ := own3 O8
      obtain ⟨u0, u1, u2⟩ := own3 B8
      have hX := HC.out.2.2.1 w8 R8
      go_wp2_with fail
      refine hX.mono ?_
      rintro e w9 ⟨rfl, P9⟩
      have Pw9 := Pw8.trans P9
      have O9 := O8.on P9
      have R9 := R8.on P9
      have T9 := T8.on P9
      have B9 := B8.on P9
      have D9 := D8.on P9
      have U9 := U8.on P9
      clear hX s0 s1 s2 u0 u1 u2 P9 Pw8 O8 R8 T8 B8 D8 U8
      clear hp1 hp24 e1
      obtain ⟨s0, s1, s2⟩ := own3 O9
      obtain ⟨u0, u1, u2⟩ := own3 B9
      have hX := HC.out.2.2.2.1 w9 T9
      go_wp2_with fail
      refine hX.mono ?_
      rintro e w10 ⟨rfl, P10⟩
      have Pw10 := Pw9.trans P10
      have O10 := O9.on P10
      have R10 := R9.on P10
      have T10 := T9.on P10
      have B10 := B9.on P10
      have D10 := D9.on P10
      have U10 := U9.on P10
      clear hX s0 s1 s2 u0 u1 u2 P10 Pw9 O9 R9 T9 B9 D9 U9
      clear ha1
      obtain ⟨s0, s1, s2⟩ := own3 O10
      obtain ⟨u0, u1, u2⟩ := own3 B10
      have hX := HC.out.2.2.2.2.1 w10 R10
      go_wp2_with fail
      refine hX.mono ?_
      rintro e w11 ⟨rfl, P11⟩
      have Pw11 := Pw10.trans P11
      have O11 := O10.on P11
      have R11 := R10.on P11
      have T11 := T10.on P11
      have B11 := B10.on P11
      have D11 := D10.on P11
      have U11 := U10.on P11
      clear hX s0 s1 s2 u0 u1 u2 P11 Pw10 O10 R10 T10 B10 D10 U10
      obtain ⟨s0, s1, s2⟩ := own3 O11
      obtain ⟨u0, u1, u2⟩ := own3 B11
      have hX := HC.out.2.2.2.2.2.1 w11 T11
      go_wp2_with fail
      refine hX.mono ?_
      rintro e w12 ⟨rfl, P12⟩
      have Pw12 := Pw11.trans P12
      have O12 := O11.on P12
      have R12 := R11.on P12
      have T12 := T11.on P12
      have B12 := B11.on P12
      have D12 := D11.on P12
      have U12 := U11.on P12
      clear hX s0 s1 s2 u0 u1 u2 P12 Pw11 O11 R11 T11 B11 D11 U11
      obtain ⟨s0, s1, s2⟩ := own3 O12
      obtain ⟨u0, u1, u2⟩ := own3 B12
      have hX := HC.out.2.2.2.2.2.2.1 w12 R12
      go_wp2_with fail
      refine hX.mono ?_
      rintro e w13 ⟨rfl, P13⟩
      have Pw13 := Pw12.trans P13
      have O13 := O12.on P13
      have R13 := R12.on P13
      have T13 := T12.on P13
      have B13 := B12.on P13
      have D13 := D12.on P13
      have U13 := U12.on P13
      clear hX s0 s1 s2 u0 u1 u2 P13 Pw12 O12 R12 T12 B12 D12 U12
      obtain ⟨s0, s1, s2⟩ := own3 O13
      obtain ⟨u0, u1, u2⟩ := own3 B13
      have hX := HC.out.2.2.2.2.2.2.2.1 w13 T13
      go_wp2_with fail
      refine hX.mono ?_
      rintro e w14 ⟨rfl, P14⟩
      have Pw14 := Pw13.trans P14
      have O14 := O13.on P14
      have R14 := R13.on P14
      have T14 := T13.on P14
      have B14 := B13.on P14
      have D14 := D13.on P14
      have U14 := U13.on P14
      clear hX s0 s1 s2 u0 u1 u2 P14 Pw13 O13 R13 T13 B13 D13 U13
      obtain ⟨s0, s1, s2⟩ := own3 O14
      obtain ⟨u0, u1, u2⟩ := own3 B14
      have hX := HC.out.2.2.2.2.2.2.2.2.1 w14 R14
      go_wp2_with fail
      refine hX.mono ?_
      rintro e w15 ⟨rfl, P15⟩
      have Pw15 := Pw14.trans P15
      have O15 := O14.on P15
      have R15 := R14.on P15
      have T15 := T14.on P15
      have B15 := B14.on P15
      have D15 := D14.on P15
      have U15 := U14.on P15
      clear hX s0 s1 s2 u0 u1 u2 P15 Pw14 O14 R14 T14 B14 D14 U14
      obtain ⟨s0, s1, s2⟩ := own3 O15
      obtain ⟨u0, u1, u2⟩ := own3 B15
      have hX := HC.out.2.2.2.2.2.2.2.2.2.1 w15 T15
      go_wp2_with fail
      refine hX.mono ?_
      rintro e w16 ⟨rfl, P16⟩
      have Pw16 := Pw15.trans P16
      have O16 := O15.on P16
      have R16 := R15.on P16
      have T16 := T15.on P16
      have B16 := B15.on P16
      have D16 := D15.on P16
      have U16 := U15.on P16
      clear hX s0 s1 s2 u0 u1 u2 P16 Pw15 O15 R15 T15 B15 D15 U15
      obtain ⟨b9, hb9⟩ : ∃ b9, w16.heap.size = b9 := ⟨_, rfl⟩
      have P17 := (On.refl w16).alloc (.cells #[.nilIface, .nilIface, .nilIface, .nilIface, .nilIface, .nilIface, .nilIface, .nilIface, .nilIface] 29)
      have E17 : Own (w16.alloc (.cells #[.nilIface, .nilIface, .nilIface, .nilIface, .nilIface, .nilIface, .nilIface, .nilIface, .nilIface] 29)) b9 29 #[.nilIface, .nilIface, .nilIface, .nilIface, .nilIface, .nilIface, .nilIface, .nilIface, .nilIface] := by rw [← hb9]; exact Own.new _ _ _
      have H17 := Lib.hid (And.intro (O16.on P17) (And.intro (T16.on P17) (And.intro (B16.on P17) (And.intro (D16.on P17) (And.intro (U16.on P17) (And.intro (Pw16.trans P17) E17))))))
      clear O16 R16 T16 B16 D16 U16 Pw16 P17 E17
      go_wp2
      generalize hW : w16.alloc (.cells #[.nilIface, .nilIface, .nilIface, .nilIface, .nilIface, .nilIface, .nilIface, .nilIface, .nilIface] 29) = w17 at *
      clear hW
      go_loopw [131] (fun i wr => ∃ k : Nat, k ≤ 9 ∧ i = .int .i64 (k : Int) ∧ wr = w17) (fun i _ => 9 - (intOf i).toNat)
      case atStart => exact ⟨0, by omega, rfl, rfl⟩
      case round =>
        obtain ⟨k, hk, rfl, rfl⟩ := hrel
        by_cases hlt : k < 9
        · have hce : wr.cell? ⟨b9, k, none⟩ = some .nilIface := by
            rw [H17.out.2.2.2.2.2.2.cell]
            have : k = 0 ∨ k = 1 ∨ k = 2 ∨ k = 3 ∨ k = 4 ∨ k = 5 ∨ k = 6 ∨ k = 7 ∨ k = 8 := by omega
            rcases this with rfl | rfl | rfl | rfl | rfl | rfl | rfl | rfl | rfl <;> rfl
          go_wp2
          go_roundw
          case rel => exact ⟨k + 1, by omega, by go_num, by first | rfl | trivial⟩
          case measure => simp [intOf] <;> omega
        · obtain rfl : k = 9 := by omega
          obtain ⟨w18, rfl⟩ : ∃ w18, w18 = wr := ⟨_, rfl⟩
          obtain ⟨u0, u1, u2⟩ := own3 H17.out.2.2.1
          obtain ⟨d0, d1, d2⟩ := own3 H17.out.2.2.2.1
          have hX := HC.out.2.2.2.2.2.2.2.2.2.2 w18 A7 c7 H17.out.2.1 H17.out.2.2.2.2.1
          go_wp2_with fail
          refine hX.mono ?_
          rintro e w19 ⟨rfl, P19⟩
          obtain ⟨v0, v1, v2⟩ := own3 (H17.out.2.2.1.on P19)
          clear hX
          go_wp2
          go_ret
          exact ⟨rfl, H17.out.2.2.2.2.2.1.trans P19⟩
    · obtain ⟨er, her⟩ : ∃ er, chk vars xs top = er := ⟨_, rfl⟩
      rw [her] at hC2 hc
      rw [errV_pos _ hc] at hC2
      clear her
      have hA2 := fun W => awake_any W
      go_wp2_with fail
      refine hC2.mono ?_
      rintro e w3 ⟨rfl, P3⟩
      clear hC2
      go_wp2_with fail
      refine (hA2 _).mono ?_
      rintro e w4 ⟨rfl, P4⟩
      go_wp2
      go_ret
      exact ⟨rfl, (Pw2.trans P3).trans P4⟩
  · rw [Bool.eq_false_iff.2 hl] at hL1
    have hA2 := fun W => awake_any W
    clear hC
    go_wp2_with fail
    refine hL1.mono ?_
    rintro e w2 ⟨rfl, P2⟩
    clear hL1
    go_wp2_with fail
    refine (hA2 _).mono ?_
    rintro e w3 ⟨rfl, P3⟩
    go_wp2
    go_ret
    exact ⟨rfl, (Pw1.trans P2).trans P3⟩
end Go.Proofs.Ytimigaajhhfbhaa.Fm
