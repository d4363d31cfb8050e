/-
  NormalDuals: the dual, and without constants.
-/
import Derived.Test.YtooeppffacnmaaaJGM
import Derived.Test.YtooeppffacnmaaaJgM
namespace Go.Proofs.Ytooeppffacnmaaa.Fm
open Go.RowKit Go.Proofs.Ytooeppffacnmaaa.Sb
set_option linter.unusedVariables false
set_option maxRecDepth 100000
set_option maxHeartbeats 16000000 in
theorem nduals_any (w : World) (vars top : Int) (A : Option Addr) (n c : Nat) (xs : List Nd) (h : RdN w A n c xs) (hv : I64 vars) (ht : I64 top) :
    Calls Try.prog 4 #[.agg #[.int .i64 vars, .slice A n c, .int .i64 top]] w fun e w' => e = .returned (.bool true) ∧ On w w' := by
  obtain ⟨q, hq⟩ : ∃ q, w.heap.size = q := ⟨_, rfl⟩
  obtain ⟨w0, hw0⟩ : ∃ w0, w.alloc (.cells #[.int .i64 vars, .slice A n c, .int .i64 top] 24) = w0 := ⟨_, rfl⟩
  have O0 : Own w0 q 24 #[.int .i64 vars, .slice A n c, .int .i64 top] := by rw [← hw0, ← hq]; exact Own.new _ _ _
  have P0 : On w w0 := by rw [← hw0]; exact (On.refl w).alloc _
  have hAw := awakeN_any w0
  have hL1 := fun W (k : On w W) => light_any W vars top A n c xs (h.on k)
  have H0 := Lib.hid (And.intro P0 (And.intro hw0 O0))
  clear P0 O0
  go_enter Try.func4, Try.ntmps4
  subst hq
  go_wp2_with fail
  refine hAw.mono ?_
  rintro e w1 ⟨rfl, P1⟩
  have Pw1 := H0.out.1.trans P1
  have O1 := (H0.out.2.2).on P1
  obtain ⟨r0, r1, r2⟩ := own3 O1
  have hl1 := hL1 w1 Pw1
  clear hAw hL1 hw0 H0
  by_cases hb : lightB xs = true
  · rw [hb] at hl1
    have hlen := light_lenN hb
    go_wp2_with fail
    refine hl1.mono ?_
    rintro e w2 ⟨rfl, P2⟩
    have Pw2 := Pw1.trans P2
    have O2 := O1.on P2
    clear hl1 r0 r1 r2 P2 Pw1 O1 hb
    have R2 := h.on Pw2
    by_cases hc : chk vars xs top = 0
    · obtain ⟨f, hf, rfl, rfl, rfl⟩ := chk_zero hc
      obtain ⟨v1, hv1⟩ : ∃ v, oV (dual f) = v := ⟨_, rfl⟩
      obtain ⟨t1, ht1⟩ : ∃ t, oT (dual f) = t := ⟨_, rfl⟩
      obtain ⟨x1, hx1⟩ : ∃ x, oX (dual f) = x := ⟨_, rfl⟩
      obtain ⟨e1, he1⟩ : ∃ e, oE (dual f) = e := ⟨_, rfl⟩
      obtain ⟨ev1, hev1⟩ : ∃ ev, errV e1 = ev := ⟨_, rfl⟩
      obtain ⟨v2, hv2⟩ : ∃ v, oV (fold f) = v := ⟨_, rfl⟩
      obtain ⟨t2, ht2⟩ : ∃ t, oT (fold f) = t := ⟨_, rfl⟩
      obtain ⟨x2, hx2⟩ : ∃ x, oX (fold f) = x := ⟨_, rfl⟩
      obtain ⟨e2, he2⟩ : ∃ e, oE (fold f) = e := ⟨_, rfl⟩
      obtain ⟨ev2, hev2⟩ : ∃ ev, errV e2 = ev := ⟨_, rfl⟩
      have HV := Lib.hid (And.intro (And.intro hv1 (And.intro ht1 (And.intro hx1 (And.intro he1 hev1)))) (And.intro hv2 (And.intro ht2 (And.intro hx2 (And.intro he2 hev2)))))
      clear hv1 ht1 hx1 he1 hev1 hv2 ht2 hx2 he2 hev2 hc
      have hC := ndual_ok w2 f hf A n c R2
      obtain ⟨s0, s1, s2⟩ := own3 O2
      go_wp2_with fail
      refine hC.mono ?_
      rintro e w3 ⟨hM, P3⟩
      obtain ⟨A1, n1, c1, he, X1⟩ := hM.out
      rw [HV.out.1.1, HV.out.1.2.1, HV.out.1.2.2.2.1, HV.out.1.2.2.2.2] at he
      rw [HV.out.1.2.2.1] at X1
      subst he
      obtain ⟨p1, hp1⟩ : ∃ p, w3.heap.size = p := ⟨_, rfl⟩
      obtain ⟨w4, hw4⟩ : ∃ w4, w3.alloc (.cells #[.int .i64 v1, .slice A1 n1 c1, .int .i64 t1] 24) = w4 := ⟨_, rfl⟩
      have Q4 : On w3 w4 := by rw [← hw4]; exact (On.refl _).alloc _
      have B1_4 : Own w4 p1 24 #[.int .i64 v1, .slice A1 n1 c1, .int .i64 t1] := by rw [← hw4, ← hp1]; exact Own.new _ _ _
      have D4 := P3.trans Q4
      have Pw4 := Pw2.trans D4
      have O4 := O2.on D4
      have R4 := R2.on D4
      have X1_4 := X1.on Q4
      clear hC hM s0 s1 s2 P3 Q4 D4 Pw2 O2 R2 X1
      have hC := nfold_ok w4 f hf A n c R4
      obtain ⟨s0, s1, s2⟩ := own3 O4
      go_wp2_with fail
      refine hC.mono ?_
      rintro e w5 ⟨hM, P5⟩
      obtain ⟨A2, n2, c2, he, X2⟩ := hM.out
      rw [HV.out.2.1, HV.out.2.2.1, HV.out.2.2.2.2.1, HV.out.2.2.2.2.2] at he
      rw [HV.out.2.2.2.1] at X2
      subst he
      obtain ⟨p2, hp2⟩ : ∃ p, w5.heap.size = p := ⟨_, rfl⟩
      obtain ⟨w6, hw6⟩ : ∃ w4, w5.alloc (.cells #[.int .i64 v2, .slice A2 n2 c2, .int .i64 t2] 24) = w4 := ⟨_, rfl⟩
      have Q6 : On w5 w6 := by rw [← hw6]; exact (On.refl _).alloc _
      have B2_6 : Own w6 p2 24 #[.int .i64 v2, .slice A2 n2 c2, .int .i64 t2] := by rw [← hw6, ← hp2]; exact Own.new _ _ _
      have D6 := P5.trans Q6
      have Pw6 := Pw4.trans D6
      have O6 := O4.on D6
      have R6 := R4.on D6
      have X2_6 := X2.on Q6
      have B1_6 := B1_4.on D6
      have X1_6 := X1_4.on D6
      clear hC hM s0 s1 s2 P5 Q6 D6 Pw4 O4 R4 X2 B1_4 X1_4
      have hC := rcheck_any w6 (f.vars : Int) (f.top : Int) A n c _ R6 (by unfold I64; have := hf.1; omega) (by unfold I64; have := hf.2.2.2; have : f.nodes.length ≤ 128 := hf.2.1; have := hf.1; omega)
      rw [chk_ok hf] at hC
      obtain ⟨s0, s1, s2⟩ := own3 O6
      go_wp2_with fail
      refine hC.mono ?_
      rintro e w7 ⟨rfl, P7⟩
      have Pw7 := Pw6.trans P7
      have O7 := O6.on P7
      have R7 := R6.on P7
      have B1_7 := B1_6.on P7
      have X1_7 := X1_6.on P7
      have B2_7 := B2_6.on P7
      have X2_7 := X2_6.on P7
      clear hC s0 s1 s2 P7 Pw6 O6 R6 B1_6 X1_6 B2_6 X2_6
      have hC := rdual_ok w7 f hf A n c R7
      obtain ⟨s0, s1, s2⟩ := own3 O7
      go_wp2_with fail
      refine hC.mono ?_
      rintro e w8 ⟨hM, P8⟩
      obtain ⟨A3, n3, c3, he, X3⟩ := hM.out
      rw [HV.out.1.1, HV.out.1.2.1, HV.out.1.2.2.2.1] at he
      rw [HV.out.1.2.2.1] at X3
      subst he
      obtain ⟨p3, hp3⟩ : ∃ p, w8.heap.size = p := ⟨_, rfl⟩
      obtain ⟨w9, hw9⟩ : ∃ w4, w8.alloc (.cells #[.int .i64 v1, .slice A3 n3 c3, .int .i64 t1] 24) = w4 := ⟨_, rfl⟩
      have Q9 : On w8 w9 := by rw [← hw9]; exact (On.refl _).alloc _
      have B3_9 : Own w9 p3 24 #[.int .i64 v1, .slice A3 n3 c3, .int .i64 t1] := by rw [← hw9, ← hp3]; exact Own.new _ _ _
      have D9 := P8.trans Q9
      have Pw9 := Pw7.trans D9
      have O9 := O7.on D9
      have R9 := R7.on D9
      have X3_9 := X3.on Q9
      have B1_9 := B1_7.on D9
      have X1_9 := X1_7.on D9
      have B2_9 := B2_7.on D9
      have X2_9 := X2_7.on D9
      clear hC hM s0 s1 s2 P8 Q9 D9 Pw7 O7 R7 X3 B1_7 X1_7 B2_7 X2_7
      have hC := rfold_ok w9 f hf A n c R9
      obtain ⟨s0, s1, s2⟩ := own3 O9
      go_wp2_with fail
      refine hC.mono ?_
      rintro e w10 ⟨hM, P10⟩
      obtain ⟨A4, n4, c4, he, X4⟩ := hM.out
      rw [HV.out.2.1, HV.out.2.2.1, HV.out.2.2.2.2.1] at he
      rw [HV.out.2.2.2.1] at X4
      subst he
      obtain ⟨p4, hp4⟩ : ∃ p, w10.heap.size = p := ⟨_, rfl⟩
      obtain ⟨w11, hw11⟩ : ∃ w4, w10.alloc (.cells #[.int .i64 v2, .slice A4 n4 c4, .int .i64 t2] 24) = w4 := ⟨_, rfl⟩
      have Q11 : On w10 w11 := by rw [← hw11]; exact (On.refl _).alloc _
      have B4_11 : Own w11 p4 24 #[.int .i64 v2, .slice A4 n4 c4, .int .i64 t2] := by rw [← hw11, ← hp4]; exact Own.new _ _ _
      have D11 := P10.trans Q11
      have Pw11 := Pw9.trans D11
      have O11 := O9.on D11
      have R11 := R9.on D11
      have X4_11 := X4.on Q11
      have B1_11 := B1_9.on D11
      have X1_11 := X1_9.on D11
      have B2_11 := B2_9.on D11
      have X2_11 := X2_9.on D11
      have B3_11 := B3_9.on D11
      have X3_11 := X3_9.on D11
      clear hC hM s0 s1 s2 P10 Q11 D11 Pw9 O9 R9 X4 B1_9 X1_9 B2_9 X2_9 B3_9 X3_9
      obtain ⟨s0, s1, s2⟩ := own3 B1_11
      obtain ⟨s3, s4, s5⟩ := own3 B3_11
      obtain ⟨s6, s7, s8⟩ := own3 B2_11
      obtain ⟨s9, s10, s11⟩ := own3 B4_11
      have hS := same_any w11 v1 t1 A1 n1 c1 A3 n3 c3 x1 X1_11 X3_11 e1
      rw [HV.out.1.2.2.2.2] at hS
      go_wp2_with fail
      refine hS.mono ?_
      rintro e w20 ⟨rfl, P20⟩
      clear hS s0 s1 s2 s3 s4 s5 s6 s7 s8 s9 s10 s11
      obtain ⟨s6, s7, s8⟩ := own3 (B2_11.on P20)
      obtain ⟨s9, s10, s11⟩ := own3 (B4_11.on P20)
      have hS := same_any w20 v2 t2 A2 n2 c2 A4 n4 c4 x2 (X2_11.on P20) (X4_11.on P20) e2
      rw [HV.out.2.2.2.2.2] at hS
      go_wp2_with fail
      refine hS.mono ?_
      rintro e w21 ⟨rfl, P21⟩
      go_wp2
      go_ret
      exact ⟨rfl, (Pw11.trans P20).trans P21⟩
    · obtain ⟨er, her⟩ : ∃ er, chk vars xs top = er := ⟨_, rfl⟩
      have hE : ¬ (er : Int) = 0 := by rw [her] at hc; omega
      obtain ⟨ev, hev⟩ : ∃ ev, errV er = ev := ⟨_, rfl⟩
      have hZ := fun W => RdN.nil_ W
      have hC := ndual_bad _ vars top A n c xs R2 hv ht hc
      rw [her, hev] at hC
      obtain ⟨s0, s1, s2⟩ := own3 O2
      go_wp2_with fail
      refine hC.mono ?_
      rintro e w3 ⟨rfl, P3⟩
      obtain ⟨p1, hp1⟩ : ∃ p, w3.heap.size = p := ⟨_, rfl⟩
      have Q4 : On w3 (w3.alloc (.cells #[.int .i64 0, .slice none 0 0, .int .i64 0] 24)) := (On.refl _).alloc _
      have B1_4 : Own (w3.alloc (.cells #[.int .i64 0, .slice none 0 0, .int .i64 0] 24)) p1 24 #[.int .i64 0, .slice none 0 0, .int .i64 0] := by rw [← hp1]; exact Own.new _ _ _
      have D4 := P3.trans Q4
      have Pw4 := Pw2.trans D4
      have O4 := O2.on D4
      have R4 := R2.on D4
      clear hC s0 s1 s2 P3 Q4 D4 Pw2 O2 R2
      have hC := nfold_bad _ vars top A n c xs R4 hv ht hc
      rw [her, hev] at hC
      obtain ⟨s0, s1, s2⟩ := own3 O4
      go_wp2_with fail
      refine hC.mono ?_
      rintro e w5 ⟨rfl, P5⟩
      obtain ⟨p2, hp2⟩ : ∃ p, w5.heap.size = p := ⟨_, rfl⟩
      have Q6 : On w5 (w5.alloc (.cells #[.int .i64 0, .slice none 0 0, .int .i64 0] 24)) := (On.refl _).alloc _
      have B2_6 : Own (w5.alloc (.cells #[.int .i64 0, .slice none 0 0, .int .i64 0] 24)) p2 24 #[.int .i64 0, .slice none 0 0, .int .i64 0] := by rw [← hp2]; exact Own.new _ _ _
      have D6 := P5.trans Q6
      have Pw6 := Pw4.trans D6
      have O6 := O4.on D6
      have R6 := R4.on D6
      have B1_6 := B1_4.on D6
      clear hC s0 s1 s2 P5 Q6 D6 Pw4 O4 R4 B1_4
      have hC := rcheck_any _ vars top A n c xs R6 hv ht
      rw [her] at hC
      obtain ⟨s0, s1, s2⟩ := own3 O6
      go_wp2_with fail
      refine hC.mono ?_
      rintro e w7 ⟨rfl, P7⟩
      have Z1 := B1_6.on P7
      have Z2 := B2_6.on P7
      have Pz := Pw6.trans P7
      clear hC s0 s1 s2 B1_6 B2_6 Pw6 P7 O6 R6
      obtain ⟨s0, s1, s2⟩ := own3 Z1
      obtain ⟨s3, s4, s5⟩ := own3 Z2
      have hS := same_any w7 0 0 none 0 0 none 0 0 [] (hZ _) (hZ _) er
      rw [hev] at hS
      go_wp2_with fail
      refine hS.mono ?_
      rintro e w20 ⟨rfl, P20⟩
      clear hS s0 s1 s2 s3 s4 s5
      obtain ⟨s3, s4, s5⟩ := own3 (Z2.on P20)
      have hS := same_any w20 0 0 none 0 0 none 0 0 [] (hZ _) (hZ _) er
      rw [hev] at hS
      go_wp2_with fail
      refine hS.mono ?_
      rintro e w21 ⟨rfl, P21⟩
      go_wp2
      go_ret
      exact ⟨rfl, (Pz.trans P20).trans P21⟩
  · rw [Bool.eq_false_iff.2 hb] at hl1
    have hA2 := fun W => awakeN_any W
    go_wp2_with fail
    refine hl1.mono ?_
    rintro e w7 ⟨rfl, P7⟩
    clear hl1 r0 r1 r2
    go_wp2_with fail
    refine (hA2 _).mono ?_
    rintro e w8 ⟨rfl, P8⟩
    go_wp2
    go_ret
    exact ⟨rfl, (Pw1.trans P7).trans P8⟩
end Go.Proofs.Ytooeppffacnmaaa.Fm
