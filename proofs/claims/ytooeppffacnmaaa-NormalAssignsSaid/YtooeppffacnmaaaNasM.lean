/-
  NormalAssigns: events that become constants.
-/
import Derived.Test.YtooeppffacnmaaaJGM
namespace Go.Proofs.Ytooeppffacnmaaa.Fm
open Go.RowKit Go.Proofs.Ytooeppffacnmaaa.Sb
set_option linter.unusedVariables false
set_option maxRecDepth 100000
set_option maxHeartbeats 16000000 in
theorem nassigns_any (w : World) (vars top : Int) (A : Option Addr) (n c : Nat) (xs : List Nd) (h : RdN w A n c xs) (hv : I64 vars) (ht : I64 top) (y nn : Int) (hy : I64 y) (hnn : I64 nn) :
    Calls Try.prog 5 #[.agg #[.int .i64 vars, .slice A n c, .int .i64 top], cubV y nn] w fun e w' => e = .returned (.bool true) ∧ On w w' := by
  obtain ⟨q, hq⟩ : ∃ q, w.heap.size = q := ⟨_, rfl⟩
  obtain ⟨w0, hw0⟩ : ∃ w0, (w.alloc (.cells #[.int .i64 vars, .slice A n c, .int .i64 top] 24)).alloc (.cells #[.int .i64 y, .int .i64 nn] 36) = w0 := ⟨_, rfl⟩
  have O0 : Own w0 q 24 #[.int .i64 vars, .slice A n c, .int .i64 top] := by rw [← hw0, ← hq]; exact (Own.new _ _ _).alloc _
  have K0 : Own w0 (q + 1) 36 #[.int .i64 y, .int .i64 nn] := by
    rw [← hw0, ← hq]
    have := Own.new (w.alloc (.cells #[.int .i64 vars, .slice A n c, .int .i64 top] 24)) 36 #[.int .i64 y, .int .i64 nn]
    simpa using this
  have HK0 := Lib.hid K0
  clear K0
  have P0 : On w w0 := by rw [← hw0]; exact ((On.refl w).alloc _).alloc _
  have hAw := awakeN_any w0
  have hL1 := fun W (k : On w W) => light_any W vars top A n c xs (h.on k)
  have H0 := Lib.hid (And.intro P0 (And.intro hw0 O0))
  clear P0 O0
  go_enter Try.func5, Try.ntmps5
  subst hq
  go_wp2_with fail
  refine hAw.mono ?_
  rintro e w1 ⟨rfl, P1⟩
  have Pw1 := H0.out.1.trans P1
  have O1 := (H0.out.2.2).on P1
  have C1 := HK0.out.on P1
  obtain ⟨r0, r1, r2⟩ := own3 O1
  have hl1 := hL1 w1 Pw1
  clear hAw hL1 hw0 H0
  by_cases hb : lightB xs = true
  · rw [hb] at hl1
    have hlen := light_lenN hb
    go_wp2_with fail
    refine hl1.mono ?_
    rintro e w2 ⟨rfl, P2⟩
    have Pw2 := Pw1.trans P2
    have O2 := O1.on P2
    have C2 := C1.on P2
    clear hl1 r0 r1 r2 P2 Pw1 O1 hb
    have R2 := h.on Pw2
    have hZ := fun W => RdN.nil_ W
    by_cases hc : chk vars xs top = 0
    · obtain ⟨f, hf, rfl, rfl, rfl⟩ := chk_zero hc
      by_cases hcu : cubErr f.vars y nn = 0
      · obtain ⟨yy, nk, rfl, rfl, hy2, hn2, hdis⟩ := cub_zero hf.1 hcu
        obtain ⟨v1, hv1⟩ : ∃ v, oV (assignF f yy nk) = v := ⟨_, rfl⟩
        obtain ⟨t1, ht1⟩ : ∃ t, oT (assignF f yy nk) = t := ⟨_, rfl⟩
        obtain ⟨x1, hx1⟩ : ∃ x, oX (assignF f yy nk) = x := ⟨_, rfl⟩
        obtain ⟨e1, he1⟩ : ∃ e, oE (assignF f yy nk) = e := ⟨_, rfl⟩
        obtain ⟨ev1, hev1⟩ : ∃ ev, errV e1 = ev := ⟨_, rfl⟩
        have HV := Lib.hid (And.intro hv1 (And.intro ht1 (And.intro hx1 (And.intro he1 hev1))))
        have hC := nassign_ok w2 f hf A n c R2 yy nk hy2 hn2 hcu
        have HG := Lib.hid (And.intro hf (And.intro hy2 (And.intro hn2 (And.intro hcu hc))))
        clear hv1 ht1 hx1 he1 hev1 hf hy2 hn2 hcu hdis hc
        obtain ⟨s0, s1, s2⟩ := own3 O2
        obtain ⟨u0, u1⟩ := own2 C2
        go_wp2_with fail
        refine hC.mono ?_
        rintro e w4 ⟨hM, P4⟩
        obtain ⟨A4, n4, c4, he, X4⟩ := hM.out
        rw [HV.out.1, HV.out.2.1, HV.out.2.2.2.1, HV.out.2.2.2.2] at he
        rw [HV.out.2.2.1] at X4
        subst he
        obtain ⟨p1, hp1⟩ : ∃ p, w4.heap.size = p := ⟨_, rfl⟩
        obtain ⟨w5, hw5⟩ : ∃ w5, w4.alloc (.cells #[.int .i64 v1, .slice A4 n4 c4, .int .i64 t1] 24) = w5 := ⟨_, rfl⟩
        have Q5 : On w4 w5 := by rw [← hw5]; exact (On.refl _).alloc _
        have B5 : Own w5 p1 24 #[.int .i64 v1, .slice A4 n4 c4, .int .i64 t1] := by rw [← hw5, ← hp1]; exact Own.new _ _ _
        have D5 := P4.trans Q5
        have Pw5 := Pw2.trans D5
        have O5 := O2.on D5
        have C5 := C2.on D5
        have R5 := R2.on D5
        have X5 := X4.on Q5
        clear hC hM s0 s1 s2 u0 u1 P4 Q5 D5 Pw2 O2 C2 R2 X4
        have hC := rcheck_any w5 (f.vars : Int) (f.top : Int) A n c _ R5 hv ht
        rw [HG.out.2.2.2.2] at hC
        obtain ⟨s0, s1, s2⟩ := own3 O5
        obtain ⟨u0, u1⟩ := own2 C5
        go_wp2_with fail
        refine hC.mono ?_
        rintro e w6 ⟨rfl, P6⟩
        clear hC s0 s1 s2 u0 u1
        have hC := rassign_ok w6 f HG.out.1 A n c (R5.on P6) yy nk HG.out.2.1 HG.out.2.2.1 HG.out.2.2.2.1
        obtain ⟨s0, s1, s2⟩ := own3 (O5.on P6)
        obtain ⟨u0, u1⟩ := own2 (C5.on P6)
        go_wp2_with fail
        refine hC.mono ?_
        rintro e w8 ⟨hM, P8⟩
        obtain ⟨A8, n8, c8, he, X8⟩ := hM.out
        rw [HV.out.1, HV.out.2.1, HV.out.2.2.2.1] at he
        rw [HV.out.2.2.1] at X8
        subst he
        clear hC hM s0 s1 s2 u0 u1
        obtain ⟨p2, hp2⟩ : ∃ p, w8.heap.size = p := ⟨_, rfl⟩
        obtain ⟨w9, hw9⟩ : ∃ w9, w8.alloc (.cells #[.int .i64 v1, .slice A8 n8 c8, .int .i64 t1] 24) = w9 := ⟨_, rfl⟩
        have Q9 : On w8 w9 := by rw [← hw9]; exact (On.refl _).alloc _
        have B9 : Own w9 p2 24 #[.int .i64 v1, .slice A8 n8 c8, .int .i64 t1] := by rw [← hw9, ← hp2]; exact Own.new _ _ _
        have D9 := (P6.trans P8).trans Q9
        have hS := same_any w9 v1 t1 A4 n4 c4 A8 n8 c8 x1 (X5.on D9) (X8.on Q9) e1
        rw [HV.out.2.2.2.2] at hS
        have BB := B5.on D9
        have Pz := Pw5.trans D9
        clear P6 P8 Q9 D9 O5 C5 R5 X5 X8 B5 Pw5
        obtain ⟨s0, s1, s2⟩ := own3 BB
        obtain ⟨u0, u1, u2⟩ := own3 B9
        go_wp2_with fail
        refine hS.mono ?_
        rintro e w20 ⟨rfl, P20⟩
        go_wp2
        go_ret
        exact ⟨rfl, Pz.trans P20⟩
      · have hC := nassign_err w2 f hf A n c R2 y nn hy hnn hcu
        obtain ⟨er, her⟩ : ∃ er, cubErr f.vars y nn = er := ⟨_, rfl⟩
        have hE : ¬ (er : Int) = 0 := by rw [her] at hcu; omega
        obtain ⟨ev2, hev2⟩ : ∃ e, errV er = e := ⟨_, rfl⟩
        rw [her, hev2] at hC
        have HG := Lib.hid (And.intro hf (And.intro hcu her))
        clear hf hcu her
        obtain ⟨s0, s1, s2⟩ := own3 O2
        obtain ⟨u0, u1⟩ := own2 C2
        go_wp2_with fail
        refine hC.mono ?_
        rintro e w4 ⟨rfl, P4⟩
        obtain ⟨p1, hp1⟩ : ∃ p, w4.heap.size = p := ⟨_, rfl⟩
        have Q5 : On w4 (w4.alloc (.cells #[.int .i64 0, .slice none 0 0, .int .i64 0] 24)) := (On.refl _).alloc _
        have B5 : Own (w4.alloc (.cells #[.int .i64 0, .slice none 0 0, .int .i64 0] 24)) p1 24 #[.int .i64 0, .slice none 0 0, .int .i64 0] := by rw [← hp1]; exact Own.new _ _ _
        have D5 := P4.trans Q5
        have Pw5 := Pw2.trans D5
        have O5 := O2.on D5
        have C5 := C2.on D5
        have R5 := R2.on D5
        clear hC s0 s1 s2 u0 u1 P4 Q5 D5 Pw2 O2 C2 R2
        have hC := rcheck_any _ _ _ A n c _ R5 hv ht
        rw [hc] at hC
        obtain ⟨s0, s1, s2⟩ := own3 O5
        obtain ⟨u0, u1⟩ := own2 C5
        go_wp2_with fail
        refine hC.mono ?_
        rintro e w6 ⟨rfl, P6⟩
        have Pw6 := Pw5.trans P6
        have O6 := O5.on P6
        have C6 := C5.on P6
        have R6 := R5.on P6
        have B6 := B5.on P6
        clear hC s0 s1 s2 u0 u1 Pw5 O5 C5 R5 B5 P6
        have hC := rassign_bad w6 f HG.out.1 A n c R6 y nn HG.out.2.1
        rw [HG.out.2.2] at hC
        obtain ⟨s0, s1, s2⟩ := own3 O6
        obtain ⟨u0, u1⟩ := own2 C6
        go_wp2_with fail
        refine hC.mono ?_
        rintro e w8 ⟨rfl, P8⟩
        clear hC s0 s1 s2 u0 u1
        have B8 := B6.on P8
        obtain ⟨p2, hp2⟩ : ∃ p, w8.heap.size = p := ⟨_, rfl⟩
        have Q9 : On w8 (w8.alloc (.cells #[.int .i64 0, .slice none 0 0, .int .i64 0] 24)) := (On.refl _).alloc _
        have B9 : Own (w8.alloc (.cells #[.int .i64 0, .slice none 0 0, .int .i64 0] 24)) p2 24 #[.int .i64 0, .slice none 0 0, .int .i64 0] := by rw [← hp2]; exact Own.new _ _ _
        have BB := B8.on Q9
        have Pz := (Pw6.trans P8).trans Q9
        clear Pw6 P8 O6 C6 R6 B6 B8 Q9
        obtain ⟨s0, s1, s2⟩ := own3 BB
        obtain ⟨u0, u1, u2⟩ := own3 B9
        have hS := same_any _ 0 0 none 0 0 none 0 0 [] (hZ (w8.alloc (.cells #[.int .i64 0, .slice none 0 0, .int .i64 0] 24))) (hZ _) er
        rw [hev2] at hS
        go_wp2_with fail
        refine hS.mono ?_
        rintro e w20 ⟨rfl, P20⟩
        go_wp2
        go_ret
        exact ⟨rfl, Pz.trans P20⟩
    · have hC := nassign_bad w2 vars top A n c xs R2 hv ht y nn hy hnn hc
      obtain ⟨er, her⟩ : ∃ er, chk vars xs top = er := ⟨_, rfl⟩
      have hE : ¬ (er : Int) = 0 := by rw [her] at hc; omega
      obtain ⟨ev2, hev2⟩ : ∃ e, errV er = e := ⟨_, rfl⟩
      rw [her, hev2] at hC
      obtain ⟨s0, s1, s2⟩ := own3 O2
      obtain ⟨u0, u1⟩ := own2 C2
      go_wp2_with fail
      refine hC.mono ?_
      rintro e w4 ⟨rfl, P4⟩
      obtain ⟨p1, hp1⟩ : ∃ p, w4.heap.size = p := ⟨_, rfl⟩
      have Q5 : On w4 (w4.alloc (.cells #[.int .i64 0, .slice none 0 0, .int .i64 0] 24)) := (On.refl _).alloc _
      have B5 : Own (w4.alloc (.cells #[.int .i64 0, .slice none 0 0, .int .i64 0] 24)) p1 24 #[.int .i64 0, .slice none 0 0, .int .i64 0] := by rw [← hp1]; exact Own.new _ _ _
      have D5 := P4.trans Q5
      have Pw5 := Pw2.trans D5
      have O5 := O2.on D5
      have C5 := C2.on D5
      have R5 := R2.on D5
      clear hC s0 s1 s2 u0 u1 P4 Q5 D5 Pw2 O2 C2 R2
      have hC := rcheck_any _ _ _ A n c _ R5 hv ht
      rw [her] at hC
      obtain ⟨s0, s1, s2⟩ := own3 O5
      obtain ⟨u0, u1⟩ := own2 C5
      go_wp2_with fail
      refine hC.mono ?_
      rintro e w6 ⟨rfl, P6⟩
      have Pw6 := Pw5.trans P6
      have O6 := O5.on P6
      have C6 := C5.on P6
      have R6 := R5.on P6
      have B6 := B5.on P6
      clear hC s0 s1 s2 u0 u1 Pw5 O5 C5 R5 B5 P6
      obtain ⟨s0, s1, s2⟩ := own3 B6
      have hS := same_any _ 0 0 none 0 0 none 0 0 [] (hZ w6) (hZ w6) er
      rw [hev2] at hS
      go_wp2_with fail
      refine hS.mono ?_
      rintro e w20 ⟨rfl, P20⟩
      go_wp2
      go_ret
      exact ⟨rfl, Pw6.trans P20⟩
  · rw [Bool.eq_false_iff.2 hb] at hl1
    have hA2 := fun W => awakeN_any W
    go_wp2_with fail
    refine hl1.mono ?_
    rintro e w7 ⟨rfl, P7⟩
    clear hl1 r0 r1 r2
    go_wp2_with fail
    refine (hA2 _).mono ?_
    rintro e w8 ⟨rfl, P8⟩
    go_wp2
    go_ret
    exact ⟨rfl, (Pw1.trans P7).trans P8⟩
end Go.Proofs.Ytooeppffacnmaaa.Fm
