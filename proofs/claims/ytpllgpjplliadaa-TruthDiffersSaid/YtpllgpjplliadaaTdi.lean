/-
  TruthDiffers.
-/
import Derived.Test.YtpllgpjplliadaaTn
namespace Go.Proofs.Ytpllgpjplliadaa.Fm
open Go.RowKit Go.Proofs.Ytpllgpjplliadaa.Sb
set_option linter.unusedVariables false
set_option maxRecDepth 100000
set_option maxHeartbeats 16000000 in
theorem ltdiffers_any (w : World) (vars top : Int) (A : Option Addr) (n c : Nat) (xs : List Nd) (h : RdN w A n c xs) (hv : I64 vars) (ht : I64 top) (vars2 top2 : Int) (A2 : Option Addr) (n2 c2 : Nat) (xs2 : List Nd) (h2 : RdN w A2 n2 c2 xs2) (hv2 : I64 vars2) (ht2 : I64 top2) (x0 : Int) :
    Calls Try.prog 8 #[.agg #[.int .i64 vars, .slice A n c, .int .i64 top], .agg #[.int .i64 vars2, .slice A2 n2 c2, .int .i64 top2], .int .i64 x0] w fun e w' => e = .returned (.bool true) ∧ On w w' := by
  obtain ⟨q, hq⟩ : ∃ q, w.heap.size = q := ⟨_, rfl⟩
  obtain ⟨w0, hw0⟩ : ∃ w0, (w.alloc (.cells #[.int .i64 vars, .slice A n c, .int .i64 top] 24)).alloc (.cells #[.int .i64 vars2, .slice A2 n2 c2, .int .i64 top2] 24) = w0 := ⟨_, rfl⟩
  have O0 : Own w0 q 24 #[.int .i64 vars, .slice A n c, .int .i64 top] := by rw [← hw0, ← hq]; exact (Own.new _ _ _).alloc _
  have C0 : Own w0 (q + 1) 24 #[.int .i64 vars2, .slice A2 n2 c2, .int .i64 top2] := by
    rw [← hw0, ← hq]
    have := Own.new (w.alloc (.cells #[.int .i64 vars, .slice A n c, .int .i64 top] 24)) 24 #[.int .i64 vars2, .slice A2 n2 c2, .int .i64 top2]
    simpa using this
  have P0 : On w w0 := by rw [← hw0]; exact ((On.refl w).alloc _).alloc _
  have hAw := awakeT_any w0
  have hL1 := fun W (k : On w W) => light_any W vars top A n c xs (h.on k)
  have hL2 := fun W (k : On w W) => light_any W vars2 top2 A2 n2 c2 xs2 (h2.on k)
  have H0 := Lib.hid (And.intro P0 (And.intro hw0 (And.intro O0 C0)))
  clear P0 O0 C0
  go_enter Try.func8, Try.ntmps8
  subst hq
  go_wp2_with fail
  refine hAw.mono ?_
  rintro e w1 ⟨rfl, P1⟩
  have Pw1 := H0.out.1.trans P1
  have O1 := (H0.out.2.2.1).on P1
  have C1 := (H0.out.2.2.2).on P1
  obtain ⟨r0, r1, r2⟩ := own3 O1
  have hl1 := hL1 w1 Pw1
  clear hAw hL1 hw0 H0
  by_cases hb : lightB xs = true
  · rw [hb] at hl1
    go_wp2_with fail
    refine hl1.mono ?_
    rintro e w2 ⟨rfl, P2⟩
    have Pw2 := Pw1.trans P2
    have O2 := O1.on P2
    have C2 := C1.on P2
    clear hl1 r0 r1 r2 P2 Pw1 O1 C1 hb
    obtain ⟨r0, r1, r2⟩ := own3 C2
    have hl2 := hL2 w2 Pw2
    clear hL2
    by_cases hb2 : lightB xs2 = true
    · rw [hb2] at hl2
      go_wp2_with fail
      refine hl2.mono ?_
      rintro e w3 ⟨rfl, P3⟩
      have Pw3 := Pw2.trans P3
      have O3 := O2.on P3
      have C3 := C2.on P3
      clear hl2 r0 r1 r2 P3 Pw2 O2 C2 hb2
      have R3 := h.on Pw3
      have S3 := h2.on Pw3
      have hF := fit_any w3 vars top A n c xs R3 hv ht
      by_cases he : errE vars xs top vars2 xs2 top2 = 0
      · obtain ⟨f, f2, hf, hf2, rfl, rfl, rfl, rfl, rfl, rfl, hv12, hvv⟩ := errE_zero he
        rw [chkT_ok hf hv12, decide_eq_true rfl] at hF
        have hself : difZ f f = -1 := difZ_none fun _ _ => rfl
        have hE1 := fun W (k : On w3 W) => teq_ok W f f hf hf hv12 rfl A n c (R3.on k) A n c (R3.on k)
        simp only [hself] at hE1
        have hE2 := fun W (k : On w3 W) => teq_ok W f f2 hf hf2 hv12 hvv A n c (R3.on k) A2 n2 c2 (S3.on k)
        have hz := difZ_cases f f2
        obtain ⟨z, hze⟩ : ∃ z, difZ f f2 = z := ⟨_, rfl⟩
        rw [hze] at hz
        simp only [hze] at hE2
        obtain ⟨m, hm⟩ : ∃ m, 2 ^ f.vars = m := ⟨_, rfl⟩
        have hm2 : 2 ^ f2.vars = m := by rw [hvv]; exact hm
        have hm12 := pow12 hv12
        have hp1 := pow_pos2 f.vars
        rw [hm] at hm12 hp1 hz
        have e1 := shl_step f.vars (by omega)
        have hand := and_all x0 f.vars (by omega)
        rw [hm] at e1 hand
        have hs1 : cut x0 % m < m := Nat.mod_lt _ (by omega)
        obtain ⟨s1, hs1e⟩ : ∃ s1, cut x0 % m = s1 := ⟨_, rfl⟩
        rw [hs1e] at hand hs1
        have hcl := fun W => clipT_any W f.vars hv12
        have hv64 : f.vars < 64 := by omega
        have hV1 := fun W (k : On w3 W) s (hs : s < m) => value_ok W f hf A n c (R3.on k) s (by rw [hm]; exact hs)
        have hV2 := fun W (k : On w3 W) s (hs : s < m) => value_ok W f2 hf2 A2 n2 c2 (S3.on k) s (by rw [hm2]; exact hs)
        have HV := Lib.hid (And.intro hV1 (And.intro hV2 (And.intro hand hE2)))
        have HE1 := Lib.hid hE1
        clear hV1 hV2 hand hE1 hE2 hm hm2 hze hs1e hvv hself he hf hf2 R3 S3 h h2 hv ht hv2 ht2
        obtain ⟨s0, s1', s2⟩ := own3 O3
        go_wp2_with fail
        refine hF.mono ?_
        rintro e w4 ⟨rfl, P4⟩
        clear hF s0 s1' s2
        have hE := HE1.out w4 P4
        obtain ⟨s0, s1', s2⟩ := own3 (O3.on P4)
        go_wp2_with fail
        refine hE.mono ?_
        rintro e w5 ⟨rfl, P5⟩
        clear hE s0 s1' s2 HE1
        have P35 := P4.trans P5
        have hE := HV.out.2.2.2 w5 P35
        obtain ⟨s0, s1', s2⟩ := own3 (O3.on P35)
        obtain ⟨t0, t1, t2⟩ := own3 (C3.on P35)
        go_upto_region 7 with fail
        go_wp2_with fail
        refine hE.mono ?_
        rintro e w6 ⟨rfl, P6⟩
        clear hE s0 s1' s2 t0 t1 t2
        have P36 := P35.trans P6
        obtain ⟨s0, s1', s2⟩ := own3 (O3.on P36)
        obtain ⟨t0, t1, t2⟩ := own3 (C3.on P36)
        go_wp2_with fail
        refine (hcl _).mono ?_
        rintro e w6b ⟨rfl, rfl⟩
        clear hcl
        go_upto_region 11 with fail
        clear e1
        have hand := HV.out.2.2.1
        have hV := HV.out.1 w6 P36 s1 hs1
        go_wp2_with fail
        refine hV.mono ?_
        rintro e w7 ⟨rfl, P7⟩
        clear hV s0 s1' s2 t0 t1 t2
        have P37 := P36.trans P7
        have hV := HV.out.2.1 w7 P37 s1 hs1
        obtain ⟨t0, t1, t2⟩ := own3 (C3.on P37)
        go_wp2_with fail
        refine hV.mono ?_
        rintro e w8 ⟨rfl, P8⟩
        clear hV t0 t1 t2
        have P38 := P37.trans P8
        rcases hz with ⟨rfl, hall⟩ | ⟨s, rfl, hs, hbef, hdiff⟩
        · have hxy := hall s1 hs1
          rw [← hxy]
          obtain ⟨b, hb⟩ : ∃ b, val f s1 = b := ⟨_, rfl⟩
          rw [hb]
          clear hxy hb hall hand HV
          cases b with
          | true =>
            go_wp2
            go_ret
            exact ⟨rfl, Pw3.trans P38⟩
          | false =>
            go_wp2
            go_ret
            exact ⟨rfl, Pw3.trans P38⟩
        · have hbs := hbef s1
          have hW1 := fun W (k : On w3 W) => HV.out.1 W k s hs
          have hW2 := fun W (k : On w3 W) => HV.out.2.1 W k s hs
          obtain ⟨b1, hb1⟩ : ∃ b, val f s1 = b := ⟨_, rfl⟩
          obtain ⟨b2, hb2⟩ : ∃ b, val f2 s1 = b := ⟨_, rfl⟩
          obtain ⟨p, hp⟩ : ∃ b, val f s = b := ⟨_, rfl⟩
          obtain ⟨q1, hq⟩ : ∃ b, val f2 s = b := ⟨_, rfl⟩
          rw [hb1, hb2] at hbs ⊢
          rw [hp, hq] at hdiff
          simp only [hp] at hW1
          simp only [hq] at hW2
          have HW := Lib.hid (And.intro hW1 hW2)
          have HD := Lib.hid hdiff
          clear hb1 hb2 hp hq hbef hW1 hW2 HV hdiff
          have d1 : ¬ (s : Int) < 0 := by omega
          have d2 : ((s : Int) == -1) = false := by rw [beq_eq_false_iff_ne]; omega
          have d3 : ¬ (m : Int) - 1 < (s : Int) := by omega
          by_cases hlt : s1 < s
          · have hb := hbs hlt
            subst hb
            have d4 : (s1 : Int) < (s : Int) := by omega
            clear hbs
            go_upto_region 19 with fail
            clear d1 d2 d3 d4 hand
            have hV := HW.out.1 w8 P38
            obtain ⟨s0, s1', s2⟩ := own3 (O3.on P38)
            go_wp2_with fail
            refine hV.mono ?_
            rintro e w9 ⟨rfl, P9⟩
            clear hV s0 s1' s2
            have hV := HW.out.2 w9 (P38.trans P9)
            obtain ⟨t0, t1, t2⟩ := own3 (C3.on (P38.trans P9))
            go_wp2_with fail
            refine hV.mono ?_
            rintro e w10 ⟨rfl, P10⟩
            clear hV t0 t1 t2
            have Pend := Pw3.trans ((P38.trans P9).trans P10)
            cases p with
            | true =>
              cases q1 with
              | true => exact absurd rfl HD.out
              | false =>
                go_wp2
                go_ret
                exact ⟨rfl, Pend⟩
            | false =>
              cases q1 with
              | false => exact absurd rfl HD.out
              | true =>
                go_wp2
                go_ret
                exact ⟨rfl, Pend⟩
          · have d4 : ¬ (s1 : Int) < (s : Int) := by omega
            clear hbs
            go_upto_region 19 with fail
            clear d1 d2 d3 d4 hand
            have hV := HW.out.1 w8 P38
            obtain ⟨s0, s1', s2⟩ := own3 (O3.on P38)
            go_wp2_with fail
            refine hV.mono ?_
            rintro e w9 ⟨rfl, P9⟩
            clear hV s0 s1' s2
            have hV := HW.out.2 w9 (P38.trans P9)
            obtain ⟨t0, t1, t2⟩ := own3 (C3.on (P38.trans P9))
            go_wp2_with fail
            refine hV.mono ?_
            rintro e w10 ⟨rfl, P10⟩
            clear hV t0 t1 t2
            have Pend := Pw3.trans ((P38.trans P9).trans P10)
            cases p with
            | true =>
              cases q1 with
              | true => exact absurd rfl HD.out
              | false =>
                go_wp2
                go_ret
                exact ⟨rfl, Pend⟩
            | false =>
              cases q1 with
              | false => exact absurd rfl HD.out
              | true =>
                go_wp2
                go_ret
                exact ⟨rfl, Pend⟩

      · by_cases hc : chkT vars xs top = 0
        · rw [hc, decide_eq_true rfl] at hF
          have hEq := fun W (k : On w3 W) => teq_bad W vars top A n c _ (R3.on k) hv ht vars2 top2 A2 n2 c2 _ (S3.on k) hv2 ht2 he
          obtain ⟨er, her⟩ : ∃ er, errE vars xs top vars2 xs2 top2 = er := ⟨_, rfl⟩
          simp only [her] at hEq
          rw [her] at he
          simp only [errV_pos er he] at hEq
          obtain ⟨f, hf, rfl, rfl, rfl, hv12⟩ := chkT_le vars xs top hc
          have hself : difZ f f = -1 := difZ_none fun _ _ => rfl
          have hE1 := fun W (k : On w3 W) => teq_ok W f f hf hf hv12 rfl A n c (R3.on k) A n c (R3.on k)
          simp only [hself] at hE1
          have HE1 := Lib.hid (And.intro hE1 hEq)
          clear hE1 hEq hself her he hf R3 S3 h h2 hv ht hv2 ht2 hc
          obtain ⟨s0, s1', s2⟩ := own3 O3
          go_wp2_with fail
          refine hF.mono ?_
          rintro e w4 ⟨rfl, P4⟩
          clear hF s0 s1' s2
          have hE := HE1.out.1 w4 P4
          obtain ⟨s0, s1', s2⟩ := own3 (O3.on P4)
          go_wp2_with fail
          refine hE.mono ?_
          rintro e w5 ⟨rfl, P5⟩
          clear hE s0 s1' s2
          have P35 := P4.trans P5
          have hE := HE1.out.2 w5 P35
          obtain ⟨s0, s1', s2⟩ := own3 (O3.on P35)
          obtain ⟨t0, t1, t2⟩ := own3 (C3.on P35)
          go_upto_region 7 with fail
          go_wp2_with fail
          refine hE.mono ?_
          rintro e w6 ⟨rfl, P6⟩
          go_wp2
          go_ret
          exact ⟨rfl, Pw3.trans (P35.trans P6)⟩
        · rw [decide_eq_false hc] at hF
          have hEq := fun W (k : On w3 W) => teq_bad W vars top A n c _ (R3.on k) hv ht vars2 top2 A2 n2 c2 _ (S3.on k) hv2 ht2 he
          obtain ⟨er, her⟩ : ∃ er, errE vars xs top vars2 xs2 top2 = er := ⟨_, rfl⟩
          simp only [her] at hEq
          rw [her] at he
          simp only [errV_pos er he] at hEq
          clear her he hc R3 S3 h h2 hv ht hv2 ht2
          obtain ⟨s0, s1', s2⟩ := own3 O3
          go_wp2_with fail
          refine hF.mono ?_
          rintro e w4 ⟨rfl, P4⟩
          clear hF s0 s1' s2
          have hE := hEq w4 P4
          clear hEq
          obtain ⟨s0, s1', s2⟩ := own3 (O3.on P4)
          obtain ⟨t0, t1, t2⟩ := own3 (C3.on P4)
          go_wp2_with fail
          refine hE.mono ?_
          rintro e w6 ⟨rfl, P6⟩
          go_wp2
          go_ret
          exact ⟨rfl, Pw3.trans (P4.trans P6)⟩
    · rw [Bool.eq_false_iff.2 hb2] at hl2
      have hA2 := fun W => awakeT_any W
      go_wp2_with fail
      refine hl2.mono ?_
      rintro e w7 ⟨rfl, P7⟩
      clear hl2 r0 r1 r2
      go_wp2_with fail
      refine (hA2 _).mono ?_
      rintro e w8 ⟨rfl, P8⟩
      go_wp2
      go_ret
      exact ⟨rfl, (Pw2.trans P7).trans P8⟩
  · rw [Bool.eq_false_iff.2 hb] at hl1
    have hA2 := fun W => awakeT_any W
    clear hL2
    go_wp2_with fail
    refine hl1.mono ?_
    rintro e w7 ⟨rfl, P7⟩
    clear hl1 r0 r1 r2
    go_wp2_with fail
    refine (hA2 _).mono ?_
    rintro e w8 ⟨rfl, P8⟩
    go_wp2
    go_ret
    exact ⟨rfl, (Pw1.trans P7).trans P8⟩
end Go.Proofs.Ytpllgpjplliadaa.Fm
