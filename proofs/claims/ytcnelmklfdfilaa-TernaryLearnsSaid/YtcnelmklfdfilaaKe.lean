/-
  TernaryLearns.
-/
import Derived.Test.YtcnelmklfdfilaaKb
import Derived.Test.YtcnelmklfdfilaaKd
namespace Go.Proofs.Ytcnelmklfdfilaa.Fm
open Go.RowKit Go.Proofs.Ytcnelmklfdfilaa.Sb
set_option linter.unusedVariables false
set_option maxRecDepth 100000
set_option maxHeartbeats 16000000 in
theorem ltlearns_any (w : World) (vars top : Int) (A : Option Addr) (n c : Nat) (xs : List Nd) (h : RdN w A n c xs) (hv : I64 vars) (ht : I64 top) (x0 x1 z0 z1 : Int) :
    Calls Try.prog 5 #[.agg #[.int .i64 vars, .slice A n c, .int .i64 top], .agg #[.int .i64 x0, .int .i64 x1], .agg #[.int .i64 z0, .int .i64 z1]] w fun e w' => e = .returned (.bool true) ∧ On w w' := by
  obtain ⟨q, hq⟩ : ∃ q, w.heap.size = q := ⟨_, rfl⟩
  obtain ⟨w0, hw0⟩ : ∃ w0, ((w.alloc (.cells #[.int .i64 vars, .slice A n c, .int .i64 top] 24)).alloc (.cells #[.int .i64 x0, .int .i64 x1] 51)).alloc (.cells #[.int .i64 z0, .int .i64 z1] 51) = w0 := ⟨_, rfl⟩
  have O0 : Own w0 q 24 #[.int .i64 vars, .slice A n c, .int .i64 top] := by rw [← hw0, ← hq]; exact ((Own.new _ _ _).alloc _).alloc _
  have E0 : Own w0 (q + 1) 51 #[.int .i64 x0, .int .i64 x1] := by
    rw [← hw0, ← hq]
    have := Own.new (w.alloc (.cells #[.int .i64 vars, .slice A n c, .int .i64 top] 24)) 51 #[.int .i64 x0, .int .i64 x1]
    have e : (w.alloc (.cells #[.int .i64 vars, .slice A n c, .int .i64 top] 24)).heap.size = w.heap.size + 1 := by simp
    rw [e] at this
    exact (this).alloc _
  have F0 : Own w0 (q + 1 + 1) 51 #[.int .i64 z0, .int .i64 z1] := by
    rw [← hw0, ← hq]
    have := Own.new ((w.alloc (.cells #[.int .i64 vars, .slice A n c, .int .i64 top] 24)).alloc (.cells #[.int .i64 x0, .int .i64 x1] 51)) 51 #[.int .i64 z0, .int .i64 z1]
    have e : ((w.alloc (.cells #[.int .i64 vars, .slice A n c, .int .i64 top] 24)).alloc (.cells #[.int .i64 x0, .int .i64 x1] 51)).heap.size = w.heap.size + 1 + 1 := by simp
    rw [e] at this
    exact this
  have P0 : On w w0 := by rw [← hw0]; exact ((((On.refl w)).alloc _).alloc _).alloc _
  have hAw := awake9_any w0
  have hL := fun W (k : On w W) => light_any W vars top A n c xs (h.on k)
  have hC := fun W (k : On w W) => check_any W vars top A n c xs (h.on k) hv ht
  have H0 := Lib.hid (And.intro P0 (And.intro h (And.intro hw0 (And.intro O0 (And.intro E0 F0)))))
  clear h P0 O0 E0 F0
  go_enter Try.func5, Try.ntmps5
  subst hq
  go_wp2_with fail
  refine hAw.mono ?_
  rintro e w1 ⟨rfl, P1⟩
  have Pw1 := H0.out.1.trans P1
  have O1 := (H0.out.2.2.2.1).on P1
  have E1 := (H0.out.2.2.2.2.1).on P1
  have F1 := (H0.out.2.2.2.2.2).on P1
  obtain ⟨r0, r1, r2⟩ := own3 O1
  have hL1 := hL w1 Pw1
  clear hAw hL hw0
  by_cases hl : lightB xs = true
  · rw [hl] at hL1
    go_wp2_with fail
    refine hL1.mono ?_
    rintro e w2 ⟨rfl, P2⟩
    have Pw2 := Pw1.trans P2
    have O2 := O1.on P2
    have E2 := E1.on P2
    have F2 := F1.on P2
    obtain ⟨s0, s1, s2⟩ := own3 O2
    have hC2 := hC w2 Pw2
    clear hL1 hC r0 r1 r2 P1 P2 Pw1 O1 E1 F1
    by_cases hc : chk vars xs top = 0
    · rw [hc, errV_zero] at hC2
      obtain ⟨f, hf, rfl, rfl, rfl⟩ := chk_zero hc
      go_wp2_with fail
      refine hC2.mono ?_
      rintro e w3 ⟨rfl, P3⟩
      have Pw3 := Pw2.trans P3
      have O3 := O2.on P3
      have E3 := E2.on P3
      have F3 := F2.on P3
      have R3 := H0.out.2.1.on Pw3
      clear hC2 s0 s1 s2 P3 Pw2 O2 E2 F2 H0 hv ht hc hl
      have hn : f.nodes.length = n := by have := R3.len; rwa [raw_len] at this
      have hp24 := pow24 hf.1
      have hv64 : f.vars < 64 := by have := hf.1; omega
      have hn128 := hf.2.1
      have hcb := cube_any w3 f hf A n c x0 x1
      have hy := cuY_lt f.vars x0
      have hnn := cuN_lt f.vars x0 x1
      have hd := cu_dis f.vars x0 x1
      obtain ⟨y, hye⟩ : ∃ y, cuY f.vars x0 = y := ⟨_, rfl⟩
      obtain ⟨nn, hnne⟩ : ∃ nn, cuN f.vars x0 x1 = nn := ⟨_, rfl⟩
      rw [hye, hnne] at hcb hd
      rw [hye] at hy
      rw [hnne] at hnn
      clear hye hnne
      have hy2 := lnY_lt (n := nn) (x := z0) hy
      have hnn2 := lnN_lt (y := y) (x := z0) (z := z1) hnn
      have hd2 := ln_dis (v := f.vars) (x := z0) (z := z1) hd
      have hkn := ln_knows (v := f.vars) (x := z0) (z := z1) hd
      have hlen : (tvals f y nn).length = n := by rw [tvals_len]; exact hn
      obtain ⟨s0, s1, s2⟩ := own3 O3
      obtain ⟨d0, d1⟩ := own2 E3
      go_wp2_with fail
      refine hcb.mono ?_
      rintro e w4 ⟨rfl, P4⟩
      have Pw4 := Pw3.trans P4
      have O4 := O3.on P4
      have F4 := F3.on P4
      have R4 := R3.on P4
      clear hcb s0 s1 s2 d0 d1 P4 Pw3 O3 E3 F3 R3
      have hA1 := and_all3 z0 f.vars hf.1
      have hA2 := and_all3 z1 f.vars hf.1
      have m1 : cut z0 % 2 ^ f.vars < 2 ^ f.vars := Nat.mod_lt _ (Nat.two_pow_pos _)
      have m2 : cut z1 % 2 ^ f.vars < 2 ^ f.vars := Nat.mod_lt _ (Nat.two_pow_pos _)
      have hB1 := andNot_nat (cut z0 % 2 ^ f.vars) nn (by omega) (by omega)
      have hB2 := andNot_nat (cut z1 % 2 ^ f.vars) (lnY f.vars y nn z0) (by omega) (by omega)
      have hC1 := or_nat y (without (cut z0 % 2 ^ f.vars) nn) (by omega) (by have := without_le (cut z0 % 2 ^ f.vars) nn; omega)
      have hC2 := or_nat nn (without (cut z1 % 2 ^ f.vars) (lnY f.vars y nn z0)) (by omega) (by have := without_le (cut z1 % 2 ^ f.vars) (lnY f.vars y nn z0); omega)
      have eY : y ||| without (cut z0 % 2 ^ f.vars) nn = lnY f.vars y nn z0 := rfl
      have eN : nn ||| without (cut z1 % 2 ^ f.vars) (lnY f.vars y nn z0) = lnN f.vars y nn z0 z1 := rfl
      rw [eY] at hC1
      rw [eN] at hC2
      clear eY eN m1 m2
      obtain ⟨a1, ha1⟩ : ∃ a1, cut z0 % 2 ^ f.vars = a1 := ⟨_, rfl⟩
      obtain ⟨a2, ha2⟩ : ∃ a2, cut z1 % 2 ^ f.vars = a2 := ⟨_, rfl⟩
      rw [ha1] at hA1 hB1 hC1
      rw [ha2] at hA2 hB2 hC2
      obtain ⟨y2, hye⟩ : ∃ y2, lnY f.vars y nn z0 = y2 := ⟨_, rfl⟩
      obtain ⟨nn2, hnne⟩ : ∃ nn2, lnN f.vars y nn z0 z1 = nn2 := ⟨_, rfl⟩
      rw [hye] at hB2 hC1 hC2 hy2 hd2 hkn
      rw [hnne] at hC2 hnn2 hd2 hkn
      obtain ⟨b1, hb1⟩ : ∃ b1, without a1 nn = b1 := ⟨_, rfl⟩
      obtain ⟨b2, hb2⟩ : ∃ b2, without a2 y2 = b2 := ⟨_, rfl⟩
      rw [hb1] at hB1 hC1
      rw [hb2] at hB2 hC2
      clear ha1 ha2 hb1 hb2 hye hnne
      have HV1 := Lib.hid (And.intro hy (And.intro hnn hd))
      have HV2 := Lib.hid (And.intro hy2 (And.intro hnn2 (And.intro hd2 hkn)))
      clear hy hnn hd hy2 hnn2 hd2 hkn
      obtain ⟨p2, hp2⟩ : ∃ p2, 2 ^ f.vars = p2 := ⟨_, rfl⟩
      rw [hp2] at hA1 hA2 hp24 ⊢
      have HA := Lib.hid (And.intro (And.intro hA1 (And.intro hB1 hC1)) (And.intro hA2 (And.intro hB2 hC2)))
      clear hA1 hA2 hB1 hB2 hC1 hC2 hp2 hp24
      have C0 : Own (w4.alloc (.cells #[.int .i64 0, .int .i64 0] 26)) w4.heap.size 26 #[.int .i64 0, .int .i64 0] := Own.new _ _ _
      obtain ⟨k0, k1⟩ := own2 C0
      have f0 := C0.frozen 0
      have f1 := C0.frozen 1
      go_upto_region 4 with fail
      clear k0 k1 f0 f1 C0
      have P5 := (On.refl w4).alloc (.cells #[.int .i64 (y : Int), .int .i64 (nn : Int)] 26)
      have C5 := Own.new w4 26 #[.int .i64 (y : Int), .int .i64 (nn : Int)]
      obtain ⟨w5, hw5⟩ : ∃ w5, w4.alloc (.cells #[.int .i64 (y : Int), .int .i64 (nn : Int)] 26) = w5 := ⟨_, rfl⟩
      rw [hw5] at P5 C5 ⊢
      have Pw5 := Pw4.trans P5
      have O5 := O4.on P5
      have F5 := F4.on P5
      have R5 := R4.on P5
      have hg : w.heap.size < w4.heap.size := by have := O4.lt; omega
      clear hw5 Pw4 O4 F4 R5
      obtain ⟨g, hge⟩ : ∃ g, w4.heap.size = g := ⟨_, rfl⟩
      have HR4 := Lib.hid (And.intro R4 (And.intro hge P5))
      clear R4 P5
      rw [hge] at C5 hg ⊢
      clear hge
      obtain ⟨k0, k1⟩ := own2 C5
      obtain ⟨d0, d1⟩ := own2 F5
      have h1 := HA.out.1.1
      have h2 := HA.out.1.2.1
      have h3 := HA.out.1.2.2
      have N0 : Own (w5.alloc (.cells #[.int .i64 0, .int .i64 0] 26)) w5.heap.size 26 #[.int .i64 0, .int .i64 0] := Own.new _ _ _
      obtain ⟨q0, q1⟩ := own2 N0
      have f0 := N0.frozen 0
      have f1 := N0.frozen 1
      go_upto_region 5 with fail
      clear q0 q1 f0 f1 N0 h1 h2 h3 k0 k1 d0 d1
      have P6 := (On.refl w5).alloc (.cells #[.int .i64 (y2 : Int), .int .i64 (nn : Int)] 26)
      have N6 := Own.new w5 26 #[.int .i64 (y2 : Int), .int .i64 (nn : Int)]
      obtain ⟨w6, hw6⟩ : ∃ w6, w5.alloc (.cells #[.int .i64 (y2 : Int), .int .i64 (nn : Int)] 26) = w6 := ⟨_, rfl⟩
      rw [hw6] at P6 N6 ⊢
      have Pw6 := Pw5.trans P6
      have O6 := O5.on P6
      have F6 := F5.on P6
      have P46 := HR4.out.2.2.trans P6
      have C6 := C5.on P6
      have hm : g < w5.heap.size := C5.lt
      clear hw6 P6 Pw5 O5 F5 C5
      obtain ⟨m, hme⟩ : ∃ m, w5.heap.size = m := ⟨_, rfl⟩
      rw [hme] at N6 hm ⊢
      clear hme
      obtain ⟨k0, k1⟩ := own2 N6
      obtain ⟨d0, d1⟩ := own2 F6
      have f1 := N6.frozen 1
      have h1 := HA.out.2.1
      have h2 := HA.out.2.2.1
      have h3 := HA.out.2.2.2
      go_upto_region 6 with fail
      clear k0 k1 f1 d0 d1 h1 h2 h3 HA F6
      have N7 := N6.set_ 1 (.int .i64 (nn2 : Int))
      have hwm : w.heap.size ≤ m := by omega
      have Pw7 := On.setCell Pw6 (p := ⟨m, 1, none⟩) hwm (.int .i64 (nn2 : Int))
      have O7 := O6.far (p := ⟨m, 1, none⟩) (by show w.heap.size ≠ m; omega) (.int .i64 (nn2 : Int))
      have C7 := C6.far (p := ⟨m, 1, none⟩) (by show g ≠ m; omega) (.int .i64 (nn2 : Int))
      have R7 := HR4.out.1.on (On.setCell P46 (p := ⟨m, 1, none⟩) (by rw [HR4.out.2.1]; show g ≤ m; omega) (.int .i64 (nn2 : Int)))
      obtain ⟨w7, hw7⟩ : ∃ w7, w6.setCell ⟨m, 1, none⟩ (.int .i64 (nn2 : Int)) = w7 := ⟨_, rfl⟩
      rw [hw7] at N7 Pw7 O7 C7 R7 ⊢
      have N7 : Own w7 m 26 #[.int .i64 (y2 : Int), .int .i64 (nn2 : Int)] := N7
      clear hw7 P46 HR4 Pw6 O6 C6 N6 hwm hg hm
      have hX := tvalues_ok w7 f hf A n c R7 y nn HV1.out.1 HV1.out.2.1 HV1.out.2.2
      obtain ⟨s0, s1, s2⟩ := own3 O7
      obtain ⟨k0, k1⟩ := own2 C7
      go_wp2_with fail
      refine hX.mono ?_
      rintro e w8 ⟨g1, rfl, G8, hg1, P8⟩
      have Pw8 := Pw7.trans P8
      have O8 := O7.on P8
      have R8 := R7.on P8
      have N8 := N7.on P8
      clear hX s0 s1 s2 k0 k1 P8 Pw7 O7 R7 C7 N7 hg1
      have hX := tvalues_ok w8 f hf A n c R8 y2 nn2 HV2.out.1 HV2.out.2.1 HV2.out.2.2.1
      obtain ⟨s0, s1, s2⟩ := own3 O8
      obtain ⟨k0, k1⟩ := own2 N8
      go_wp2_with fail
      refine hX.mono ?_
      rintro e w9 ⟨g2, rfl, G9, hg2, P9⟩
      have Pw9 := Pw8.trans P9
      have K9 := G8.on P9
      clear hX s0 s1 s2 k0 k1 P9 Pw8 O8 R8 N8 hg2 G8
      have hlen2 : (tvals f y2 nn2).length = n := by rw [tvals_len]; exact hn
      have hle := fun i hi => tvals_learns hf HV2.out.2.2.2 (i := i) (by rw [hn]; exact hi)
      obtain ⟨X1, hX1⟩ : ∃ X1, tvals f y nn = X1 := ⟨_, rfl⟩
      obtain ⟨X2, hX2⟩ : ∃ X2, tvals f y2 nn2 = X2 := ⟨_, rfl⟩
      rw [hX1] at hle K9 hlen
      rw [hX2] at hle G9 hlen2
      have hn9 : n ≤ 128 := by omega
      have HX := Lib.hid (And.intro K9 (And.intro G9 (And.intro hlen (And.intro hlen2 (And.intro hle Pw9)))))
      clear hX1 hX2 hle K9 G9 hlen hlen2 HV1 HV2 hn128 hn Pw9 hf hv64
      go_wp2
      go_loopw [88] (fun i wr => ∃ k : Nat, k ≤ n ∧ i = .int .i64 (k : Int) ∧ On w9 wr) (fun i _ => n - (intOf i).toNat)
      case atStart => exact ⟨0, by omega, rfl, On.refl _⟩
      case round =>
        obtain ⟨k, hk, rfl, hon⟩ := hrel
        by_cases hlt : k < n
        · have c1 := own_atI (HX.out.1.on hon) (i := k) (by rw [HX.out.2.2.1]; exact hlt)
          have c2 := own_atI (HX.out.2.1.on hon) (i := k) (by rw [HX.out.2.2.2.1]; exact hlt)
          obtain ⟨l1, l2, l3⟩ := HX.out.2.2.2.2.1 k hlt
          obtain ⟨v, hve⟩ : ∃ v, X1.getD k 0 = v := ⟨_, rfl⟩
          obtain ⟨u, hue⟩ : ∃ u, X2.getD k 0 = u := ⟨_, rfl⟩
          rw [hve] at c1 l1 l3
          rw [hue] at c2 l2 l3
          clear hve hue
          by_cases h2 : v = 2
          · subst h2
            have c1' : wr.cell? ⟨g1, k, none⟩ = some (.int .i64 2) := c1
            clear c1 l3 l1 l2
            go_wp2_with fail
            go_quiet (fail)
            all_goals go_wp2
            go_roundw
            case rel => exact ⟨k + 1, by omega, by go_num, On.drewN hon _⟩
            case measure => simp [intOf] <;> omega
          · obtain rfl : v = u := by omega
            have hb : ((v : Int) != 2) = true := by simp only [bne_iff_ne, ne_eq]; omega
            clear l3 l1 l2
            go_wp2_with fail
            go_quiet (fail)
            all_goals go_wp2
            go_roundw
            case rel => exact ⟨k + 1, by omega, by go_num, On.drewN hon _⟩
            case measure => simp [intOf] <;> omega
        · obtain rfl : k = n := by omega
          go_wp2
          go_ret
          exact ⟨rfl, HX.out.2.2.2.2.2.trans hon⟩
    · obtain ⟨er, her⟩ : ∃ er, chk vars xs top = er := ⟨_, rfl⟩
      rw [her] at hC2 hc
      rw [errV_pos _ hc] at hC2
      clear her
      have hA2 := fun W => awake9_any W
      go_wp2_with fail
      refine hC2.mono ?_
      rintro e w3 ⟨rfl, P3⟩
      clear hC2
      go_wp2_with fail
      refine (hA2 _).mono ?_
      rintro e w4 ⟨rfl, P4⟩
      go_wp2
      go_ret
      exact ⟨rfl, (Pw2.trans P3).trans P4⟩
  · rw [Bool.eq_false_iff.2 hl] at hL1
    have hA2 := fun W => awake9_any W
    clear hC
    go_wp2_with fail
    refine hL1.mono ?_
    rintro e w2 ⟨rfl, P2⟩
    clear hL1
    go_wp2_with fail
    refine (hA2 _).mono ?_
    rintro e w3 ⟨rfl, P3⟩
    go_wp2
    go_ret
    exact ⟨rfl, (Pw1.trans P2).trans P3⟩
end Go.Proofs.Ytcnelmklfdfilaa.Fm
