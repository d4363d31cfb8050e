/-
  TruthEqual.
-/
import Derived.Test.YtpllgpjplliadaaTm
namespace Go.Proofs.Ytpllgpjplliadaa.Fm
open Go.RowKit Go.Proofs.Ytpllgpjplliadaa.Sb
set_option linter.unusedVariables false
set_option maxRecDepth 100000
set_option maxHeartbeats 16000000 in
theorem ltequalT_any (w : World) (vars top : Int) (A : Option Addr) (n c : Nat) (xs : List Nd) (h : RdN w A n c xs) (hv : I64 vars) (ht : I64 top) (vars2 top2 : Int) (A2 : Option Addr) (n2 c2 : Nat) (xs2 : List Nd) (h2 : RdN w A2 n2 c2 xs2) (hv2 : I64 vars2) (ht2 : I64 top2) :
    Calls Try.prog 4 #[.agg #[.int .i64 vars, .slice A n c, .int .i64 top], .agg #[.int .i64 vars2, .slice A2 n2 c2, .int .i64 top2]] w fun e w' => e = .returned (.bool true) ∧ On w w' := by
  obtain ⟨q, hq⟩ : ∃ q, w.heap.size = q := ⟨_, rfl⟩
  obtain ⟨w0, hw0⟩ : ∃ w0, (w.alloc (.cells #[.int .i64 vars, .slice A n c, .int .i64 top] 24)).alloc (.cells #[.int .i64 vars2, .slice A2 n2 c2, .int .i64 top2] 24) = w0 := ⟨_, rfl⟩
  have O0 : Own w0 q 24 #[.int .i64 vars, .slice A n c, .int .i64 top] := by rw [← hw0, ← hq]; exact (Own.new _ _ _).alloc _
  have C0 : Own w0 (q + 1) 24 #[.int .i64 vars2, .slice A2 n2 c2, .int .i64 top2] := by
    rw [← hw0, ← hq]
    have := Own.new (w.alloc (.cells #[.int .i64 vars, .slice A n c, .int .i64 top] 24)) 24 #[.int .i64 vars2, .slice A2 n2 c2, .int .i64 top2]
    simpa using this
  have P0 : On w w0 := by rw [← hw0]; exact ((On.refl w).alloc _).alloc _
  have hAw := awakeT_any w0
  have hL1 := fun W (k : On w W) => light_any W vars top A n c xs (h.on k)
  have hL2 := fun W (k : On w W) => light_any W vars2 top2 A2 n2 c2 xs2 (h2.on k)
  have H0 := Lib.hid (And.intro P0 (And.intro hw0 (And.intro O0 C0)))
  clear P0 O0 C0
  go_enter Try.func4, Try.ntmps4
  subst hq
  go_wp2_with fail
  refine hAw.mono ?_
  rintro e w1 ⟨rfl, P1⟩
  have Pw1 := H0.out.1.trans P1
  have O1 := (H0.out.2.2.1).on P1
  have C1 := (H0.out.2.2.2).on P1
  obtain ⟨r0, r1, r2⟩ := own3 O1
  have hl1 := hL1 w1 Pw1
  clear hAw hL1 hw0 H0
  by_cases hb : lightB xs = true
  · rw [hb] at hl1
    go_wp2_with fail
    refine hl1.mono ?_
    rintro e w2 ⟨rfl, P2⟩
    have Pw2 := Pw1.trans P2
    have O2 := O1.on P2
    have C2 := C1.on P2
    clear hl1 r0 r1 r2 P2 Pw1 O1 C1 hb
    obtain ⟨r0, r1, r2⟩ := own3 C2
    have hl2 := hL2 w2 Pw2
    clear hL2
    by_cases hb2 : lightB xs2 = true
    · rw [hb2] at hl2
      go_wp2_with fail
      refine hl2.mono ?_
      rintro e w3 ⟨rfl, P3⟩
      have Pw3 := Pw2.trans P3
      have O3 := O2.on P3
      have C3 := C2.on P3
      clear hl2 r0 r1 r2 P3 Pw2 O2 C2 hb2
      have R3 := h.on Pw3
      have S3 := h2.on Pw3
      have hC1 := fun W (k : On w3 W) => check_any W vars top A n c xs (R3.on k) hv ht
      have hC2 := fun W (k : On w3 W) => check_any W vars2 top2 A2 n2 c2 xs2 (S3.on k) hv2 ht2
      by_cases hc : chk vars xs top = 0
      · by_cases hc2 : chk vars2 xs2 top2 = 0
        · rw [hc, errV_zero] at hC1
          rw [hc2, errV_zero] at hC2
          obtain ⟨f, hf, rfl, rfl, rfl⟩ := chk_zero hc
          obtain ⟨f2, hf2, rfl, rfl, rfl⟩ := chk_zero hc2
          by_cases hvv : f2.vars = f.vars
          · by_cases h12 : f.vars ≤ 12
            · have hK1 := fun W (k : On w3 W) => rchkT_any W (f.vars : Int) (f.top : Int) A n c _ (R3.on k) hv ht
              have hK2 := fun W (k : On w3 W) => rchkT_any W (f2.vars : Int) (f2.top : Int) A2 n2 c2 _ (S3.on k) hv2 ht2
              rw [chkT_ok hf h12] at hK1
              rw [chkT_ok hf2 (by rw [hvv]; exact h12)] at hK2
              have hEq := teq_ok w3 f f2 hf hf2 h12 hvv A n c R3 A2 n2 c2 S3
              have hD := fun W (k : On w3 W) => rdiffer_ok W f f2 hf hf2 h12 hvv A n c (R3.on k) A2 n2 c2 (S3.on k)
              have hz := difZ_cases f f2
              obtain ⟨z, hze⟩ : ∃ z, difZ f f2 = z := ⟨_, rfl⟩
              rw [hze] at hEq hz
              simp only [hze] at hD
              have HVV := Lib.hid hvv
              have HK := Lib.hid (And.intro hK1 (And.intro hK2 hD))
              clear hc hc2 hvv hK1 hK2 hD hze R3 S3 hf hf2 h h2 hv ht hv2 ht2
              obtain ⟨s0, s1, s2⟩ := own3 O3
              obtain ⟨t0, t1, t2⟩ := own3 C3
              go_wp2_with fail
              refine hEq.mono ?_
              rintro e w4 ⟨rfl, P4⟩
              clear hEq s0 s1 s2 t0 t1 t2
              have Pw4 := Pw3.trans P4
              have O4 := O3.on P4
              have C4 := C3.on P4
              have hS0 : ∀ W, On w4 W → On w4 W ∧ W.cell? ⟨w.heap.size, 0, none⟩ = some (.int .i64 (f.vars : Int)) ∧ W.cell? ⟨w.heap.size, 1, none⟩ = some (.slice A n c) ∧ W.cell? ⟨w.heap.size, 2, none⟩ = some (.int .i64 (f.top : Int)) ∧ W.cell? ⟨w.heap.size + 1, 0, none⟩ = some (.int .i64 (f2.vars : Int)) ∧ W.cell? ⟨w.heap.size + 1, 1, none⟩ = some (.slice A2 n2 c2) ∧ W.cell? ⟨w.heap.size + 1, 2, none⟩ = some (.int .i64 (f2.top : Int)) := fun W k => ⟨k, (own3 (O4.on k)).1, (own3 (O4.on k)).2.1, (own3 (O4.on k)).2.2, own3 (C4.on k)⟩
              have HS := Lib.hid hS0
              have HCC := Lib.hid (And.intro (fun W (k : On w4 W) => hC1 W (P4.trans k)) (fun W (k : On w4 W) => hC2 W (P4.trans k)))
              clear hS0 hC1 hC2
              go_upto_region 4 with fail
              go_region_held3 (fun W => On w4 W ∧ W.cell? ⟨w.heap.size, 0, none⟩ = some (.int .i64 (f.vars : Int)) ∧ W.cell? ⟨w.heap.size, 1, none⟩ = some (.slice A n c) ∧ W.cell? ⟨w.heap.size, 2, none⟩ = some (.int .i64 (f.top : Int)) ∧ W.cell? ⟨w.heap.size + 1, 0, none⟩ = some (.int .i64 (f2.vars : Int)) ∧ W.cell? ⟨w.heap.size + 1, 1, none⟩ = some (.slice A2 n2 c2) ∧ W.cell? ⟨w.heap.size + 1, 2, none⟩ = some (.int .i64 (f2.top : Int)))
                (first | exact HS.out _ (On.refl _).drew | exact HS.out _ (On.refl _) | (go_split_ands; exact HS.out _ (On.trans (by assumption) PA)) | assumption)
                (first
                  | (go_at_call 26; go_split_ands; (with_reducible refine (HCC.out.1 _ ?_).mono ?_); assumption; rintro e wA ⟨rfl, PA⟩)
                  | (go_at_call 26; go_split_ands; (with_reducible refine (HCC.out.2 _ ?_).mono ?_); assumption; rintro e wA ⟨rfl, PA⟩))
              rename_i hHe
              have P5 := hHe.1
              have O5 := O4.on P5
              have C5 := C4.on P5
              have Pw5 := Pw4.trans P5
              obtain ⟨w5, hw5⟩ : ∃ w5, w5 = wA := ⟨_, rfl⟩
              subst hw5
              clear hHe PA HCC HS
              go_upto_region 10 with fail
              have hvi : (f2.vars : Int) = (f.vars : Int) := by rw [HVV.out]
              obtain ⟨s0, s1, s2⟩ := own3 O5
              obtain ⟨t0, t1, t2⟩ := own3 C5
              have hne : ((f.vars : Int) != (f2.vars : Int)) = false := by rw [hvi]; simp
              have hK := HK.out.1 w5 (P4.trans P5)
              clear hvi
              go_wp2_with fail
              refine hK.mono ?_
              rintro e w6 ⟨rfl, P6⟩
              clear hK s0 s1 s2 t0 t1 t2 hne
              have P36 := (P4.trans P5).trans P6
              obtain ⟨t0, t1, t2⟩ := own3 (C5.on P6)
              have hK := HK.out.2.1 w6 P36
              go_wp2_with fail
              refine hK.mono ?_
              rintro e w7 ⟨rfl, P7⟩
              clear hK t0 t1 t2
              obtain ⟨s0, s1, s2⟩ := own3 (O5.on (P6.trans P7))
              obtain ⟨t0, t1, t2⟩ := own3 (C5.on (P6.trans P7))
              have hK := HK.out.2.2 w7 (P36.trans P7)
              go_wp2_with fail
              refine hK.mono ?_
              rintro e w8 ⟨rfl, P8⟩
              clear hK s0 s1 s2 t0 t1 t2
              have Pw8 := (Pw5.trans (P6.trans P7)).trans P8
              rcases hz with ⟨rfl, _⟩ | ⟨s, rfl, _⟩
              · go_wp2
                go_ret
                exact ⟨rfl, Pw8⟩
              · have d1 : ¬ (s : Int) < 0 := by omega
                have d2 : ((s : Int) == -1) = false := by rw [beq_eq_false_iff_ne]; omega
                have d3 : ¬ (s : Int) = -1 := by omega
                go_wp2
                go_ret
                exact ⟨by first | rfl | simp_all, Pw8⟩
            · have herr : errE (f.vars : Int) (rawL f.nodes) (f.top : Int) (f2.vars : Int) (rawL f2.nodes) (f2.top : Int) = 4 := by
                unfold errE
                rw [if_neg (by rw [hc]; decide), if_neg (by rw [hc2]; decide), if_pos (by omega), if_pos (by omega)]
              have hEq := teq_bad w3 (f.vars : Int) (f.top : Int) A n c _ R3 hv ht (f2.vars : Int) (f2.top : Int) A2 n2 c2 _ S3 hv2 ht2 (by rw [herr]; decide)
              rw [herr, errV_pos 4 (by decide)] at hEq
              have hK1 := fun W (k : On w3 W) => rchkT_any W (f.vars : Int) (f.top : Int) A n c _ (R3.on k) hv ht
              have e4 : chkT (f.vars : Int) (rawL f.nodes) (f.top : Int) = 4 := by unfold chkT; rw [if_pos hc, if_pos (by omega)]
              rw [e4] at hK1
              have hNum := fun W => numT_any W 4
              rw [errV_pos 4 (by decide)] at hNum
              have HVV := Lib.hid hvv
              clear hc hc2 hvv herr e4 R3 S3 hf hf2 h h2 hv ht hv2 ht2
              obtain ⟨s0, s1, s2⟩ := own3 O3
              obtain ⟨t0, t1, t2⟩ := own3 C3
              go_wp2_with fail
              refine hEq.mono ?_
              rintro e w4 ⟨rfl, P4⟩
              clear hEq s0 s1 s2 t0 t1 t2
              have Pw4 := Pw3.trans P4
              have O4 := O3.on P4
              have C4 := C3.on P4
              have hS0 : ∀ W, On w4 W → On w4 W ∧ W.cell? ⟨w.heap.size, 0, none⟩ = some (.int .i64 (f.vars : Int)) ∧ W.cell? ⟨w.heap.size, 1, none⟩ = some (.slice A n c) ∧ W.cell? ⟨w.heap.size, 2, none⟩ = some (.int .i64 (f.top : Int)) ∧ W.cell? ⟨w.heap.size + 1, 0, none⟩ = some (.int .i64 (f2.vars : Int)) ∧ W.cell? ⟨w.heap.size + 1, 1, none⟩ = some (.slice A2 n2 c2) ∧ W.cell? ⟨w.heap.size + 1, 2, none⟩ = some (.int .i64 (f2.top : Int)) := fun W k => ⟨k, (own3 (O4.on k)).1, (own3 (O4.on k)).2.1, (own3 (O4.on k)).2.2, own3 (C4.on k)⟩
              have HS := Lib.hid hS0
              have HCC := Lib.hid (And.intro (fun W (k : On w4 W) => hC1 W (P4.trans k)) (fun W (k : On w4 W) => hC2 W (P4.trans k)))
              clear hS0 hC1 hC2
              go_upto_region 4 with fail
              go_region_held3 (fun W => On w4 W ∧ W.cell? ⟨w.heap.size, 0, none⟩ = some (.int .i64 (f.vars : Int)) ∧ W.cell? ⟨w.heap.size, 1, none⟩ = some (.slice A n c) ∧ W.cell? ⟨w.heap.size, 2, none⟩ = some (.int .i64 (f.top : Int)) ∧ W.cell? ⟨w.heap.size + 1, 0, none⟩ = some (.int .i64 (f2.vars : Int)) ∧ W.cell? ⟨w.heap.size + 1, 1, none⟩ = some (.slice A2 n2 c2) ∧ W.cell? ⟨w.heap.size + 1, 2, none⟩ = some (.int .i64 (f2.top : Int)))
                (first | exact HS.out _ (On.refl _).drew | exact HS.out _ (On.refl _) | (go_split_ands; exact HS.out _ (On.trans (by assumption) PA)) | assumption)
                (first
                  | (go_at_call 26; go_split_ands; (with_reducible refine (HCC.out.1 _ ?_).mono ?_); assumption; rintro e wA ⟨rfl, PA⟩)
                  | (go_at_call 26; go_split_ands; (with_reducible refine (HCC.out.2 _ ?_).mono ?_); assumption; rintro e wA ⟨rfl, PA⟩))
              rename_i hHe
              have P5 := hHe.1
              have O5 := O4.on P5
              have C5 := C4.on P5
              have Pw5 := Pw4.trans P5
              obtain ⟨w5, hw5⟩ : ∃ w5, w5 = wA := ⟨_, rfl⟩
              subst hw5
              clear hHe PA HCC HS
              go_upto_region 10 with fail
              have hvi : (f2.vars : Int) = (f.vars : Int) := by rw [HVV.out]
              obtain ⟨s0, s1, s2⟩ := own3 O5
              obtain ⟨t0, t1, t2⟩ := own3 C5
              have hne : ((f.vars : Int) != (f2.vars : Int)) = false := by rw [hvi]; simp
              have hK := hK1 w5 (P4.trans P5)
              clear hvi hK1
              go_wp2_with fail
              refine hK.mono ?_
              rintro e w6 ⟨rfl, P6⟩
              clear hK s0 s1 s2 t0 t1 t2 hne
              go_wp2_with (refine (hNum _).mono ?_; rintro e w9 ⟨rfl, rfl⟩)
              go_ret
              exact ⟨rfl, Pw5.trans P6⟩
          · have herr : errE (f.vars : Int) (rawL f.nodes) (f.top : Int) (f2.vars : Int) (rawL f2.nodes) (f2.top : Int) = 11 := by
              unfold errE
              rw [if_neg (by rw [hc]; decide), if_neg (by rw [hc2]; decide), if_neg (by omega)]
            have hEq := teq_bad w3 (f.vars : Int) (f.top : Int) A n c _ R3 hv ht (f2.vars : Int) (f2.top : Int) A2 n2 c2 _ S3 hv2 ht2 (by rw [herr]; decide)
            rw [herr, errV_pos 11 (by decide)] at hEq
            have hIs := fun W => is_err W 11
            have hne : ((f.vars : Int) != (f2.vars : Int)) = true := by simp; omega
            have hne2 : ¬ (f.vars : Int) = (f2.vars : Int) := by omega
            have HNE := Lib.hid (And.intro hne hne2)
            clear hc hc2 hvv herr hne hne2 R3 S3 hf hf2 h h2 hv ht hv2 ht2
            obtain ⟨s0, s1, s2⟩ := own3 O3
            obtain ⟨t0, t1, t2⟩ := own3 C3
            go_wp2_with fail
            refine hEq.mono ?_
            rintro e w4 ⟨rfl, P4⟩
            clear hEq s0 s1 s2 t0 t1 t2
            have Pw4 := Pw3.trans P4
            have O4 := O3.on P4
            have C4 := C3.on P4
            have hS0 : ∀ W, On w4 W → On w4 W ∧ W.cell? ⟨w.heap.size, 0, none⟩ = some (.int .i64 (f.vars : Int)) ∧ W.cell? ⟨w.heap.size, 1, none⟩ = some (.slice A n c) ∧ W.cell? ⟨w.heap.size, 2, none⟩ = some (.int .i64 (f.top : Int)) ∧ W.cell? ⟨w.heap.size + 1, 0, none⟩ = some (.int .i64 (f2.vars : Int)) ∧ W.cell? ⟨w.heap.size + 1, 1, none⟩ = some (.slice A2 n2 c2) ∧ W.cell? ⟨w.heap.size + 1, 2, none⟩ = some (.int .i64 (f2.top : Int)) := fun W k => ⟨k, (own3 (O4.on k)).1, (own3 (O4.on k)).2.1, (own3 (O4.on k)).2.2, own3 (C4.on k)⟩
            have HS := Lib.hid hS0
            have HCC := Lib.hid (And.intro (fun W (k : On w4 W) => hC1 W (P4.trans k)) (fun W (k : On w4 W) => hC2 W (P4.trans k)))
            clear hS0 hC1 hC2
            go_upto_region 4 with fail
            go_region_held3 (fun W => On w4 W ∧ W.cell? ⟨w.heap.size, 0, none⟩ = some (.int .i64 (f.vars : Int)) ∧ W.cell? ⟨w.heap.size, 1, none⟩ = some (.slice A n c) ∧ W.cell? ⟨w.heap.size, 2, none⟩ = some (.int .i64 (f.top : Int)) ∧ W.cell? ⟨w.heap.size + 1, 0, none⟩ = some (.int .i64 (f2.vars : Int)) ∧ W.cell? ⟨w.heap.size + 1, 1, none⟩ = some (.slice A2 n2 c2) ∧ W.cell? ⟨w.heap.size + 1, 2, none⟩ = some (.int .i64 (f2.top : Int)))
              (first | exact HS.out _ (On.refl _).drew | exact HS.out _ (On.refl _) | (go_split_ands; exact HS.out _ (On.trans (by assumption) PA)) | assumption)
              (first
                | (go_at_call 26; go_split_ands; (with_reducible refine (HCC.out.1 _ ?_).mono ?_); assumption; rintro e wA ⟨rfl, PA⟩)
                | (go_at_call 26; go_split_ands; (with_reducible refine (HCC.out.2 _ ?_).mono ?_); assumption; rintro e wA ⟨rfl, PA⟩))
            rename_i hHe
            have P5 := hHe.1
            have O5 := O4.on P5
            have C5 := C4.on P5
            have Pw5 := Pw4.trans P5
            obtain ⟨w5, hw5⟩ : ∃ w5, w5 = wA := ⟨_, rfl⟩
            subst hw5
            clear hHe PA HCC HS
            go_upto_region 10 with fail
            obtain ⟨s0, s1, s2⟩ := own3 O5
            obtain ⟨t0, t1, t2⟩ := own3 C5
            have hne := HNE.out.1
            have hne2 := HNE.out.2
            go_wp2_with (refine (hIs _).mono ?_; rintro e w9 ⟨rfl, rfl⟩)
            go_ret
            exact ⟨rfl, Pw5⟩
        · rw [hc, errV_zero] at hC1
          obtain ⟨er, her⟩ : ∃ er, chk vars2 xs2 top2 = er := ⟨_, rfl⟩
          have herr : errE vars xs top vars2 xs2 top2 = er := by
            unfold errE
            rw [if_neg (by rw [hc]; decide), if_pos hc2, her]
          rw [her] at hC2 hc2
          rw [errV_pos er hc2] at hC2
          have hEq := teq_bad w3 vars top A n c _ R3 hv ht vars2 top2 A2 n2 c2 _ S3 hv2 ht2 (by rw [herr]; exact hc2)
          rw [herr, errV_pos er hc2] at hEq
          have hNum := fun W => numT_any W er
          rw [errV_pos er hc2] at hNum
          clear hc hc2 her herr R3 S3 h h2 hv ht hv2 ht2
          obtain ⟨s0, s1, s2⟩ := own3 O3
          obtain ⟨t0, t1, t2⟩ := own3 C3
          go_wp2_with fail
          refine hEq.mono ?_
          rintro e w4 ⟨rfl, P4⟩
          clear hEq s0 s1 s2 t0 t1 t2
          have Pw4 := Pw3.trans P4
          have O4 := O3.on P4
          have C4 := C3.on P4
          have hS0 : ∀ W, On w4 W → On w4 W ∧ W.cell? ⟨w.heap.size, 0, none⟩ = some (.int .i64 vars) ∧ W.cell? ⟨w.heap.size, 1, none⟩ = some (.slice A n c) ∧ W.cell? ⟨w.heap.size, 2, none⟩ = some (.int .i64 top) ∧ W.cell? ⟨w.heap.size + 1, 0, none⟩ = some (.int .i64 vars2) ∧ W.cell? ⟨w.heap.size + 1, 1, none⟩ = some (.slice A2 n2 c2) ∧ W.cell? ⟨w.heap.size + 1, 2, none⟩ = some (.int .i64 top2) := fun W k => ⟨k, (own3 (O4.on k)).1, (own3 (O4.on k)).2.1, (own3 (O4.on k)).2.2, own3 (C4.on k)⟩
          have HS := Lib.hid hS0
          have HCC := Lib.hid (And.intro (fun W (k : On w4 W) => hC1 W (P4.trans k)) (fun W (k : On w4 W) => hC2 W (P4.trans k)))
          clear hS0 hC1 hC2
          go_upto_region 4 with fail
          go_region_held3 (fun W => On w4 W ∧ W.cell? ⟨w.heap.size, 0, none⟩ = some (.int .i64 vars) ∧ W.cell? ⟨w.heap.size, 1, none⟩ = some (.slice A n c) ∧ W.cell? ⟨w.heap.size, 2, none⟩ = some (.int .i64 top) ∧ W.cell? ⟨w.heap.size + 1, 0, none⟩ = some (.int .i64 vars2) ∧ W.cell? ⟨w.heap.size + 1, 1, none⟩ = some (.slice A2 n2 c2) ∧ W.cell? ⟨w.heap.size + 1, 2, none⟩ = some (.int .i64 top2))
            (first | exact HS.out _ (On.refl _).drew | exact HS.out _ (On.refl _) | (go_split_ands; exact HS.out _ (On.trans (by assumption) PA)) | assumption)
            (first
              | (go_at_call 26; go_split_ands; (with_reducible refine (HCC.out.1 _ ?_).mono ?_); assumption; rintro e wA ⟨rfl, PA⟩)
              | (go_at_call 26; go_split_ands; (with_reducible refine (HCC.out.2 _ ?_).mono ?_); assumption; rintro e wA ⟨rfl, PA⟩))
          rename_i hHe
          have P5 := hHe.1
          have O5 := O4.on P5
          have C5 := C4.on P5
          have Pw5 := Pw4.trans P5
          obtain ⟨w5, hw5⟩ : ∃ w5, w5 = wA := ⟨_, rfl⟩
          subst hw5
          clear hHe PA HCC HS
          go_wp2_with (refine (hNum _).mono ?_; rintro e w9 ⟨rfl, rfl⟩)
          go_ret
          exact ⟨rfl, Pw5⟩
      · obtain ⟨er, her⟩ : ∃ er, chk vars xs top = er := ⟨_, rfl⟩
        obtain ⟨EB, hEB⟩ : ∃ EB, errV (chk vars2 xs2 top2) = EB := ⟨_, rfl⟩
        have herr : errE vars xs top vars2 xs2 top2 = er := by
          unfold errE
          rw [if_pos hc, her]
        simp only [hEB] at hC2
        rw [her] at hC1 hc
        rw [errV_pos er hc] at hC1
        have hEq := teq_bad w3 vars top A n c _ R3 hv ht vars2 top2 A2 n2 c2 _ S3 hv2 ht2 (by rw [herr]; exact hc)
        rw [herr, errV_pos er hc] at hEq
        have hNum := fun W => numT_any W er
        rw [errV_pos er hc] at hNum
        clear hc her herr hEB R3 S3 h h2 hv ht hv2 ht2
        obtain ⟨s0, s1, s2⟩ := own3 O3
        obtain ⟨t0, t1, t2⟩ := own3 C3
        go_wp2_with fail
        refine hEq.mono ?_
        rintro e w4 ⟨rfl, P4⟩
        clear hEq s0 s1 s2 t0 t1 t2
        have Pw4 := Pw3.trans P4
        have O4 := O3.on P4
        have C4 := C3.on P4
        have hS0 : ∀ W, On w4 W → On w4 W ∧ W.cell? ⟨w.heap.size, 0, none⟩ = some (.int .i64 vars) ∧ W.cell? ⟨w.heap.size, 1, none⟩ = some (.slice A n c) ∧ W.cell? ⟨w.heap.size, 2, none⟩ = some (.int .i64 top) ∧ W.cell? ⟨w.heap.size + 1, 0, none⟩ = some (.int .i64 vars2) ∧ W.cell? ⟨w.heap.size + 1, 1, none⟩ = some (.slice A2 n2 c2) ∧ W.cell? ⟨w.heap.size + 1, 2, none⟩ = some (.int .i64 top2) := fun W k => ⟨k, (own3 (O4.on k)).1, (own3 (O4.on k)).2.1, (own3 (O4.on k)).2.2, own3 (C4.on k)⟩
        have HS := Lib.hid hS0
        have HCC := Lib.hid (And.intro (fun W (k : On w4 W) => hC1 W (P4.trans k)) (fun W (k : On w4 W) => hC2 W (P4.trans k)))
        clear hS0 hC1 hC2
        go_upto_region 4 with fail
        go_region_held3 (fun W => On w4 W ∧ W.cell? ⟨w.heap.size, 0, none⟩ = some (.int .i64 vars) ∧ W.cell? ⟨w.heap.size, 1, none⟩ = some (.slice A n c) ∧ W.cell? ⟨w.heap.size, 2, none⟩ = some (.int .i64 top) ∧ W.cell? ⟨w.heap.size + 1, 0, none⟩ = some (.int .i64 vars2) ∧ W.cell? ⟨w.heap.size + 1, 1, none⟩ = some (.slice A2 n2 c2) ∧ W.cell? ⟨w.heap.size + 1, 2, none⟩ = some (.int .i64 top2))
          (first | exact HS.out _ (On.refl _).drew | exact HS.out _ (On.refl _) | (go_split_ands; exact HS.out _ (On.trans (by assumption) PA)) | assumption)
          (first
            | (go_at_call 26; go_split_ands; (with_reducible refine (HCC.out.1 _ ?_).mono ?_); assumption; rintro e wA ⟨rfl, PA⟩)
            | (go_at_call 26; go_split_ands; (with_reducible refine (HCC.out.2 _ ?_).mono ?_); assumption; rintro e wA ⟨rfl, PA⟩))
        rename_i hHe
        have P5 := hHe.1
        have O5 := O4.on P5
        have C5 := C4.on P5
        have Pw5 := Pw4.trans P5
        obtain ⟨w5, hw5⟩ : ∃ w5, w5 = wA := ⟨_, rfl⟩
        subst hw5
        clear hHe PA HCC HS
        go_wp2_with (refine (hNum _).mono ?_; rintro e w9 ⟨rfl, rfl⟩)
        go_ret
        exact ⟨rfl, Pw5⟩
    · rw [Bool.eq_false_iff.2 hb2] at hl2
      have hA2 := fun W => awakeT_any W
      go_wp2_with fail
      refine hl2.mono ?_
      rintro e w7 ⟨rfl, P7⟩
      clear hl2 r0 r1 r2
      go_wp2_with fail
      refine (hA2 _).mono ?_
      rintro e w8 ⟨rfl, P8⟩
      go_wp2
      go_ret
      exact ⟨rfl, (Pw2.trans P7).trans P8⟩
  · rw [Bool.eq_false_iff.2 hb] at hl1
    have hA2 := fun W => awakeT_any W
    clear hL2
    go_wp2_with fail
    refine hl1.mono ?_
    rintro e w7 ⟨rfl, P7⟩
    clear hl1 r0 r1 r2
    go_wp2_with fail
    refine (hA2 _).mono ?_
    rintro e w8 ⟨rfl, P8⟩
    go_wp2
    go_ret
    exact ⟨rfl, (Pw1.trans P7).trans P8⟩
end Go.Proofs.Ytpllgpjplliadaa.Fm
