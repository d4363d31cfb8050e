/-
  FormulaValues.
-/
import Derived.Test.YtimigaajhhfbhaaFa
namespace Go.Proofs.Ytimigaajhhfbhaa.Fm
open Go.RowKit Go.Proofs.Ytimigaajhhfbhaa.Sb
set_option linter.unusedVariables false
set_option maxRecDepth 100000
set_option maxHeartbeats 16000000 in
theorem lvalues_any (w : World) (vars top : Int) (A : Option Addr) (n c : Nat) (xs : List Nd) (h : RdN w A n c xs) (hv : I64 vars) (ht : I64 top) (failed : Int) :
    Calls Try.prog 3 #[.agg #[.int .i64 vars, .slice A n c, .int .i64 top], .int .i64 failed] w fun e w' => e = .returned (.bool true) ∧ On w w' := by
  obtain ⟨q, hq⟩ : ∃ q, w.heap.size = q := ⟨_, rfl⟩
  obtain ⟨w0, hw0⟩ : ∃ w0, w.alloc (.cells #[.int .i64 vars, .slice A n c, .int .i64 top] 24) = w0 := ⟨_, rfl⟩
  have O0 : Own w0 q 24 #[.int .i64 vars, .slice A n c, .int .i64 top] := by rw [← hw0, ← hq]; exact Own.new _ _ _
  have P0 : On w w0 := by rw [← hw0]; exact (On.refl w).alloc _
  have hAw := awake_any w0
  have hL := fun W (k : On w W) => light_any W vars top A n c xs (h.on k)
  have hC := fun W (k : On w W) => rcheck_any W vars top A n c xs (h.on k) hv ht
  have HO := Lib.hid (And.intro O0 (And.intro P0 hw0))
  have HR := Lib.hid h
  clear h O0 P0
  go_enter Try.func3, Try.ntmps3
  go_wp2_with fail
  refine hAw.mono ?_
  rintro e w1 ⟨rfl, P1⟩
  have Pw1 := HO.out.2.1.trans P1
  have O1 := HO.out.1.on P1
  obtain ⟨r0, r1, r2⟩ := own3 O1
  have hL1 := hL w1 Pw1
  clear hAw hL hw0
  by_cases hl : lightB xs = true
  · rw [hl] at hL1
    go_wp2_with fail
    refine hL1.mono ?_
    rintro e w2 ⟨rfl, P2⟩
    have Pw2 := Pw1.trans P2
    have O2 := O1.on P2
    obtain ⟨s0, s1, s2⟩ := own3 O2
    have hC2 := hC w2 Pw2
    clear hL1 hC r0 r1 r2 P1 P2 Pw1 O1
    by_cases hc : chk vars xs top = 0
    · rw [hc] at hC2
      obtain ⟨f, hf, rfl, rfl, rfl⟩ := chk_zero hc
      go_wp2_with fail
      refine hC2.mono ?_
      rintro e w3 ⟨rfl, P3⟩
      have Pw3 := Pw2.trans P3
      have O3 := O2.on P3
      have R3 := HR.out.on Pw3
      clear hC2 s0 s1 s2 P3 Pw2 O2 HR hv ht hc hl
      have hn : f.nodes.length = n := by have := R3.len; rwa [raw_len] at this
      by_cases hs : setB f.vars failed = true
      · obtain ⟨s, rfl, hs2⟩ := setB_nat hs
        have hV := value_ok w3 f hf A n c R3 s hs2
        obtain ⟨s0, s1, s2⟩ := own3 O3
        go_wp2_with fail
        refine hV.mono ?_
        rintro e w4 ⟨rfl, P4⟩
        have Pw4 := Pw3.trans P4
        have O4 := O3.on P4
        have R4 := R3.on P4
        clear hV s0 s1 s2 P4 Pw3 O3 R3
        have hVs := values_ok w4 f hf A n c R4 s hs2
        obtain ⟨s0, s1, s2⟩ := own3 O4
        go_wp2_with fail
        refine hVs.mono ?_
        rintro e w5 ⟨g, rfl, OG, hg, P5⟩
        have Pw5 := Pw4.trans P5
        have O5 := O4.on P5
        have R5 := R4.on P5
        clear hVs s0 s1 s2 P5 Pw4 O4 R4
        have hSe := set_any w5 f.vars hf.1 A n c (f.top : Int) (s : Int)
        rw [hs] at hSe
        obtain ⟨s0, s1, s2⟩ := own3 O5
        go_wp2_with fail
        refine hSe.mono ?_
        rintro e w6 ⟨rfl, P6⟩
        have Pw6 := Pw5.trans P6
        have O6 := O5.on P6
        have R6 := R5.on P6
        have OG6 := OG.on P6
        clear hSe s0 s1 s2 P6 Pw5 O5 R5 OG
        obtain ⟨s0, s1, s2⟩ := own3 O6
        have hRV := rvalue_ok w6 f hf A n c R6 s hs2
        have htr : (val f s == val f s) = true := by cases val f s <;> rfl
        go_wp2_with fail
        refine hRV.mono ?_
        rintro e w7 ⟨rfl, P7⟩
        have Pw7 := Pw6.trans P7
        have O7 := O6.on P7
        have R7 := R6.on P7
        have OG7 := OG6.on P7
        clear hRV s0 s1 s2 P7 Pw6 O6 R6 OG6
        obtain ⟨s0, s1, s2⟩ := own3 O7
        have hRVs := rvalues_ok w7 f hf A n c R7 s hs2
        go_wp2_with fail
        refine hRVs.mono ?_
        rintro e w8 ⟨g2, rfl, OG2, hg2, P8⟩
        have Pw8 := Pw7.trans P8
        have OG8 := OG7.on P8
        clear hRVs s0 s1 s2 P8 Pw7 O7 R7 OG7
        have hBo := bools_eq w8 (some ⟨g, 0, none⟩) n n (some ⟨g2, 0, none⟩) n n (vals f s) (own_rdB OG8 (by rw [vals_len]; exact hn) (by have := hf.2.1; omega)) (own_rdB OG2 (by rw [vals_len]; exact hn) (by have := hf.2.1; omega))
        go_wp2_with fail
        refine hBo.mono ?_
        rintro e w9 ⟨rfl, P9⟩
        clear hBo
        go_wp2
        go_ret
        exact ⟨rfl, Pw8.trans P9⟩
      · have hV := value_err w3 f hf A n c R3 failed (Bool.eq_false_iff.2 hs)
        rw [errV_pos 3 (by decide)] at hV
        obtain ⟨s0, s1, s2⟩ := own3 O3
        go_wp2_with fail
        refine hV.mono ?_
        rintro e w4 ⟨rfl, P4⟩
        have Pw4 := Pw3.trans P4
        have O4 := O3.on P4
        have R4 := R3.on P4
        clear hV s0 s1 s2 P4 Pw3 O3 R3
        have hVs := values_err w4 f hf A n c R4 failed (Bool.eq_false_iff.2 hs)
        rw [errV_pos 3 (by decide)] at hVs
        obtain ⟨s0, s1, s2⟩ := own3 O4
        go_wp2_with fail
        refine hVs.mono ?_
        rintro e w5 ⟨rfl, P5⟩
        have Pw5 := Pw4.trans P5
        have O5 := O4.on P5
        clear hVs s0 s1 s2 P5 Pw4 O4 R4
        have hSe := set_any w5 f.vars hf.1 A n c (f.top : Int) failed
        rw [Bool.eq_false_iff.2 hs] at hSe
        obtain ⟨s0, s1, s2⟩ := own3 O5
        go_wp2_with fail
        refine hSe.mono ?_
        rintro e w6 ⟨rfl, P6⟩
        have Pw6 := Pw5.trans P6
        clear hSe s0 s1 s2 P6 Pw5 O5
        have hI := fun W => is_err W 3
        go_wp2_with (refine (hI _).mono ?_; rintro e w7 ⟨rfl, rfl⟩)
        go_ret
        exact ⟨rfl, Pw6⟩
    · have hcn : ¬ (chk vars xs top : Int) = 0 := by omega
      obtain ⟨er, her⟩ : ∃ er, chk vars xs top = er := ⟨_, rfl⟩
      rw [her] at hC2 hcn
      clear her hc
      have hA2 := fun W => awake_any W
      go_wp2_with fail
      refine hC2.mono ?_
      rintro e w3 ⟨rfl, P3⟩
      clear hC2
      go_wp2_with fail
      refine (hA2 _).mono ?_
      rintro e w4 ⟨rfl, P4⟩
      go_wp2
      go_ret
      exact ⟨rfl, (Pw2.trans P3).trans P4⟩
  · rw [Bool.eq_false_iff.2 hl] at hL1
    have hA2 := fun W => awake_any W
    clear hC
    go_wp2_with fail
    refine hL1.mono ?_
    rintro e w2 ⟨rfl, P2⟩
    clear hL1
    go_wp2_with fail
    refine (hA2 _).mono ?_
    rintro e w3 ⟨rfl, P3⟩
    go_wp2
    go_ret
    exact ⟨rfl, (Pw1.trans P2).trans P3⟩
end Go.Proofs.Ytimigaajhhfbhaa.Fm
