/-
  TernaryValues.
-/
import Derived.Test.YtcnelmklfdfilaaKb
namespace Go.Proofs.Ytcnelmklfdfilaa.Fm
open Go.RowKit Go.Proofs.Ytcnelmklfdfilaa.Sb
set_option linter.unusedVariables false
set_option maxRecDepth 100000
set_option maxHeartbeats 16000000 in
theorem ltvalues_any (w : World) (vars top : Int) (A : Option Addr) (n c : Nat) (xs : List Nd) (h : RdN w A n c xs) (hv : I64 vars) (ht : I64 top) (y nn : Int) :
    Calls Try.prog 3 #[.agg #[.int .i64 vars, .slice A n c, .int .i64 top], cubV y nn] w fun e w' => e = .returned (.bool true) ∧ On w w' := by
  obtain ⟨q, hq⟩ : ∃ q, w.heap.size = q := ⟨_, rfl⟩
  obtain ⟨w0, hw0⟩ : ∃ w0, (w.alloc (.cells #[.int .i64 vars, .slice A n c, .int .i64 top] 24)).alloc (.cells #[.int .i64 y, .int .i64 nn] 26) = w0 := ⟨_, rfl⟩
  have O0 : Own w0 q 24 #[.int .i64 vars, .slice A n c, .int .i64 top] := by rw [← hw0, ← hq]; exact (Own.new _ _ _).alloc _
  have C0 : Own w0 (q + 1) 26 #[.int .i64 y, .int .i64 nn] := by
    rw [← hw0, ← hq]
    have := Own.new (w.alloc (.cells #[.int .i64 vars, .slice A n c, .int .i64 top] 24)) 26 #[.int .i64 y, .int .i64 nn]
    simpa using this
  have P0 : On w w0 := by rw [← hw0]; exact ((On.refl w).alloc _).alloc _
  have hAw := awake9_any w0
  have hL := fun W (k : On w W) => light_any W vars top A n c xs (h.on k)
  have HO := Lib.hid (And.intro O0 (And.intro C0 (And.intro P0 hw0)))
  have HR := Lib.hid h
  clear h O0 C0 P0
  go_enter Try.func3, Try.ntmps3
  subst hq
  go_wp2_with fail
  refine hAw.mono ?_
  rintro e w1 ⟨rfl, P1⟩
  have Pw1 := HO.out.2.2.1.trans P1
  have O1 := HO.out.1.on P1
  have C1 := HO.out.2.1.on P1
  obtain ⟨r0, r1, r2⟩ := own3 O1
  obtain ⟨k0, k1⟩ := own2 C1
  have hL1 := hL w1 Pw1
  clear hAw hL hw0
  by_cases hl : lightB xs = true
  · rw [hl] at hL1
    go_wp2_with fail
    refine hL1.mono ?_
    rintro e w2 ⟨rfl, P2⟩
    have Pw2 := Pw1.trans P2
    have O2 := O1.on P2
    have C2 := C1.on P2
    have R2 := HR.out.on Pw2
    clear hL1 r0 r1 r2 k0 k1 P1 P2 Pw1 O1 C1 hl HO
    by_cases hc : tchk vars xs top y nn = 0
    · have hc1 : chk vars xs top = 0 := by
        unfold tchk at hc
        by_cases hz : chk vars xs top = 0
        · exact hz
        · rw [if_neg hz] at hc; exact absurd hc hz
      obtain ⟨f, hf, rfl, rfl, rfl⟩ := chk_zero hc1
      have hc2 : cubErr f.vars y nn = 0 := by unfold tchk at hc; rw [if_pos hc1] at hc; exact hc
      obtain ⟨a, b, rfl, rfl, ha, hb, hd⟩ := cub_zero hf.1 hc2
      have hp24 := pow24 hf.1
      have ha24 : a < 16777216 := by omega
      have hb24 : b < 16777216 := by omega
      have hn : f.nodes.length = n := by have := R2.len; rwa [raw_len] at this
      have hn128 := hf.2.1
      clear hc hc1 hp24 hv ht HR
      have hV := tvalue_ok w2 f hf A n c R2 a b ha hb hd
      obtain ⟨s0, s1, s2⟩ := own3 O2
      obtain ⟨k0, k1⟩ := own2 C2
      go_wp2_with fail
      refine hV.mono ?_
      rintro e w3 ⟨rfl, P3⟩
      have Pw3 := Pw2.trans P3
      have O3 := O2.on P3
      have C3 := C2.on P3
      have R3 := R2.on P3
      clear hV s0 s1 s2 k0 k1 P3 Pw2 O2 C2 R2
      have hVs := tvalues_ok w3 f hf A n c R3 a b ha hb hd
      obtain ⟨s0, s1, s2⟩ := own3 O3
      obtain ⟨k0, k1⟩ := own2 C3
      go_wp2_with fail
      refine hVs.mono ?_
      rintro e w4 ⟨g, rfl, OG4, hg, P4⟩
      have Pw4 := Pw3.trans P4
      have O4 := O3.on P4
      have C4 := C3.on P4
      have R4 := R3.on P4
      clear hVs s0 s1 s2 k0 k1 P4 Pw3 O3 C3 R3
      have hD := tdecided_ok w4 f hf A n c R4 a b ha hb hd
      have htd : (tval f a b != 2) = ((tval f a b : Int) != 2) := by rw [Bool.eq_iff_iff]; simp only [bne_iff_ne, ne_eq]; omega
      rw [htd] at hD
      clear htd
      obtain ⟨s0, s1, s2⟩ := own3 O4
      obtain ⟨k0, k1⟩ := own2 C4
      go_wp2_with fail
      refine hD.mono ?_
      rintro e w5 ⟨rfl, P5⟩
      have Pw5 := Pw4.trans P5
      have O5 := O4.on P5
      have C5 := C4.on P5
      have R5 := R4.on P5
      have OG5 := OG4.on P5
      clear hD s0 s1 s2 k0 k1 P5 Pw4 O4 C4 R4 OG4
      have hX := tnext_ok w5 f hf A n c R5 a b ha hb hd
      obtain ⟨s0, s1, s2⟩ := own3 O5
      obtain ⟨k0, k1⟩ := own2 C5
      go_wp2_with fail
      refine hX.mono ?_
      rintro e w6 ⟨rfl, P6⟩
      have Pw6 := Pw5.trans P6
      have O6 := O5.on P6
      have C6 := C5.on P6
      have R6 := R5.on P6
      have OG6 := OG5.on P6
      clear hX s0 s1 s2 k0 k1 P6 Pw5 O5 C5 R5 OG5
      have hC := rtcheck_ok w6 f hf A n c R6 (a : Int) (b : Int)
      rw [hc2] at hC
      obtain ⟨s0, s1, s2⟩ := own3 O6
      obtain ⟨k0, k1⟩ := own2 C6
      go_wp2_with fail
      refine hC.mono ?_
      rintro e w7 ⟨rfl, P7⟩
      have Pw7 := Pw6.trans P7
      have O7 := O6.on P7
      have C7 := C6.on P7
      have R7 := R6.on P7
      have OG7 := OG6.on P7
      clear hC s0 s1 s2 k0 k1 P7 Pw6 O6 C6 R6 OG6
      have hRV := rtvalue_ok w7 f hf A n c R7 a b ha24 hb24
      obtain ⟨s0, s1, s2⟩ := own3 O7
      obtain ⟨k0, k1⟩ := own2 C7
      go_wp2_with fail
      refine hRV.mono ?_
      rintro e w8 ⟨rfl, P8⟩
      have Pw8 := Pw7.trans P8
      have O8 := O7.on P8
      have C8 := C7.on P8
      have R8 := R7.on P8
      have OG8 := OG7.on P8
      clear hRV s0 s1 s2 k0 k1 P8 Pw7 O7 C7 R7 OG7
      have hRVs := rtvalues_ok w8 f hf A n c R8 a b ha24 hb24
      obtain ⟨s0, s1, s2⟩ := own3 O8
      obtain ⟨k0, k1⟩ := own2 C8
      go_wp2_with fail
      refine hRVs.mono ?_
      rintro e w9 ⟨g2, rfl, OG2, hg2, P9⟩
      have Pw9 := Pw8.trans P9
      have O9 := O8.on P9
      have C9 := C8.on P9
      have R9 := R8.on P9
      have OG9 := OG8.on P9
      clear hRVs s0 s1 s2 k0 k1 P9 Pw8 O8 C8 R8 OG8
      have hI := ints_eq w9 (some ⟨g, 0, none⟩) n n (some ⟨g2, 0, none⟩) n n (ints (tvals f a b)) (own_rdI OG9 (by rw [tvals_len]; exact hn) (by omega)) (own_rdI OG2 (by rw [tvals_len]; exact hn) (by omega))
      obtain ⟨s0, s1, s2⟩ := own3 O9
      obtain ⟨k0, k1⟩ := own2 C9
      go_wp2_with fail
      refine hI.mono ?_
      rintro e w10 ⟨rfl, P10⟩
      have Pw10 := Pw9.trans P10
      have O10 := O9.on P10
      have C10 := C9.on P10
      have R10 := R9.on P10
      clear hI s0 s1 s2 k0 k1 P10 Pw9 O9 C9 R9
      have hRN := rtnext_ok w10 f hf A n c R10 a b ha24 hb24
      obtain ⟨s0, s1, s2⟩ := own3 O10
      obtain ⟨k0, k1⟩ := own2 C10
      go_wp2_with fail
      refine hRN.mono ?_
      rintro e w11 ⟨rfl, P11⟩
      have Pw11 := Pw10.trans P11
      have O11 := O10.on P11
      have C11 := C10.on P11
      have R11 := R10.on P11
      clear hRN s0 s1 s2 k0 k1 P11 Pw10 O10 C10 R10
      go_wp2
      go_ret
      exact ⟨rfl, Pw11⟩
    · have hV := tvalue_any w2 vars top A n c xs R2 hv ht y nn hc
      have hE : ¬ (tchk vars xs top y nn : Int) = 0 := by omega
      obtain ⟨s0, s1, s2⟩ := own3 O2
      obtain ⟨k0, k1⟩ := own2 C2
      go_wp2_with fail
      refine hV.mono ?_
      rintro e w3 ⟨rfl, P3⟩
      have Pw3 := Pw2.trans P3
      have O3 := O2.on P3
      have C3 := C2.on P3
      have R3 := R2.on P3
      clear hV s0 s1 s2 k0 k1 P3 Pw2 O2 C2 R2
      have hVs := tvalues_any w3 vars top A n c xs R3 hv ht y nn hc
      obtain ⟨s0, s1, s2⟩ := own3 O3
      obtain ⟨k0, k1⟩ := own2 C3
      go_wp2_with fail
      refine hVs.mono ?_
      rintro e w4 ⟨B, d, rfl, P4⟩
      have Pw4 := Pw3.trans P4
      have O4 := O3.on P4
      have C4 := C3.on P4
      have R4 := R3.on P4
      clear hVs s0 s1 s2 k0 k1 P4 Pw3 O3 C3 R3
      have hD := tdecided_any w4 vars top A n c xs R4 hv ht y nn hc
      obtain ⟨s0, s1, s2⟩ := own3 O4
      obtain ⟨k0, k1⟩ := own2 C4
      go_wp2_with fail
      refine hD.mono ?_
      rintro e w5 ⟨rfl, P5⟩
      have Pw5 := Pw4.trans P5
      have O5 := O4.on P5
      have C5 := C4.on P5
      have R5 := R4.on P5
      clear hD s0 s1 s2 k0 k1 P5 Pw4 O4 C4 R4
      have hX := tnext_any w5 vars top A n c xs R5 hv ht y nn hc
      obtain ⟨s0, s1, s2⟩ := own3 O5
      obtain ⟨k0, k1⟩ := own2 C5
      go_wp2_with fail
      refine hX.mono ?_
      rintro e w6 ⟨rfl, P6⟩
      have Pw6 := Pw5.trans P6
      have O6 := O5.on P6
      have C6 := C5.on P6
      have R6 := R5.on P6
      clear hX s0 s1 s2 k0 k1 P6 Pw5 O5 C5 R5
      have hC := rtcheck_any w6 vars top A n c xs R6 hv ht y nn
      obtain ⟨s0, s1, s2⟩ := own3 O6
      obtain ⟨k0, k1⟩ := own2 C6
      go_wp2_with fail
      refine hC.mono ?_
      rintro e w7 ⟨rfl, P7⟩
      have Pw7 := Pw6.trans P7
      have O7 := O6.on P7
      have C7 := C6.on P7
      have R7 := R6.on P7
      clear hC s0 s1 s2 k0 k1 P7 Pw6 O6 C6 R6
      have hN := fun W => numE_any W (tchk vars xs top y nn)
      obtain ⟨er, her⟩ : ∃ er, tchk vars xs top y nn = er := ⟨_, rfl⟩
      rw [her] at hN hE ⊢
      clear her hc
      go_wp2_with (refine (hN _).mono ?_; rintro e w9 ⟨rfl, rfl⟩)
      go_ret
      exact ⟨rfl, Pw7⟩
  · rw [Bool.eq_false_iff.2 hl] at hL1
    have hA2 := fun W => awake9_any W
    go_wp2_with fail
    refine hL1.mono ?_
    rintro e w2 ⟨rfl, P2⟩
    clear hL1
    go_wp2_with fail
    refine (hA2 _).mono ?_
    rintro e w3 ⟨rfl, P3⟩
    go_wp2
    go_ret
    exact ⟨rfl, (Pw1.trans P2).trans P3⟩
end Go.Proofs.Ytcnelmklfdfilaa.Fm
