/-
  FormulaSupport.
-/
import Derived.Test.YtimigaajhhfbhaaFlm
namespace Go.Proofs.Ytimigaajhhfbhaa.Fm
open Go.RowKit Go.Proofs.Ytimigaajhhfbhaa.Sb
set_option linter.unusedVariables false
set_option maxRecDepth 100000
set_option maxHeartbeats 16000000 in
theorem lsupport_any (w : World) (vars top : Int) (A : Option Addr) (n c : Nat) (xs : List Nd) (h : RdN w A n c xs) (hv : I64 vars) (ht : I64 top) (a b : Int) :
    Calls Try.prog 6 #[.agg #[.int .i64 vars, .slice A n c, .int .i64 top], .int .i64 a, .int .i64 b] w fun e w' => e = .returned (.bool true) ∧ On w w' := by
  obtain ⟨q, hq⟩ : ∃ q, w.heap.size = q := ⟨_, rfl⟩
  obtain ⟨w0, hw0⟩ : ∃ w0, w.alloc (.cells #[.int .i64 vars, .slice A n c, .int .i64 top] 24) = w0 := ⟨_, rfl⟩
  have O0 : Own w0 q 24 #[.int .i64 vars, .slice A n c, .int .i64 top] := by rw [← hw0, ← hq]; exact Own.new _ _ _
  have P0 : On w w0 := by rw [← hw0]; exact (On.refl w).alloc _
  have hAw := awake_any w0
  have hL := fun W (k : On w W) => light_any W vars top A n c xs (h.on k)
  have hC := fun W (k : On w W) => check_any W vars top A n c xs (h.on k) hv ht
  have HO := Lib.hid (And.intro O0 (And.intro P0 hw0))
  have HR := Lib.hid h
  clear h O0 P0
  go_enter Try.func6, Try.ntmps6
  go_wp2_with fail
  refine hAw.mono ?_
  rintro e w1 ⟨rfl, P1⟩
  have Pw1 := HO.out.2.1.trans P1
  have O1 := HO.out.1.on P1
  obtain ⟨r0, r1, r2⟩ := own3 O1
  have hL1 := hL w1 Pw1
  clear hAw hL hw0
  by_cases hl : lightB xs = true
  · rw [hl] at hL1
    go_wp2_with fail
    refine hL1.mono ?_
    rintro e w2 ⟨rfl, P2⟩
    have Pw2 := Pw1.trans P2
    have O2 := O1.on P2
    obtain ⟨s0, s1, s2⟩ := own3 O2
    have hC2 := hC w2 Pw2
    clear hL1 hC r0 r1 r2 P1 P2 Pw1 O1
    by_cases hc : chk vars xs top = 0
    · rw [hc, errV_zero] at hC2
      obtain ⟨f, hf, rfl, rfl, rfl⟩ := chk_zero hc
      go_wp2_with fail
      refine hC2.mono ?_
      rintro e w3 ⟨rfl, P3⟩
      have Pw3 := Pw2.trans P3
      have O3 := O2.on P3
      have R3 := HR.out.on Pw3
      clear hC2 s0 s1 s2 P3 Pw2 O2 HR hv ht hc hl
      have hn : f.nodes.length = n := by have := R3.len; rwa [raw_len] at this
      have hsl := sup_lt f hf
      have hmr := mix_run f hf a b
      have hml := mix_lt f hf a b
      have hmv := mix_val f hf a b
      have ha1 := and_all a f.vars hf.1
      have ha2 := and_all b f.vars hf.1
      have hcl := cut_mod_lt a f.vars
      have e1 := shl_step f.vars hf.1
      have hp1 := pow_pos2 f.vars
      have hp24 := pow24 hf.1
      have hv64 : f.vars < 64 := by have := hf.1; omega
      have hV1 := fun W (R : RdN W A n c (rawL f.nodes)) => value_ok W f hf A n c R (cut a % 2 ^ f.vars) hcl
      have hV2 := fun W (R : RdN W A n c (rawL f.nodes)) => value_ok W f hf A n c R (mixS f a b) hml
      rw [← hmv] at hV2
      have hsl1 := hsl.1
      obtain ⟨s1_, hs1_⟩ : ∃ s1_, cut a % 2 ^ f.vars = s1_ := ⟨_, rfl⟩
      obtain ⟨s2_, hs2_⟩ : ∃ s2_, mixS f a b = s2_ := ⟨_, rfl⟩
      obtain ⟨b2, hb2⟩ : ∃ b2, cut b % 2 ^ f.vars = b2 := ⟨_, rfl⟩
      obtain ⟨p2, hp2⟩ : ∃ p2, 2 ^ f.vars = p2 := ⟨_, rfl⟩
      rw [hs1_] at hV1 hV2 ha1
      rw [hb2] at ha2 hmr
      rw [hs2_] at hV2 hmr
      rw [hp2] at e1 ha1 ha2 hp1 hp24 hsl1
      obtain ⟨sf, hsf⟩ : ∃ sf, sup f = sf := ⟨_, rfl⟩
      have hSup := fun W (R : RdN W A n c (rawL f.nodes)) => support_ok W f hf A n c R
      rw [hsf] at hSup hmr hsl1
      obtain ⟨vv, hvv⟩ : ∃ vv, val f s1_ = vv := ⟨_, rfl⟩
      rw [hvv] at hV1 hV2
      have hcp := clip_any w3 f.vars hf.1
      have hbe := beq_self vv
      have HV := Lib.hid (And.intro hV1 hV2)
      have HZ := Lib.hid (And.intro ha1 (And.intro ha2 (And.intro hmr (And.intro hsl1 (And.intro hbe hp1)))))
      clear hV1 hV2 hsl hml hmv hcl hs1_ hs2_ hb2 hp2 hsf hvv ha1 ha2 hmr hsl1 hbe
      obtain ⟨s0, s1, s2⟩ := own3 O3
      go_wp2_with fail
      refine hcp.mono ?_
      rintro e w3b ⟨rfl, rfl⟩
      clear hcp
      clear s0 s1 s2
      obtain ⟨s0, s1, s2⟩ := own3 O3
      have hX := hSup w3 R3
      go_wp2_with fail
      refine hX.mono ?_
      rintro e w4 ⟨rfl, P4⟩
      have Pw4 := Pw3.trans P4
      have O4 := O3.on P4
      have R4 := R3.on P4
      clear hX s0 s1 s2 P4 Pw3 O3 R3 
      clear hp1 hp24
      have ha1 := HZ.out.1
      obtain ⟨s0, s1, s2⟩ := own3 O4
      have hX := HV.out.1 w4 R4
      go_wp2_with fail
      refine hX.mono ?_
      rintro e w5 ⟨rfl, P5⟩
      have Pw5 := Pw4.trans P5
      have O5 := O4.on P5
      have R5 := R4.on P5
      clear hX s0 s1 s2 P5 Pw4 O4 R4 
      clear ha1
      have ha2 := HZ.out.2.1
      have hmr := HZ.out.2.2.1
      obtain ⟨s0, s1, s2⟩ := own3 O5
      have hX := HV.out.2 w5 R5
      go_wp2_with fail
      refine hX.mono ?_
      rintro e w6 ⟨rfl, P6⟩
      have Pw6 := Pw5.trans P6
      have O6 := O5.on P6
      have R6 := R5.on P6
      clear hX s0 s1 s2 P6 Pw5 O5 R5 
      clear ha2 hmr
      have hsl1 := HZ.out.2.2.2.1
      have hbe := HZ.out.2.2.2.2.1
      have hp1 := HZ.out.2.2.2.2.2
      have hge : (0 : Int) ≤ (sf : Int) := by omega
      have hle : (sf : Int) ≤ (p2 : Int) - 1 := by omega
      go_wp2
      go_ret
      exact ⟨rfl, Pw6⟩
    · obtain ⟨er, her⟩ : ∃ er, chk vars xs top = er := ⟨_, rfl⟩
      rw [her] at hC2 hc
      rw [errV_pos _ hc] at hC2
      clear her
      have hA2 := fun W => awake_any W
      go_wp2_with fail
      refine hC2.mono ?_
      rintro e w3 ⟨rfl, P3⟩
      clear hC2
      go_wp2_with fail
      refine (hA2 _).mono ?_
      rintro e w4 ⟨rfl, P4⟩
      go_wp2
      go_ret
      exact ⟨rfl, (Pw2.trans P3).trans P4⟩
  · rw [Bool.eq_false_iff.2 hl] at hL1
    have hA2 := fun W => awake_any W
    clear hC
    go_wp2_with fail
    refine hL1.mono ?_
    rintro e w2 ⟨rfl, P2⟩
    clear hL1
    go_wp2_with fail
    refine (hA2 _).mono ?_
    rintro e w3 ⟨rfl, P3⟩
    go_wp2
    go_ret
    exact ⟨rfl, (Pw1.trans P2).trans P3⟩
end Go.Proofs.Ytimigaajhhfbhaa.Fm
