/-
  TruthValues.
-/
import Derived.Test.YtpllgpjplliadaaTe
import Derived.Test.YtpllgpjplliadaaFlm
namespace Go.Proofs.Ytpllgpjplliadaa.Fm
open Go.RowKit Go.Proofs.Ytpllgpjplliadaa.Sb
set_option linter.unusedVariables false
set_option maxRecDepth 100000
set_option maxHeartbeats 16000000 in
theorem ltvaluesT_any (w : World) (vars top : Int) (A : Option Addr) (n c : Nat) (xs : List Nd) (h : RdN w A n c xs) (hv : I64 vars) (ht : I64 top) (x0 : Int) :
    Calls Try.prog 5 #[.agg #[.int .i64 vars, .slice A n c, .int .i64 top], .int .i64 x0] w fun e w' => e = .returned (.bool true) ∧ On w w' := by
  obtain ⟨q, hq⟩ : ∃ q, w.heap.size = q := ⟨_, rfl⟩
  obtain ⟨w0, hw0⟩ : ∃ w0, w.alloc (.cells #[.int .i64 vars, .slice A n c, .int .i64 top] 24) = w0 := ⟨_, rfl⟩
  have O0 : Own w0 q 24 #[.int .i64 vars, .slice A n c, .int .i64 top] := by rw [← hw0, ← hq]; exact Own.new _ _ _
  have P0 : On w w0 := by rw [← hw0]; exact (On.refl w).alloc _
  have hAw := awakeT_any w0
  have hL1 := fun W (k : On w W) => light_any W vars top A n c xs (h.on k)
  have H0 := Lib.hid (And.intro P0 (And.intro hw0 O0))
  clear P0 O0
  go_enter Try.func5, Try.ntmps5
  subst hq
  go_wp2_with fail
  refine hAw.mono ?_
  rintro e w1 ⟨rfl, P1⟩
  have Pw1 := H0.out.1.trans P1
  have O1 := (H0.out.2.2).on P1
  obtain ⟨r0, r1, r2⟩ := own3 O1
  have hl1 := hL1 w1 Pw1
  clear hAw hL1 hw0 H0
  by_cases hb : lightB xs = true
  · rw [hb] at hl1
    go_wp2_with fail
    refine hl1.mono ?_
    rintro e w2 ⟨rfl, P2⟩
    have Pw2 := Pw1.trans P2
    have O2 := O1.on P2
    clear hl1 r0 r1 r2 P2 Pw1 O1 hb
    have R2 := h.on Pw2
    by_cases hc : chkT vars xs top = 0
    · obtain ⟨f, hf, rfl, rfl, rfl, hv12⟩ := chkT_le vars xs top hc
      obtain ⟨m, hm⟩ : ∃ m, 2 ^ f.vars = m := ⟨_, rfl⟩
      have hm12 := pow12 hv12
      rw [hm] at hm12
      have hT := ttab_ok w2 f hf hv12 A n c R2 m hm
      obtain ⟨s0, s1, s2⟩ := own3 O2
      clear hc
      go_wp2_with fail
      refine hT.mono ?_
      rintro e w3 ⟨B, d, rfl, hR, P3⟩
      clear hT s0 s1 s2
      obtain ⟨s0, s1, s2⟩ := own3 (O2.on P3)
      have hcl := fun W => clipT_any W f.vars hv12
      have e1 := shl_step f.vars (by omega)
      rw [hm] at e1
      have hv64 : f.vars < 64 := by omega
      have hcap := hR.cap
      have hmax := hR.max
      have hand := and_all x0 f.vars (by omega)
      rw [hm] at hand
      have hs : cut x0 % m < m := Nat.mod_lt _ (by rw [← hm]; exact Nat.two_pow_pos _)
      obtain ⟨s, hse⟩ : ∃ s, cut x0 % m = s := ⟨_, rfl⟩
      rw [hse] at hand hs
      have hV := fun W (k : On w3 W) => value_ok W f hf A n c ((R2.on P3).on k) s (by rw [hm]; exact hs)
      obtain ⟨ad, rfl, hbb, hcc⟩ := VB_at2 hR hm hs
      obtain ⟨b, hb⟩ : ∃ b, val f s = b := ⟨_, rfl⟩
      rw [hb] at hV hcc
      have hcc2 := fun W (k : On w3 W) => (Below.cell k (p := ad.add s) (by rw [block_of_add]; exact hbb)).trans hcc
      have HV := Lib.hid (And.intro hV (And.intro hcc2 (And.intro (Pw2.trans P3) (O2.on P3))))
      have HA := Lib.hid hand
      clear hV hcc hcc2 hbb hb hse hm hR R2 hand Pw2 O2 P3 hf h hv ht
      go_wp2_with fail
      refine (hcl _).mono ?_
      rintro e w4 ⟨rfl, rfl⟩
      clear hcl
      go_upto_region 9 with fail
      have hand := HA.out
      go_upto_region 10 with fail
      clear e1 hand
      have hV := HV.out.1 w3 (On.refl _)
      go_wp2_with fail
      refine hV.mono ?_
      rintro e w5 ⟨rfl, P5⟩
      have hcc := HV.out.2.1 w5 P5
      clear hV s0 s1 s2
      cases b with
      | true =>
        go_wp2
        go_ret
        exact ⟨rfl, HV.out.2.2.1.trans P5⟩
      | false =>
        go_wp2
        go_ret
        exact ⟨rfl, HV.out.2.2.1.trans P5⟩
    · have hT := ttab_bad w2 vars top A n c xs R2 hv ht hc
      obtain ⟨s0, s1, s2⟩ := own3 O2
      obtain ⟨er, her⟩ : ∃ er, chkT vars xs top = er := ⟨_, rfl⟩
      rw [her] at hT hc
      rw [errV_pos er hc] at hT
      clear her hc
      go_wp2_with fail
      refine hT.mono ?_
      rintro e w3 ⟨B, d, rfl, P3⟩
      go_wp2
      go_ret
      exact ⟨rfl, Pw2.trans P3⟩
  · rw [Bool.eq_false_iff.2 hb] at hl1
    have hA2 := fun W => awakeT_any W
    go_wp2_with fail
    refine hl1.mono ?_
    rintro e w7 ⟨rfl, P7⟩
    clear hl1 r0 r1 r2
    go_wp2_with fail
    refine (hA2 _).mono ?_
    rintro e w8 ⟨rfl, P8⟩
    go_wp2
    go_ret
    exact ⟨rfl, (Pw1.trans P7).trans P8⟩
end Go.Proofs.Ytpllgpjplliadaa.Fm
