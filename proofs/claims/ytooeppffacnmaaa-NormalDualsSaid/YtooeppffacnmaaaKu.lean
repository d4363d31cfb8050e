/-
  The specification of three values: Check, Value, Next.
-/
import Derived.Test.YtooeppffacnmaaaKt
namespace Go.Proofs.Ytooeppffacnmaaa.Fm
open Go.RowKit Go.Proofs.Ytooeppffacnmaaa.Sb
set_option linter.unusedVariables false
set_option maxRecDepth 100000
/-- the error of a cube -/
def cubErr (vars : Nat) (y n : Int) : Nat := if setB vars y = false ∨ setB vars n = false then 3 else if bits .and .i64 y n = 0 then 0 else 6
set_option maxHeartbeats 4000000 in
theorem rtcheck_bad (w : World) (vars top : Int) (A : Option Addr) (n c : Nat) (xs : List Nd) (h : RdN w A n c xs) (hv : I64 vars) (ht : I64 top) (y nn : Int) (hbad : chk vars xs top ≠ 0) :
    Calls Try.prog 47 #[.agg #[.int .i64 vars, .slice A n c, .int .i64 top], cubV y nn] w fun e w' => e = .returned (.int .i64 (chk vars xs top : Nat)) ∧ On w w' := by
  have P0 := ((On.refl w).alloc (.cells #[.int .i64 vars, .slice A n c, .int .i64 top] 24)).alloc (.cells #[.int .i64 y, .int .i64 nn] 36)
  have hC := rcheck_any _ vars top A n c xs (h.on P0) hv ht
  obtain ⟨er, her⟩ : ∃ er, chk vars xs top = er := ⟨_, rfl⟩
  rw [her] at hC hbad ⊢
  have h0 : ¬ (er : Int) = 0 := by omega
  clear her h hv ht hbad
  go_enter Try.func47, Try.ntmps47
  go_wp2_with fail
  refine hC.mono ?_
  rintro e w1 ⟨rfl, P1⟩
  clear hC
  go_wp2
  go_ret
  exact ⟨rfl, P0.trans P1⟩
set_option maxHeartbeats 4000000 in
theorem rtcheck_ok (w : World) (f : Fn) (hf : WF f) (A : Option Addr) (n c : Nat) (h : RdN w A n c (rawL f.nodes)) (y nn : Int) :
    Calls Try.prog 47 #[.agg #[.int .i64 (f.vars : Int), .slice A n c, .int .i64 (f.top : Int)], cubV y nn] w fun e w' => e = .returned (.int .i64 (cubErr f.vars y nn : Nat)) ∧ On w w' := by
  have htop := hf.2.2.2
  have hv24 := hf.1
  have hn128 := hf.2.1
  obtain ⟨q, hq⟩ : ∃ q, w.heap.size = q := ⟨_, rfl⟩
  obtain ⟨w0, hw0⟩ : ∃ w0, (w.alloc (.cells #[.int .i64 (f.vars : Int), .slice A n c, .int .i64 (f.top : Int)] 24)).alloc (.cells #[.int .i64 y, .int .i64 nn] 36) = w0 := ⟨_, rfl⟩
  have O0 : Own w0 q 24 #[.int .i64 (f.vars : Int), .slice A n c, .int .i64 (f.top : Int)] := by rw [← hw0, ← hq]; exact (Own.new _ _ _).alloc _
  have C0 : Own w0 (q + 1) 36 #[.int .i64 y, .int .i64 nn] := by
    rw [← hw0, ← hq]
    have := Own.new (w.alloc (.cells #[.int .i64 (f.vars : Int), .slice A n c, .int .i64 (f.top : Int)] 24)) 36 #[.int .i64 y, .int .i64 nn]
    simpa using this
  have P0 : On w w0 := by rw [← hw0]; exact ((On.refl w).alloc _).alloc _
  have hC := rcheck_any w0 (f.vars : Int) (f.top : Int) A n c _ (h.on P0) (by unfold I64; omega) (by unfold I64; omega)
  rw [chk_ok hf, ← hw0] at hC
  have hS := fun W s => set_any W f.vars hf.1 A n c (f.top : Int) s
  have HO := Lib.hid (And.intro O0 (And.intro C0 (And.intro P0 hw0)))
  unfold cubErr
  clear h hf O0 C0 P0 hw0
  by_cases hy : setB f.vars y = true
  · by_cases hn : setB f.vars nn = true
    · rw [if_neg (by rw [hy, hn]; decide)]
      by_cases h0 : bits .and .i64 y nn = 0
      · rw [if_pos h0]
        go_enter Try.func47, Try.ntmps47
        go_wp2_with fail
        refine hC.mono ?_
        rintro e w1 ⟨rfl, P1⟩
        rw [HO.out.2.2.2] at P1
        clear hC
        obtain ⟨r0, r1, r2⟩ := own3 (HO.out.1.on P1)
        obtain ⟨k0, k1⟩ := own2 (HO.out.2.1.on P1)
        go_wp2_with fail
        refine (hS _ _).mono ?_
        rintro e w2 ⟨rfl, P2⟩
        rw [hy]
        obtain ⟨s0, s1, s2⟩ := own3 (HO.out.1.on (P1.trans P2))
        obtain ⟨l0, l1⟩ := own2 (HO.out.2.1.on (P1.trans P2))
        go_wp2_with fail
        refine (hS _ _).mono ?_
        rintro e w3 ⟨rfl, P3⟩
        rw [hn]
        obtain ⟨m0, m1⟩ := own2 (HO.out.2.1.on ((P1.trans P2).trans P3))
        clear hS r0 r1 r2 k0 k1 s0 s1 s2 l0 l1
        go_wp2
        go_ret
        exact ⟨rfl, ((HO.out.2.2.1.trans P1).trans P2).trans P3⟩
      · rw [if_neg h0]
        go_enter Try.func47, Try.ntmps47
        go_wp2_with fail
        refine hC.mono ?_
        rintro e w1 ⟨rfl, P1⟩
        rw [HO.out.2.2.2] at P1
        clear hC
        obtain ⟨r0, r1, r2⟩ := own3 (HO.out.1.on P1)
        obtain ⟨k0, k1⟩ := own2 (HO.out.2.1.on P1)
        go_wp2_with fail
        refine (hS _ _).mono ?_
        rintro e w2 ⟨rfl, P2⟩
        rw [hy]
        obtain ⟨s0, s1, s2⟩ := own3 (HO.out.1.on (P1.trans P2))
        obtain ⟨l0, l1⟩ := own2 (HO.out.2.1.on (P1.trans P2))
        go_wp2_with fail
        refine (hS _ _).mono ?_
        rintro e w3 ⟨rfl, P3⟩
        rw [hn]
        obtain ⟨m0, m1⟩ := own2 (HO.out.2.1.on ((P1.trans P2).trans P3))
        clear hS r0 r1 r2 k0 k1 s0 s1 s2 l0 l1
        go_wp2
        go_ret
        exact ⟨rfl, ((HO.out.2.2.1.trans P1).trans P2).trans P3⟩
    · rw [if_pos (.inr (Bool.eq_false_iff.2 hn))]
      have hn' := Bool.eq_false_iff.2 hn
      clear hn
      go_enter Try.func47, Try.ntmps47
      go_wp2_with fail
      refine hC.mono ?_
      rintro e w1 ⟨rfl, P1⟩
      rw [HO.out.2.2.2] at P1
      clear hC
      obtain ⟨r0, r1, r2⟩ := own3 (HO.out.1.on P1)
      obtain ⟨k0, k1⟩ := own2 (HO.out.2.1.on P1)
      go_wp2_with fail
      refine (hS _ _).mono ?_
      rintro e w2 ⟨rfl, P2⟩
      rw [hy]
      obtain ⟨s0, s1, s2⟩ := own3 (HO.out.1.on (P1.trans P2))
      obtain ⟨l0, l1⟩ := own2 (HO.out.2.1.on (P1.trans P2))
      go_wp2_with fail
      refine (hS _ _).mono ?_
      rintro e w3 ⟨rfl, P3⟩
      rw [hn']
      clear hS r0 r1 r2 k0 k1 s0 s1 s2 l0 l1
      go_wp2
      go_ret
      exact ⟨rfl, ((HO.out.2.2.1.trans P1).trans P2).trans P3⟩
  · rw [if_pos (.inl (Bool.eq_false_iff.2 hy))]
    have hy' := Bool.eq_false_iff.2 hy
    clear hy
    go_enter Try.func47, Try.ntmps47
    go_wp2_with fail
    refine hC.mono ?_
    rintro e w1 ⟨rfl, P1⟩
    rw [HO.out.2.2.2] at P1
    clear hC
    obtain ⟨r0, r1, r2⟩ := own3 (HO.out.1.on P1)
    obtain ⟨k0, k1⟩ := own2 (HO.out.2.1.on P1)
    go_wp2_with fail
    refine (hS _ _).mono ?_
    rintro e w2 ⟨rfl, P2⟩
    rw [hy']
    clear hS r0 r1 r2 k0 k1
    go_wp2
    go_ret
    exact ⟨rfl, (HO.out.2.2.1.trans P1).trans P2⟩
/-- a cube without error -/
theorem cub_zero {vars : Nat} (hv : vars ≤ 24) {y n : Int} (h : cubErr vars y n = 0) : ∃ a b : Nat, y = (a : Int) ∧ n = (b : Int) ∧ a < 2 ^ vars ∧ b < 2 ^ vars ∧ Dis a b := by
  unfold cubErr at h
  split at h
  · omega
  rename_i h1
  split at h
  · rename_i h2
    have hy : setB vars y = true := by
      cases e : setB vars y with
      | true => rfl
      | false => exact absurd (.inl e) h1
    have hn : setB vars n = true := by
      cases e : setB vars n with
      | true => rfl
      | false => exact absurd (.inr e) h1
    obtain ⟨a, rfl, ha⟩ := setB_nat hy
    obtain ⟨b, rfl, hb⟩ := setB_nat hn
    have h24 := pow24 hv
    rw [and_nat a b (by omega) (by omega)] at h2
    refine ⟨a, b, rfl, rfl, ha, hb, fun i ⟨h3, h4⟩ => ?_⟩
    have h5 : (a &&& b).testBit i = true := by rw [Nat.testBit_and, h3, h4]; rfl
    have h6 : a &&& b = 0 := by omega
    rw [h6] at h5
    simp at h5
  · omega
end Go.Proofs.Ytooeppffacnmaaa.Fm
