/-
  Two formulas: which error, whether one is accepted.
-/
import Derived.Test.YtpllgpjplliadaaTm
namespace Go.Proofs.Ytpllgpjplliadaa.Fm
open Go.RowKit Go.Proofs.Ytpllgpjplliadaa.Sb
set_option linter.unusedVariables false
set_option maxRecDepth 100000
theorem errE_zero {vars top vars2 top2 : Int} {xs xs2 : List Nd} (h : errE vars xs top vars2 xs2 top2 = 0) : ∃ f f2 : Fn, WF f ∧ WF f2 ∧ vars = (f.vars : Int) ∧ xs = rawL f.nodes ∧ top = (f.top : Int) ∧ vars2 = (f2.vars : Int) ∧ xs2 = rawL f2.nodes ∧ top2 = (f2.top : Int) ∧ f.vars ≤ 12 ∧ f2.vars = f.vars := by
  unfold errE at h
  by_cases h1 : chk vars xs top ≠ 0
  · rw [if_pos h1] at h; exact absurd h h1
  rw [if_neg h1] at h
  by_cases h2 : chk vars2 xs2 top2 ≠ 0
  · rw [if_pos h2] at h; exact absurd h h2
  rw [if_neg h2] at h
  by_cases h3 : vars = vars2
  · rw [if_pos h3] at h
    by_cases h4 : 12 < vars
    · rw [if_pos h4] at h; omega
    · obtain ⟨f, hf, rfl, rfl, rfl⟩ := chk_zero (Classical.not_not.1 h1)
      obtain ⟨f2, hf2, rfl, rfl, rfl⟩ := chk_zero (Classical.not_not.1 h2)
      exact ⟨f, f2, hf, hf2, rfl, rfl, rfl, rfl, rfl, rfl, by omega, by omega⟩
  · rw [if_neg h3] at h; omega
set_option maxHeartbeats 4000000 in
theorem fit_any (w : World) (vars top : Int) (A : Option Addr) (n c : Nat) (xs : List Nd) (h : RdN w A n c xs) (hv : I64 vars) (ht : I64 top) :
    Calls Try.prog 32 #[.agg #[.int .i64 vars, .slice A n c, .int .i64 top]] w fun e w' => e = .returned (.bool (decide (chkT vars xs top = 0))) ∧ On w w' := by
  have P0 := (On.refl w).alloc (.cells #[.int .i64 vars, .slice A n c, .int .i64 top] 24)
  have hC := rchkT_any _ vars top A n c xs (h.on P0) hv ht
  obtain ⟨er, her⟩ : ∃ er, chkT vars xs top = er := ⟨_, rfl⟩
  rw [her] at hC ⊢
  clear her h hv ht
  by_cases hz : er = 0
  · subst hz
    rw [decide_eq_true rfl]
    go_enter Try.func32, Try.ntmps32
    go_wp2_with fail
    refine hC.mono ?_
    rintro e w1 ⟨rfl, P1⟩
    clear hC
    go_wp2
    go_ret
    exact ⟨rfl, P0.trans P1⟩
  · rw [decide_eq_false hz]
    have h0 : ¬ (er : Int) = 0 := by omega
    have hb : ((er : Int) == 0) = false := by rw [beq_eq_false_iff_ne]; exact h0
    go_enter Try.func32, Try.ntmps32
    go_wp2_with fail
    refine hC.mono ?_
    rintro e w1 ⟨rfl, P1⟩
    clear hC
    go_wp2
    go_ret
    exact ⟨by first | rfl | simp_all, P0.trans P1⟩
theorem wrap_nat (k : Nat) (h : k ≤ 1000000) : wrap64 (k : Int) = (k : Int) := by unfold wrap64; omega
theorem ch_run (ch v t : Nat) (h1 : ch ≤ 4096) (h2 : v ≤ 12) (h3 : t ≤ v) : wrap64 ((wrap64 ((ch : Int) * ((v : Int) - (t : Int)))).tdiv ((t : Int) + 1)) = ((ch * (v - t) / (t + 1) : Nat) : Int) := by
  have e1 : ((v : Int) - (t : Int)) = ((v - t : Nat) : Int) := by omega
  have e2 : (ch : Int) * ((v - t : Nat) : Int) = ((ch * (v - t) : Nat) : Int) := by push_cast; rfl
  have hb : ch * (v - t) ≤ 4096 * 12 := Nat.mul_le_mul h1 (by omega)
  rw [e1, e2, wrap_nat _ (by omega)]
  have e3 : ((t : Int) + 1) = ((t + 1 : Nat) : Int) := by omega
  have e4 : ((ch * (v - t) : Nat) : Int).tdiv ((t + 1 : Nat) : Int) = ((ch * (v - t) / (t + 1) : Nat) : Int) := rfl
  rw [e3, e4]
  exact wrap_nat _ (Nat.le_trans (Nat.div_le_self _ _) (by omega))
end Go.Proofs.Ytpllgpjplliadaa.Fm
