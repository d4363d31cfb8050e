/-
  The program's three values: either, valueOf, decide.
-/
import Derived.Test.YtcnelmklfdfilaaKa
namespace Go.Proofs.Ytcnelmklfdfilaa.Fm
open Go.RowKit Go.Proofs.Ytcnelmklfdfilaa.Sb
set_option linter.unusedVariables false
set_option maxRecDepth 100000
theorem either_any (w : World) (a b : Bool) : Calls Try.prog 45 #[.bool a, .bool b] w fun e w' => e = .returned (.int .i64 (truthN a b : Nat)) ∧ w = w' := by
  cases a with
  | true =>
    go_enter Try.func45, Try.ntmps45
    go_wp2
    go_ret
    exact ⟨rfl, rfl⟩
  | false =>
    cases b with
    | true =>
      go_enter Try.func45, Try.ntmps45
      go_wp2
      go_ret
      exact ⟨rfl, rfl⟩
    | false =>
      go_enter Try.func45, Try.ntmps45
      go_wp2
      go_ret
      exact ⟨rfl, rfl⟩
set_option maxHeartbeats 2000000 in
theorem tof_any (w : World) (vars : Nat) (top : Int) (A : Option Addr) (n c : Nat) (B : Option Addr) (m d : Nat) (vs : List Nat) (y nn a : Nat) (h : Rd w B m d (VI (ints vs))) (hy : y < 16777216) (hnn : nn < 16777216) (hv : vars ≤ 24) (ha : a < vars + m) :
    Calls Try.prog 29 #[.agg #[.int .i64 (vars : Int), .slice A n c, .int .i64 top], cubV (y : Int) (nn : Int), .slice B m d, .int .i64 (a : Int)] w fun e w' => e = .returned (.int .i64 (argT vars vs y nn a : Nat)) ∧ On w w' := by
  have hcap := h.cap
  have hmax := h.max
  have hl : vs.length = m := by have := VI_len h; rwa [ints_length] at this
  unfold argT argE
  by_cases h1 : a < vars
  · rw [if_pos h1]
    have h24 : a < 64 := by omega
    have hge : ¬ (vars : Int) ≤ (a : Int) := by omega
    have t1 := tb_val y a hy
    have t2 := tb_val nn a hnn
    clear h
    unfold evC
    cases hb1 : y.testBit a with
    | true =>
      rw [hb1] at t1
      clear hb1 t2
      go_enter Try.func29, Try.ntmps29
      go_wp2
      go_ret
      exact ⟨rfl, ((On.refl w).alloc _).alloc _⟩
    | false =>
      rw [hb1] at t1
      clear hb1
      cases hb2 : nn.testBit a with
      | true =>
        rw [hb2] at t2
        clear hb2
        go_enter Try.func29, Try.ntmps29
        go_wp2
        go_ret
        exact ⟨rfl, ((On.refl w).alloc _).alloc _⟩
      | false =>
        rw [hb2] at t2
        clear hb2
        go_enter Try.func29, Try.ntmps29
        go_wp2
        go_ret
        exact ⟨rfl, ((On.refl w).alloc _).alloc _⟩
  · rw [if_neg h1]
    obtain ⟨j, rfl⟩ : ∃ j, a = vars + j := ⟨a - vars, by omega⟩
    rw [Nat.add_sub_cancel_left]
    have hp := ((On.refl w).alloc (.cells #[.int .i64 (vars : Int), .slice A n c, .int .i64 top] 24)).alloc (.cells #[.int .i64 (y : Int), .int .i64 (nn : Int)] 26)
    obtain ⟨ad, rfl, hb, hc⟩ := VI_at (h.on hp) (j := j) (by omega)
    rw [ints_getD (by omega)] at hc
    obtain ⟨b, hbv⟩ : ∃ b, vs.getD j 0 = b := ⟨_, rfl⟩
    rw [hbv] at hc ⊢
    clear hbv h hp
    have e2 : (vars : Int) + (j : Int) - (vars : Int) = (j : Int) := by omega
    have hge : (vars : Int) ≤ (vars : Int) + (j : Int) := by omega
    go_enter Try.func29, Try.ntmps29
    go_wp2
    go_ret
    exact ⟨rfl, ((On.refl w).alloc _).alloc _⟩
set_option maxHeartbeats 4000000 in
/-- the value of a node of whose arguments c0 are false and c1 true -/
theorem tdecide_any (w : World) (x : Nn) (P : Option Addr) (m k : Nat) (c0 c1 cu : Nat) (hm : x.args.length = m) (h5 : x.kind ≤ 5) (hk0 : x.kind = 0 → x.k ≤ 1) (hkm : x.k ≤ 16) (hc : c0 + c1 + cu = m) (hm16 : m ≤ 16) :
    Calls Try.prog 31 #[.agg #[.int .i64 (x.kind : Int), .int .i64 (x.k : Int), .slice P m k], .int .i64 (c0 : Int), .int .i64 (c1 : Int)] w fun e w' => e = .returned (.int .i64 (decT x.kind x.k m c0 c1 cu : Nat)) ∧ On w w' := by
  obtain ⟨kind, kk, args⟩ := x
  simp only at *
  clear hm
  have hE := fun W a b => either_any W a b
  have : kind = 0 ∨ kind = 1 ∨ kind = 2 ∨ kind = 3 ∨ kind = 4 ∨ kind = 5 := by omega
  rcases this with rfl | rfl | rfl | rfl | rfl | rfl
  · have hk1 := hk0 rfl
    have e0 : decT 0 kk m c0 c1 cu = kk := by
      have : kk = 0 ∨ kk = 1 := by omega
      rcases this with rfl | rfl <;> rfl
    rw [e0]
    clear hk0 e0 hE
    go_enter Try.func31, Try.ntmps31
    go_wp2
    go_ret
    exact ⟨rfl, (On.refl w).alloc _⟩
  · have e0 : decT 1 kk m c0 c1 cu = truthN (decide (c0 = 1)) (decide (c1 = 1)) := rfl
    rw [e0]
    have h0 : On w _ := (On.refl w).alloc (.cells #[.int .i64 1, .int .i64 (kk : Int), .slice P m k] 57)
    clear hk0 e0
    go_enter Try.func31, Try.ntmps31
    go_wp2_with (refine (hE _ _ _).mono ?_; rintro e w5 ⟨rfl, rfl⟩)
    go_ret
    refine ⟨congrArg (fun n => Ending.returned (Value.int .i64 n)) (truthN_cast ?_ ?_), h0⟩
    · first | rfl | (rw [Bool.eq_iff_iff]; simp; done) | (rw [Bool.eq_iff_iff]; simp; omega) | (simp; done) | (simp; omega)
    · first | rfl | (rw [Bool.eq_iff_iff]; simp; done) | (rw [Bool.eq_iff_iff]; simp; omega) | (simp; done) | (simp; omega)
  · have e0 : decT 2 kk m c0 c1 cu = truthN (decide (c1 = m)) (decide (0 < c0)) := rfl
    rw [e0]
    have h0 : On w _ := (On.refl w).alloc (.cells #[.int .i64 2, .int .i64 (kk : Int), .slice P m k] 57)
    clear hk0 e0
    go_enter Try.func31, Try.ntmps31
    go_wp2_with (refine (hE _ _ _).mono ?_; rintro e w5 ⟨rfl, rfl⟩)
    go_ret
    refine ⟨congrArg (fun n => Ending.returned (Value.int .i64 n)) (truthN_cast ?_ ?_), h0⟩
    · first | rfl | (rw [Bool.eq_iff_iff]; simp; done) | (rw [Bool.eq_iff_iff]; simp; omega) | (simp; done) | (simp; omega)
    · first | rfl | (rw [Bool.eq_iff_iff]; simp; done) | (rw [Bool.eq_iff_iff]; simp; omega) | (simp; done) | (simp; omega)
  · have e0 : decT 3 kk m c0 c1 cu = truthN (decide (0 < c1)) (decide (c0 = m)) := rfl
    rw [e0]
    have h0 : On w _ := (On.refl w).alloc (.cells #[.int .i64 3, .int .i64 (kk : Int), .slice P m k] 57)
    clear hk0 e0
    go_enter Try.func31, Try.ntmps31
    go_wp2_with (refine (hE _ _ _).mono ?_; rintro e w5 ⟨rfl, rfl⟩)
    go_ret
    refine ⟨congrArg (fun n => Ending.returned (Value.int .i64 n)) (truthN_cast ?_ ?_), h0⟩
    · first | rfl | (rw [Bool.eq_iff_iff]; simp; done) | (rw [Bool.eq_iff_iff]; simp; omega) | (simp; done) | (simp; omega)
    · first | rfl | (rw [Bool.eq_iff_iff]; simp; done) | (rw [Bool.eq_iff_iff]; simp; omega) | (simp; done) | (simp; omega)
  · have e0 : decT 4 kk m c0 c1 cu = truthN (decide (kk ≤ c1)) (decide (m < kk + c0)) := rfl
    rw [e0]
    have h0 : On w _ := (On.refl w).alloc (.cells #[.int .i64 4, .int .i64 (kk : Int), .slice P m k] 57)
    clear hk0 e0
    go_enter Try.func31, Try.ntmps31
    go_wp2_with (refine (hE _ _ _).mono ?_; rintro e w5 ⟨rfl, rfl⟩)
    go_ret
    refine ⟨congrArg (fun n => Ending.returned (Value.int .i64 n)) (truthN_cast ?_ ?_), h0⟩
    · first | rfl | (rw [Bool.eq_iff_iff]; simp; done) | (rw [Bool.eq_iff_iff]; simp; omega) | (simp; done) | (simp; omega)
    · first | rfl | (rw [Bool.eq_iff_iff]; simp; done) | (rw [Bool.eq_iff_iff]; simp; omega) | (simp; done) | (simp; omega)
  · have e0 : decT 5 kk m c0 c1 cu = truthN (decide (cu = 0) && decide (c1 % 2 = 1)) (decide (cu = 0) && decide (c1 % 2 = 0)) := by
      show truthN (decide (cu = 0) && decide (c1 % 2 = 1)) (decide (cu = 0)) = _
      by_cases h1 : cu = 0 <;> by_cases h2 : c1 % 2 = 1 <;> simp [h1, h2, truthN] <;> omega
    rw [e0]
    have h0 : On w _ := (On.refl w).alloc (.cells #[.int .i64 5, .int .i64 (kk : Int), .slice P m k] 57)
    clear hk0 e0
    by_cases hz : cu = 0
    · subst hz
      have hkn : ((c0 : Int) + (c1 : Int) = (m : Int)) := by omega
      go_enter Try.func31, Try.ntmps31
      go_wp2_with (refine (hE _ _ _).mono ?_; rintro e w5 ⟨rfl, rfl⟩)
      go_ret
      refine ⟨congrArg (fun n => Ending.returned (Value.int .i64 n)) (truthN_cast ?_ ?_), h0⟩
      · first | rfl | (rw [Bool.eq_iff_iff]; simp; done) | (rw [Bool.eq_iff_iff]; simp; omega) | (simp; done) | (simp; omega)
      · first | rfl | (rw [Bool.eq_iff_iff]; simp; done) | (rw [Bool.eq_iff_iff]; simp; omega) | (simp; done) | (simp; omega)
    · have hkn : ¬ ((c0 : Int) + (c1 : Int) = (m : Int)) := by omega
      have hkb : (((c0 : Int) + (c1 : Int)) == (m : Int)) = false := by simp; omega
      go_enter Try.func31, Try.ntmps31
      go_wp2_with (refine (hE _ _ _).mono ?_; rintro e w5 ⟨rfl, rfl⟩)
      go_ret
      refine ⟨congrArg (fun n => Ending.returned (Value.int .i64 n)) (truthN_cast ?_ ?_), h0⟩
      · first | rfl | (rw [Bool.eq_iff_iff]; simp; done) | (rw [Bool.eq_iff_iff]; simp; omega) | (simp; done) | (simp; omega)
      · first | rfl | (rw [Bool.eq_iff_iff]; simp; done) | (rw [Bool.eq_iff_iff]; simp; omega) | (simp; done) | (simp; omega)
end Go.Proofs.Ytcnelmklfdfilaa.Fm
