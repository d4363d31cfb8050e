/-
  The specification's Parts, Neg, Abs; the program's Neg, Abs.
-/
import Derived.Test.YtkchpagjkgmpmaaGreatRcom
namespace Go.Proofs.YtkchpagjkgmpmaaGreat
open Go.RowKit
set_option linter.unusedVariables false
namespace Num
/-- sign, numerator and denominator of r -/
def PartsPost (w : World) (r : Rat) (L : Nat) (e : Ending) (w' : World) : Prop := ∃ (A : Option Addr) (n c : Nat) (A' : Option Addr) (n' c' : Nat) (xs ys : List Nat), e = .returned (.tuple #[.bool (decide (r < 0)), .slice A n c, .slice A' n' c']) ∧ Rd w' A n c xs ∧ Rd w' A' n' c' ys ∧ Clean xs ∧ n ≤ L ∧ n' ≤ L ∧ val xs = r.num.natAbs ∧ val ys = r.den ∧ On w w'
theorem raw_fit_zero {s : Bool} {xs ys : List Nat} (h : fitB s xs ys = false ∨ xs = []) : raw s xs ys = 0 := by
  rcases h with h | h
  · exact raw_no h
  · subst h; exact raw_nil _ _
theorem neg_zero_lt : decide ((0 : Rat) < 0) = false := by decide
set_option maxRecDepth 100000 in
set_option maxHeartbeats 1600000 in
theorem parts_any (w : World) (v : Value) (r : Rat) (L : Nat) (h : Fld w v r L) (hL1 : 1 ≤ L) (hL : L ≤ 5000) :
    Calls Tryz.prog 81 #[v] w (PartsPost w r L) := by
  obtain ⟨s, A, n, c, A', n', c', xs, ys, rfl, R, R', h1, h2, hr⟩ := h
  have hcap := R.cap
  have hmax := R.max
  have B := (On.refl w).alloc (.cells #[.bool s, .slice A n c, .slice A' n' c'] 24)
  have OB1 : w.heap.size ≤ w.heap.size ∧ _ := ⟨Nat.le_refl _, Own.new w 24 #[.bool s, .slice A n c, .slice A' n' c']⟩
  cases hf : fitB s xs ys
  · have hr0 : r = 0 := by rw [← hr]; exact raw_fit_zero (.inl hf)
    subst hr0
    have HF := Lib.hid hf
    clear hf hr
    go_enter Tryz.func81, Tryz.ntmps81
    go_wp2_with fail
    refine (rvalid_any _ _ _ _ _ _ _ _ _ _ (R.on B) (R'.on B) (by omega) (by omega)).mono ?_
    rintro e w1 ⟨rfl, P1⟩
    rw [HF.out]
    go_wp2
    have PQ := (On.refl w1).alloc (.cells #[.int .u32 1] 66)
    refine bodyPost_ret (v := .tuple #[.bool false, .slice none 0 0, .slice (some ⟨w1.heap.size, 0, none⟩) 1 1]) (by simp [results, Tryz.results81, go_sem]) rfl ⟨none, 0, 0, some ⟨w1.heap.size, 0, none⟩, 1, 1, [], [1], by rw [neg_zero_lt], Rd.nil_, rd_one w1 66 1 (by decide), clean_nil, by omega, by omega, rfl, rfl, (B.trans P1).trans PQ⟩
  · have HF := Lib.hid hf
    by_cases h0 : n = 0
    · subst h0
      obtain rfl := List.eq_nil_of_length_eq_zero R.len
      have hr0 : r = 0 := by rw [← hr]; exact raw_nil _ _
      subst hr0
      clear hf hr
      go_enter Tryz.func81, Tryz.ntmps81
      go_wp2_with fail
      refine (rvalid_any _ _ _ _ _ _ _ _ _ _ (R.on B) (R'.on B) (by omega) (by omega)).mono ?_
      rintro e w1 ⟨rfl, P1⟩
      rw [HF.out]
      have a1 : w1.cell? ⟨w.heap.size, 1, none⟩ = some (.slice A 0 c) := (OB1.2.on P1).cell 1
      go_wp2
      have PQ := (On.refl w1).alloc (.cells #[.int .u32 1] 66)
      refine bodyPost_ret (v := .tuple #[.bool false, .slice none 0 0, .slice (some ⟨w1.heap.size, 0, none⟩) 1 1]) (by simp [results, Tryz.results81, go_sem]) rfl ⟨none, 0, 0, some ⟨w1.heap.size, 0, none⟩, 1, 1, [], [1], by rw [neg_zero_lt], Rd.nil_, rd_one w1 66 1 (by decide), clean_nil, by omega, by omega, rfl, rfl, (B.trans P1).trans PQ⟩
    · have hxp : 0 < xs.length := by rw [R.len]; omega
      obtain ⟨C, C', p1, p2, p3⟩ := fit_parts hf hxp
      have hr' : r = fr s (val xs) (val ys) := by rw [← hr]; exact raw_fit hf hxp
      have hs : decide (r < 0) = s := by rw [hr']; exact fr_sign s _ _ p2 p1
      have hv1 : val xs = r.num.natAbs := by rw [hr', fr_abs s _ _ p2, p3, Nat.div_one]
      have hv2 : val ys = r.den := by rw [hr', fr_den s _ _ p2, p3, Nat.div_one]
      have hb0 : ((n : Int) == 0) = false := by simp; omega
      have H1 := Lib.hid hv1
      have H2 := Lib.hid hv2
      rw [show PartsPost w r L = PartsPost w r L from rfl]
      have HS := Lib.hid hs
      clear hf hr hr' hs hv1 hv2 p1 p2 p3 h0
      go_enter Tryz.func81, Tryz.ntmps81
      go_wp2_with fail
      refine (rvalid_any _ _ _ _ _ _ _ _ _ _ (R.on B) (R'.on B) (by omega) (by omega)).mono ?_
      rintro e w1 ⟨rfl, P1⟩
      rw [HF.out]
      have a0 : w1.cell? ⟨w.heap.size, 0, none⟩ = some (.bool s) := (OB1.2.on P1).cell 0
      have a1 : w1.cell? ⟨w.heap.size, 1, none⟩ = some (.slice A n c) := (OB1.2.on P1).cell 1
      have a2 : w1.cell? ⟨w.heap.size, 2, none⟩ = some (.slice A' n' c') := (OB1.2.on P1).cell 2
      go_wp2
      go_quiet (fail)
      go_wp2
      have BQ := B.trans (P1.drewN nq)
      refine bodyPost_ret (v := .tuple #[.bool s, .slice A n c, .slice A' n' c']) (by simp [results, Tryz.results81, go_sem]) rfl ⟨A, n, c, A', n', c', xs, ys, by rw [HS.out], R.on BQ, R'.on BQ, C, h1, h2, H1.out, H2.out, BQ⟩
end Num
end Go.Proofs.YtkchpagjkgmpmaaGreat
