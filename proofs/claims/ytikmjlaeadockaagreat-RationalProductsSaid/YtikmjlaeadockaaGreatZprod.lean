/-
  RationalProducts, walked.
-/
import Derived.Test.YtikmjlaeadockaaGreatZrpow
namespace Go.Proofs.YtikmjlaeadockaaGreat
open Go.RowKit
set_option linter.unusedVariables false
namespace Num
theorem RatPost2.wide {w : World} {r : Rat} {L M : Nat} {er : Value} {e : Ending} {w' : World} (h : RatPost2 w r L er e w') (k : L ≤ M) : RatPost2 w r M er e w' := by
  obtain ⟨v, h1, h2, h3⟩ := h
  exact ⟨v, h1, h2.wide k, h3⟩
theorem div_twin (r q : Rat) (L M : Nat) (hL2 : 2 ≤ L) (hL : L ≤ 1000) (hM : L + L = M) : ∃ (p : Rat) (er : Value) (z : Int), (∀ w v v', Fld w v r L → Fld w v' q L → Calls Tryz.prog 18 #[v, v'] w (RatPost2 w p M er)) ∧ (∀ w v v', Fld w v r L → Fld w v' q L → Calls Tryz.prog 19 #[v, v'] w (RatPost2 w p M (.int .i64 z))) ∧ ∀ w, Calls Tryz.prog 22 #[er] w fun e w' => e = .returned (.int .i64 z) ∧ w = w' := by
  subst hM
  by_cases hq : q = 0
  · exact ⟨0, _, 8, fun w v v' h k => divr_zero w v v' r q L h k hL2 (by omega) hq, fun w v v' h k => sdiv_zero w v v' r q L h k hL2 hL hq, fun w => num_err w 8⟩
  · exact ⟨_, _, 0, fun w v v' h k => divr_ok w v v' r q L h k hL2 (by omega) hq, fun w v v' h k => sdiv_ok w v v' r q L h k hL2 hL hq, fun w => num_nil w⟩
theorem pow_twin (r : Rat) (L : Nat) (a : Int) (hL1 : 1 ≤ L) (hL : L ≤ 12) (ha : a < -64 ∨ 64 < a ∨ (a.natAbs ≤ 64 ∧ L * a.natAbs < 193)) : ∃ (p : Rat) (er : Value) (z : Int), (∀ w v, Fld w v r L → Calls Tryz.prog 23 #[v, .int .i64 a] w (RatPost2 w p 386 er)) ∧ (∀ w v, Fld w v r L → Calls Tryz.prog 24 #[v, .int .i64 a] w (RatPost2 w p 386 (.int .i64 z))) ∧ ∀ w, Calls Tryz.prog 22 #[er] w fun e w' => e = .returned (.int .i64 z) ∧ w = w' := by
  by_cases hr : a < -64 ∨ 64 < a
  · exact ⟨0, _, 3, fun w v h => (ppow_range w v r L h a hr).mono fun e w' h => h.wide (by decide), fun w v h => (spow_range w v r L h a hr).mono fun e w' h => h.wide (by decide), fun w => num_err w 3⟩
  · have hm : a.natAbs ≤ 64 ∧ L * a.natAbs < 193 := by omega
    obtain ⟨h64, hLm⟩ := hm
    obtain ⟨m, hmm⟩ : ∃ m, a.natAbs = m := ⟨_, rfl⟩
    rw [hmm] at h64 hLm
    by_cases h0 : a = 0
    · subst h0
      obtain rfl : m = 0 := by rw [← hmm]; rfl
      exact ⟨r ^ 0, _, 0, fun w v h => (ppow_one w v r L h hL1 hL 0 h64 hLm).mono fun e w' h => h.wide (by decide), fun w v h => (spow_pos w v r L h hL1 hL 0 h64 hLm).mono fun e w' h => h.wide (by decide), fun w => num_nil w⟩
    · have hm0 : 0 < m := by omega
      by_cases hp : 0 < a
      · obtain rfl : a = (m : Int) := by omega
        by_cases hz : r = 0
        · refine ⟨0, _, 0, fun w v h => (ppow_zpos w v r L h hL1 hL m h64 hLm hm0 hz).mono fun e w' h => h.wide (by decide), fun w v h => (spow_pos w v r L h hL1 hL m h64 hLm).mono fun e w' h => ?_, fun w => num_nil w⟩
          rw [hz, zero_pow' hm0] at h
          exact h.wide (by decide)
        · cases hs : decide (r < 0)
          · exact ⟨r ^ m, _, 0, fun w v h => (ppow_pos0 w v r L h hL1 hL m h64 hLm hm0 hz hs).mono fun e w' h => h.wide (by decide), fun w v h => (spow_pos w v r L h hL1 hL m h64 hLm).mono fun e w' h => h.wide (by decide), fun w => num_nil w⟩
          · exact ⟨r ^ m, _, 0, fun w v h => (ppow_pos1 w v r L h hL1 hL m h64 hLm hm0 hz hs).mono fun e w' h => h.wide (by decide), fun w v h => (spow_pos w v r L h hL1 hL m h64 hLm).mono fun e w' h => h.wide (by decide), fun w => num_nil w⟩
      · obtain rfl : a = -(m : Int) := by omega
        by_cases hz : r = 0
        · exact ⟨0, _, 8, fun w v h => (ppow_zneg w v r L h hL1 hL m h64 hLm hm0 hz).mono fun e w' h => h.wide (by decide), fun w v h => spow_nez w v r L h hL1 hL m h64 hLm hm0 hz, fun w => num_err w 8⟩
        · cases hs : decide (r⁻¹ < 0)
          · exact ⟨(r ^ m)⁻¹, _, 0, fun w v h => (ppow_neg0 w v r L h hL1 hL m h64 hLm hm0 hz hs).mono fun e w' h => by rw [inv_pow' r hz] at h; exact h.wide (by decide), fun w v h => spow_neg w v r L h hL1 hL m h64 hLm hm0 hz, fun w => num_nil w⟩
          · exact ⟨(r ^ m)⁻¹, _, 0, fun w v h => (ppow_neg1 w v r L h hL1 hL m h64 hLm hm0 hz hs).mono fun e w' h => by rw [inv_pow' r hz] at h; exact h.wide (by decide), fun w v h => spow_neg w v r L h hL1 hL m h64 hLm hm0 hz, fun w => num_nil w⟩
set_option maxRecDepth 100000 in
set_option maxHeartbeats 1600000 in
theorem products_large (w : World) (hx : MX w) (b0 : Bool) (A0 D0 : Option Addr) (n0 c0 m0 e0 : Nat) (x0 y0 : List Nat) (R0 : Rd w A0 n0 c0 x0) (S0 : Rd w D0 m0 e0 y0) (b1 : Bool) (A1 D1 : Option Addr) (n1 c1 m1 e1 : Nat) (x1 y1 : List Nat) (R1 : Rd w A1 n1 c1 x1) (S1 : Rd w D1 m1 e1 y1) (a : Int) (ha0 : -9223372036854775808 ≤ a) (ha1 : a ≤ 9223372036854775807) (mi : Nat) (qi : Nat × Nat) (hmi : [(n0, m0), (n1, m1)][mi]? = some qi) (hyi : 12 < qi.1 ∨ 12 < qi.2) :
    Calls Tryz.prog 4 #[.agg #[.bool b0, .slice A0 n0 c0, .slice D0 m0 e0], .agg #[.bool b1, .slice A1 n1 c1, .slice D1 m1 e1], .int .i64 a] w fun e w' => e = .returned (.bool true) ∧ On w w' := by
  have HMI := Lib.hid hmi
  have HYI := Lib.hid hyi
  clear hmi hyi
  have B : On w ((w.alloc (.cells #[.bool b0, .slice A0 n0 c0, .slice D0 m0 e0] 24)).alloc (.cells #[.bool b1, .slice A1 n1 c1, .slice D1 m1 e1] 24)) := On.alloc (On.alloc (On.refl w) _) _
  have OB3 : w.heap.size ≤ w.heap.size ∧ Own ((w.alloc (.cells #[.bool b0, .slice A0 n0 c0, .slice D0 m0 e0] 24)).alloc (.cells #[.bool b1, .slice A1 n1 c1, .slice D1 m1 e1] 24)) (w.heap.size) 24 #[.bool b0, .slice A0 n0 c0, .slice D0 m0 e0] := ⟨by omega, ((Own.at_ w (w.heap.size) (by simp) 24 #[.bool b0, .slice A0 n0 c0, .slice D0 m0 e0]).alloc (.cells #[.bool b1, .slice A1 n1 c1, .slice D1 m1 e1] 24))⟩
  have OB4 : w.heap.size ≤ w.heap.size + 1 ∧ Own ((w.alloc (.cells #[.bool b0, .slice A0 n0 c0, .slice D0 m0 e0] 24)).alloc (.cells #[.bool b1, .slice A1 n1 c1, .slice D1 m1 e1] 24)) (w.heap.size + 1) 24 #[.bool b1, .slice A1 n1 c1, .slice D1 m1 e1] := ⟨by omega, (Own.at_ (w.alloc (.cells #[.bool b0, .slice A0 n0 c0, .slice D0 m0 e0] 24)) (w.heap.size + 1) (by simp) 24 #[.bool b1, .slice A1 n1 c1, .slice D1 m1 e1])⟩
  go_enter Tryz.func4, Tryz.ntmps4
  go_wp2_with fail
  refine (awake02 _ (hx.on B)).mono ?_
  rintro e w1 ⟨rfl, P1⟩
  replace OB3 := And.intro OB3.1 (OB3.2.on P1)
  replace OB4 := And.intro OB4.1 (OB4.2.on P1)
  replace B := B.trans P1
  have y3_0 : w1.cell? ⟨w.heap.size, 0, none⟩ = some (.bool b0) := OB3.2.cell 0
  have y3_1 : w1.cell? ⟨w.heap.size, 1, none⟩ = some (.slice A0 n0 c0) := OB3.2.cell 1
  have y3_2 : w1.cell? ⟨w.heap.size, 2, none⟩ = some (.slice D0 m0 e0) := OB3.2.cell 2
  have y3_f0 := OB3.2.frozen 0
  have y3_f1 := OB3.2.frozen 1
  have y3_f2 := OB3.2.frozen 2
  have y4_0 : w1.cell? ⟨w.heap.size + 1, 0, none⟩ = some (.bool b1) := OB4.2.cell 0
  have y4_1 : w1.cell? ⟨w.heap.size + 1, 1, none⟩ = some (.slice A1 n1 c1) := OB4.2.cell 1
  have y4_2 : w1.cell? ⟨w.heap.size + 1, 2, none⟩ = some (.slice D1 m1 e1) := OB4.2.cell 2
  have y4_f0 := OB4.2.frozen 0
  have y4_f1 := OB4.2.frozen 1
  have y4_f2 := OB4.2.frozen 2
  go_wp2_with fail
  clear y3_0 y3_f0 y3_1 y3_f1 y3_2 y3_f2
  clear y4_0 y4_f0 y4_1 y4_f1 y4_2 y4_f2
  have B1 := (On.refl w1).alloc (.cells #[.bool b0, .slice A0 n0 c0, .slice D0 m0 e0, .bool b1, .slice A1 n1 c1, .slice D1 m1 e1] 24)
  replace OB3 := And.intro OB3.1 (OB3.2.on B1)
  replace OB4 := And.intro OB4.1 (OB4.2.on B1)
  replace B := B.trans B1
  have hlens := rlens2 b0 A0 D0 n0 c0 m0 e0 x0 y0 (R0.on B) (S0.on B) b1 A1 D1 n1 c1 m1 e1 x1 y1 (R1.on B) (S1.on B) (Own.new w1 24 #[.bool b0, .slice A0 n0 c0, .slice D0 m0 e0, .bool b1, .slice A1 n1 c1, .slice D1 m1 e1])
  refine (rlarge_yes _ _ 2 2 _ hlens rfl (by decide) (by decide) (by decide) mi qi HMI.out HYI.out).mono ?_
  rintro e w2 ⟨rfl, P2⟩
  clear hlens B1 P1
  replace OB3 := And.intro OB3.1 (OB3.2.on P2)
  replace OB4 := And.intro OB4.1 (OB4.2.on P2)
  replace B := B.trans P2
  clear P2
  go_wp2_with fail
  refine (awake02 _ (hx.on B)).mono ?_
  rintro e w3 ⟨rfl, P3⟩
  go_wp2
  go_ret
  exact ⟨rfl, B.trans P3⟩
set_option maxRecDepth 100000 in
set_option maxHeartbeats 1600000 in
theorem products_smallA (w : World) (hx : MX w) (b0 : Bool) (A0 D0 : Option Addr) (n0 c0 m0 e0 : Nat) (x0 y0 : List Nat) (R0 : Rd w A0 n0 c0 x0) (S0 : Rd w D0 m0 e0 y0) (b1 : Bool) (A1 D1 : Option Addr) (n1 c1 m1 e1 : Nat) (x1 y1 : List Nat) (R1 : Rd w A1 n1 c1 x1) (S1 : Rd w D1 m1 e1 y1) (a : Int) (ha0 : -9223372036854775808 ≤ a) (ha1 : a ≤ 9223372036854775807) (hs : n0 ≤ 12 ∧ m0 ≤ 12 ∧ n1 ≤ 12 ∧ m1 ≤ 12) (hc : 3 < n0 + m0) (hb0 : -64 ≤ a) (hb1 : a ≤ 64) :
    Calls Tryz.prog 4 #[.agg #[.bool b0, .slice A0 n0 c0, .slice D0 m0 e0], .agg #[.bool b1, .slice A1 n1 c1, .slice D1 m1 e1], .int .i64 a] w fun e w' => e = .returned (.bool true) ∧ On w w' := by
  obtain ⟨r0, hr0⟩ : ∃ x, raw b0 x0 y0 = x := ⟨_, rfl⟩
  have F0 : Fld w (.agg #[.bool b0, .slice A0 n0 c0, .slice D0 m0 e0]) r0 12 := Fld.mk3 R0 S0 (by omega) (by omega) hr0
  obtain ⟨r1, hr1⟩ : ∃ x, raw b1 x1 y1 = x := ⟨_, rfl⟩
  have F1 : Fld w (.agg #[.bool b1, .slice A1 n1 c1, .slice D1 m1 e1]) r1 12 := Fld.mk3 R1 S1 (by omega) (by omega) hr1
  have FP : Fld w (.agg #[.bool b0, .slice A0 n0 c0, .slice D0 m0 e0]) r0 12 := Fld.mk3 R0 S0 (by omega) (by omega) hr0
  clear hr0 hr1
  obtain ⟨dq, de, dz, TD1, TD2, TD3⟩ := div_twin r0 r1 12 24 (by decide) (by decide) rfl
  obtain ⟨ax, hax⟩ : ∃ x, (a.tmod 4) = x := ⟨_, rfl⟩
  have hbx : ax < -64 ∨ 64 < ax ∨ (ax.natAbs ≤ 64 ∧ 12 * ax.natAbs < 193) := by
    rw [← hax]
    have h1 : (a.tmod 4).natAbs ≤ 3 := by
      rw [Int.natAbs_tmod]
      have := Nat.mod_lt a.natAbs (show 0 < (4 : Int).natAbs by decide)
      omega
    omega
  obtain ⟨pq, pe, pz, TE1, TE2, TE3⟩ := pow_twin r0 12 ax (by decide) (by decide) hbx
  clear hbx
  have HTD1 := Lib.hid TD1
  clear TD1
  have HTD2 := Lib.hid TD2
  clear TD2
  have HTD3 := Lib.hid TD3
  clear TD3
  have HTE1 := Lib.hid TE1
  clear TE1
  have HTE2 := Lib.hid TE2
  clear TE2
  have HTE3 := Lib.hid TE3
  clear TE3
  have HAX := Lib.hid hax
  clear hax
  have hl3 : 3 < (n0 : Int) + (m0 : Int) := by omega
  clear hc
  have B : On w ((w.alloc (.cells #[.bool b0, .slice A0 n0 c0, .slice D0 m0 e0] 24)).alloc (.cells #[.bool b1, .slice A1 n1 c1, .slice D1 m1 e1] 24)) := On.alloc (On.alloc (On.refl w) _) _
  have OB3 : w.heap.size ≤ w.heap.size ∧ Own ((w.alloc (.cells #[.bool b0, .slice A0 n0 c0, .slice D0 m0 e0] 24)).alloc (.cells #[.bool b1, .slice A1 n1 c1, .slice D1 m1 e1] 24)) (w.heap.size) 24 #[.bool b0, .slice A0 n0 c0, .slice D0 m0 e0] := ⟨by omega, ((Own.at_ w (w.heap.size) (by simp) 24 #[.bool b0, .slice A0 n0 c0, .slice D0 m0 e0]).alloc (.cells #[.bool b1, .slice A1 n1 c1, .slice D1 m1 e1] 24))⟩
  have OB4 : w.heap.size ≤ w.heap.size + 1 ∧ Own ((w.alloc (.cells #[.bool b0, .slice A0 n0 c0, .slice D0 m0 e0] 24)).alloc (.cells #[.bool b1, .slice A1 n1 c1, .slice D1 m1 e1] 24)) (w.heap.size + 1) 24 #[.bool b1, .slice A1 n1 c1, .slice D1 m1 e1] := ⟨by omega, (Own.at_ (w.alloc (.cells #[.bool b0, .slice A0 n0 c0, .slice D0 m0 e0] 24)) (w.heap.size + 1) (by simp) 24 #[.bool b1, .slice A1 n1 c1, .slice D1 m1 e1])⟩
  go_enter Tryz.func4, Tryz.ntmps4
  go_wp2_with fail
  refine (awake02 _ (hx.on B)).mono ?_
  rintro e w1 ⟨rfl, P1⟩
  replace OB3 := And.intro OB3.1 (OB3.2.on P1)
  replace OB4 := And.intro OB4.1 (OB4.2.on P1)
  replace B := B.trans P1
  have y3_0 : w1.cell? ⟨w.heap.size, 0, none⟩ = some (.bool b0) := OB3.2.cell 0
  have y3_1 : w1.cell? ⟨w.heap.size, 1, none⟩ = some (.slice A0 n0 c0) := OB3.2.cell 1
  have y3_2 : w1.cell? ⟨w.heap.size, 2, none⟩ = some (.slice D0 m0 e0) := OB3.2.cell 2
  have y3_f0 := OB3.2.frozen 0
  have y3_f1 := OB3.2.frozen 1
  have y3_f2 := OB3.2.frozen 2
  have y4_0 : w1.cell? ⟨w.heap.size + 1, 0, none⟩ = some (.bool b1) := OB4.2.cell 0
  have y4_1 : w1.cell? ⟨w.heap.size + 1, 1, none⟩ = some (.slice A1 n1 c1) := OB4.2.cell 1
  have y4_2 : w1.cell? ⟨w.heap.size + 1, 2, none⟩ = some (.slice D1 m1 e1) := OB4.2.cell 2
  have y4_f0 := OB4.2.frozen 0
  have y4_f1 := OB4.2.frozen 1
  have y4_f2 := OB4.2.frozen 2
  go_wp2_with fail
  clear y3_0 y3_f0 y3_1 y3_f1 y3_2 y3_f2
  clear y4_0 y4_f0 y4_1 y4_f1 y4_2 y4_f2
  have B1 := (On.refl w1).alloc (.cells #[.bool b0, .slice A0 n0 c0, .slice D0 m0 e0, .bool b1, .slice A1 n1 c1, .slice D1 m1 e1] 24)
  replace OB3 := And.intro OB3.1 (OB3.2.on B1)
  replace OB4 := And.intro OB4.1 (OB4.2.on B1)
  replace B := B.trans B1
  have hlens := rlens2 b0 A0 D0 n0 c0 m0 e0 x0 y0 (R0.on B) (S0.on B) b1 A1 D1 n1 c1 m1 e1 x1 y1 (R1.on B) (S1.on B) (Own.new w1 24 #[.bool b0, .slice A0 n0 c0, .slice D0 m0 e0, .bool b1, .slice A1 n1 c1, .slice D1 m1 e1])
  refine (rlarge_no _ _ 2 2 _ hlens rfl (by decide) (by decide) (by decide) (by simp; omega)).mono ?_
  rintro e w2 ⟨rfl, P2⟩
  clear hlens B1 P1
  replace OB3 := And.intro OB3.1 (OB3.2.on P2)
  replace OB4 := And.intro OB4.1 (OB4.2.on P2)
  replace B := B.trans P2
  clear P2
  clear hx
  have y3_0 : w2.cell? ⟨w.heap.size, 0, none⟩ = some (.bool b0) := OB3.2.cell 0
  have y3_1 : w2.cell? ⟨w.heap.size, 1, none⟩ = some (.slice A0 n0 c0) := OB3.2.cell 1
  have y3_2 : w2.cell? ⟨w.heap.size, 2, none⟩ = some (.slice D0 m0 e0) := OB3.2.cell 2
  have y3_f0 := OB3.2.frozen 0
  have y3_f1 := OB3.2.frozen 1
  have y3_f2 := OB3.2.frozen 2
  have y4_0 : w2.cell? ⟨w.heap.size + 1, 0, none⟩ = some (.bool b1) := OB4.2.cell 0
  have y4_1 : w2.cell? ⟨w.heap.size + 1, 1, none⟩ = some (.slice A1 n1 c1) := OB4.2.cell 1
  have y4_2 : w2.cell? ⟨w.heap.size + 1, 2, none⟩ = some (.slice D1 m1 e1) := OB4.2.cell 2
  have y4_f0 := OB4.2.frozen 0
  have y4_f1 := OB4.2.frozen 1
  have y4_f2 := OB4.2.frozen 2
  go_wp2_with fail
  refine (HTD1.out _ _ _ (F0.on B) (F1.on B)).mono ?_
  rintro e w3 ⟨v7, rfl, I7, P3⟩
  clear y3_0 y3_f0 y3_1 y3_f1 y3_2 y3_f2
  clear y4_0 y4_f0 y4_1 y4_f1 y4_2 y4_f2
  replace OB3 := And.intro OB3.1 (OB3.2.on P3)
  replace OB4 := And.intro OB4.1 (OB4.2.on P3)
  replace B := B.trans P3
  obtain ⟨P7, Pn7, Pc7, _, R7, Rn7, Rc7, _, rfl, _⟩ := id I7
  obtain ⟨s7, hs7⟩ : ∃ x, decide (dq < 0) = x := ⟨_, rfl⟩
  rw [hs7] at I7
  try rw [hs7]
  clear hs7
  have B0_7 := B.size
  have PA := (On.refl w3).alloc (.cells #[.bool s7, .slice P7 Pn7 Pc7, .slice R7 Rn7 Rc7] 24)
  replace OB3 := And.intro OB3.1 (OB3.2.on PA)
  replace OB4 := And.intro OB4.1 (OB4.2.on PA)
  replace B := B.trans PA
  replace I7 := I7.on PA
  have OB7 : w.heap.size ≤ w3.heap.size ∧ _ := ⟨B0_7, Own.new w3 24 #[.bool s7, .slice P7 Pn7 Pc7, .slice R7 Rn7 Rc7]⟩
  clear PA
  have y3_0 : (w3.alloc (.cells #[.bool s7, .slice P7 Pn7 Pc7, .slice R7 Rn7 Rc7] 24)).cell? ⟨w.heap.size, 0, none⟩ = some (.bool b0) := OB3.2.cell 0
  have y3_1 : (w3.alloc (.cells #[.bool s7, .slice P7 Pn7 Pc7, .slice R7 Rn7 Rc7] 24)).cell? ⟨w.heap.size, 1, none⟩ = some (.slice A0 n0 c0) := OB3.2.cell 1
  have y3_2 : (w3.alloc (.cells #[.bool s7, .slice P7 Pn7 Pc7, .slice R7 Rn7 Rc7] 24)).cell? ⟨w.heap.size, 2, none⟩ = some (.slice D0 m0 e0) := OB3.2.cell 2
  have y3_f0 := OB3.2.frozen 0
  have y3_f1 := OB3.2.frozen 1
  have y3_f2 := OB3.2.frozen 2
  have y4_0 : (w3.alloc (.cells #[.bool s7, .slice P7 Pn7 Pc7, .slice R7 Rn7 Rc7] 24)).cell? ⟨w.heap.size + 1, 0, none⟩ = some (.bool b1) := OB4.2.cell 0
  have y4_1 : (w3.alloc (.cells #[.bool s7, .slice P7 Pn7 Pc7, .slice R7 Rn7 Rc7] 24)).cell? ⟨w.heap.size + 1, 1, none⟩ = some (.slice A1 n1 c1) := OB4.2.cell 1
  have y4_2 : (w3.alloc (.cells #[.bool s7, .slice P7 Pn7 Pc7, .slice R7 Rn7 Rc7] 24)).cell? ⟨w.heap.size + 1, 2, none⟩ = some (.slice D1 m1 e1) := OB4.2.cell 2
  have y4_f0 := OB4.2.frozen 0
  have y4_f1 := OB4.2.frozen 1
  have y4_f2 := OB4.2.frozen 2
  go_wp2_with fail
  refine (HTD2.out _ _ _ (F0.on B) (F1.on B)).mono ?_
  rintro e w5 ⟨v9, rfl, I9, P5⟩
  clear y3_0 y3_f0 y3_1 y3_f1 y3_2 y3_f2
  clear y4_0 y4_f0 y4_1 y4_f1 y4_2 y4_f2
  replace OB3 := And.intro OB3.1 (OB3.2.on P5)
  replace OB4 := And.intro OB4.1 (OB4.2.on P5)
  replace OB7 := And.intro OB7.1 (OB7.2.on P5)
  replace B := B.trans P5
  replace I7 := I7.on P5
  obtain ⟨P9, Pn9, Pc9, _, R9, Rn9, Rc9, _, rfl, _⟩ := id I9
  obtain ⟨s9, hs9⟩ : ∃ x, decide (dq < 0) = x := ⟨_, rfl⟩
  rw [hs9] at I9
  try rw [hs9]
  clear hs9
  have B0_9 := B.size
  have PA := (On.refl w5).alloc (.cells #[.bool s9, .slice P9 Pn9 Pc9, .slice R9 Rn9 Rc9] 24)
  replace OB3 := And.intro OB3.1 (OB3.2.on PA)
  replace OB4 := And.intro OB4.1 (OB4.2.on PA)
  replace OB7 := And.intro OB7.1 (OB7.2.on PA)
  replace B := B.trans PA
  replace I9 := I9.on PA
  have OB9 : w.heap.size ≤ w5.heap.size ∧ _ := ⟨B0_9, Own.new w5 24 #[.bool s9, .slice P9 Pn9 Pc9, .slice R9 Rn9 Rc9]⟩
  clear PA
  replace I7 := I7.on ((On.refl w5).alloc (.cells #[.bool s9, .slice P9 Pn9 Pc9, .slice R9 Rn9 Rc9] 24))
  clear P3 P5
  go_wp2
  refine wp_region_facts (by kernel_rfl) w [Fact.eq (.agg #[.bool b0, .slice A0 n0 c0, .slice D0 m0 e0]), Fact.eq (.agg #[.bool b1, .slice A1 n1 c1, .slice D1 m1 e1]), Fact.rat (r0 * r1) (24), Fact.eq (.agg #[.bool b0, .slice A0 n0 c0, .slice D0 m0 e0]), Fact.eq (.agg #[.bool b1, .slice A1 n1 c1, .slice D1 m1 e1]), Fact.rat (r0 * r1) (24), Fact.eq (.bool true), Fact.eq (.bool false), Fact.eq (.bool false), Fact.eq (.agg #[.bool s7, .slice P7 Pn7 Pc7, .slice R7 Rn7 Rc7]), Fact.eq (.agg #[.bool s9, .slice P9 Pn9 Pc9, .slice R9 Rn9 Rc9]), Fact.eq (.bool true), Fact.eq (.bool false), Fact.eq (.bool false), Fact.eq (.bool false), Fact.eq (de), Fact.eq (.int .i64 dz), Fact.eq (.int .i64 dz), Fact.eq (.bool false), Fact.eq (.bool false)] [Fact.any, Fact.any, Fact.any, Fact.any] [⟨20, 3, 24, 20, #[.bool b0, .slice A0 n0 c0, .slice D0 m0 e0]⟩, ⟨20, 4, 24, 20, #[.bool b1, .slice A1 n1 c1, .slice D1 m1 e1]⟩, ⟨20, 7, 24, 20, #[.bool s7, .slice P7 Pn7 Pc7, .slice R7 Rn7 Rc7]⟩, ⟨20, 9, 24, 20, #[.bool s9, .slice P9 Pn9 Pc9, .slice R9 Rn9 Rc9]⟩] [w.heap.size, w.heap.size + 1, w3.heap.size, w5.heap.size] [none, none, none, none, none, none, none, none, none, none, none, none, none, none, none, none, none, none, none, none, none, none, none, none, none, none, none, none, none, none, none, none, none, none, none, none, some 36, some 37, some 38, some 39, some 40, some 41, some 42, some 43, some 44, some 45, some 46, some 47, some 48, some 49, some 50, some 51, some 52, some 53, some 54, some 55, none, none, none, none, none, none, none, none, none, none, none, none, none, none, none, none, none, none, none, none, none, none, none, none, none, none, none, none, none, none, none, none, none, none, none, none, none, none, none] (by kernel_rfl) (by kernel_rfl) (by kernel_rfl) rfl B ?_ ?_ ?_ ?_ ?_
  · exact ⟨fun _ => ⟨by simp, rfl, OB3⟩, fun _ => ⟨by simp, rfl, OB4⟩, fun _ => ⟨by simp, rfl, OB7⟩, fun _ => ⟨by simp, rfl, OB9⟩, trivial⟩
  · exact .inl ⟨Nat.le_refl _, Nat.le_refl _, Nat.le_refl _, Nat.le_refl _, trivial⟩
  · exact ⟨⟨noWords_R _ _ _ _ _ _ _, (.inl (Nat.le_refl _)), (.inl (Nat.le_refl _))⟩, ⟨noWords_R _ _ _ _ _ _ _, (.inl (Nat.le_refl _)), (.inl (Nat.le_refl _))⟩, ⟨noWords_R _ _ _ _ _ _ _, (.inl (Nat.le_refl _)), (.inl (Nat.le_refl _))⟩, ⟨noWords_R _ _ _ _ _ _ _, (.inl (Nat.le_refl _)), (.inl (Nat.le_refl _))⟩, trivial⟩
  · refine ⟨?_, ?_, ?_, ?_, ?_, ?_, ?_, ?_, ?_, ?_, ?_, ?_, ?_, ?_, ?_, ?_, ?_, ?_, ?_, ?_, trivial⟩
    · exact .inr fun a w hp => ob_yes rfl (ob_loadR (hp.box (k := 0) rfl (Nat.le_refl _) (.inl (Nat.le_refl _)) (by kernel_rfl) rfl).1 (hp.box (k := 0) rfl (Nat.le_refl _) (.inl (Nat.le_refl _)) (by kernel_rfl) rfl).2 rfl)
    · exact .inr fun a w hp => ob_yes rfl (ob_loadR (hp.box (k := 1) rfl (Nat.le_refl _) (.inl (Nat.le_refl _)) (by kernel_rfl) rfl).1 (hp.box (k := 1) rfl (Nat.le_refl _) (.inl (Nat.le_refl _)) (by kernel_rfl) rfl).2 rfl)
    · refine .inr fun a w hp => ob_yes rfl ?_
      have h36 : a.tmps.getD 36 undef = .agg #[.bool b0, .slice A0 n0 c0, .slice D0 m0 e0] := (hp.fact 0 36 (by kernel_rfl) rfl)
      have h37 : a.tmps.getD 37 undef = .agg #[.bool b1, .slice A1 n1 c1, .slice D1 m1 e1] := (hp.fact 1 37 (by kernel_rfl) rfl)
      unfold Does
      go_simp
      refine (mulr_any _ _ _ _ _ 12 (F0.on hp.on) (F1.on hp.on) (by decide) (by decide)).mono ?_
      rintro e w' ⟨u, rfl, I8, P8⟩
      exact ⟨_, rfl, P8, I8⟩
    · exact .inr fun a w hp => ob_yes rfl (ob_loadR (hp.box (k := 0) rfl (Nat.le_refl _) (.inl (Nat.le_refl _)) (by kernel_rfl) rfl).1 (hp.box (k := 0) rfl (Nat.le_refl _) (.inl (Nat.le_refl _)) (by kernel_rfl) rfl).2 rfl)
    · exact .inr fun a w hp => ob_yes rfl (ob_loadR (hp.box (k := 1) rfl (Nat.le_refl _) (.inl (Nat.le_refl _)) (by kernel_rfl) rfl).1 (hp.box (k := 1) rfl (Nat.le_refl _) (.inl (Nat.le_refl _)) (by kernel_rfl) rfl).2 rfl)
    · refine .inr fun a w hp => ob_yes rfl ?_
      have h39 : a.tmps.getD 39 undef = .agg #[.bool b0, .slice A0 n0 c0, .slice D0 m0 e0] := (hp.fact 3 39 (by kernel_rfl) rfl)
      have h40 : a.tmps.getD 40 undef = .agg #[.bool b1, .slice A1 n1 c1, .slice D1 m1 e1] := (hp.fact 4 40 (by kernel_rfl) rfl)
      unfold Does
      go_simp
      refine (smul_any _ _ _ _ _ 12 (F0.on hp.on) (F1.on hp.on) (by decide) (by decide)).mono ?_
      rintro e w' ⟨u, rfl, I8, P8⟩
      exact ⟨_, rfl, P8, I8⟩
    · refine .inr fun a w hp => ob_yes rfl ?_
      have h38 : IsR w (a.tmps.getD 38 undef) (r0 * r1) (24) := (hp.fact 2 38 (by kernel_rfl) rfl)
      obtain ⟨v38, e38⟩ : ∃ v, a.tmps.getD 38 undef = v := ⟨_, rfl⟩
      rw [e38] at h38
      have h41 : IsR w (a.tmps.getD 41 undef) (r0 * r1) (24) := (hp.fact 5 41 (by kernel_rfl) rfl)
      obtain ⟨v41, e41⟩ : ∃ v, a.tmps.getD 41 undef = v := ⟨_, rfl⟩
      rw [e41] at h41
      unfold Does
      go_simp
      refine (rat_same _ _ _ _ _ _ h38 h41).mono ?_
      rintro e w' ⟨rfl, P8⟩
      exact ⟨_, rfl, P8, rfl⟩
    · refine .inr fun a w hp => ob_yes rfl ?_
      have h42 : a.tmps.getD 42 undef = .bool true := (hp.fact 6 42 (by kernel_rfl) rfl)
      unfold Does
      go_simp
      exact ⟨_, rfl, On.refl _, by show Value.bool _ = Value.bool _; first | rfl | (simp; done)⟩
    · exact .inr fun a w hp => ob_yes rfl (ob_move (hp.fact 7 43 (by kernel_rfl) rfl))
    · exact .inr fun a w hp => ob_yes (wanted_yes (P := Tryz.prog) (j := 8) (d := 44) (b := false) rfl rfl (hp.fact 8 44 (by kernel_rfl) rfl)) (ob_loadR (hp.box (k := 2) rfl (Nat.le_refl _) (.inl (Nat.le_refl _)) (by kernel_rfl) rfl).1 (hp.box (k := 2) rfl (Nat.le_refl _) (.inl (Nat.le_refl _)) (by kernel_rfl) rfl).2 rfl)
    · exact .inr fun a w hp => ob_yes (wanted_yes (P := Tryz.prog) (j := 8) (d := 44) (b := false) rfl rfl (hp.fact 8 44 (by kernel_rfl) rfl)) (ob_loadR (hp.box (k := 3) rfl (Nat.le_refl _) (.inl (Nat.le_refl _)) (by kernel_rfl) rfl).1 (hp.box (k := 3) rfl (Nat.le_refl _) (.inl (Nat.le_refl _)) (by kernel_rfl) rfl).2 rfl)
    · refine .inr fun a w hp => ob_yes (wanted_yes (P := Tryz.prog) (j := 8) (d := 44) (b := false) rfl rfl (hp.fact 8 44 (by kernel_rfl) rfl)) ?_
      have h45 : a.tmps.getD 45 undef = .agg #[.bool s7, .slice P7 Pn7 Pc7, .slice R7 Rn7 Rc7] := (hp.fact 9 45 (by kernel_rfl) rfl)
      have h46 : a.tmps.getD 46 undef = .agg #[.bool s9, .slice P9 Pn9 Pc9, .slice R9 Rn9 Rc9] := (hp.fact 10 46 (by kernel_rfl) rfl)
      unfold Does
      go_simp
      refine (rat_same _ _ _ _ _ _ (I7.kept hp.kept) (I9.kept hp.kept)).mono ?_
      rintro e w' ⟨rfl, P8⟩
      exact ⟨_, rfl, P8, rfl⟩
    · refine .inr fun a w hp => ob_yes (wanted_yes (P := Tryz.prog) (j := 8) (d := 44) (b := false) rfl rfl (hp.fact 8 44 (by kernel_rfl) rfl)) ?_
      have h47 : a.tmps.getD 47 undef = .bool true := (hp.fact 11 47 (by kernel_rfl) rfl)
      unfold Does
      go_simp
      exact ⟨_, rfl, On.refl _, by show Value.bool _ = Value.bool _; first | rfl | (simp; done)⟩
    · refine .inr fun a w hp => ob_yes rfl ?_
      have h44 : a.tmps.getD 44 undef = .bool false := (hp.fact 8 44 (by kernel_rfl) rfl)
      have h48 : a.tmps.getD 48 undef = .bool false := (hp.fact 12 48 (by kernel_rfl) rfl)
      unfold Does
      go_simp
      exact ⟨_, rfl, On.refl _, rfl⟩
    · exact .inr fun a w hp => ob_yes rfl (ob_move (hp.fact 13 49 (by kernel_rfl) rfl))
    · exact .inr fun a w hp => ob_yes (wanted_yes (P := Tryz.prog) (j := 14) (d := 50) (b := false) rfl rfl (hp.fact 14 50 (by kernel_rfl) rfl)) (ob_move (hp.same 8 (by kernel_rfl)))
    · refine .inr fun a w hp => ob_yes (wanted_yes (P := Tryz.prog) (j := 14) (d := 50) (b := false) rfl rfl (hp.fact 14 50 (by kernel_rfl) rfl)) ?_
      have h51 : a.tmps.getD 51 undef = de := (hp.fact 15 51 (by kernel_rfl) rfl)
      unfold Does
      go_simp
      refine (HTD3.out _).mono ?_
      rintro e w' ⟨rfl, rfl⟩
      exact ⟨_, rfl, On.refl _, rfl⟩
    · exact .inr fun a w hp => ob_yes (wanted_yes (P := Tryz.prog) (j := 14) (d := 50) (b := false) rfl rfl (hp.fact 14 50 (by kernel_rfl) rfl)) (ob_move (hp.same 10 (by kernel_rfl)))
    · refine .inr fun a w hp => ob_yes (wanted_yes (P := Tryz.prog) (j := 14) (d := 50) (b := false) rfl rfl (hp.fact 14 50 (by kernel_rfl) rfl)) ?_
      have h52 : a.tmps.getD 52 undef = .int .i64 dz := (hp.fact 16 52 (by kernel_rfl) rfl)
      have h53 : a.tmps.getD 53 undef = .int .i64 dz := (hp.fact 17 53 (by kernel_rfl) rfl)
      unfold Does
      go_simp
      exact ⟨_, rfl, On.refl _, by show Value.bool _ = Value.bool _; first | rfl | (simp; done)⟩
    · refine .inr fun a w hp => ob_yes rfl ?_
      have h50 : a.tmps.getD 50 undef = .bool false := (hp.fact 14 50 (by kernel_rfl) rfl)
      have h54 : a.tmps.getD 54 undef = .bool false := (hp.fact 18 54 (by kernel_rfl) rfl)
      unfold Does
      go_simp
      exact ⟨_, rfl, On.refl _, rfl⟩
  · intro f wr hon hk hf hb hap
    obtain ⟨q0, q1, q2, q3, qz⟩ := hb
    clear qz
    have O3 : Own wr (w.heap.size) 24 #[.bool b0, .slice A0 n0 c0, .slice D0 m0 e0] := q0
    have c3_0 : wr.cell? ⟨w.heap.size, 0, none⟩ = some (.bool b0) := O3.cell 0
    have z3_0 := O3.frozen 0
    have c3_1 : wr.cell? ⟨w.heap.size, 1, none⟩ = some (.slice A0 n0 c0) := O3.cell 1
    have z3_1 := O3.frozen 1
    have c3_2 : wr.cell? ⟨w.heap.size, 2, none⟩ = some (.slice D0 m0 e0) := O3.cell 2
    have z3_2 := O3.frozen 2
    clear q0
    have O4 : Own wr (w.heap.size + 1) 24 #[.bool b1, .slice A1 n1 c1, .slice D1 m1 e1] := q1
    have c4_0 : wr.cell? ⟨w.heap.size + 1, 0, none⟩ = some (.bool b1) := O4.cell 0
    have z4_0 := O4.frozen 0
    have c4_1 : wr.cell? ⟨w.heap.size + 1, 1, none⟩ = some (.slice A1 n1 c1) := O4.cell 1
    have z4_1 := O4.frozen 1
    have c4_2 : wr.cell? ⟨w.heap.size + 1, 2, none⟩ = some (.slice D1 m1 e1) := O4.cell 2
    have z4_2 := O4.frozen 2
    clear q1
    have O7 : Own wr (w3.heap.size) 24 #[.bool s7, .slice P7 Pn7 Pc7, .slice R7 Rn7 Rc7] := q2
    have c7_0 : wr.cell? ⟨w3.heap.size, 0, none⟩ = some (.bool s7) := O7.cell 0
    have z7_0 := O7.frozen 0
    have c7_1 : wr.cell? ⟨w3.heap.size, 1, none⟩ = some (.slice P7 Pn7 Pc7) := O7.cell 1
    have z7_1 := O7.frozen 1
    have c7_2 : wr.cell? ⟨w3.heap.size, 2, none⟩ = some (.slice R7 Rn7 Rc7) := O7.cell 2
    have z7_2 := O7.frozen 2
    clear q2
    have O9 : Own wr (w5.heap.size) 24 #[.bool s9, .slice P9 Pn9 Pc9, .slice R9 Rn9 Rc9] := q3
    have c9_0 : wr.cell? ⟨w5.heap.size, 0, none⟩ = some (.bool s9) := O9.cell 0
    have z9_0 := O9.frozen 0
    have c9_1 : wr.cell? ⟨w5.heap.size, 1, none⟩ = some (.slice P9 Pn9 Pc9) := O9.cell 1
    have z9_1 := O9.frozen 1
    have c9_2 : wr.cell? ⟨w5.heap.size, 2, none⟩ = some (.slice R9 Rn9 Rc9) := O9.cell 2
    have z9_2 := O9.frozen 2
    clear q3
    have e55 : f 55 = .bool false := hf 19 55 rfl
    clear hf hap
    simp only [fillL, e55]
    clear e55
    have OB3 : w.heap.size ≤ w.heap.size ∧ Own wr (w.heap.size) 24 #[.bool b0, .slice A0 n0 c0, .slice D0 m0 e0] := ⟨by omega, O3⟩
    clear c3_0 z3_0 c3_1 z3_1 c3_2 z3_2 O3
    have OB4 : w.heap.size ≤ w.heap.size + 1 ∧ Own wr (w.heap.size + 1) 24 #[.bool b1, .slice A1 n1 c1, .slice D1 m1 e1] := ⟨by omega, O4⟩
    clear c4_0 z4_0 c4_1 z4_1 c4_2 z4_2 O4
    clear c7_0 z7_0 c7_1 z7_1 c7_2 z7_2 O7
    clear c9_0 z9_0 c9_1 z9_1 c9_2 z9_2 O9
    clear B OB7 OB9 I7 I9 B0_7 B0_9
    have B := hon
    clear hon hk
    have y3_0 : wr.cell? ⟨w.heap.size, 0, none⟩ = some (.bool b0) := OB3.2.cell 0
    have y3_1 : wr.cell? ⟨w.heap.size, 1, none⟩ = some (.slice A0 n0 c0) := OB3.2.cell 1
    have y3_2 : wr.cell? ⟨w.heap.size, 2, none⟩ = some (.slice D0 m0 e0) := OB3.2.cell 2
    have y3_f0 := OB3.2.frozen 0
    have y3_f1 := OB3.2.frozen 1
    have y3_f2 := OB3.2.frozen 2
    go_wp2_with fail
    try rw [HAX.out]
    refine (HTE1.out _ _ (FP.on B)).mono ?_
    rintro e w6 ⟨v11, rfl, I11, P6⟩
    clear y3_0 y3_f0 y3_1 y3_f1 y3_2 y3_f2
    replace OB3 := And.intro OB3.1 (OB3.2.on P6)
    replace OB4 := And.intro OB4.1 (OB4.2.on P6)
    replace B := B.trans P6
    obtain ⟨P11, Pn11, Pc11, _, R11, Rn11, Rc11, _, rfl, _⟩ := id I11
    obtain ⟨s11, hs11⟩ : ∃ x, decide (pq < 0) = x := ⟨_, rfl⟩
    rw [hs11] at I11
    try rw [hs11]
    clear hs11
    have B0_11 := B.size
    have PA := (On.refl w6).alloc (.cells #[.bool s11, .slice P11 Pn11 Pc11, .slice R11 Rn11 Rc11] 24)
    replace OB3 := And.intro OB3.1 (OB3.2.on PA)
    replace OB4 := And.intro OB4.1 (OB4.2.on PA)
    replace B := B.trans PA
    replace I11 := I11.on PA
    have OB11 : w.heap.size ≤ w6.heap.size ∧ _ := ⟨B0_11, Own.new w6 24 #[.bool s11, .slice P11 Pn11 Pc11, .slice R11 Rn11 Rc11]⟩
    clear PA
    have y3_0 : (w6.alloc (.cells #[.bool s11, .slice P11 Pn11 Pc11, .slice R11 Rn11 Rc11] 24)).cell? ⟨w.heap.size, 0, none⟩ = some (.bool b0) := OB3.2.cell 0
    have y3_1 : (w6.alloc (.cells #[.bool s11, .slice P11 Pn11 Pc11, .slice R11 Rn11 Rc11] 24)).cell? ⟨w.heap.size, 1, none⟩ = some (.slice A0 n0 c0) := OB3.2.cell 1
    have y3_2 : (w6.alloc (.cells #[.bool s11, .slice P11 Pn11 Pc11, .slice R11 Rn11 Rc11] 24)).cell? ⟨w.heap.size, 2, none⟩ = some (.slice D0 m0 e0) := OB3.2.cell 2
    have y3_f0 := OB3.2.frozen 0
    have y3_f1 := OB3.2.frozen 1
    have y3_f2 := OB3.2.frozen 2
    go_wp2_with fail
    try rw [HAX.out]
    refine (HTE2.out _ _ (FP.on B)).mono ?_
    rintro e w8 ⟨v13, rfl, I13, P8⟩
    clear y3_0 y3_f0 y3_1 y3_f1 y3_2 y3_f2
    replace OB3 := And.intro OB3.1 (OB3.2.on P8)
    replace OB4 := And.intro OB4.1 (OB4.2.on P8)
    replace OB11 := And.intro OB11.1 (OB11.2.on P8)
    replace B := B.trans P8
    replace I11 := I11.on P8
    obtain ⟨P13, Pn13, Pc13, _, R13, Rn13, Rc13, _, rfl, _⟩ := id I13
    obtain ⟨s13, hs13⟩ : ∃ x, decide (pq < 0) = x := ⟨_, rfl⟩
    rw [hs13] at I13
    try rw [hs13]
    clear hs13
    have B0_13 := B.size
    have PA := (On.refl w8).alloc (.cells #[.bool s13, .slice P13 Pn13 Pc13, .slice R13 Rn13 Rc13] 24)
    replace OB3 := And.intro OB3.1 (OB3.2.on PA)
    replace OB4 := And.intro OB4.1 (OB4.2.on PA)
    replace OB11 := And.intro OB11.1 (OB11.2.on PA)
    replace B := B.trans PA
    replace I13 := I13.on PA
    have OB13 : w.heap.size ≤ w8.heap.size ∧ _ := ⟨B0_13, Own.new w8 24 #[.bool s13, .slice P13 Pn13 Pc13, .slice R13 Rn13 Rc13]⟩
    clear PA
    replace I11 := I11.on ((On.refl w8).alloc (.cells #[.bool s13, .slice P13 Pn13 Pc13, .slice R13 Rn13 Rc13] 24))
    have y11_0 : (w8.alloc (.cells #[.bool s13, .slice P13 Pn13 Pc13, .slice R13 Rn13 Rc13] 24)).cell? ⟨w6.heap.size, 0, none⟩ = some (.bool s11) := OB11.2.cell 0
    have y11_1 : (w8.alloc (.cells #[.bool s13, .slice P13 Pn13 Pc13, .slice R13 Rn13 Rc13] 24)).cell? ⟨w6.heap.size, 1, none⟩ = some (.slice P11 Pn11 Pc11) := OB11.2.cell 1
    have y11_2 : (w8.alloc (.cells #[.bool s13, .slice P13 Pn13 Pc13, .slice R13 Rn13 Rc13] 24)).cell? ⟨w6.heap.size, 2, none⟩ = some (.slice R11 Rn11 Rc11) := OB11.2.cell 2
    have y11_f0 := OB11.2.frozen 0
    have y11_f1 := OB11.2.frozen 1
    have y11_f2 := OB11.2.frozen 2
    have y13_0 : (w8.alloc (.cells #[.bool s13, .slice P13 Pn13 Pc13, .slice R13 Rn13 Rc13] 24)).cell? ⟨w8.heap.size, 0, none⟩ = some (.bool s13) := OB13.2.cell 0
    have y13_1 : (w8.alloc (.cells #[.bool s13, .slice P13 Pn13 Pc13, .slice R13 Rn13 Rc13] 24)).cell? ⟨w8.heap.size, 1, none⟩ = some (.slice P13 Pn13 Pc13) := OB13.2.cell 1
    have y13_2 : (w8.alloc (.cells #[.bool s13, .slice P13 Pn13 Pc13, .slice R13 Rn13 Rc13] 24)).cell? ⟨w8.heap.size, 2, none⟩ = some (.slice R13 Rn13 Rc13) := OB13.2.cell 2
    have y13_f0 := OB13.2.frozen 0
    have y13_f1 := OB13.2.frozen 1
    have y13_f2 := OB13.2.frozen 2
    go_wp2_with fail
    refine (rat_same _ _ _ _ _ _ I11 I13).mono ?_
    rintro e w9 ⟨rfl, P9⟩
    replace B := B.trans P9
    go_wp2_with fail
    refine (HTE3.out _).mono ?_
    rintro e w' ⟨rfl, rfl⟩
    go_wp2
    go_ret
    exact ⟨rfl, B⟩
set_option maxRecDepth 100000 in
set_option maxHeartbeats 1600000 in
theorem products_smallB (w : World) (hx : MX w) (b0 : Bool) (A0 D0 : Option Addr) (n0 c0 m0 e0 : Nat) (x0 y0 : List Nat) (R0 : Rd w A0 n0 c0 x0) (S0 : Rd w D0 m0 e0 y0) (b1 : Bool) (A1 D1 : Option Addr) (n1 c1 m1 e1 : Nat) (x1 y1 : List Nat) (R1 : Rd w A1 n1 c1 x1) (S1 : Rd w D1 m1 e1 y1) (a : Int) (ha0 : -9223372036854775808 ≤ a) (ha1 : a ≤ 9223372036854775807) (hs : n0 ≤ 12 ∧ m0 ≤ 12 ∧ n1 ≤ 12 ∧ m1 ≤ 12) (hc : n0 + m0 ≤ 3) :
    Calls Tryz.prog 4 #[.agg #[.bool b0, .slice A0 n0 c0, .slice D0 m0 e0], .agg #[.bool b1, .slice A1 n1 c1, .slice D1 m1 e1], .int .i64 a] w fun e w' => e = .returned (.bool true) ∧ On w w' := by
  obtain ⟨r0, hr0⟩ : ∃ x, raw b0 x0 y0 = x := ⟨_, rfl⟩
  have F0 : Fld w (.agg #[.bool b0, .slice A0 n0 c0, .slice D0 m0 e0]) r0 12 := Fld.mk3 R0 S0 (by omega) (by omega) hr0
  obtain ⟨r1, hr1⟩ : ∃ x, raw b1 x1 y1 = x := ⟨_, rfl⟩
  have F1 : Fld w (.agg #[.bool b1, .slice A1 n1 c1, .slice D1 m1 e1]) r1 12 := Fld.mk3 R1 S1 (by omega) (by omega) hr1
  have FP : Fld w (.agg #[.bool b0, .slice A0 n0 c0, .slice D0 m0 e0]) r0 3 := Fld.mk3 R0 S0 (by omega) (by omega) hr0
  clear hr0 hr1
  obtain ⟨dq, de, dz, TD1, TD2, TD3⟩ := div_twin r0 r1 12 24 (by decide) (by decide) rfl
  obtain ⟨ax, hax⟩ : ∃ x, a = x := ⟨_, rfl⟩
  have hbx : ax < -64 ∨ 64 < ax ∨ (ax.natAbs ≤ 64 ∧ 3 * ax.natAbs < 193) := by
    rw [← hax]
    omega
  obtain ⟨pq, pe, pz, TE1, TE2, TE3⟩ := pow_twin r0 3 ax (by decide) (by decide) hbx
  clear hbx
  have HTD1 := Lib.hid TD1
  clear TD1
  have HTD2 := Lib.hid TD2
  clear TD2
  have HTD3 := Lib.hid TD3
  clear TD3
  have HTE1 := Lib.hid TE1
  clear TE1
  have HTE2 := Lib.hid TE2
  clear TE2
  have HTE3 := Lib.hid TE3
  clear TE3
  subst hax
  have hl3 : ¬ 3 < (n0 : Int) + (m0 : Int) := by omega
  clear hc
  have B : On w ((w.alloc (.cells #[.bool b0, .slice A0 n0 c0, .slice D0 m0 e0] 24)).alloc (.cells #[.bool b1, .slice A1 n1 c1, .slice D1 m1 e1] 24)) := On.alloc (On.alloc (On.refl w) _) _
  have OB3 : w.heap.size ≤ w.heap.size ∧ Own ((w.alloc (.cells #[.bool b0, .slice A0 n0 c0, .slice D0 m0 e0] 24)).alloc (.cells #[.bool b1, .slice A1 n1 c1, .slice D1 m1 e1] 24)) (w.heap.size) 24 #[.bool b0, .slice A0 n0 c0, .slice D0 m0 e0] := ⟨by omega, ((Own.at_ w (w.heap.size) (by simp) 24 #[.bool b0, .slice A0 n0 c0, .slice D0 m0 e0]).alloc (.cells #[.bool b1, .slice A1 n1 c1, .slice D1 m1 e1] 24))⟩
  have OB4 : w.heap.size ≤ w.heap.size + 1 ∧ Own ((w.alloc (.cells #[.bool b0, .slice A0 n0 c0, .slice D0 m0 e0] 24)).alloc (.cells #[.bool b1, .slice A1 n1 c1, .slice D1 m1 e1] 24)) (w.heap.size + 1) 24 #[.bool b1, .slice A1 n1 c1, .slice D1 m1 e1] := ⟨by omega, (Own.at_ (w.alloc (.cells #[.bool b0, .slice A0 n0 c0, .slice D0 m0 e0] 24)) (w.heap.size + 1) (by simp) 24 #[.bool b1, .slice A1 n1 c1, .slice D1 m1 e1])⟩
  go_enter Tryz.func4, Tryz.ntmps4
  go_wp2_with fail
  refine (awake02 _ (hx.on B)).mono ?_
  rintro e w1 ⟨rfl, P1⟩
  replace OB3 := And.intro OB3.1 (OB3.2.on P1)
  replace OB4 := And.intro OB4.1 (OB4.2.on P1)
  replace B := B.trans P1
  have y3_0 : w1.cell? ⟨w.heap.size, 0, none⟩ = some (.bool b0) := OB3.2.cell 0
  have y3_1 : w1.cell? ⟨w.heap.size, 1, none⟩ = some (.slice A0 n0 c0) := OB3.2.cell 1
  have y3_2 : w1.cell? ⟨w.heap.size, 2, none⟩ = some (.slice D0 m0 e0) := OB3.2.cell 2
  have y3_f0 := OB3.2.frozen 0
  have y3_f1 := OB3.2.frozen 1
  have y3_f2 := OB3.2.frozen 2
  have y4_0 : w1.cell? ⟨w.heap.size + 1, 0, none⟩ = some (.bool b1) := OB4.2.cell 0
  have y4_1 : w1.cell? ⟨w.heap.size + 1, 1, none⟩ = some (.slice A1 n1 c1) := OB4.2.cell 1
  have y4_2 : w1.cell? ⟨w.heap.size + 1, 2, none⟩ = some (.slice D1 m1 e1) := OB4.2.cell 2
  have y4_f0 := OB4.2.frozen 0
  have y4_f1 := OB4.2.frozen 1
  have y4_f2 := OB4.2.frozen 2
  go_wp2_with fail
  clear y3_0 y3_f0 y3_1 y3_f1 y3_2 y3_f2
  clear y4_0 y4_f0 y4_1 y4_f1 y4_2 y4_f2
  have B1 := (On.refl w1).alloc (.cells #[.bool b0, .slice A0 n0 c0, .slice D0 m0 e0, .bool b1, .slice A1 n1 c1, .slice D1 m1 e1] 24)
  replace OB3 := And.intro OB3.1 (OB3.2.on B1)
  replace OB4 := And.intro OB4.1 (OB4.2.on B1)
  replace B := B.trans B1
  have hlens := rlens2 b0 A0 D0 n0 c0 m0 e0 x0 y0 (R0.on B) (S0.on B) b1 A1 D1 n1 c1 m1 e1 x1 y1 (R1.on B) (S1.on B) (Own.new w1 24 #[.bool b0, .slice A0 n0 c0, .slice D0 m0 e0, .bool b1, .slice A1 n1 c1, .slice D1 m1 e1])
  refine (rlarge_no _ _ 2 2 _ hlens rfl (by decide) (by decide) (by decide) (by simp; omega)).mono ?_
  rintro e w2 ⟨rfl, P2⟩
  clear hlens B1 P1
  replace OB3 := And.intro OB3.1 (OB3.2.on P2)
  replace OB4 := And.intro OB4.1 (OB4.2.on P2)
  replace B := B.trans P2
  clear P2
  clear hx
  have y3_0 : w2.cell? ⟨w.heap.size, 0, none⟩ = some (.bool b0) := OB3.2.cell 0
  have y3_1 : w2.cell? ⟨w.heap.size, 1, none⟩ = some (.slice A0 n0 c0) := OB3.2.cell 1
  have y3_2 : w2.cell? ⟨w.heap.size, 2, none⟩ = some (.slice D0 m0 e0) := OB3.2.cell 2
  have y3_f0 := OB3.2.frozen 0
  have y3_f1 := OB3.2.frozen 1
  have y3_f2 := OB3.2.frozen 2
  have y4_0 : w2.cell? ⟨w.heap.size + 1, 0, none⟩ = some (.bool b1) := OB4.2.cell 0
  have y4_1 : w2.cell? ⟨w.heap.size + 1, 1, none⟩ = some (.slice A1 n1 c1) := OB4.2.cell 1
  have y4_2 : w2.cell? ⟨w.heap.size + 1, 2, none⟩ = some (.slice D1 m1 e1) := OB4.2.cell 2
  have y4_f0 := OB4.2.frozen 0
  have y4_f1 := OB4.2.frozen 1
  have y4_f2 := OB4.2.frozen 2
  go_wp2_with fail
  refine (HTD1.out _ _ _ (F0.on B) (F1.on B)).mono ?_
  rintro e w3 ⟨v7, rfl, I7, P3⟩
  clear y3_0 y3_f0 y3_1 y3_f1 y3_2 y3_f2
  clear y4_0 y4_f0 y4_1 y4_f1 y4_2 y4_f2
  replace OB3 := And.intro OB3.1 (OB3.2.on P3)
  replace OB4 := And.intro OB4.1 (OB4.2.on P3)
  replace B := B.trans P3
  obtain ⟨P7, Pn7, Pc7, _, R7, Rn7, Rc7, _, rfl, _⟩ := id I7
  obtain ⟨s7, hs7⟩ : ∃ x, decide (dq < 0) = x := ⟨_, rfl⟩
  rw [hs7] at I7
  try rw [hs7]
  clear hs7
  have B0_7 := B.size
  have PA := (On.refl w3).alloc (.cells #[.bool s7, .slice P7 Pn7 Pc7, .slice R7 Rn7 Rc7] 24)
  replace OB3 := And.intro OB3.1 (OB3.2.on PA)
  replace OB4 := And.intro OB4.1 (OB4.2.on PA)
  replace B := B.trans PA
  replace I7 := I7.on PA
  have OB7 : w.heap.size ≤ w3.heap.size ∧ _ := ⟨B0_7, Own.new w3 24 #[.bool s7, .slice P7 Pn7 Pc7, .slice R7 Rn7 Rc7]⟩
  clear PA
  have y3_0 : (w3.alloc (.cells #[.bool s7, .slice P7 Pn7 Pc7, .slice R7 Rn7 Rc7] 24)).cell? ⟨w.heap.size, 0, none⟩ = some (.bool b0) := OB3.2.cell 0
  have y3_1 : (w3.alloc (.cells #[.bool s7, .slice P7 Pn7 Pc7, .slice R7 Rn7 Rc7] 24)).cell? ⟨w.heap.size, 1, none⟩ = some (.slice A0 n0 c0) := OB3.2.cell 1
  have y3_2 : (w3.alloc (.cells #[.bool s7, .slice P7 Pn7 Pc7, .slice R7 Rn7 Rc7] 24)).cell? ⟨w.heap.size, 2, none⟩ = some (.slice D0 m0 e0) := OB3.2.cell 2
  have y3_f0 := OB3.2.frozen 0
  have y3_f1 := OB3.2.frozen 1
  have y3_f2 := OB3.2.frozen 2
  have y4_0 : (w3.alloc (.cells #[.bool s7, .slice P7 Pn7 Pc7, .slice R7 Rn7 Rc7] 24)).cell? ⟨w.heap.size + 1, 0, none⟩ = some (.bool b1) := OB4.2.cell 0
  have y4_1 : (w3.alloc (.cells #[.bool s7, .slice P7 Pn7 Pc7, .slice R7 Rn7 Rc7] 24)).cell? ⟨w.heap.size + 1, 1, none⟩ = some (.slice A1 n1 c1) := OB4.2.cell 1
  have y4_2 : (w3.alloc (.cells #[.bool s7, .slice P7 Pn7 Pc7, .slice R7 Rn7 Rc7] 24)).cell? ⟨w.heap.size + 1, 2, none⟩ = some (.slice D1 m1 e1) := OB4.2.cell 2
  have y4_f0 := OB4.2.frozen 0
  have y4_f1 := OB4.2.frozen 1
  have y4_f2 := OB4.2.frozen 2
  go_wp2_with fail
  refine (HTD2.out _ _ _ (F0.on B) (F1.on B)).mono ?_
  rintro e w5 ⟨v9, rfl, I9, P5⟩
  clear y3_0 y3_f0 y3_1 y3_f1 y3_2 y3_f2
  clear y4_0 y4_f0 y4_1 y4_f1 y4_2 y4_f2
  replace OB3 := And.intro OB3.1 (OB3.2.on P5)
  replace OB4 := And.intro OB4.1 (OB4.2.on P5)
  replace OB7 := And.intro OB7.1 (OB7.2.on P5)
  replace B := B.trans P5
  replace I7 := I7.on P5
  obtain ⟨P9, Pn9, Pc9, _, R9, Rn9, Rc9, _, rfl, _⟩ := id I9
  obtain ⟨s9, hs9⟩ : ∃ x, decide (dq < 0) = x := ⟨_, rfl⟩
  rw [hs9] at I9
  try rw [hs9]
  clear hs9
  have B0_9 := B.size
  have PA := (On.refl w5).alloc (.cells #[.bool s9, .slice P9 Pn9 Pc9, .slice R9 Rn9 Rc9] 24)
  replace OB3 := And.intro OB3.1 (OB3.2.on PA)
  replace OB4 := And.intro OB4.1 (OB4.2.on PA)
  replace OB7 := And.intro OB7.1 (OB7.2.on PA)
  replace B := B.trans PA
  replace I9 := I9.on PA
  have OB9 : w.heap.size ≤ w5.heap.size ∧ _ := ⟨B0_9, Own.new w5 24 #[.bool s9, .slice P9 Pn9 Pc9, .slice R9 Rn9 Rc9]⟩
  clear PA
  replace I7 := I7.on ((On.refl w5).alloc (.cells #[.bool s9, .slice P9 Pn9 Pc9, .slice R9 Rn9 Rc9] 24))
  clear P3 P5
  go_wp2
  refine wp_region_facts (by kernel_rfl) w [Fact.eq (.agg #[.bool b0, .slice A0 n0 c0, .slice D0 m0 e0]), Fact.eq (.agg #[.bool b1, .slice A1 n1 c1, .slice D1 m1 e1]), Fact.rat (r0 * r1) (24), Fact.eq (.agg #[.bool b0, .slice A0 n0 c0, .slice D0 m0 e0]), Fact.eq (.agg #[.bool b1, .slice A1 n1 c1, .slice D1 m1 e1]), Fact.rat (r0 * r1) (24), Fact.eq (.bool true), Fact.eq (.bool false), Fact.eq (.bool false), Fact.eq (.agg #[.bool s7, .slice P7 Pn7 Pc7, .slice R7 Rn7 Rc7]), Fact.eq (.agg #[.bool s9, .slice P9 Pn9 Pc9, .slice R9 Rn9 Rc9]), Fact.eq (.bool true), Fact.eq (.bool false), Fact.eq (.bool false), Fact.eq (.bool false), Fact.eq (de), Fact.eq (.int .i64 dz), Fact.eq (.int .i64 dz), Fact.eq (.bool false), Fact.eq (.bool false)] [Fact.any, Fact.any, Fact.any, Fact.any] [⟨20, 3, 24, 20, #[.bool b0, .slice A0 n0 c0, .slice D0 m0 e0]⟩, ⟨20, 4, 24, 20, #[.bool b1, .slice A1 n1 c1, .slice D1 m1 e1]⟩, ⟨20, 7, 24, 20, #[.bool s7, .slice P7 Pn7 Pc7, .slice R7 Rn7 Rc7]⟩, ⟨20, 9, 24, 20, #[.bool s9, .slice P9 Pn9 Pc9, .slice R9 Rn9 Rc9]⟩] [w.heap.size, w.heap.size + 1, w3.heap.size, w5.heap.size] [none, none, none, none, none, none, none, none, none, none, none, none, none, none, none, none, none, none, none, none, none, none, none, none, none, none, none, none, none, none, none, none, none, none, none, none, some 36, some 37, some 38, some 39, some 40, some 41, some 42, some 43, some 44, some 45, some 46, some 47, some 48, some 49, some 50, some 51, some 52, some 53, some 54, some 55, none, none, none, none, none, none, none, none, none, none, none, none, none, none, none, none, none, none, none, none, none, none, none, none, none, none, none, none, none, none, none, none, none, none, none, none, none, none, none] (by kernel_rfl) (by kernel_rfl) (by kernel_rfl) rfl B ?_ ?_ ?_ ?_ ?_
  · exact ⟨fun _ => ⟨by simp, rfl, OB3⟩, fun _ => ⟨by simp, rfl, OB4⟩, fun _ => ⟨by simp, rfl, OB7⟩, fun _ => ⟨by simp, rfl, OB9⟩, trivial⟩
  · exact .inl ⟨Nat.le_refl _, Nat.le_refl _, Nat.le_refl _, Nat.le_refl _, trivial⟩
  · exact ⟨⟨noWords_R _ _ _ _ _ _ _, (.inl (Nat.le_refl _)), (.inl (Nat.le_refl _))⟩, ⟨noWords_R _ _ _ _ _ _ _, (.inl (Nat.le_refl _)), (.inl (Nat.le_refl _))⟩, ⟨noWords_R _ _ _ _ _ _ _, (.inl (Nat.le_refl _)), (.inl (Nat.le_refl _))⟩, ⟨noWords_R _ _ _ _ _ _ _, (.inl (Nat.le_refl _)), (.inl (Nat.le_refl _))⟩, trivial⟩
  · refine ⟨?_, ?_, ?_, ?_, ?_, ?_, ?_, ?_, ?_, ?_, ?_, ?_, ?_, ?_, ?_, ?_, ?_, ?_, ?_, ?_, trivial⟩
    · exact .inr fun a w hp => ob_yes rfl (ob_loadR (hp.box (k := 0) rfl (Nat.le_refl _) (.inl (Nat.le_refl _)) (by kernel_rfl) rfl).1 (hp.box (k := 0) rfl (Nat.le_refl _) (.inl (Nat.le_refl _)) (by kernel_rfl) rfl).2 rfl)
    · exact .inr fun a w hp => ob_yes rfl (ob_loadR (hp.box (k := 1) rfl (Nat.le_refl _) (.inl (Nat.le_refl _)) (by kernel_rfl) rfl).1 (hp.box (k := 1) rfl (Nat.le_refl _) (.inl (Nat.le_refl _)) (by kernel_rfl) rfl).2 rfl)
    · refine .inr fun a w hp => ob_yes rfl ?_
      have h36 : a.tmps.getD 36 undef = .agg #[.bool b0, .slice A0 n0 c0, .slice D0 m0 e0] := (hp.fact 0 36 (by kernel_rfl) rfl)
      have h37 : a.tmps.getD 37 undef = .agg #[.bool b1, .slice A1 n1 c1, .slice D1 m1 e1] := (hp.fact 1 37 (by kernel_rfl) rfl)
      unfold Does
      go_simp
      refine (mulr_any _ _ _ _ _ 12 (F0.on hp.on) (F1.on hp.on) (by decide) (by decide)).mono ?_
      rintro e w' ⟨u, rfl, I8, P8⟩
      exact ⟨_, rfl, P8, I8⟩
    · exact .inr fun a w hp => ob_yes rfl (ob_loadR (hp.box (k := 0) rfl (Nat.le_refl _) (.inl (Nat.le_refl _)) (by kernel_rfl) rfl).1 (hp.box (k := 0) rfl (Nat.le_refl _) (.inl (Nat.le_refl _)) (by kernel_rfl) rfl).2 rfl)
    · exact .inr fun a w hp => ob_yes rfl (ob_loadR (hp.box (k := 1) rfl (Nat.le_refl _) (.inl (Nat.le_refl _)) (by kernel_rfl) rfl).1 (hp.box (k := 1) rfl (Nat.le_refl _) (.inl (Nat.le_refl _)) (by kernel_rfl) rfl).2 rfl)
    · refine .inr fun a w hp => ob_yes rfl ?_
      have h39 : a.tmps.getD 39 undef = .agg #[.bool b0, .slice A0 n0 c0, .slice D0 m0 e0] := (hp.fact 3 39 (by kernel_rfl) rfl)
      have h40 : a.tmps.getD 40 undef = .agg #[.bool b1, .slice A1 n1 c1, .slice D1 m1 e1] := (hp.fact 4 40 (by kernel_rfl) rfl)
      unfold Does
      go_simp
      refine (smul_any _ _ _ _ _ 12 (F0.on hp.on) (F1.on hp.on) (by decide) (by decide)).mono ?_
      rintro e w' ⟨u, rfl, I8, P8⟩
      exact ⟨_, rfl, P8, I8⟩
    · refine .inr fun a w hp => ob_yes rfl ?_
      have h38 : IsR w (a.tmps.getD 38 undef) (r0 * r1) (24) := (hp.fact 2 38 (by kernel_rfl) rfl)
      obtain ⟨v38, e38⟩ : ∃ v, a.tmps.getD 38 undef = v := ⟨_, rfl⟩
      rw [e38] at h38
      have h41 : IsR w (a.tmps.getD 41 undef) (r0 * r1) (24) := (hp.fact 5 41 (by kernel_rfl) rfl)
      obtain ⟨v41, e41⟩ : ∃ v, a.tmps.getD 41 undef = v := ⟨_, rfl⟩
      rw [e41] at h41
      unfold Does
      go_simp
      refine (rat_same _ _ _ _ _ _ h38 h41).mono ?_
      rintro e w' ⟨rfl, P8⟩
      exact ⟨_, rfl, P8, rfl⟩
    · refine .inr fun a w hp => ob_yes rfl ?_
      have h42 : a.tmps.getD 42 undef = .bool true := (hp.fact 6 42 (by kernel_rfl) rfl)
      unfold Does
      go_simp
      exact ⟨_, rfl, On.refl _, by show Value.bool _ = Value.bool _; first | rfl | (simp; done)⟩
    · exact .inr fun a w hp => ob_yes rfl (ob_move (hp.fact 7 43 (by kernel_rfl) rfl))
    · exact .inr fun a w hp => ob_yes (wanted_yes (P := Tryz.prog) (j := 8) (d := 44) (b := false) rfl rfl (hp.fact 8 44 (by kernel_rfl) rfl)) (ob_loadR (hp.box (k := 2) rfl (Nat.le_refl _) (.inl (Nat.le_refl _)) (by kernel_rfl) rfl).1 (hp.box (k := 2) rfl (Nat.le_refl _) (.inl (Nat.le_refl _)) (by kernel_rfl) rfl).2 rfl)
    · exact .inr fun a w hp => ob_yes (wanted_yes (P := Tryz.prog) (j := 8) (d := 44) (b := false) rfl rfl (hp.fact 8 44 (by kernel_rfl) rfl)) (ob_loadR (hp.box (k := 3) rfl (Nat.le_refl _) (.inl (Nat.le_refl _)) (by kernel_rfl) rfl).1 (hp.box (k := 3) rfl (Nat.le_refl _) (.inl (Nat.le_refl _)) (by kernel_rfl) rfl).2 rfl)
    · refine .inr fun a w hp => ob_yes (wanted_yes (P := Tryz.prog) (j := 8) (d := 44) (b := false) rfl rfl (hp.fact 8 44 (by kernel_rfl) rfl)) ?_
      have h45 : a.tmps.getD 45 undef = .agg #[.bool s7, .slice P7 Pn7 Pc7, .slice R7 Rn7 Rc7] := (hp.fact 9 45 (by kernel_rfl) rfl)
      have h46 : a.tmps.getD 46 undef = .agg #[.bool s9, .slice P9 Pn9 Pc9, .slice R9 Rn9 Rc9] := (hp.fact 10 46 (by kernel_rfl) rfl)
      unfold Does
      go_simp
      refine (rat_same _ _ _ _ _ _ (I7.kept hp.kept) (I9.kept hp.kept)).mono ?_
      rintro e w' ⟨rfl, P8⟩
      exact ⟨_, rfl, P8, rfl⟩
    · refine .inr fun a w hp => ob_yes (wanted_yes (P := Tryz.prog) (j := 8) (d := 44) (b := false) rfl rfl (hp.fact 8 44 (by kernel_rfl) rfl)) ?_
      have h47 : a.tmps.getD 47 undef = .bool true := (hp.fact 11 47 (by kernel_rfl) rfl)
      unfold Does
      go_simp
      exact ⟨_, rfl, On.refl _, by show Value.bool _ = Value.bool _; first | rfl | (simp; done)⟩
    · refine .inr fun a w hp => ob_yes rfl ?_
      have h44 : a.tmps.getD 44 undef = .bool false := (hp.fact 8 44 (by kernel_rfl) rfl)
      have h48 : a.tmps.getD 48 undef = .bool false := (hp.fact 12 48 (by kernel_rfl) rfl)
      unfold Does
      go_simp
      exact ⟨_, rfl, On.refl _, rfl⟩
    · exact .inr fun a w hp => ob_yes rfl (ob_move (hp.fact 13 49 (by kernel_rfl) rfl))
    · exact .inr fun a w hp => ob_yes (wanted_yes (P := Tryz.prog) (j := 14) (d := 50) (b := false) rfl rfl (hp.fact 14 50 (by kernel_rfl) rfl)) (ob_move (hp.same 8 (by kernel_rfl)))
    · refine .inr fun a w hp => ob_yes (wanted_yes (P := Tryz.prog) (j := 14) (d := 50) (b := false) rfl rfl (hp.fact 14 50 (by kernel_rfl) rfl)) ?_
      have h51 : a.tmps.getD 51 undef = de := (hp.fact 15 51 (by kernel_rfl) rfl)
      unfold Does
      go_simp
      refine (HTD3.out _).mono ?_
      rintro e w' ⟨rfl, rfl⟩
      exact ⟨_, rfl, On.refl _, rfl⟩
    · exact .inr fun a w hp => ob_yes (wanted_yes (P := Tryz.prog) (j := 14) (d := 50) (b := false) rfl rfl (hp.fact 14 50 (by kernel_rfl) rfl)) (ob_move (hp.same 10 (by kernel_rfl)))
    · refine .inr fun a w hp => ob_yes (wanted_yes (P := Tryz.prog) (j := 14) (d := 50) (b := false) rfl rfl (hp.fact 14 50 (by kernel_rfl) rfl)) ?_
      have h52 : a.tmps.getD 52 undef = .int .i64 dz := (hp.fact 16 52 (by kernel_rfl) rfl)
      have h53 : a.tmps.getD 53 undef = .int .i64 dz := (hp.fact 17 53 (by kernel_rfl) rfl)
      unfold Does
      go_simp
      exact ⟨_, rfl, On.refl _, by show Value.bool _ = Value.bool _; first | rfl | (simp; done)⟩
    · refine .inr fun a w hp => ob_yes rfl ?_
      have h50 : a.tmps.getD 50 undef = .bool false := (hp.fact 14 50 (by kernel_rfl) rfl)
      have h54 : a.tmps.getD 54 undef = .bool false := (hp.fact 18 54 (by kernel_rfl) rfl)
      unfold Does
      go_simp
      exact ⟨_, rfl, On.refl _, rfl⟩
  · intro f wr hon hk hf hb hap
    obtain ⟨q0, q1, q2, q3, qz⟩ := hb
    clear qz
    have O3 : Own wr (w.heap.size) 24 #[.bool b0, .slice A0 n0 c0, .slice D0 m0 e0] := q0
    have c3_0 : wr.cell? ⟨w.heap.size, 0, none⟩ = some (.bool b0) := O3.cell 0
    have z3_0 := O3.frozen 0
    have c3_1 : wr.cell? ⟨w.heap.size, 1, none⟩ = some (.slice A0 n0 c0) := O3.cell 1
    have z3_1 := O3.frozen 1
    have c3_2 : wr.cell? ⟨w.heap.size, 2, none⟩ = some (.slice D0 m0 e0) := O3.cell 2
    have z3_2 := O3.frozen 2
    clear q0
    have O4 : Own wr (w.heap.size + 1) 24 #[.bool b1, .slice A1 n1 c1, .slice D1 m1 e1] := q1
    have c4_0 : wr.cell? ⟨w.heap.size + 1, 0, none⟩ = some (.bool b1) := O4.cell 0
    have z4_0 := O4.frozen 0
    have c4_1 : wr.cell? ⟨w.heap.size + 1, 1, none⟩ = some (.slice A1 n1 c1) := O4.cell 1
    have z4_1 := O4.frozen 1
    have c4_2 : wr.cell? ⟨w.heap.size + 1, 2, none⟩ = some (.slice D1 m1 e1) := O4.cell 2
    have z4_2 := O4.frozen 2
    clear q1
    have O7 : Own wr (w3.heap.size) 24 #[.bool s7, .slice P7 Pn7 Pc7, .slice R7 Rn7 Rc7] := q2
    have c7_0 : wr.cell? ⟨w3.heap.size, 0, none⟩ = some (.bool s7) := O7.cell 0
    have z7_0 := O7.frozen 0
    have c7_1 : wr.cell? ⟨w3.heap.size, 1, none⟩ = some (.slice P7 Pn7 Pc7) := O7.cell 1
    have z7_1 := O7.frozen 1
    have c7_2 : wr.cell? ⟨w3.heap.size, 2, none⟩ = some (.slice R7 Rn7 Rc7) := O7.cell 2
    have z7_2 := O7.frozen 2
    clear q2
    have O9 : Own wr (w5.heap.size) 24 #[.bool s9, .slice P9 Pn9 Pc9, .slice R9 Rn9 Rc9] := q3
    have c9_0 : wr.cell? ⟨w5.heap.size, 0, none⟩ = some (.bool s9) := O9.cell 0
    have z9_0 := O9.frozen 0
    have c9_1 : wr.cell? ⟨w5.heap.size, 1, none⟩ = some (.slice P9 Pn9 Pc9) := O9.cell 1
    have z9_1 := O9.frozen 1
    have c9_2 : wr.cell? ⟨w5.heap.size, 2, none⟩ = some (.slice R9 Rn9 Rc9) := O9.cell 2
    have z9_2 := O9.frozen 2
    clear q3
    have e55 : f 55 = .bool false := hf 19 55 rfl
    clear hf hap
    simp only [fillL, e55]
    clear e55
    have OB3 : w.heap.size ≤ w.heap.size ∧ Own wr (w.heap.size) 24 #[.bool b0, .slice A0 n0 c0, .slice D0 m0 e0] := ⟨by omega, O3⟩
    clear c3_0 z3_0 c3_1 z3_1 c3_2 z3_2 O3
    have OB4 : w.heap.size ≤ w.heap.size + 1 ∧ Own wr (w.heap.size + 1) 24 #[.bool b1, .slice A1 n1 c1, .slice D1 m1 e1] := ⟨by omega, O4⟩
    clear c4_0 z4_0 c4_1 z4_1 c4_2 z4_2 O4
    clear c7_0 z7_0 c7_1 z7_1 c7_2 z7_2 O7
    clear c9_0 z9_0 c9_1 z9_1 c9_2 z9_2 O9
    clear B OB7 OB9 I7 I9 B0_7 B0_9
    have B := hon
    clear hon hk
    have y3_0 : wr.cell? ⟨w.heap.size, 0, none⟩ = some (.bool b0) := OB3.2.cell 0
    have y3_1 : wr.cell? ⟨w.heap.size, 1, none⟩ = some (.slice A0 n0 c0) := OB3.2.cell 1
    have y3_2 : wr.cell? ⟨w.heap.size, 2, none⟩ = some (.slice D0 m0 e0) := OB3.2.cell 2
    have y3_f0 := OB3.2.frozen 0
    have y3_f1 := OB3.2.frozen 1
    have y3_f2 := OB3.2.frozen 2
    go_wp2_with fail
    refine (HTE1.out _ _ (FP.on B)).mono ?_
    rintro e w6 ⟨v11, rfl, I11, P6⟩
    clear y3_0 y3_f0 y3_1 y3_f1 y3_2 y3_f2
    replace OB3 := And.intro OB3.1 (OB3.2.on P6)
    replace OB4 := And.intro OB4.1 (OB4.2.on P6)
    replace B := B.trans P6
    obtain ⟨P11, Pn11, Pc11, _, R11, Rn11, Rc11, _, rfl, _⟩ := id I11
    obtain ⟨s11, hs11⟩ : ∃ x, decide (pq < 0) = x := ⟨_, rfl⟩
    rw [hs11] at I11
    try rw [hs11]
    clear hs11
    have B0_11 := B.size
    have PA := (On.refl w6).alloc (.cells #[.bool s11, .slice P11 Pn11 Pc11, .slice R11 Rn11 Rc11] 24)
    replace OB3 := And.intro OB3.1 (OB3.2.on PA)
    replace OB4 := And.intro OB4.1 (OB4.2.on PA)
    replace B := B.trans PA
    replace I11 := I11.on PA
    have OB11 : w.heap.size ≤ w6.heap.size ∧ _ := ⟨B0_11, Own.new w6 24 #[.bool s11, .slice P11 Pn11 Pc11, .slice R11 Rn11 Rc11]⟩
    clear PA
    have y3_0 : (w6.alloc (.cells #[.bool s11, .slice P11 Pn11 Pc11, .slice R11 Rn11 Rc11] 24)).cell? ⟨w.heap.size, 0, none⟩ = some (.bool b0) := OB3.2.cell 0
    have y3_1 : (w6.alloc (.cells #[.bool s11, .slice P11 Pn11 Pc11, .slice R11 Rn11 Rc11] 24)).cell? ⟨w.heap.size, 1, none⟩ = some (.slice A0 n0 c0) := OB3.2.cell 1
    have y3_2 : (w6.alloc (.cells #[.bool s11, .slice P11 Pn11 Pc11, .slice R11 Rn11 Rc11] 24)).cell? ⟨w.heap.size, 2, none⟩ = some (.slice D0 m0 e0) := OB3.2.cell 2
    have y3_f0 := OB3.2.frozen 0
    have y3_f1 := OB3.2.frozen 1
    have y3_f2 := OB3.2.frozen 2
    go_wp2_with fail
    refine (HTE2.out _ _ (FP.on B)).mono ?_
    rintro e w8 ⟨v13, rfl, I13, P8⟩
    clear y3_0 y3_f0 y3_1 y3_f1 y3_2 y3_f2
    replace OB3 := And.intro OB3.1 (OB3.2.on P8)
    replace OB4 := And.intro OB4.1 (OB4.2.on P8)
    replace OB11 := And.intro OB11.1 (OB11.2.on P8)
    replace B := B.trans P8
    replace I11 := I11.on P8
    obtain ⟨P13, Pn13, Pc13, _, R13, Rn13, Rc13, _, rfl, _⟩ := id I13
    obtain ⟨s13, hs13⟩ : ∃ x, decide (pq < 0) = x := ⟨_, rfl⟩
    rw [hs13] at I13
    try rw [hs13]
    clear hs13
    have B0_13 := B.size
    have PA := (On.refl w8).alloc (.cells #[.bool s13, .slice P13 Pn13 Pc13, .slice R13 Rn13 Rc13] 24)
    replace OB3 := And.intro OB3.1 (OB3.2.on PA)
    replace OB4 := And.intro OB4.1 (OB4.2.on PA)
    replace OB11 := And.intro OB11.1 (OB11.2.on PA)
    replace B := B.trans PA
    replace I13 := I13.on PA
    have OB13 : w.heap.size ≤ w8.heap.size ∧ _ := ⟨B0_13, Own.new w8 24 #[.bool s13, .slice P13 Pn13 Pc13, .slice R13 Rn13 Rc13]⟩
    clear PA
    replace I11 := I11.on ((On.refl w8).alloc (.cells #[.bool s13, .slice P13 Pn13 Pc13, .slice R13 Rn13 Rc13] 24))
    have y11_0 : (w8.alloc (.cells #[.bool s13, .slice P13 Pn13 Pc13, .slice R13 Rn13 Rc13] 24)).cell? ⟨w6.heap.size, 0, none⟩ = some (.bool s11) := OB11.2.cell 0
    have y11_1 : (w8.alloc (.cells #[.bool s13, .slice P13 Pn13 Pc13, .slice R13 Rn13 Rc13] 24)).cell? ⟨w6.heap.size, 1, none⟩ = some (.slice P11 Pn11 Pc11) := OB11.2.cell 1
    have y11_2 : (w8.alloc (.cells #[.bool s13, .slice P13 Pn13 Pc13, .slice R13 Rn13 Rc13] 24)).cell? ⟨w6.heap.size, 2, none⟩ = some (.slice R11 Rn11 Rc11) := OB11.2.cell 2
    have y11_f0 := OB11.2.frozen 0
    have y11_f1 := OB11.2.frozen 1
    have y11_f2 := OB11.2.frozen 2
    have y13_0 : (w8.alloc (.cells #[.bool s13, .slice P13 Pn13 Pc13, .slice R13 Rn13 Rc13] 24)).cell? ⟨w8.heap.size, 0, none⟩ = some (.bool s13) := OB13.2.cell 0
    have y13_1 : (w8.alloc (.cells #[.bool s13, .slice P13 Pn13 Pc13, .slice R13 Rn13 Rc13] 24)).cell? ⟨w8.heap.size, 1, none⟩ = some (.slice P13 Pn13 Pc13) := OB13.2.cell 1
    have y13_2 : (w8.alloc (.cells #[.bool s13, .slice P13 Pn13 Pc13, .slice R13 Rn13 Rc13] 24)).cell? ⟨w8.heap.size, 2, none⟩ = some (.slice R13 Rn13 Rc13) := OB13.2.cell 2
    have y13_f0 := OB13.2.frozen 0
    have y13_f1 := OB13.2.frozen 1
    have y13_f2 := OB13.2.frozen 2
    go_wp2_with fail
    refine (rat_same _ _ _ _ _ _ I11 I13).mono ?_
    rintro e w9 ⟨rfl, P9⟩
    replace B := B.trans P9
    go_wp2_with fail
    refine (HTE3.out _).mono ?_
    rintro e w' ⟨rfl, rfl⟩
    go_wp2
    go_ret
    exact ⟨rfl, B⟩
set_option maxRecDepth 100000 in
set_option maxHeartbeats 1600000 in
theorem products_smallC (w : World) (hx : MX w) (b0 : Bool) (A0 D0 : Option Addr) (n0 c0 m0 e0 : Nat) (x0 y0 : List Nat) (R0 : Rd w A0 n0 c0 x0) (S0 : Rd w D0 m0 e0 y0) (b1 : Bool) (A1 D1 : Option Addr) (n1 c1 m1 e1 : Nat) (x1 y1 : List Nat) (R1 : Rd w A1 n1 c1 x1) (S1 : Rd w D1 m1 e1 y1) (a : Int) (ha0 : -9223372036854775808 ≤ a) (ha1 : a ≤ 9223372036854775807) (hs : n0 ≤ 12 ∧ m0 ≤ 12 ∧ n1 ≤ 12 ∧ m1 ≤ 12) (hc : 3 < n0 + m0) (hd : a < -64) :
    Calls Tryz.prog 4 #[.agg #[.bool b0, .slice A0 n0 c0, .slice D0 m0 e0], .agg #[.bool b1, .slice A1 n1 c1, .slice D1 m1 e1], .int .i64 a] w fun e w' => e = .returned (.bool true) ∧ On w w' := by
  obtain ⟨r0, hr0⟩ : ∃ x, raw b0 x0 y0 = x := ⟨_, rfl⟩
  have F0 : Fld w (.agg #[.bool b0, .slice A0 n0 c0, .slice D0 m0 e0]) r0 12 := Fld.mk3 R0 S0 (by omega) (by omega) hr0
  obtain ⟨r1, hr1⟩ : ∃ x, raw b1 x1 y1 = x := ⟨_, rfl⟩
  have F1 : Fld w (.agg #[.bool b1, .slice A1 n1 c1, .slice D1 m1 e1]) r1 12 := Fld.mk3 R1 S1 (by omega) (by omega) hr1
  have FP : Fld w (.agg #[.bool b0, .slice A0 n0 c0, .slice D0 m0 e0]) r0 12 := Fld.mk3 R0 S0 (by omega) (by omega) hr0
  clear hr0 hr1
  obtain ⟨dq, de, dz, TD1, TD2, TD3⟩ := div_twin r0 r1 12 24 (by decide) (by decide) rfl
  obtain ⟨ax, hax⟩ : ∃ x, a = x := ⟨_, rfl⟩
  have hbx : ax < -64 ∨ 64 < ax ∨ (ax.natAbs ≤ 64 ∧ 12 * ax.natAbs < 193) := by
    rw [← hax]
    omega
  obtain ⟨pq, pe, pz, TE1, TE2, TE3⟩ := pow_twin r0 12 ax (by decide) (by decide) hbx
  clear hbx
  have HTD1 := Lib.hid TD1
  clear TD1
  have HTD2 := Lib.hid TD2
  clear TD2
  have HTD3 := Lib.hid TD3
  clear TD3
  have HTE1 := Lib.hid TE1
  clear TE1
  have HTE2 := Lib.hid TE2
  clear TE2
  have HTE3 := Lib.hid TE3
  clear TE3
  subst hax
  have hl3 : 3 < (n0 : Int) + (m0 : Int) := by omega
  clear hc
  have B : On w ((w.alloc (.cells #[.bool b0, .slice A0 n0 c0, .slice D0 m0 e0] 24)).alloc (.cells #[.bool b1, .slice A1 n1 c1, .slice D1 m1 e1] 24)) := On.alloc (On.alloc (On.refl w) _) _
  have OB3 : w.heap.size ≤ w.heap.size ∧ Own ((w.alloc (.cells #[.bool b0, .slice A0 n0 c0, .slice D0 m0 e0] 24)).alloc (.cells #[.bool b1, .slice A1 n1 c1, .slice D1 m1 e1] 24)) (w.heap.size) 24 #[.bool b0, .slice A0 n0 c0, .slice D0 m0 e0] := ⟨by omega, ((Own.at_ w (w.heap.size) (by simp) 24 #[.bool b0, .slice A0 n0 c0, .slice D0 m0 e0]).alloc (.cells #[.bool b1, .slice A1 n1 c1, .slice D1 m1 e1] 24))⟩
  have OB4 : w.heap.size ≤ w.heap.size + 1 ∧ Own ((w.alloc (.cells #[.bool b0, .slice A0 n0 c0, .slice D0 m0 e0] 24)).alloc (.cells #[.bool b1, .slice A1 n1 c1, .slice D1 m1 e1] 24)) (w.heap.size + 1) 24 #[.bool b1, .slice A1 n1 c1, .slice D1 m1 e1] := ⟨by omega, (Own.at_ (w.alloc (.cells #[.bool b0, .slice A0 n0 c0, .slice D0 m0 e0] 24)) (w.heap.size + 1) (by simp) 24 #[.bool b1, .slice A1 n1 c1, .slice D1 m1 e1])⟩
  go_enter Tryz.func4, Tryz.ntmps4
  go_wp2_with fail
  refine (awake02 _ (hx.on B)).mono ?_
  rintro e w1 ⟨rfl, P1⟩
  replace OB3 := And.intro OB3.1 (OB3.2.on P1)
  replace OB4 := And.intro OB4.1 (OB4.2.on P1)
  replace B := B.trans P1
  have y3_0 : w1.cell? ⟨w.heap.size, 0, none⟩ = some (.bool b0) := OB3.2.cell 0
  have y3_1 : w1.cell? ⟨w.heap.size, 1, none⟩ = some (.slice A0 n0 c0) := OB3.2.cell 1
  have y3_2 : w1.cell? ⟨w.heap.size, 2, none⟩ = some (.slice D0 m0 e0) := OB3.2.cell 2
  have y3_f0 := OB3.2.frozen 0
  have y3_f1 := OB3.2.frozen 1
  have y3_f2 := OB3.2.frozen 2
  have y4_0 : w1.cell? ⟨w.heap.size + 1, 0, none⟩ = some (.bool b1) := OB4.2.cell 0
  have y4_1 : w1.cell? ⟨w.heap.size + 1, 1, none⟩ = some (.slice A1 n1 c1) := OB4.2.cell 1
  have y4_2 : w1.cell? ⟨w.heap.size + 1, 2, none⟩ = some (.slice D1 m1 e1) := OB4.2.cell 2
  have y4_f0 := OB4.2.frozen 0
  have y4_f1 := OB4.2.frozen 1
  have y4_f2 := OB4.2.frozen 2
  go_wp2_with fail
  clear y3_0 y3_f0 y3_1 y3_f1 y3_2 y3_f2
  clear y4_0 y4_f0 y4_1 y4_f1 y4_2 y4_f2
  have B1 := (On.refl w1).alloc (.cells #[.bool b0, .slice A0 n0 c0, .slice D0 m0 e0, .bool b1, .slice A1 n1 c1, .slice D1 m1 e1] 24)
  replace OB3 := And.intro OB3.1 (OB3.2.on B1)
  replace OB4 := And.intro OB4.1 (OB4.2.on B1)
  replace B := B.trans B1
  have hlens := rlens2 b0 A0 D0 n0 c0 m0 e0 x0 y0 (R0.on B) (S0.on B) b1 A1 D1 n1 c1 m1 e1 x1 y1 (R1.on B) (S1.on B) (Own.new w1 24 #[.bool b0, .slice A0 n0 c0, .slice D0 m0 e0, .bool b1, .slice A1 n1 c1, .slice D1 m1 e1])
  refine (rlarge_no _ _ 2 2 _ hlens rfl (by decide) (by decide) (by decide) (by simp; omega)).mono ?_
  rintro e w2 ⟨rfl, P2⟩
  clear hlens B1 P1
  replace OB3 := And.intro OB3.1 (OB3.2.on P2)
  replace OB4 := And.intro OB4.1 (OB4.2.on P2)
  replace B := B.trans P2
  clear P2
  clear hx
  have y3_0 : w2.cell? ⟨w.heap.size, 0, none⟩ = some (.bool b0) := OB3.2.cell 0
  have y3_1 : w2.cell? ⟨w.heap.size, 1, none⟩ = some (.slice A0 n0 c0) := OB3.2.cell 1
  have y3_2 : w2.cell? ⟨w.heap.size, 2, none⟩ = some (.slice D0 m0 e0) := OB3.2.cell 2
  have y3_f0 := OB3.2.frozen 0
  have y3_f1 := OB3.2.frozen 1
  have y3_f2 := OB3.2.frozen 2
  have y4_0 : w2.cell? ⟨w.heap.size + 1, 0, none⟩ = some (.bool b1) := OB4.2.cell 0
  have y4_1 : w2.cell? ⟨w.heap.size + 1, 1, none⟩ = some (.slice A1 n1 c1) := OB4.2.cell 1
  have y4_2 : w2.cell? ⟨w.heap.size + 1, 2, none⟩ = some (.slice D1 m1 e1) := OB4.2.cell 2
  have y4_f0 := OB4.2.frozen 0
  have y4_f1 := OB4.2.frozen 1
  have y4_f2 := OB4.2.frozen 2
  go_wp2_with fail
  refine (HTD1.out _ _ _ (F0.on B) (F1.on B)).mono ?_
  rintro e w3 ⟨v7, rfl, I7, P3⟩
  clear y3_0 y3_f0 y3_1 y3_f1 y3_2 y3_f2
  clear y4_0 y4_f0 y4_1 y4_f1 y4_2 y4_f2
  replace OB3 := And.intro OB3.1 (OB3.2.on P3)
  replace OB4 := And.intro OB4.1 (OB4.2.on P3)
  replace B := B.trans P3
  obtain ⟨P7, Pn7, Pc7, _, R7, Rn7, Rc7, _, rfl, _⟩ := id I7
  obtain ⟨s7, hs7⟩ : ∃ x, decide (dq < 0) = x := ⟨_, rfl⟩
  rw [hs7] at I7
  try rw [hs7]
  clear hs7
  have B0_7 := B.size
  have PA := (On.refl w3).alloc (.cells #[.bool s7, .slice P7 Pn7 Pc7, .slice R7 Rn7 Rc7] 24)
  replace OB3 := And.intro OB3.1 (OB3.2.on PA)
  replace OB4 := And.intro OB4.1 (OB4.2.on PA)
  replace B := B.trans PA
  replace I7 := I7.on PA
  have OB7 : w.heap.size ≤ w3.heap.size ∧ _ := ⟨B0_7, Own.new w3 24 #[.bool s7, .slice P7 Pn7 Pc7, .slice R7 Rn7 Rc7]⟩
  clear PA
  have y3_0 : (w3.alloc (.cells #[.bool s7, .slice P7 Pn7 Pc7, .slice R7 Rn7 Rc7] 24)).cell? ⟨w.heap.size, 0, none⟩ = some (.bool b0) := OB3.2.cell 0
  have y3_1 : (w3.alloc (.cells #[.bool s7, .slice P7 Pn7 Pc7, .slice R7 Rn7 Rc7] 24)).cell? ⟨w.heap.size, 1, none⟩ = some (.slice A0 n0 c0) := OB3.2.cell 1
  have y3_2 : (w3.alloc (.cells #[.bool s7, .slice P7 Pn7 Pc7, .slice R7 Rn7 Rc7] 24)).cell? ⟨w.heap.size, 2, none⟩ = some (.slice D0 m0 e0) := OB3.2.cell 2
  have y3_f0 := OB3.2.frozen 0
  have y3_f1 := OB3.2.frozen 1
  have y3_f2 := OB3.2.frozen 2
  have y4_0 : (w3.alloc (.cells #[.bool s7, .slice P7 Pn7 Pc7, .slice R7 Rn7 Rc7] 24)).cell? ⟨w.heap.size + 1, 0, none⟩ = some (.bool b1) := OB4.2.cell 0
  have y4_1 : (w3.alloc (.cells #[.bool s7, .slice P7 Pn7 Pc7, .slice R7 Rn7 Rc7] 24)).cell? ⟨w.heap.size + 1, 1, none⟩ = some (.slice A1 n1 c1) := OB4.2.cell 1
  have y4_2 : (w3.alloc (.cells #[.bool s7, .slice P7 Pn7 Pc7, .slice R7 Rn7 Rc7] 24)).cell? ⟨w.heap.size + 1, 2, none⟩ = some (.slice D1 m1 e1) := OB4.2.cell 2
  have y4_f0 := OB4.2.frozen 0
  have y4_f1 := OB4.2.frozen 1
  have y4_f2 := OB4.2.frozen 2
  go_wp2_with fail
  refine (HTD2.out _ _ _ (F0.on B) (F1.on B)).mono ?_
  rintro e w5 ⟨v9, rfl, I9, P5⟩
  clear y3_0 y3_f0 y3_1 y3_f1 y3_2 y3_f2
  clear y4_0 y4_f0 y4_1 y4_f1 y4_2 y4_f2
  replace OB3 := And.intro OB3.1 (OB3.2.on P5)
  replace OB4 := And.intro OB4.1 (OB4.2.on P5)
  replace OB7 := And.intro OB7.1 (OB7.2.on P5)
  replace B := B.trans P5
  replace I7 := I7.on P5
  obtain ⟨P9, Pn9, Pc9, _, R9, Rn9, Rc9, _, rfl, _⟩ := id I9
  obtain ⟨s9, hs9⟩ : ∃ x, decide (dq < 0) = x := ⟨_, rfl⟩
  rw [hs9] at I9
  try rw [hs9]
  clear hs9
  have B0_9 := B.size
  have PA := (On.refl w5).alloc (.cells #[.bool s9, .slice P9 Pn9 Pc9, .slice R9 Rn9 Rc9] 24)
  replace OB3 := And.intro OB3.1 (OB3.2.on PA)
  replace OB4 := And.intro OB4.1 (OB4.2.on PA)
  replace OB7 := And.intro OB7.1 (OB7.2.on PA)
  replace B := B.trans PA
  replace I9 := I9.on PA
  have OB9 : w.heap.size ≤ w5.heap.size ∧ _ := ⟨B0_9, Own.new w5 24 #[.bool s9, .slice P9 Pn9 Pc9, .slice R9 Rn9 Rc9]⟩
  clear PA
  replace I7 := I7.on ((On.refl w5).alloc (.cells #[.bool s9, .slice P9 Pn9 Pc9, .slice R9 Rn9 Rc9] 24))
  clear P3 P5
  go_wp2
  refine wp_region_facts (by kernel_rfl) w [Fact.eq (.agg #[.bool b0, .slice A0 n0 c0, .slice D0 m0 e0]), Fact.eq (.agg #[.bool b1, .slice A1 n1 c1, .slice D1 m1 e1]), Fact.rat (r0 * r1) (24), Fact.eq (.agg #[.bool b0, .slice A0 n0 c0, .slice D0 m0 e0]), Fact.eq (.agg #[.bool b1, .slice A1 n1 c1, .slice D1 m1 e1]), Fact.rat (r0 * r1) (24), Fact.eq (.bool true), Fact.eq (.bool false), Fact.eq (.bool false), Fact.eq (.agg #[.bool s7, .slice P7 Pn7 Pc7, .slice R7 Rn7 Rc7]), Fact.eq (.agg #[.bool s9, .slice P9 Pn9 Pc9, .slice R9 Rn9 Rc9]), Fact.eq (.bool true), Fact.eq (.bool false), Fact.eq (.bool false), Fact.eq (.bool false), Fact.eq (de), Fact.eq (.int .i64 dz), Fact.eq (.int .i64 dz), Fact.eq (.bool false), Fact.eq (.bool false)] [Fact.any, Fact.any, Fact.any, Fact.any] [⟨20, 3, 24, 20, #[.bool b0, .slice A0 n0 c0, .slice D0 m0 e0]⟩, ⟨20, 4, 24, 20, #[.bool b1, .slice A1 n1 c1, .slice D1 m1 e1]⟩, ⟨20, 7, 24, 20, #[.bool s7, .slice P7 Pn7 Pc7, .slice R7 Rn7 Rc7]⟩, ⟨20, 9, 24, 20, #[.bool s9, .slice P9 Pn9 Pc9, .slice R9 Rn9 Rc9]⟩] [w.heap.size, w.heap.size + 1, w3.heap.size, w5.heap.size] [none, none, none, none, none, none, none, none, none, none, none, none, none, none, none, none, none, none, none, none, none, none, none, none, none, none, none, none, none, none, none, none, none, none, none, none, some 36, some 37, some 38, some 39, some 40, some 41, some 42, some 43, some 44, some 45, some 46, some 47, some 48, some 49, some 50, some 51, some 52, some 53, some 54, some 55, none, none, none, none, none, none, none, none, none, none, none, none, none, none, none, none, none, none, none, none, none, none, none, none, none, none, none, none, none, none, none, none, none, none, none, none, none, none, none] (by kernel_rfl) (by kernel_rfl) (by kernel_rfl) rfl B ?_ ?_ ?_ ?_ ?_
  · exact ⟨fun _ => ⟨by simp, rfl, OB3⟩, fun _ => ⟨by simp, rfl, OB4⟩, fun _ => ⟨by simp, rfl, OB7⟩, fun _ => ⟨by simp, rfl, OB9⟩, trivial⟩
  · exact .inl ⟨Nat.le_refl _, Nat.le_refl _, Nat.le_refl _, Nat.le_refl _, trivial⟩
  · exact ⟨⟨noWords_R _ _ _ _ _ _ _, (.inl (Nat.le_refl _)), (.inl (Nat.le_refl _))⟩, ⟨noWords_R _ _ _ _ _ _ _, (.inl (Nat.le_refl _)), (.inl (Nat.le_refl _))⟩, ⟨noWords_R _ _ _ _ _ _ _, (.inl (Nat.le_refl _)), (.inl (Nat.le_refl _))⟩, ⟨noWords_R _ _ _ _ _ _ _, (.inl (Nat.le_refl _)), (.inl (Nat.le_refl _))⟩, trivial⟩
  · refine ⟨?_, ?_, ?_, ?_, ?_, ?_, ?_, ?_, ?_, ?_, ?_, ?_, ?_, ?_, ?_, ?_, ?_, ?_, ?_, ?_, trivial⟩
    · exact .inr fun a w hp => ob_yes rfl (ob_loadR (hp.box (k := 0) rfl (Nat.le_refl _) (.inl (Nat.le_refl _)) (by kernel_rfl) rfl).1 (hp.box (k := 0) rfl (Nat.le_refl _) (.inl (Nat.le_refl _)) (by kernel_rfl) rfl).2 rfl)
    · exact .inr fun a w hp => ob_yes rfl (ob_loadR (hp.box (k := 1) rfl (Nat.le_refl _) (.inl (Nat.le_refl _)) (by kernel_rfl) rfl).1 (hp.box (k := 1) rfl (Nat.le_refl _) (.inl (Nat.le_refl _)) (by kernel_rfl) rfl).2 rfl)
    · refine .inr fun a w hp => ob_yes rfl ?_
      have h36 : a.tmps.getD 36 undef = .agg #[.bool b0, .slice A0 n0 c0, .slice D0 m0 e0] := (hp.fact 0 36 (by kernel_rfl) rfl)
      have h37 : a.tmps.getD 37 undef = .agg #[.bool b1, .slice A1 n1 c1, .slice D1 m1 e1] := (hp.fact 1 37 (by kernel_rfl) rfl)
      unfold Does
      go_simp
      refine (mulr_any _ _ _ _ _ 12 (F0.on hp.on) (F1.on hp.on) (by decide) (by decide)).mono ?_
      rintro e w' ⟨u, rfl, I8, P8⟩
      exact ⟨_, rfl, P8, I8⟩
    · exact .inr fun a w hp => ob_yes rfl (ob_loadR (hp.box (k := 0) rfl (Nat.le_refl _) (.inl (Nat.le_refl _)) (by kernel_rfl) rfl).1 (hp.box (k := 0) rfl (Nat.le_refl _) (.inl (Nat.le_refl _)) (by kernel_rfl) rfl).2 rfl)
    · exact .inr fun a w hp => ob_yes rfl (ob_loadR (hp.box (k := 1) rfl (Nat.le_refl _) (.inl (Nat.le_refl _)) (by kernel_rfl) rfl).1 (hp.box (k := 1) rfl (Nat.le_refl _) (.inl (Nat.le_refl _)) (by kernel_rfl) rfl).2 rfl)
    · refine .inr fun a w hp => ob_yes rfl ?_
      have h39 : a.tmps.getD 39 undef = .agg #[.bool b0, .slice A0 n0 c0, .slice D0 m0 e0] := (hp.fact 3 39 (by kernel_rfl) rfl)
      have h40 : a.tmps.getD 40 undef = .agg #[.bool b1, .slice A1 n1 c1, .slice D1 m1 e1] := (hp.fact 4 40 (by kernel_rfl) rfl)
      unfold Does
      go_simp
      refine (smul_any _ _ _ _ _ 12 (F0.on hp.on) (F1.on hp.on) (by decide) (by decide)).mono ?_
      rintro e w' ⟨u, rfl, I8, P8⟩
      exact ⟨_, rfl, P8, I8⟩
    · refine .inr fun a w hp => ob_yes rfl ?_
      have h38 : IsR w (a.tmps.getD 38 undef) (r0 * r1) (24) := (hp.fact 2 38 (by kernel_rfl) rfl)
      obtain ⟨v38, e38⟩ : ∃ v, a.tmps.getD 38 undef = v := ⟨_, rfl⟩
      rw [e38] at h38
      have h41 : IsR w (a.tmps.getD 41 undef) (r0 * r1) (24) := (hp.fact 5 41 (by kernel_rfl) rfl)
      obtain ⟨v41, e41⟩ : ∃ v, a.tmps.getD 41 undef = v := ⟨_, rfl⟩
      rw [e41] at h41
      unfold Does
      go_simp
      refine (rat_same _ _ _ _ _ _ h38 h41).mono ?_
      rintro e w' ⟨rfl, P8⟩
      exact ⟨_, rfl, P8, rfl⟩
    · refine .inr fun a w hp => ob_yes rfl ?_
      have h42 : a.tmps.getD 42 undef = .bool true := (hp.fact 6 42 (by kernel_rfl) rfl)
      unfold Does
      go_simp
      exact ⟨_, rfl, On.refl _, by show Value.bool _ = Value.bool _; first | rfl | (simp; done)⟩
    · exact .inr fun a w hp => ob_yes rfl (ob_move (hp.fact 7 43 (by kernel_rfl) rfl))
    · exact .inr fun a w hp => ob_yes (wanted_yes (P := Tryz.prog) (j := 8) (d := 44) (b := false) rfl rfl (hp.fact 8 44 (by kernel_rfl) rfl)) (ob_loadR (hp.box (k := 2) rfl (Nat.le_refl _) (.inl (Nat.le_refl _)) (by kernel_rfl) rfl).1 (hp.box (k := 2) rfl (Nat.le_refl _) (.inl (Nat.le_refl _)) (by kernel_rfl) rfl).2 rfl)
    · exact .inr fun a w hp => ob_yes (wanted_yes (P := Tryz.prog) (j := 8) (d := 44) (b := false) rfl rfl (hp.fact 8 44 (by kernel_rfl) rfl)) (ob_loadR (hp.box (k := 3) rfl (Nat.le_refl _) (.inl (Nat.le_refl _)) (by kernel_rfl) rfl).1 (hp.box (k := 3) rfl (Nat.le_refl _) (.inl (Nat.le_refl _)) (by kernel_rfl) rfl).2 rfl)
    · refine .inr fun a w hp => ob_yes (wanted_yes (P := Tryz.prog) (j := 8) (d := 44) (b := false) rfl rfl (hp.fact 8 44 (by kernel_rfl) rfl)) ?_
      have h45 : a.tmps.getD 45 undef = .agg #[.bool s7, .slice P7 Pn7 Pc7, .slice R7 Rn7 Rc7] := (hp.fact 9 45 (by kernel_rfl) rfl)
      have h46 : a.tmps.getD 46 undef = .agg #[.bool s9, .slice P9 Pn9 Pc9, .slice R9 Rn9 Rc9] := (hp.fact 10 46 (by kernel_rfl) rfl)
      unfold Does
      go_simp
      refine (rat_same _ _ _ _ _ _ (I7.kept hp.kept) (I9.kept hp.kept)).mono ?_
      rintro e w' ⟨rfl, P8⟩
      exact ⟨_, rfl, P8, rfl⟩
    · refine .inr fun a w hp => ob_yes (wanted_yes (P := Tryz.prog) (j := 8) (d := 44) (b := false) rfl rfl (hp.fact 8 44 (by kernel_rfl) rfl)) ?_
      have h47 : a.tmps.getD 47 undef = .bool true := (hp.fact 11 47 (by kernel_rfl) rfl)
      unfold Does
      go_simp
      exact ⟨_, rfl, On.refl _, by show Value.bool _ = Value.bool _; first | rfl | (simp; done)⟩
    · refine .inr fun a w hp => ob_yes rfl ?_
      have h44 : a.tmps.getD 44 undef = .bool false := (hp.fact 8 44 (by kernel_rfl) rfl)
      have h48 : a.tmps.getD 48 undef = .bool false := (hp.fact 12 48 (by kernel_rfl) rfl)
      unfold Does
      go_simp
      exact ⟨_, rfl, On.refl _, rfl⟩
    · exact .inr fun a w hp => ob_yes rfl (ob_move (hp.fact 13 49 (by kernel_rfl) rfl))
    · exact .inr fun a w hp => ob_yes (wanted_yes (P := Tryz.prog) (j := 14) (d := 50) (b := false) rfl rfl (hp.fact 14 50 (by kernel_rfl) rfl)) (ob_move (hp.same 8 (by kernel_rfl)))
    · refine .inr fun a w hp => ob_yes (wanted_yes (P := Tryz.prog) (j := 14) (d := 50) (b := false) rfl rfl (hp.fact 14 50 (by kernel_rfl) rfl)) ?_
      have h51 : a.tmps.getD 51 undef = de := (hp.fact 15 51 (by kernel_rfl) rfl)
      unfold Does
      go_simp
      refine (HTD3.out _).mono ?_
      rintro e w' ⟨rfl, rfl⟩
      exact ⟨_, rfl, On.refl _, rfl⟩
    · exact .inr fun a w hp => ob_yes (wanted_yes (P := Tryz.prog) (j := 14) (d := 50) (b := false) rfl rfl (hp.fact 14 50 (by kernel_rfl) rfl)) (ob_move (hp.same 10 (by kernel_rfl)))
    · refine .inr fun a w hp => ob_yes (wanted_yes (P := Tryz.prog) (j := 14) (d := 50) (b := false) rfl rfl (hp.fact 14 50 (by kernel_rfl) rfl)) ?_
      have h52 : a.tmps.getD 52 undef = .int .i64 dz := (hp.fact 16 52 (by kernel_rfl) rfl)
      have h53 : a.tmps.getD 53 undef = .int .i64 dz := (hp.fact 17 53 (by kernel_rfl) rfl)
      unfold Does
      go_simp
      exact ⟨_, rfl, On.refl _, by show Value.bool _ = Value.bool _; first | rfl | (simp; done)⟩
    · refine .inr fun a w hp => ob_yes rfl ?_
      have h50 : a.tmps.getD 50 undef = .bool false := (hp.fact 14 50 (by kernel_rfl) rfl)
      have h54 : a.tmps.getD 54 undef = .bool false := (hp.fact 18 54 (by kernel_rfl) rfl)
      unfold Does
      go_simp
      exact ⟨_, rfl, On.refl _, rfl⟩
  · intro f wr hon hk hf hb hap
    obtain ⟨q0, q1, q2, q3, qz⟩ := hb
    clear qz
    have O3 : Own wr (w.heap.size) 24 #[.bool b0, .slice A0 n0 c0, .slice D0 m0 e0] := q0
    have c3_0 : wr.cell? ⟨w.heap.size, 0, none⟩ = some (.bool b0) := O3.cell 0
    have z3_0 := O3.frozen 0
    have c3_1 : wr.cell? ⟨w.heap.size, 1, none⟩ = some (.slice A0 n0 c0) := O3.cell 1
    have z3_1 := O3.frozen 1
    have c3_2 : wr.cell? ⟨w.heap.size, 2, none⟩ = some (.slice D0 m0 e0) := O3.cell 2
    have z3_2 := O3.frozen 2
    clear q0
    have O4 : Own wr (w.heap.size + 1) 24 #[.bool b1, .slice A1 n1 c1, .slice D1 m1 e1] := q1
    have c4_0 : wr.cell? ⟨w.heap.size + 1, 0, none⟩ = some (.bool b1) := O4.cell 0
    have z4_0 := O4.frozen 0
    have c4_1 : wr.cell? ⟨w.heap.size + 1, 1, none⟩ = some (.slice A1 n1 c1) := O4.cell 1
    have z4_1 := O4.frozen 1
    have c4_2 : wr.cell? ⟨w.heap.size + 1, 2, none⟩ = some (.slice D1 m1 e1) := O4.cell 2
    have z4_2 := O4.frozen 2
    clear q1
    have O7 : Own wr (w3.heap.size) 24 #[.bool s7, .slice P7 Pn7 Pc7, .slice R7 Rn7 Rc7] := q2
    have c7_0 : wr.cell? ⟨w3.heap.size, 0, none⟩ = some (.bool s7) := O7.cell 0
    have z7_0 := O7.frozen 0
    have c7_1 : wr.cell? ⟨w3.heap.size, 1, none⟩ = some (.slice P7 Pn7 Pc7) := O7.cell 1
    have z7_1 := O7.frozen 1
    have c7_2 : wr.cell? ⟨w3.heap.size, 2, none⟩ = some (.slice R7 Rn7 Rc7) := O7.cell 2
    have z7_2 := O7.frozen 2
    clear q2
    have O9 : Own wr (w5.heap.size) 24 #[.bool s9, .slice P9 Pn9 Pc9, .slice R9 Rn9 Rc9] := q3
    have c9_0 : wr.cell? ⟨w5.heap.size, 0, none⟩ = some (.bool s9) := O9.cell 0
    have z9_0 := O9.frozen 0
    have c9_1 : wr.cell? ⟨w5.heap.size, 1, none⟩ = some (.slice P9 Pn9 Pc9) := O9.cell 1
    have z9_1 := O9.frozen 1
    have c9_2 : wr.cell? ⟨w5.heap.size, 2, none⟩ = some (.slice R9 Rn9 Rc9) := O9.cell 2
    have z9_2 := O9.frozen 2
    clear q3
    have e55 : f 55 = .bool false := hf 19 55 rfl
    clear hf hap
    simp only [fillL, e55]
    clear e55
    have OB3 : w.heap.size ≤ w.heap.size ∧ Own wr (w.heap.size) 24 #[.bool b0, .slice A0 n0 c0, .slice D0 m0 e0] := ⟨by omega, O3⟩
    clear c3_0 z3_0 c3_1 z3_1 c3_2 z3_2 O3
    have OB4 : w.heap.size ≤ w.heap.size + 1 ∧ Own wr (w.heap.size + 1) 24 #[.bool b1, .slice A1 n1 c1, .slice D1 m1 e1] := ⟨by omega, O4⟩
    clear c4_0 z4_0 c4_1 z4_1 c4_2 z4_2 O4
    clear c7_0 z7_0 c7_1 z7_1 c7_2 z7_2 O7
    clear c9_0 z9_0 c9_1 z9_1 c9_2 z9_2 O9
    clear B OB7 OB9 I7 I9 B0_7 B0_9
    have B := hon
    clear hon hk
    have y3_0 : wr.cell? ⟨w.heap.size, 0, none⟩ = some (.bool b0) := OB3.2.cell 0
    have y3_1 : wr.cell? ⟨w.heap.size, 1, none⟩ = some (.slice A0 n0 c0) := OB3.2.cell 1
    have y3_2 : wr.cell? ⟨w.heap.size, 2, none⟩ = some (.slice D0 m0 e0) := OB3.2.cell 2
    have y3_f0 := OB3.2.frozen 0
    have y3_f1 := OB3.2.frozen 1
    have y3_f2 := OB3.2.frozen 2
    go_wp2_with fail
    refine (HTE1.out _ _ (FP.on B)).mono ?_
    rintro e w6 ⟨v11, rfl, I11, P6⟩
    clear y3_0 y3_f0 y3_1 y3_f1 y3_2 y3_f2
    replace OB3 := And.intro OB3.1 (OB3.2.on P6)
    replace OB4 := And.intro OB4.1 (OB4.2.on P6)
    replace B := B.trans P6
    obtain ⟨P11, Pn11, Pc11, _, R11, Rn11, Rc11, _, rfl, _⟩ := id I11
    obtain ⟨s11, hs11⟩ : ∃ x, decide (pq < 0) = x := ⟨_, rfl⟩
    rw [hs11] at I11
    try rw [hs11]
    clear hs11
    have B0_11 := B.size
    have PA := (On.refl w6).alloc (.cells #[.bool s11, .slice P11 Pn11 Pc11, .slice R11 Rn11 Rc11] 24)
    replace OB3 := And.intro OB3.1 (OB3.2.on PA)
    replace OB4 := And.intro OB4.1 (OB4.2.on PA)
    replace B := B.trans PA
    replace I11 := I11.on PA
    have OB11 : w.heap.size ≤ w6.heap.size ∧ _ := ⟨B0_11, Own.new w6 24 #[.bool s11, .slice P11 Pn11 Pc11, .slice R11 Rn11 Rc11]⟩
    clear PA
    have y3_0 : (w6.alloc (.cells #[.bool s11, .slice P11 Pn11 Pc11, .slice R11 Rn11 Rc11] 24)).cell? ⟨w.heap.size, 0, none⟩ = some (.bool b0) := OB3.2.cell 0
    have y3_1 : (w6.alloc (.cells #[.bool s11, .slice P11 Pn11 Pc11, .slice R11 Rn11 Rc11] 24)).cell? ⟨w.heap.size, 1, none⟩ = some (.slice A0 n0 c0) := OB3.2.cell 1
    have y3_2 : (w6.alloc (.cells #[.bool s11, .slice P11 Pn11 Pc11, .slice R11 Rn11 Rc11] 24)).cell? ⟨w.heap.size, 2, none⟩ = some (.slice D0 m0 e0) := OB3.2.cell 2
    have y3_f0 := OB3.2.frozen 0
    have y3_f1 := OB3.2.frozen 1
    have y3_f2 := OB3.2.frozen 2
    go_wp2_with fail
    refine (HTE2.out _ _ (FP.on B)).mono ?_
    rintro e w8 ⟨v13, rfl, I13, P8⟩
    clear y3_0 y3_f0 y3_1 y3_f1 y3_2 y3_f2
    replace OB3 := And.intro OB3.1 (OB3.2.on P8)
    replace OB4 := And.intro OB4.1 (OB4.2.on P8)
    replace OB11 := And.intro OB11.1 (OB11.2.on P8)
    replace B := B.trans P8
    replace I11 := I11.on P8
    obtain ⟨P13, Pn13, Pc13, _, R13, Rn13, Rc13, _, rfl, _⟩ := id I13
    obtain ⟨s13, hs13⟩ : ∃ x, decide (pq < 0) = x := ⟨_, rfl⟩
    rw [hs13] at I13
    try rw [hs13]
    clear hs13
    have B0_13 := B.size
    have PA := (On.refl w8).alloc (.cells #[.bool s13, .slice P13 Pn13 Pc13, .slice R13 Rn13 Rc13] 24)
    replace OB3 := And.intro OB3.1 (OB3.2.on PA)
    replace OB4 := And.intro OB4.1 (OB4.2.on PA)
    replace OB11 := And.intro OB11.1 (OB11.2.on PA)
    replace B := B.trans PA
    replace I13 := I13.on PA
    have OB13 : w.heap.size ≤ w8.heap.size ∧ _ := ⟨B0_13, Own.new w8 24 #[.bool s13, .slice P13 Pn13 Pc13, .slice R13 Rn13 Rc13]⟩
    clear PA
    replace I11 := I11.on ((On.refl w8).alloc (.cells #[.bool s13, .slice P13 Pn13 Pc13, .slice R13 Rn13 Rc13] 24))
    have y11_0 : (w8.alloc (.cells #[.bool s13, .slice P13 Pn13 Pc13, .slice R13 Rn13 Rc13] 24)).cell? ⟨w6.heap.size, 0, none⟩ = some (.bool s11) := OB11.2.cell 0
    have y11_1 : (w8.alloc (.cells #[.bool s13, .slice P13 Pn13 Pc13, .slice R13 Rn13 Rc13] 24)).cell? ⟨w6.heap.size, 1, none⟩ = some (.slice P11 Pn11 Pc11) := OB11.2.cell 1
    have y11_2 : (w8.alloc (.cells #[.bool s13, .slice P13 Pn13 Pc13, .slice R13 Rn13 Rc13] 24)).cell? ⟨w6.heap.size, 2, none⟩ = some (.slice R11 Rn11 Rc11) := OB11.2.cell 2
    have y11_f0 := OB11.2.frozen 0
    have y11_f1 := OB11.2.frozen 1
    have y11_f2 := OB11.2.frozen 2
    have y13_0 : (w8.alloc (.cells #[.bool s13, .slice P13 Pn13 Pc13, .slice R13 Rn13 Rc13] 24)).cell? ⟨w8.heap.size, 0, none⟩ = some (.bool s13) := OB13.2.cell 0
    have y13_1 : (w8.alloc (.cells #[.bool s13, .slice P13 Pn13 Pc13, .slice R13 Rn13 Rc13] 24)).cell? ⟨w8.heap.size, 1, none⟩ = some (.slice P13 Pn13 Pc13) := OB13.2.cell 1
    have y13_2 : (w8.alloc (.cells #[.bool s13, .slice P13 Pn13 Pc13, .slice R13 Rn13 Rc13] 24)).cell? ⟨w8.heap.size, 2, none⟩ = some (.slice R13 Rn13 Rc13) := OB13.2.cell 2
    have y13_f0 := OB13.2.frozen 0
    have y13_f1 := OB13.2.frozen 1
    have y13_f2 := OB13.2.frozen 2
    go_wp2_with fail
    refine (rat_same _ _ _ _ _ _ I11 I13).mono ?_
    rintro e w9 ⟨rfl, P9⟩
    replace B := B.trans P9
    go_wp2_with fail
    refine (HTE3.out _).mono ?_
    rintro e w' ⟨rfl, rfl⟩
    go_wp2
    go_ret
    exact ⟨rfl, B⟩
set_option maxRecDepth 100000 in
set_option maxHeartbeats 1600000 in
theorem products_smallD (w : World) (hx : MX w) (b0 : Bool) (A0 D0 : Option Addr) (n0 c0 m0 e0 : Nat) (x0 y0 : List Nat) (R0 : Rd w A0 n0 c0 x0) (S0 : Rd w D0 m0 e0 y0) (b1 : Bool) (A1 D1 : Option Addr) (n1 c1 m1 e1 : Nat) (x1 y1 : List Nat) (R1 : Rd w A1 n1 c1 x1) (S1 : Rd w D1 m1 e1 y1) (a : Int) (ha0 : -9223372036854775808 ≤ a) (ha1 : a ≤ 9223372036854775807) (hs : n0 ≤ 12 ∧ m0 ≤ 12 ∧ n1 ≤ 12 ∧ m1 ≤ 12) (hc : 3 < n0 + m0) (hd : 64 < a) :
    Calls Tryz.prog 4 #[.agg #[.bool b0, .slice A0 n0 c0, .slice D0 m0 e0], .agg #[.bool b1, .slice A1 n1 c1, .slice D1 m1 e1], .int .i64 a] w fun e w' => e = .returned (.bool true) ∧ On w w' := by
  obtain ⟨r0, hr0⟩ : ∃ x, raw b0 x0 y0 = x := ⟨_, rfl⟩
  have F0 : Fld w (.agg #[.bool b0, .slice A0 n0 c0, .slice D0 m0 e0]) r0 12 := Fld.mk3 R0 S0 (by omega) (by omega) hr0
  obtain ⟨r1, hr1⟩ : ∃ x, raw b1 x1 y1 = x := ⟨_, rfl⟩
  have F1 : Fld w (.agg #[.bool b1, .slice A1 n1 c1, .slice D1 m1 e1]) r1 12 := Fld.mk3 R1 S1 (by omega) (by omega) hr1
  have FP : Fld w (.agg #[.bool b0, .slice A0 n0 c0, .slice D0 m0 e0]) r0 12 := Fld.mk3 R0 S0 (by omega) (by omega) hr0
  clear hr0 hr1
  obtain ⟨dq, de, dz, TD1, TD2, TD3⟩ := div_twin r0 r1 12 24 (by decide) (by decide) rfl
  obtain ⟨ax, hax⟩ : ∃ x, a = x := ⟨_, rfl⟩
  have hbx : ax < -64 ∨ 64 < ax ∨ (ax.natAbs ≤ 64 ∧ 12 * ax.natAbs < 193) := by
    rw [← hax]
    omega
  obtain ⟨pq, pe, pz, TE1, TE2, TE3⟩ := pow_twin r0 12 ax (by decide) (by decide) hbx
  clear hbx
  have HTD1 := Lib.hid TD1
  clear TD1
  have HTD2 := Lib.hid TD2
  clear TD2
  have HTD3 := Lib.hid TD3
  clear TD3
  have HTE1 := Lib.hid TE1
  clear TE1
  have HTE2 := Lib.hid TE2
  clear TE2
  have HTE3 := Lib.hid TE3
  clear TE3
  subst hax
  have hl3 : 3 < (n0 : Int) + (m0 : Int) := by omega
  have hb0 : -64 ≤ a := by omega
  clear hc
  have B : On w ((w.alloc (.cells #[.bool b0, .slice A0 n0 c0, .slice D0 m0 e0] 24)).alloc (.cells #[.bool b1, .slice A1 n1 c1, .slice D1 m1 e1] 24)) := On.alloc (On.alloc (On.refl w) _) _
  have OB3 : w.heap.size ≤ w.heap.size ∧ Own ((w.alloc (.cells #[.bool b0, .slice A0 n0 c0, .slice D0 m0 e0] 24)).alloc (.cells #[.bool b1, .slice A1 n1 c1, .slice D1 m1 e1] 24)) (w.heap.size) 24 #[.bool b0, .slice A0 n0 c0, .slice D0 m0 e0] := ⟨by omega, ((Own.at_ w (w.heap.size) (by simp) 24 #[.bool b0, .slice A0 n0 c0, .slice D0 m0 e0]).alloc (.cells #[.bool b1, .slice A1 n1 c1, .slice D1 m1 e1] 24))⟩
  have OB4 : w.heap.size ≤ w.heap.size + 1 ∧ Own ((w.alloc (.cells #[.bool b0, .slice A0 n0 c0, .slice D0 m0 e0] 24)).alloc (.cells #[.bool b1, .slice A1 n1 c1, .slice D1 m1 e1] 24)) (w.heap.size + 1) 24 #[.bool b1, .slice A1 n1 c1, .slice D1 m1 e1] := ⟨by omega, (Own.at_ (w.alloc (.cells #[.bool b0, .slice A0 n0 c0, .slice D0 m0 e0] 24)) (w.heap.size + 1) (by simp) 24 #[.bool b1, .slice A1 n1 c1, .slice D1 m1 e1])⟩
  go_enter Tryz.func4, Tryz.ntmps4
  go_wp2_with fail
  refine (awake02 _ (hx.on B)).mono ?_
  rintro e w1 ⟨rfl, P1⟩
  replace OB3 := And.intro OB3.1 (OB3.2.on P1)
  replace OB4 := And.intro OB4.1 (OB4.2.on P1)
  replace B := B.trans P1
  have y3_0 : w1.cell? ⟨w.heap.size, 0, none⟩ = some (.bool b0) := OB3.2.cell 0
  have y3_1 : w1.cell? ⟨w.heap.size, 1, none⟩ = some (.slice A0 n0 c0) := OB3.2.cell 1
  have y3_2 : w1.cell? ⟨w.heap.size, 2, none⟩ = some (.slice D0 m0 e0) := OB3.2.cell 2
  have y3_f0 := OB3.2.frozen 0
  have y3_f1 := OB3.2.frozen 1
  have y3_f2 := OB3.2.frozen 2
  have y4_0 : w1.cell? ⟨w.heap.size + 1, 0, none⟩ = some (.bool b1) := OB4.2.cell 0
  have y4_1 : w1.cell? ⟨w.heap.size + 1, 1, none⟩ = some (.slice A1 n1 c1) := OB4.2.cell 1
  have y4_2 : w1.cell? ⟨w.heap.size + 1, 2, none⟩ = some (.slice D1 m1 e1) := OB4.2.cell 2
  have y4_f0 := OB4.2.frozen 0
  have y4_f1 := OB4.2.frozen 1
  have y4_f2 := OB4.2.frozen 2
  go_wp2_with fail
  clear y3_0 y3_f0 y3_1 y3_f1 y3_2 y3_f2
  clear y4_0 y4_f0 y4_1 y4_f1 y4_2 y4_f2
  have B1 := (On.refl w1).alloc (.cells #[.bool b0, .slice A0 n0 c0, .slice D0 m0 e0, .bool b1, .slice A1 n1 c1, .slice D1 m1 e1] 24)
  replace OB3 := And.intro OB3.1 (OB3.2.on B1)
  replace OB4 := And.intro OB4.1 (OB4.2.on B1)
  replace B := B.trans B1
  have hlens := rlens2 b0 A0 D0 n0 c0 m0 e0 x0 y0 (R0.on B) (S0.on B) b1 A1 D1 n1 c1 m1 e1 x1 y1 (R1.on B) (S1.on B) (Own.new w1 24 #[.bool b0, .slice A0 n0 c0, .slice D0 m0 e0, .bool b1, .slice A1 n1 c1, .slice D1 m1 e1])
  refine (rlarge_no _ _ 2 2 _ hlens rfl (by decide) (by decide) (by decide) (by simp; omega)).mono ?_
  rintro e w2 ⟨rfl, P2⟩
  clear hlens B1 P1
  replace OB3 := And.intro OB3.1 (OB3.2.on P2)
  replace OB4 := And.intro OB4.1 (OB4.2.on P2)
  replace B := B.trans P2
  clear P2
  clear hx
  have y3_0 : w2.cell? ⟨w.heap.size, 0, none⟩ = some (.bool b0) := OB3.2.cell 0
  have y3_1 : w2.cell? ⟨w.heap.size, 1, none⟩ = some (.slice A0 n0 c0) := OB3.2.cell 1
  have y3_2 : w2.cell? ⟨w.heap.size, 2, none⟩ = some (.slice D0 m0 e0) := OB3.2.cell 2
  have y3_f0 := OB3.2.frozen 0
  have y3_f1 := OB3.2.frozen 1
  have y3_f2 := OB3.2.frozen 2
  have y4_0 : w2.cell? ⟨w.heap.size + 1, 0, none⟩ = some (.bool b1) := OB4.2.cell 0
  have y4_1 : w2.cell? ⟨w.heap.size + 1, 1, none⟩ = some (.slice A1 n1 c1) := OB4.2.cell 1
  have y4_2 : w2.cell? ⟨w.heap.size + 1, 2, none⟩ = some (.slice D1 m1 e1) := OB4.2.cell 2
  have y4_f0 := OB4.2.frozen 0
  have y4_f1 := OB4.2.frozen 1
  have y4_f2 := OB4.2.frozen 2
  go_wp2_with fail
  refine (HTD1.out _ _ _ (F0.on B) (F1.on B)).mono ?_
  rintro e w3 ⟨v7, rfl, I7, P3⟩
  clear y3_0 y3_f0 y3_1 y3_f1 y3_2 y3_f2
  clear y4_0 y4_f0 y4_1 y4_f1 y4_2 y4_f2
  replace OB3 := And.intro OB3.1 (OB3.2.on P3)
  replace OB4 := And.intro OB4.1 (OB4.2.on P3)
  replace B := B.trans P3
  obtain ⟨P7, Pn7, Pc7, _, R7, Rn7, Rc7, _, rfl, _⟩ := id I7
  obtain ⟨s7, hs7⟩ : ∃ x, decide (dq < 0) = x := ⟨_, rfl⟩
  rw [hs7] at I7
  try rw [hs7]
  clear hs7
  have B0_7 := B.size
  have PA := (On.refl w3).alloc (.cells #[.bool s7, .slice P7 Pn7 Pc7, .slice R7 Rn7 Rc7] 24)
  replace OB3 := And.intro OB3.1 (OB3.2.on PA)
  replace OB4 := And.intro OB4.1 (OB4.2.on PA)
  replace B := B.trans PA
  replace I7 := I7.on PA
  have OB7 : w.heap.size ≤ w3.heap.size ∧ _ := ⟨B0_7, Own.new w3 24 #[.bool s7, .slice P7 Pn7 Pc7, .slice R7 Rn7 Rc7]⟩
  clear PA
  have y3_0 : (w3.alloc (.cells #[.bool s7, .slice P7 Pn7 Pc7, .slice R7 Rn7 Rc7] 24)).cell? ⟨w.heap.size, 0, none⟩ = some (.bool b0) := OB3.2.cell 0
  have y3_1 : (w3.alloc (.cells #[.bool s7, .slice P7 Pn7 Pc7, .slice R7 Rn7 Rc7] 24)).cell? ⟨w.heap.size, 1, none⟩ = some (.slice A0 n0 c0) := OB3.2.cell 1
  have y3_2 : (w3.alloc (.cells #[.bool s7, .slice P7 Pn7 Pc7, .slice R7 Rn7 Rc7] 24)).cell? ⟨w.heap.size, 2, none⟩ = some (.slice D0 m0 e0) := OB3.2.cell 2
  have y3_f0 := OB3.2.frozen 0
  have y3_f1 := OB3.2.frozen 1
  have y3_f2 := OB3.2.frozen 2
  have y4_0 : (w3.alloc (.cells #[.bool s7, .slice P7 Pn7 Pc7, .slice R7 Rn7 Rc7] 24)).cell? ⟨w.heap.size + 1, 0, none⟩ = some (.bool b1) := OB4.2.cell 0
  have y4_1 : (w3.alloc (.cells #[.bool s7, .slice P7 Pn7 Pc7, .slice R7 Rn7 Rc7] 24)).cell? ⟨w.heap.size + 1, 1, none⟩ = some (.slice A1 n1 c1) := OB4.2.cell 1
  have y4_2 : (w3.alloc (.cells #[.bool s7, .slice P7 Pn7 Pc7, .slice R7 Rn7 Rc7] 24)).cell? ⟨w.heap.size + 1, 2, none⟩ = some (.slice D1 m1 e1) := OB4.2.cell 2
  have y4_f0 := OB4.2.frozen 0
  have y4_f1 := OB4.2.frozen 1
  have y4_f2 := OB4.2.frozen 2
  go_wp2_with fail
  refine (HTD2.out _ _ _ (F0.on B) (F1.on B)).mono ?_
  rintro e w5 ⟨v9, rfl, I9, P5⟩
  clear y3_0 y3_f0 y3_1 y3_f1 y3_2 y3_f2
  clear y4_0 y4_f0 y4_1 y4_f1 y4_2 y4_f2
  replace OB3 := And.intro OB3.1 (OB3.2.on P5)
  replace OB4 := And.intro OB4.1 (OB4.2.on P5)
  replace OB7 := And.intro OB7.1 (OB7.2.on P5)
  replace B := B.trans P5
  replace I7 := I7.on P5
  obtain ⟨P9, Pn9, Pc9, _, R9, Rn9, Rc9, _, rfl, _⟩ := id I9
  obtain ⟨s9, hs9⟩ : ∃ x, decide (dq < 0) = x := ⟨_, rfl⟩
  rw [hs9] at I9
  try rw [hs9]
  clear hs9
  have B0_9 := B.size
  have PA := (On.refl w5).alloc (.cells #[.bool s9, .slice P9 Pn9 Pc9, .slice R9 Rn9 Rc9] 24)
  replace OB3 := And.intro OB3.1 (OB3.2.on PA)
  replace OB4 := And.intro OB4.1 (OB4.2.on PA)
  replace OB7 := And.intro OB7.1 (OB7.2.on PA)
  replace B := B.trans PA
  replace I9 := I9.on PA
  have OB9 : w.heap.size ≤ w5.heap.size ∧ _ := ⟨B0_9, Own.new w5 24 #[.bool s9, .slice P9 Pn9 Pc9, .slice R9 Rn9 Rc9]⟩
  clear PA
  replace I7 := I7.on ((On.refl w5).alloc (.cells #[.bool s9, .slice P9 Pn9 Pc9, .slice R9 Rn9 Rc9] 24))
  clear P3 P5
  go_wp2
  refine wp_region_facts (by kernel_rfl) w [Fact.eq (.agg #[.bool b0, .slice A0 n0 c0, .slice D0 m0 e0]), Fact.eq (.agg #[.bool b1, .slice A1 n1 c1, .slice D1 m1 e1]), Fact.rat (r0 * r1) (24), Fact.eq (.agg #[.bool b0, .slice A0 n0 c0, .slice D0 m0 e0]), Fact.eq (.agg #[.bool b1, .slice A1 n1 c1, .slice D1 m1 e1]), Fact.rat (r0 * r1) (24), Fact.eq (.bool true), Fact.eq (.bool false), Fact.eq (.bool false), Fact.eq (.agg #[.bool s7, .slice P7 Pn7 Pc7, .slice R7 Rn7 Rc7]), Fact.eq (.agg #[.bool s9, .slice P9 Pn9 Pc9, .slice R9 Rn9 Rc9]), Fact.eq (.bool true), Fact.eq (.bool false), Fact.eq (.bool false), Fact.eq (.bool false), Fact.eq (de), Fact.eq (.int .i64 dz), Fact.eq (.int .i64 dz), Fact.eq (.bool false), Fact.eq (.bool false)] [Fact.any, Fact.any, Fact.any, Fact.any] [⟨20, 3, 24, 20, #[.bool b0, .slice A0 n0 c0, .slice D0 m0 e0]⟩, ⟨20, 4, 24, 20, #[.bool b1, .slice A1 n1 c1, .slice D1 m1 e1]⟩, ⟨20, 7, 24, 20, #[.bool s7, .slice P7 Pn7 Pc7, .slice R7 Rn7 Rc7]⟩, ⟨20, 9, 24, 20, #[.bool s9, .slice P9 Pn9 Pc9, .slice R9 Rn9 Rc9]⟩] [w.heap.size, w.heap.size + 1, w3.heap.size, w5.heap.size] [none, none, none, none, none, none, none, none, none, none, none, none, none, none, none, none, none, none, none, none, none, none, none, none, none, none, none, none, none, none, none, none, none, none, none, none, some 36, some 37, some 38, some 39, some 40, some 41, some 42, some 43, some 44, some 45, some 46, some 47, some 48, some 49, some 50, some 51, some 52, some 53, some 54, some 55, none, none, none, none, none, none, none, none, none, none, none, none, none, none, none, none, none, none, none, none, none, none, none, none, none, none, none, none, none, none, none, none, none, none, none, none, none, none, none] (by kernel_rfl) (by kernel_rfl) (by kernel_rfl) rfl B ?_ ?_ ?_ ?_ ?_
  · exact ⟨fun _ => ⟨by simp, rfl, OB3⟩, fun _ => ⟨by simp, rfl, OB4⟩, fun _ => ⟨by simp, rfl, OB7⟩, fun _ => ⟨by simp, rfl, OB9⟩, trivial⟩
  · exact .inl ⟨Nat.le_refl _, Nat.le_refl _, Nat.le_refl _, Nat.le_refl _, trivial⟩
  · exact ⟨⟨noWords_R _ _ _ _ _ _ _, (.inl (Nat.le_refl _)), (.inl (Nat.le_refl _))⟩, ⟨noWords_R _ _ _ _ _ _ _, (.inl (Nat.le_refl _)), (.inl (Nat.le_refl _))⟩, ⟨noWords_R _ _ _ _ _ _ _, (.inl (Nat.le_refl _)), (.inl (Nat.le_refl _))⟩, ⟨noWords_R _ _ _ _ _ _ _, (.inl (Nat.le_refl _)), (.inl (Nat.le_refl _))⟩, trivial⟩
  · refine ⟨?_, ?_, ?_, ?_, ?_, ?_, ?_, ?_, ?_, ?_, ?_, ?_, ?_, ?_, ?_, ?_, ?_, ?_, ?_, ?_, trivial⟩
    · exact .inr fun a w hp => ob_yes rfl (ob_loadR (hp.box (k := 0) rfl (Nat.le_refl _) (.inl (Nat.le_refl _)) (by kernel_rfl) rfl).1 (hp.box (k := 0) rfl (Nat.le_refl _) (.inl (Nat.le_refl _)) (by kernel_rfl) rfl).2 rfl)
    · exact .inr fun a w hp => ob_yes rfl (ob_loadR (hp.box (k := 1) rfl (Nat.le_refl _) (.inl (Nat.le_refl _)) (by kernel_rfl) rfl).1 (hp.box (k := 1) rfl (Nat.le_refl _) (.inl (Nat.le_refl _)) (by kernel_rfl) rfl).2 rfl)
    · refine .inr fun a w hp => ob_yes rfl ?_
      have h36 : a.tmps.getD 36 undef = .agg #[.bool b0, .slice A0 n0 c0, .slice D0 m0 e0] := (hp.fact 0 36 (by kernel_rfl) rfl)
      have h37 : a.tmps.getD 37 undef = .agg #[.bool b1, .slice A1 n1 c1, .slice D1 m1 e1] := (hp.fact 1 37 (by kernel_rfl) rfl)
      unfold Does
      go_simp
      refine (mulr_any _ _ _ _ _ 12 (F0.on hp.on) (F1.on hp.on) (by decide) (by decide)).mono ?_
      rintro e w' ⟨u, rfl, I8, P8⟩
      exact ⟨_, rfl, P8, I8⟩
    · exact .inr fun a w hp => ob_yes rfl (ob_loadR (hp.box (k := 0) rfl (Nat.le_refl _) (.inl (Nat.le_refl _)) (by kernel_rfl) rfl).1 (hp.box (k := 0) rfl (Nat.le_refl _) (.inl (Nat.le_refl _)) (by kernel_rfl) rfl).2 rfl)
    · exact .inr fun a w hp => ob_yes rfl (ob_loadR (hp.box (k := 1) rfl (Nat.le_refl _) (.inl (Nat.le_refl _)) (by kernel_rfl) rfl).1 (hp.box (k := 1) rfl (Nat.le_refl _) (.inl (Nat.le_refl _)) (by kernel_rfl) rfl).2 rfl)
    · refine .inr fun a w hp => ob_yes rfl ?_
      have h39 : a.tmps.getD 39 undef = .agg #[.bool b0, .slice A0 n0 c0, .slice D0 m0 e0] := (hp.fact 3 39 (by kernel_rfl) rfl)
      have h40 : a.tmps.getD 40 undef = .agg #[.bool b1, .slice A1 n1 c1, .slice D1 m1 e1] := (hp.fact 4 40 (by kernel_rfl) rfl)
      unfold Does
      go_simp
      refine (smul_any _ _ _ _ _ 12 (F0.on hp.on) (F1.on hp.on) (by decide) (by decide)).mono ?_
      rintro e w' ⟨u, rfl, I8, P8⟩
      exact ⟨_, rfl, P8, I8⟩
    · refine .inr fun a w hp => ob_yes rfl ?_
      have h38 : IsR w (a.tmps.getD 38 undef) (r0 * r1) (24) := (hp.fact 2 38 (by kernel_rfl) rfl)
      obtain ⟨v38, e38⟩ : ∃ v, a.tmps.getD 38 undef = v := ⟨_, rfl⟩
      rw [e38] at h38
      have h41 : IsR w (a.tmps.getD 41 undef) (r0 * r1) (24) := (hp.fact 5 41 (by kernel_rfl) rfl)
      obtain ⟨v41, e41⟩ : ∃ v, a.tmps.getD 41 undef = v := ⟨_, rfl⟩
      rw [e41] at h41
      unfold Does
      go_simp
      refine (rat_same _ _ _ _ _ _ h38 h41).mono ?_
      rintro e w' ⟨rfl, P8⟩
      exact ⟨_, rfl, P8, rfl⟩
    · refine .inr fun a w hp => ob_yes rfl ?_
      have h42 : a.tmps.getD 42 undef = .bool true := (hp.fact 6 42 (by kernel_rfl) rfl)
      unfold Does
      go_simp
      exact ⟨_, rfl, On.refl _, by show Value.bool _ = Value.bool _; first | rfl | (simp; done)⟩
    · exact .inr fun a w hp => ob_yes rfl (ob_move (hp.fact 7 43 (by kernel_rfl) rfl))
    · exact .inr fun a w hp => ob_yes (wanted_yes (P := Tryz.prog) (j := 8) (d := 44) (b := false) rfl rfl (hp.fact 8 44 (by kernel_rfl) rfl)) (ob_loadR (hp.box (k := 2) rfl (Nat.le_refl _) (.inl (Nat.le_refl _)) (by kernel_rfl) rfl).1 (hp.box (k := 2) rfl (Nat.le_refl _) (.inl (Nat.le_refl _)) (by kernel_rfl) rfl).2 rfl)
    · exact .inr fun a w hp => ob_yes (wanted_yes (P := Tryz.prog) (j := 8) (d := 44) (b := false) rfl rfl (hp.fact 8 44 (by kernel_rfl) rfl)) (ob_loadR (hp.box (k := 3) rfl (Nat.le_refl _) (.inl (Nat.le_refl _)) (by kernel_rfl) rfl).1 (hp.box (k := 3) rfl (Nat.le_refl _) (.inl (Nat.le_refl _)) (by kernel_rfl) rfl).2 rfl)
    · refine .inr fun a w hp => ob_yes (wanted_yes (P := Tryz.prog) (j := 8) (d := 44) (b := false) rfl rfl (hp.fact 8 44 (by kernel_rfl) rfl)) ?_
      have h45 : a.tmps.getD 45 undef = .agg #[.bool s7, .slice P7 Pn7 Pc7, .slice R7 Rn7 Rc7] := (hp.fact 9 45 (by kernel_rfl) rfl)
      have h46 : a.tmps.getD 46 undef = .agg #[.bool s9, .slice P9 Pn9 Pc9, .slice R9 Rn9 Rc9] := (hp.fact 10 46 (by kernel_rfl) rfl)
      unfold Does
      go_simp
      refine (rat_same _ _ _ _ _ _ (I7.kept hp.kept) (I9.kept hp.kept)).mono ?_
      rintro e w' ⟨rfl, P8⟩
      exact ⟨_, rfl, P8, rfl⟩
    · refine .inr fun a w hp => ob_yes (wanted_yes (P := Tryz.prog) (j := 8) (d := 44) (b := false) rfl rfl (hp.fact 8 44 (by kernel_rfl) rfl)) ?_
      have h47 : a.tmps.getD 47 undef = .bool true := (hp.fact 11 47 (by kernel_rfl) rfl)
      unfold Does
      go_simp
      exact ⟨_, rfl, On.refl _, by show Value.bool _ = Value.bool _; first | rfl | (simp; done)⟩
    · refine .inr fun a w hp => ob_yes rfl ?_
      have h44 : a.tmps.getD 44 undef = .bool false := (hp.fact 8 44 (by kernel_rfl) rfl)
      have h48 : a.tmps.getD 48 undef = .bool false := (hp.fact 12 48 (by kernel_rfl) rfl)
      unfold Does
      go_simp
      exact ⟨_, rfl, On.refl _, rfl⟩
    · exact .inr fun a w hp => ob_yes rfl (ob_move (hp.fact 13 49 (by kernel_rfl) rfl))
    · exact .inr fun a w hp => ob_yes (wanted_yes (P := Tryz.prog) (j := 14) (d := 50) (b := false) rfl rfl (hp.fact 14 50 (by kernel_rfl) rfl)) (ob_move (hp.same 8 (by kernel_rfl)))
    · refine .inr fun a w hp => ob_yes (wanted_yes (P := Tryz.prog) (j := 14) (d := 50) (b := false) rfl rfl (hp.fact 14 50 (by kernel_rfl) rfl)) ?_
      have h51 : a.tmps.getD 51 undef = de := (hp.fact 15 51 (by kernel_rfl) rfl)
      unfold Does
      go_simp
      refine (HTD3.out _).mono ?_
      rintro e w' ⟨rfl, rfl⟩
      exact ⟨_, rfl, On.refl _, rfl⟩
    · exact .inr fun a w hp => ob_yes (wanted_yes (P := Tryz.prog) (j := 14) (d := 50) (b := false) rfl rfl (hp.fact 14 50 (by kernel_rfl) rfl)) (ob_move (hp.same 10 (by kernel_rfl)))
    · refine .inr fun a w hp => ob_yes (wanted_yes (P := Tryz.prog) (j := 14) (d := 50) (b := false) rfl rfl (hp.fact 14 50 (by kernel_rfl) rfl)) ?_
      have h52 : a.tmps.getD 52 undef = .int .i64 dz := (hp.fact 16 52 (by kernel_rfl) rfl)
      have h53 : a.tmps.getD 53 undef = .int .i64 dz := (hp.fact 17 53 (by kernel_rfl) rfl)
      unfold Does
      go_simp
      exact ⟨_, rfl, On.refl _, by show Value.bool _ = Value.bool _; first | rfl | (simp; done)⟩
    · refine .inr fun a w hp => ob_yes rfl ?_
      have h50 : a.tmps.getD 50 undef = .bool false := (hp.fact 14 50 (by kernel_rfl) rfl)
      have h54 : a.tmps.getD 54 undef = .bool false := (hp.fact 18 54 (by kernel_rfl) rfl)
      unfold Does
      go_simp
      exact ⟨_, rfl, On.refl _, rfl⟩
  · intro f wr hon hk hf hb hap
    obtain ⟨q0, q1, q2, q3, qz⟩ := hb
    clear qz
    have O3 : Own wr (w.heap.size) 24 #[.bool b0, .slice A0 n0 c0, .slice D0 m0 e0] := q0
    have c3_0 : wr.cell? ⟨w.heap.size, 0, none⟩ = some (.bool b0) := O3.cell 0
    have z3_0 := O3.frozen 0
    have c3_1 : wr.cell? ⟨w.heap.size, 1, none⟩ = some (.slice A0 n0 c0) := O3.cell 1
    have z3_1 := O3.frozen 1
    have c3_2 : wr.cell? ⟨w.heap.size, 2, none⟩ = some (.slice D0 m0 e0) := O3.cell 2
    have z3_2 := O3.frozen 2
    clear q0
    have O4 : Own wr (w.heap.size + 1) 24 #[.bool b1, .slice A1 n1 c1, .slice D1 m1 e1] := q1
    have c4_0 : wr.cell? ⟨w.heap.size + 1, 0, none⟩ = some (.bool b1) := O4.cell 0
    have z4_0 := O4.frozen 0
    have c4_1 : wr.cell? ⟨w.heap.size + 1, 1, none⟩ = some (.slice A1 n1 c1) := O4.cell 1
    have z4_1 := O4.frozen 1
    have c4_2 : wr.cell? ⟨w.heap.size + 1, 2, none⟩ = some (.slice D1 m1 e1) := O4.cell 2
    have z4_2 := O4.frozen 2
    clear q1
    have O7 : Own wr (w3.heap.size) 24 #[.bool s7, .slice P7 Pn7 Pc7, .slice R7 Rn7 Rc7] := q2
    have c7_0 : wr.cell? ⟨w3.heap.size, 0, none⟩ = some (.bool s7) := O7.cell 0
    have z7_0 := O7.frozen 0
    have c7_1 : wr.cell? ⟨w3.heap.size, 1, none⟩ = some (.slice P7 Pn7 Pc7) := O7.cell 1
    have z7_1 := O7.frozen 1
    have c7_2 : wr.cell? ⟨w3.heap.size, 2, none⟩ = some (.slice R7 Rn7 Rc7) := O7.cell 2
    have z7_2 := O7.frozen 2
    clear q2
    have O9 : Own wr (w5.heap.size) 24 #[.bool s9, .slice P9 Pn9 Pc9, .slice R9 Rn9 Rc9] := q3
    have c9_0 : wr.cell? ⟨w5.heap.size, 0, none⟩ = some (.bool s9) := O9.cell 0
    have z9_0 := O9.frozen 0
    have c9_1 : wr.cell? ⟨w5.heap.size, 1, none⟩ = some (.slice P9 Pn9 Pc9) := O9.cell 1
    have z9_1 := O9.frozen 1
    have c9_2 : wr.cell? ⟨w5.heap.size, 2, none⟩ = some (.slice R9 Rn9 Rc9) := O9.cell 2
    have z9_2 := O9.frozen 2
    clear q3
    have e55 : f 55 = .bool false := hf 19 55 rfl
    clear hf hap
    simp only [fillL, e55]
    clear e55
    have OB3 : w.heap.size ≤ w.heap.size ∧ Own wr (w.heap.size) 24 #[.bool b0, .slice A0 n0 c0, .slice D0 m0 e0] := ⟨by omega, O3⟩
    clear c3_0 z3_0 c3_1 z3_1 c3_2 z3_2 O3
    have OB4 : w.heap.size ≤ w.heap.size + 1 ∧ Own wr (w.heap.size + 1) 24 #[.bool b1, .slice A1 n1 c1, .slice D1 m1 e1] := ⟨by omega, O4⟩
    clear c4_0 z4_0 c4_1 z4_1 c4_2 z4_2 O4
    clear c7_0 z7_0 c7_1 z7_1 c7_2 z7_2 O7
    clear c9_0 z9_0 c9_1 z9_1 c9_2 z9_2 O9
    clear B OB7 OB9 I7 I9 B0_7 B0_9
    have B := hon
    clear hon hk
    have y3_0 : wr.cell? ⟨w.heap.size, 0, none⟩ = some (.bool b0) := OB3.2.cell 0
    have y3_1 : wr.cell? ⟨w.heap.size, 1, none⟩ = some (.slice A0 n0 c0) := OB3.2.cell 1
    have y3_2 : wr.cell? ⟨w.heap.size, 2, none⟩ = some (.slice D0 m0 e0) := OB3.2.cell 2
    have y3_f0 := OB3.2.frozen 0
    have y3_f1 := OB3.2.frozen 1
    have y3_f2 := OB3.2.frozen 2
    go_wp2_with fail
    refine (HTE1.out _ _ (FP.on B)).mono ?_
    rintro e w6 ⟨v11, rfl, I11, P6⟩
    clear y3_0 y3_f0 y3_1 y3_f1 y3_2 y3_f2
    replace OB3 := And.intro OB3.1 (OB3.2.on P6)
    replace OB4 := And.intro OB4.1 (OB4.2.on P6)
    replace B := B.trans P6
    obtain ⟨P11, Pn11, Pc11, _, R11, Rn11, Rc11, _, rfl, _⟩ := id I11
    obtain ⟨s11, hs11⟩ : ∃ x, decide (pq < 0) = x := ⟨_, rfl⟩
    rw [hs11] at I11
    try rw [hs11]
    clear hs11
    have B0_11 := B.size
    have PA := (On.refl w6).alloc (.cells #[.bool s11, .slice P11 Pn11 Pc11, .slice R11 Rn11 Rc11] 24)
    replace OB3 := And.intro OB3.1 (OB3.2.on PA)
    replace OB4 := And.intro OB4.1 (OB4.2.on PA)
    replace B := B.trans PA
    replace I11 := I11.on PA
    have OB11 : w.heap.size ≤ w6.heap.size ∧ _ := ⟨B0_11, Own.new w6 24 #[.bool s11, .slice P11 Pn11 Pc11, .slice R11 Rn11 Rc11]⟩
    clear PA
    have y3_0 : (w6.alloc (.cells #[.bool s11, .slice P11 Pn11 Pc11, .slice R11 Rn11 Rc11] 24)).cell? ⟨w.heap.size, 0, none⟩ = some (.bool b0) := OB3.2.cell 0
    have y3_1 : (w6.alloc (.cells #[.bool s11, .slice P11 Pn11 Pc11, .slice R11 Rn11 Rc11] 24)).cell? ⟨w.heap.size, 1, none⟩ = some (.slice A0 n0 c0) := OB3.2.cell 1
    have y3_2 : (w6.alloc (.cells #[.bool s11, .slice P11 Pn11 Pc11, .slice R11 Rn11 Rc11] 24)).cell? ⟨w.heap.size, 2, none⟩ = some (.slice D0 m0 e0) := OB3.2.cell 2
    have y3_f0 := OB3.2.frozen 0
    have y3_f1 := OB3.2.frozen 1
    have y3_f2 := OB3.2.frozen 2
    go_wp2_with fail
    refine (HTE2.out _ _ (FP.on B)).mono ?_
    rintro e w8 ⟨v13, rfl, I13, P8⟩
    clear y3_0 y3_f0 y3_1 y3_f1 y3_2 y3_f2
    replace OB3 := And.intro OB3.1 (OB3.2.on P8)
    replace OB4 := And.intro OB4.1 (OB4.2.on P8)
    replace OB11 := And.intro OB11.1 (OB11.2.on P8)
    replace B := B.trans P8
    replace I11 := I11.on P8
    obtain ⟨P13, Pn13, Pc13, _, R13, Rn13, Rc13, _, rfl, _⟩ := id I13
    obtain ⟨s13, hs13⟩ : ∃ x, decide (pq < 0) = x := ⟨_, rfl⟩
    rw [hs13] at I13
    try rw [hs13]
    clear hs13
    have B0_13 := B.size
    have PA := (On.refl w8).alloc (.cells #[.bool s13, .slice P13 Pn13 Pc13, .slice R13 Rn13 Rc13] 24)
    replace OB3 := And.intro OB3.1 (OB3.2.on PA)
    replace OB4 := And.intro OB4.1 (OB4.2.on PA)
    replace OB11 := And.intro OB11.1 (OB11.2.on PA)
    replace B := B.trans PA
    replace I13 := I13.on PA
    have OB13 : w.heap.size ≤ w8.heap.size ∧ _ := ⟨B0_13, Own.new w8 24 #[.bool s13, .slice P13 Pn13 Pc13, .slice R13 Rn13 Rc13]⟩
    clear PA
    replace I11 := I11.on ((On.refl w8).alloc (.cells #[.bool s13, .slice P13 Pn13 Pc13, .slice R13 Rn13 Rc13] 24))
    have y11_0 : (w8.alloc (.cells #[.bool s13, .slice P13 Pn13 Pc13, .slice R13 Rn13 Rc13] 24)).cell? ⟨w6.heap.size, 0, none⟩ = some (.bool s11) := OB11.2.cell 0
    have y11_1 : (w8.alloc (.cells #[.bool s13, .slice P13 Pn13 Pc13, .slice R13 Rn13 Rc13] 24)).cell? ⟨w6.heap.size, 1, none⟩ = some (.slice P11 Pn11 Pc11) := OB11.2.cell 1
    have y11_2 : (w8.alloc (.cells #[.bool s13, .slice P13 Pn13 Pc13, .slice R13 Rn13 Rc13] 24)).cell? ⟨w6.heap.size, 2, none⟩ = some (.slice R11 Rn11 Rc11) := OB11.2.cell 2
    have y11_f0 := OB11.2.frozen 0
    have y11_f1 := OB11.2.frozen 1
    have y11_f2 := OB11.2.frozen 2
    have y13_0 : (w8.alloc (.cells #[.bool s13, .slice P13 Pn13 Pc13, .slice R13 Rn13 Rc13] 24)).cell? ⟨w8.heap.size, 0, none⟩ = some (.bool s13) := OB13.2.cell 0
    have y13_1 : (w8.alloc (.cells #[.bool s13, .slice P13 Pn13 Pc13, .slice R13 Rn13 Rc13] 24)).cell? ⟨w8.heap.size, 1, none⟩ = some (.slice P13 Pn13 Pc13) := OB13.2.cell 1
    have y13_2 : (w8.alloc (.cells #[.bool s13, .slice P13 Pn13 Pc13, .slice R13 Rn13 Rc13] 24)).cell? ⟨w8.heap.size, 2, none⟩ = some (.slice R13 Rn13 Rc13) := OB13.2.cell 2
    have y13_f0 := OB13.2.frozen 0
    have y13_f1 := OB13.2.frozen 1
    have y13_f2 := OB13.2.frozen 2
    go_wp2_with fail
    refine (rat_same _ _ _ _ _ _ I11 I13).mono ?_
    rintro e w9 ⟨rfl, P9⟩
    replace B := B.trans P9
    go_wp2_with fail
    refine (HTE3.out _).mono ?_
    rintro e w' ⟨rfl, rfl⟩
    go_wp2
    go_ret
    exact ⟨rfl, B⟩
theorem products_small (w : World) (hx : MX w) (b0 : Bool) (A0 D0 : Option Addr) (n0 c0 m0 e0 : Nat) (x0 y0 : List Nat) (R0 : Rd w A0 n0 c0 x0) (S0 : Rd w D0 m0 e0 y0) (b1 : Bool) (A1 D1 : Option Addr) (n1 c1 m1 e1 : Nat) (x1 y1 : List Nat) (R1 : Rd w A1 n1 c1 x1) (S1 : Rd w D1 m1 e1 y1) (a : Int) (ha0 : -9223372036854775808 ≤ a) (ha1 : a ≤ 9223372036854775807) (hs : n0 ≤ 12 ∧ m0 ≤ 12 ∧ n1 ≤ 12 ∧ m1 ≤ 12) :
    Calls Tryz.prog 4 #[.agg #[.bool b0, .slice A0 n0 c0, .slice D0 m0 e0], .agg #[.bool b1, .slice A1 n1 c1, .slice D1 m1 e1], .int .i64 a] w fun e w' => e = .returned (.bool true) ∧ On w w' := by
  by_cases hc : n0 + m0 ≤ 3
  · exact products_smallB w hx b0 A0 D0 n0 c0 m0 e0 x0 y0 R0 S0 b1 A1 D1 n1 c1 m1 e1 x1 y1 R1 S1 a ha0 ha1 hs hc
  · by_cases h1 : a < -64
    · exact products_smallC w hx b0 A0 D0 n0 c0 m0 e0 x0 y0 R0 S0 b1 A1 D1 n1 c1 m1 e1 x1 y1 R1 S1 a ha0 ha1 hs (by omega) h1
    · by_cases h2 : 64 < a
      · exact products_smallD w hx b0 A0 D0 n0 c0 m0 e0 x0 y0 R0 S0 b1 A1 D1 n1 c1 m1 e1 x1 y1 R1 S1 a ha0 ha1 hs (by omega) h2
      · exact products_smallA w hx b0 A0 D0 n0 c0 m0 e0 x0 y0 R0 S0 b1 A1 D1 n1 c1 m1 e1 x1 y1 R1 S1 a ha0 ha1 hs (by omega) (by omega) (by omega)
theorem products_any (w : World) (hx : MX w) (b0 : Bool) (A0 D0 : Option Addr) (n0 c0 m0 e0 : Nat) (x0 y0 : List Nat) (R0 : Rd w A0 n0 c0 x0) (S0 : Rd w D0 m0 e0 y0) (b1 : Bool) (A1 D1 : Option Addr) (n1 c1 m1 e1 : Nat) (x1 y1 : List Nat) (R1 : Rd w A1 n1 c1 x1) (S1 : Rd w D1 m1 e1 y1) (a : Int) (ha0 : -9223372036854775808 ≤ a) (ha1 : a ≤ 9223372036854775807) :
    Calls Tryz.prog 4 #[.agg #[.bool b0, .slice A0 n0 c0, .slice D0 m0 e0], .agg #[.bool b1, .slice A1 n1 c1, .slice D1 m1 e1], .int .i64 a] w fun e w' => e = .returned (.bool true) ∧ On w w' := by
  by_cases hs : n0 ≤ 12 ∧ m0 ≤ 12 ∧ n1 ≤ 12 ∧ m1 ≤ 12
  · exact products_small w hx b0 A0 D0 n0 c0 m0 e0 x0 y0 R0 S0 b1 A1 D1 n1 c1 m1 e1 x1 y1 R1 S1 a ha0 ha1 hs
  · have : ∃ (mi : Nat) (qi : Nat × Nat), [(n0, m0), (n1, m1)][mi]? = some qi ∧ (12 < qi.1 ∨ 12 < qi.2) := by
      by_cases h0 : 12 < n0 ∨ 12 < m0
      · exact ⟨0, _, rfl, h0⟩
      by_cases h1 : 12 < n1 ∨ 12 < m1
      · exact ⟨1, _, rfl, h1⟩
      omega
    obtain ⟨mi, qi, h1, h2⟩ := this
    exact products_large w hx b0 A0 D0 n0 c0 m0 e0 x0 y0 R0 S0 b1 A1 D1 n1 c1 m1 e1 x1 y1 R1 S1 a ha0 ha1 mi qi h1 h2
end Num
end Go.Proofs.YtikmjlaeadockaaGreat
