/-
  RationalEqual, walked.
-/
import Derived.Test.YtikmjlaeadockaaRcom
namespace Go.Proofs.Ytikmjlaeadockaa
open Go.RowKit
set_option linter.unusedVariables false
namespace Num
theorem rlens3 {w : World} {g t : Nat} (b0 : Bool) (A0 D0 : Option Addr) (n0 c0 m0 e0 : Nat) (x0 y0 : List Nat) (R0 : Rd w A0 n0 c0 x0) (S0 : Rd w D0 m0 e0 y0) (b1 : Bool) (A1 D1 : Option Addr) (n1 c1 m1 e1 : Nat) (x1 y1 : List Nat) (R1 : Rd w A1 n1 c1 x1) (S1 : Rd w D1 m1 e1 y1) (b2 : Bool) (A2 D2 : Option Addr) (n2 c2 m2 e2 : Nat) (x2 y2 : List Nat) (R2 : Rd w A2 n2 c2 x2) (S2 : Rd w D2 m2 e2 y2) (h : Own w g t #[.bool b0, .slice A0 n0 c0, .slice D0 m0 e0, .bool b1, .slice A1 n1 c1, .slice D1 m1 e1, .bool b2, .slice A2 n2 c2, .slice D2 m2 e2]) : RLens w g [(n0, m0), (n1, m1), (n2, m2)] := by
  refine ⟨h.lt, fun i p hp => ?_⟩
  rcases i with _ | i
  · simp at hp; subst hp
    exact ⟨b0, A0, c0, D0, e0, h.cell 0, h.cell 1, h.cell 2, R0.max, R0.cap, S0.max, S0.cap⟩
  rcases i with _ | i
  · simp at hp; subst hp
    exact ⟨b1, A1, c1, D1, e1, h.cell 3, h.cell 4, h.cell 5, R1.max, R1.cap, S1.max, S1.cap⟩
  rcases i with _ | i
  · simp at hp; subst hp
    exact ⟨b2, A2, c2, D2, e2, h.cell 6, h.cell 7, h.cell 8, R2.max, R2.cap, S2.max, S2.cap⟩
  · simp at hp
set_option maxRecDepth 100000 in
set_option maxHeartbeats 1600000 in
theorem equal_large (w : World) (hx : MX w) (b0 : Bool) (A0 D0 : Option Addr) (n0 c0 m0 e0 : Nat) (x0 y0 : List Nat) (R0 : Rd w A0 n0 c0 x0) (S0 : Rd w D0 m0 e0 y0) (b1 : Bool) (A1 D1 : Option Addr) (n1 c1 m1 e1 : Nat) (x1 y1 : List Nat) (R1 : Rd w A1 n1 c1 x1) (S1 : Rd w D1 m1 e1 y1) (b2 : Bool) (A2 D2 : Option Addr) (n2 c2 m2 e2 : Nat) (x2 y2 : List Nat) (R2 : Rd w A2 n2 c2 x2) (S2 : Rd w D2 m2 e2 y2)  (mi : Nat) (qi : Nat × Nat) (hmi : [(n0, m0), (n1, m1), (n2, m2)][mi]? = some qi) (hyi : 12 < qi.1 ∨ 12 < qi.2) :
    Calls Try.prog 6 #[.agg #[.bool b0, .slice A0 n0 c0, .slice D0 m0 e0], .agg #[.bool b1, .slice A1 n1 c1, .slice D1 m1 e1], .agg #[.bool b2, .slice A2 n2 c2, .slice D2 m2 e2]] w fun e w' => e = .returned (.bool true) ∧ On w w' := by
  have HMI := Lib.hid hmi
  have HYI := Lib.hid hyi
  clear hmi hyi
  have B : On w (((w.alloc (.cells #[.bool b0, .slice A0 n0 c0, .slice D0 m0 e0] 24)).alloc (.cells #[.bool b1, .slice A1 n1 c1, .slice D1 m1 e1] 24)).alloc (.cells #[.bool b2, .slice A2 n2 c2, .slice D2 m2 e2] 24)) := On.alloc (On.alloc (On.alloc (On.refl w) _) _) _
  have OB3 : w.heap.size ≤ w.heap.size ∧ Own (((w.alloc (.cells #[.bool b0, .slice A0 n0 c0, .slice D0 m0 e0] 24)).alloc (.cells #[.bool b1, .slice A1 n1 c1, .slice D1 m1 e1] 24)).alloc (.cells #[.bool b2, .slice A2 n2 c2, .slice D2 m2 e2] 24)) (w.heap.size) 24 #[.bool b0, .slice A0 n0 c0, .slice D0 m0 e0] := ⟨by omega, (((Own.at_ w (w.heap.size) (by simp) 24 #[.bool b0, .slice A0 n0 c0, .slice D0 m0 e0]).alloc (.cells #[.bool b1, .slice A1 n1 c1, .slice D1 m1 e1] 24)).alloc (.cells #[.bool b2, .slice A2 n2 c2, .slice D2 m2 e2] 24))⟩
  have OB4 : w.heap.size ≤ w.heap.size + 1 ∧ Own (((w.alloc (.cells #[.bool b0, .slice A0 n0 c0, .slice D0 m0 e0] 24)).alloc (.cells #[.bool b1, .slice A1 n1 c1, .slice D1 m1 e1] 24)).alloc (.cells #[.bool b2, .slice A2 n2 c2, .slice D2 m2 e2] 24)) (w.heap.size + 1) 24 #[.bool b1, .slice A1 n1 c1, .slice D1 m1 e1] := ⟨by omega, ((Own.at_ (w.alloc (.cells #[.bool b0, .slice A0 n0 c0, .slice D0 m0 e0] 24)) (w.heap.size + 1) (by simp) 24 #[.bool b1, .slice A1 n1 c1, .slice D1 m1 e1]).alloc (.cells #[.bool b2, .slice A2 n2 c2, .slice D2 m2 e2] 24))⟩
  have OB5 : w.heap.size ≤ w.heap.size + 2 ∧ Own (((w.alloc (.cells #[.bool b0, .slice A0 n0 c0, .slice D0 m0 e0] 24)).alloc (.cells #[.bool b1, .slice A1 n1 c1, .slice D1 m1 e1] 24)).alloc (.cells #[.bool b2, .slice A2 n2 c2, .slice D2 m2 e2] 24)) (w.heap.size + 2) 24 #[.bool b2, .slice A2 n2 c2, .slice D2 m2 e2] := ⟨by omega, (Own.at_ ((w.alloc (.cells #[.bool b0, .slice A0 n0 c0, .slice D0 m0 e0] 24)).alloc (.cells #[.bool b1, .slice A1 n1 c1, .slice D1 m1 e1] 24)) (w.heap.size + 2) (by simp) 24 #[.bool b2, .slice A2 n2 c2, .slice D2 m2 e2])⟩
  go_enter Try.func6, Try.ntmps6
  go_wp2_with fail
  refine (awake02 _ (hx.on B)).mono ?_
  rintro e w1 ⟨rfl, P1⟩
  replace OB3 := And.intro OB3.1 (OB3.2.on P1)
  replace OB4 := And.intro OB4.1 (OB4.2.on P1)
  replace OB5 := And.intro OB5.1 (OB5.2.on P1)
  replace B := B.trans P1
  have y3_0 : w1.cell? ⟨w.heap.size, 0, none⟩ = some (.bool b0) := OB3.2.cell 0
  have y3_1 : w1.cell? ⟨w.heap.size, 1, none⟩ = some (.slice A0 n0 c0) := OB3.2.cell 1
  have y3_2 : w1.cell? ⟨w.heap.size, 2, none⟩ = some (.slice D0 m0 e0) := OB3.2.cell 2
  have y3_f0 := OB3.2.frozen 0
  have y3_f1 := OB3.2.frozen 1
  have y3_f2 := OB3.2.frozen 2
  have y4_0 : w1.cell? ⟨w.heap.size + 1, 0, none⟩ = some (.bool b1) := OB4.2.cell 0
  have y4_1 : w1.cell? ⟨w.heap.size + 1, 1, none⟩ = some (.slice A1 n1 c1) := OB4.2.cell 1
  have y4_2 : w1.cell? ⟨w.heap.size + 1, 2, none⟩ = some (.slice D1 m1 e1) := OB4.2.cell 2
  have y4_f0 := OB4.2.frozen 0
  have y4_f1 := OB4.2.frozen 1
  have y4_f2 := OB4.2.frozen 2
  have y5_0 : w1.cell? ⟨w.heap.size + 2, 0, none⟩ = some (.bool b2) := OB5.2.cell 0
  have y5_1 : w1.cell? ⟨w.heap.size + 2, 1, none⟩ = some (.slice A2 n2 c2) := OB5.2.cell 1
  have y5_2 : w1.cell? ⟨w.heap.size + 2, 2, none⟩ = some (.slice D2 m2 e2) := OB5.2.cell 2
  have y5_f0 := OB5.2.frozen 0
  have y5_f1 := OB5.2.frozen 1
  have y5_f2 := OB5.2.frozen 2
  go_wp2_with fail
  clear y3_0 y3_f0 y3_1 y3_f1 y3_2 y3_f2
  clear y4_0 y4_f0 y4_1 y4_f1 y4_2 y4_f2
  clear y5_0 y5_f0 y5_1 y5_f1 y5_2 y5_f2
  have B1 := (On.refl w1).alloc (.cells #[.bool b0, .slice A0 n0 c0, .slice D0 m0 e0, .bool b1, .slice A1 n1 c1, .slice D1 m1 e1, .bool b2, .slice A2 n2 c2, .slice D2 m2 e2] 24)
  replace OB3 := And.intro OB3.1 (OB3.2.on B1)
  replace OB4 := And.intro OB4.1 (OB4.2.on B1)
  replace OB5 := And.intro OB5.1 (OB5.2.on B1)
  replace B := B.trans B1
  have hlens := rlens3 b0 A0 D0 n0 c0 m0 e0 x0 y0 (R0.on B) (S0.on B) b1 A1 D1 n1 c1 m1 e1 x1 y1 (R1.on B) (S1.on B) b2 A2 D2 n2 c2 m2 e2 x2 y2 (R2.on B) (S2.on B) (Own.new w1 24 #[.bool b0, .slice A0 n0 c0, .slice D0 m0 e0, .bool b1, .slice A1 n1 c1, .slice D1 m1 e1, .bool b2, .slice A2 n2 c2, .slice D2 m2 e2])
  refine (rlarge_yes _ _ 3 3 _ hlens rfl (by decide) (by decide) (by decide) mi qi HMI.out HYI.out).mono ?_
  rintro e w2 ⟨rfl, P2⟩
  clear hlens B1 P1
  replace OB3 := And.intro OB3.1 (OB3.2.on P2)
  replace OB4 := And.intro OB4.1 (OB4.2.on P2)
  replace OB5 := And.intro OB5.1 (OB5.2.on P2)
  replace B := B.trans P2
  clear P2
  go_wp2_with fail
  refine (awake02 _ (hx.on B)).mono ?_
  rintro e w3 ⟨rfl, P3⟩
  go_wp2
  go_ret
  exact ⟨rfl, B.trans P3⟩
set_option maxRecDepth 100000 in
set_option maxHeartbeats 1600000 in
theorem equal_small (w : World) (hx : MX w) (b0 : Bool) (A0 D0 : Option Addr) (n0 c0 m0 e0 : Nat) (x0 y0 : List Nat) (R0 : Rd w A0 n0 c0 x0) (S0 : Rd w D0 m0 e0 y0) (b1 : Bool) (A1 D1 : Option Addr) (n1 c1 m1 e1 : Nat) (x1 y1 : List Nat) (R1 : Rd w A1 n1 c1 x1) (S1 : Rd w D1 m1 e1 y1) (b2 : Bool) (A2 D2 : Option Addr) (n2 c2 m2 e2 : Nat) (x2 y2 : List Nat) (R2 : Rd w A2 n2 c2 x2) (S2 : Rd w D2 m2 e2 y2) (hs : n0 ≤ 12 ∧ m0 ≤ 12 ∧ n1 ≤ 12 ∧ m1 ≤ 12 ∧ n2 ≤ 12 ∧ m2 ≤ 12) :
    Calls Try.prog 6 #[.agg #[.bool b0, .slice A0 n0 c0, .slice D0 m0 e0], .agg #[.bool b1, .slice A1 n1 c1, .slice D1 m1 e1], .agg #[.bool b2, .slice A2 n2 c2, .slice D2 m2 e2]] w fun e w' => e = .returned (.bool true) ∧ On w w' := by
  obtain ⟨r0, hr0⟩ : ∃ x, raw b0 x0 y0 = x := ⟨_, rfl⟩
  obtain ⟨r1, hr1⟩ : ∃ x, raw b1 x1 y1 = x := ⟨_, rfl⟩
  obtain ⟨r2, hr2⟩ : ∃ x, raw b2 x2 y2 = x := ⟨_, rfl⟩
  have F0 : Fld w (.agg #[.bool b0, .slice A0 n0 c0, .slice D0 m0 e0]) r0 12 := Fld.mk3 R0 S0 (by omega) (by omega) hr0
  have F1 : Fld w (.agg #[.bool b1, .slice A1 n1 c1, .slice D1 m1 e1]) r1 12 := Fld.mk3 R1 S1 (by omega) (by omega) hr1
  have F2 : Fld w (.agg #[.bool b2, .slice A2 n2 c2, .slice D2 m2 e2]) r2 12 := Fld.mk3 R2 S2 (by omega) (by omega) hr2
  clear hr0 hr1 hr2
  obtain ⟨n, en⟩ : ∃ x, rsg (r0 - r1) = x := ⟨_, rfl⟩
  have hn3 : n = -1 ∨ n = 0 ∨ n = 1 := by rw [← en]; exact rsg_cases _
  have hn1 : -1 ≤ n := by omega
  have hn2 : n ≤ 1 := by omega
  obtain ⟨sc, esc⟩ : ∃ x, rsg r2 = x := ⟨_, rfl⟩
  have hc3 : sc = -1 ∨ sc = 0 ∨ sc = 1 := by rw [← esc]; exact rsg_cases _
  obtain ⟨pp, epp⟩ : ∃ x, n * sc = x := ⟨_, rfl⟩
  have HN := Lib.hid en
  have HSC := Lib.hid esc
  have HPP := Lib.hid epp
  have HN2 : Hid (rsg (r1 - r0) = -n) := Lib.hid (by rw [← en, ← rsg_neg]; congr 1; grind)
  have HN3 : Hid (rsg ((r0 + r2) - (r1 + r2)) = n) := Lib.hid (by rw [← en]; congr 1; grind)
  have HN4 : Hid (rsg (r0 * r2 - r1 * r2) = pp) := Lib.hid (by rw [← epp, ← en, ← esc, ← rsg_mul]; congr 1; grind)
  obtain ⟨z, ez⟩ : ∃ x, decide (r0 = r1) = x := ⟨_, rfl⟩
  have HZ := Lib.hid ez
  have HNZ : Hid ((n == 0) = z) := Lib.hid (by rw [← ez, Bool.eq_iff_iff, beq_iff_eq, decide_eq_true_iff, ← en, rsg_zero_iff]; constructor <;> intro h <;> grind)
  have HT : Hid (rsg (r1 - r2) = -1 → n = -1 → rsg (r0 - r2) = -1) := Lib.hid (by rw [← en]; unfold rsg; grind)
  clear en esc epp ez
  have B : On w (((w.alloc (.cells #[.bool b0, .slice A0 n0 c0, .slice D0 m0 e0] 24)).alloc (.cells #[.bool b1, .slice A1 n1 c1, .slice D1 m1 e1] 24)).alloc (.cells #[.bool b2, .slice A2 n2 c2, .slice D2 m2 e2] 24)) := On.alloc (On.alloc (On.alloc (On.refl w) _) _) _
  have OB3 : w.heap.size ≤ w.heap.size ∧ Own (((w.alloc (.cells #[.bool b0, .slice A0 n0 c0, .slice D0 m0 e0] 24)).alloc (.cells #[.bool b1, .slice A1 n1 c1, .slice D1 m1 e1] 24)).alloc (.cells #[.bool b2, .slice A2 n2 c2, .slice D2 m2 e2] 24)) (w.heap.size) 24 #[.bool b0, .slice A0 n0 c0, .slice D0 m0 e0] := ⟨by omega, (((Own.at_ w (w.heap.size) (by simp) 24 #[.bool b0, .slice A0 n0 c0, .slice D0 m0 e0]).alloc (.cells #[.bool b1, .slice A1 n1 c1, .slice D1 m1 e1] 24)).alloc (.cells #[.bool b2, .slice A2 n2 c2, .slice D2 m2 e2] 24))⟩
  have OB4 : w.heap.size ≤ w.heap.size + 1 ∧ Own (((w.alloc (.cells #[.bool b0, .slice A0 n0 c0, .slice D0 m0 e0] 24)).alloc (.cells #[.bool b1, .slice A1 n1 c1, .slice D1 m1 e1] 24)).alloc (.cells #[.bool b2, .slice A2 n2 c2, .slice D2 m2 e2] 24)) (w.heap.size + 1) 24 #[.bool b1, .slice A1 n1 c1, .slice D1 m1 e1] := ⟨by omega, ((Own.at_ (w.alloc (.cells #[.bool b0, .slice A0 n0 c0, .slice D0 m0 e0] 24)) (w.heap.size + 1) (by simp) 24 #[.bool b1, .slice A1 n1 c1, .slice D1 m1 e1]).alloc (.cells #[.bool b2, .slice A2 n2 c2, .slice D2 m2 e2] 24))⟩
  have OB5 : w.heap.size ≤ w.heap.size + 2 ∧ Own (((w.alloc (.cells #[.bool b0, .slice A0 n0 c0, .slice D0 m0 e0] 24)).alloc (.cells #[.bool b1, .slice A1 n1 c1, .slice D1 m1 e1] 24)).alloc (.cells #[.bool b2, .slice A2 n2 c2, .slice D2 m2 e2] 24)) (w.heap.size + 2) 24 #[.bool b2, .slice A2 n2 c2, .slice D2 m2 e2] := ⟨by omega, (Own.at_ ((w.alloc (.cells #[.bool b0, .slice A0 n0 c0, .slice D0 m0 e0] 24)).alloc (.cells #[.bool b1, .slice A1 n1 c1, .slice D1 m1 e1] 24)) (w.heap.size + 2) (by simp) 24 #[.bool b2, .slice A2 n2 c2, .slice D2 m2 e2])⟩
  go_enter Try.func6, Try.ntmps6
  go_wp2_with fail
  refine (awake02 _ (hx.on B)).mono ?_
  rintro e w1 ⟨rfl, P1⟩
  replace OB3 := And.intro OB3.1 (OB3.2.on P1)
  replace OB4 := And.intro OB4.1 (OB4.2.on P1)
  replace OB5 := And.intro OB5.1 (OB5.2.on P1)
  replace B := B.trans P1
  have y3_0 : w1.cell? ⟨w.heap.size, 0, none⟩ = some (.bool b0) := OB3.2.cell 0
  have y3_1 : w1.cell? ⟨w.heap.size, 1, none⟩ = some (.slice A0 n0 c0) := OB3.2.cell 1
  have y3_2 : w1.cell? ⟨w.heap.size, 2, none⟩ = some (.slice D0 m0 e0) := OB3.2.cell 2
  have y3_f0 := OB3.2.frozen 0
  have y3_f1 := OB3.2.frozen 1
  have y3_f2 := OB3.2.frozen 2
  have y4_0 : w1.cell? ⟨w.heap.size + 1, 0, none⟩ = some (.bool b1) := OB4.2.cell 0
  have y4_1 : w1.cell? ⟨w.heap.size + 1, 1, none⟩ = some (.slice A1 n1 c1) := OB4.2.cell 1
  have y4_2 : w1.cell? ⟨w.heap.size + 1, 2, none⟩ = some (.slice D1 m1 e1) := OB4.2.cell 2
  have y4_f0 := OB4.2.frozen 0
  have y4_f1 := OB4.2.frozen 1
  have y4_f2 := OB4.2.frozen 2
  have y5_0 : w1.cell? ⟨w.heap.size + 2, 0, none⟩ = some (.bool b2) := OB5.2.cell 0
  have y5_1 : w1.cell? ⟨w.heap.size + 2, 1, none⟩ = some (.slice A2 n2 c2) := OB5.2.cell 1
  have y5_2 : w1.cell? ⟨w.heap.size + 2, 2, none⟩ = some (.slice D2 m2 e2) := OB5.2.cell 2
  have y5_f0 := OB5.2.frozen 0
  have y5_f1 := OB5.2.frozen 1
  have y5_f2 := OB5.2.frozen 2
  go_wp2_with fail
  clear y3_0 y3_f0 y3_1 y3_f1 y3_2 y3_f2
  clear y4_0 y4_f0 y4_1 y4_f1 y4_2 y4_f2
  clear y5_0 y5_f0 y5_1 y5_f1 y5_2 y5_f2
  have B1 := (On.refl w1).alloc (.cells #[.bool b0, .slice A0 n0 c0, .slice D0 m0 e0, .bool b1, .slice A1 n1 c1, .slice D1 m1 e1, .bool b2, .slice A2 n2 c2, .slice D2 m2 e2] 24)
  replace OB3 := And.intro OB3.1 (OB3.2.on B1)
  replace OB4 := And.intro OB4.1 (OB4.2.on B1)
  replace OB5 := And.intro OB5.1 (OB5.2.on B1)
  replace B := B.trans B1
  have hlens := rlens3 b0 A0 D0 n0 c0 m0 e0 x0 y0 (R0.on B) (S0.on B) b1 A1 D1 n1 c1 m1 e1 x1 y1 (R1.on B) (S1.on B) b2 A2 D2 n2 c2 m2 e2 x2 y2 (R2.on B) (S2.on B) (Own.new w1 24 #[.bool b0, .slice A0 n0 c0, .slice D0 m0 e0, .bool b1, .slice A1 n1 c1, .slice D1 m1 e1, .bool b2, .slice A2 n2 c2, .slice D2 m2 e2])
  refine (rlarge_no _ _ 3 3 _ hlens rfl (by decide) (by decide) (by decide) (by simp; omega)).mono ?_
  rintro e w2 ⟨rfl, P2⟩
  clear hlens B1 P1
  replace OB3 := And.intro OB3.1 (OB3.2.on P2)
  replace OB4 := And.intro OB4.1 (OB4.2.on P2)
  replace OB5 := And.intro OB5.1 (OB5.2.on P2)
  replace B := B.trans P2
  clear P2
  clear hx
  go_wp2
  refine wp_region_facts (by kernel_rfl) w [Fact.eq (.agg #[.bool b0, .slice A0 n0 c0, .slice D0 m0 e0]), Fact.rat (0) (2), Fact.rat (r0) (12 + 12 + 1), Fact.eq (.agg #[.bool b1, .slice A1 n1 c1, .slice D1 m1 e1]), Fact.rat (0) (2), Fact.rat (r1) (12 + 12 + 1), Fact.any, Fact.any, Fact.any, Fact.any] [Fact.any, Fact.any, Fact.any, Fact.rat (r0) (12 + 12 + 1), Fact.rat (r1) (12 + 12 + 1)] [⟨10, 3, 24, 10, #[.bool b0, .slice A0 n0 c0, .slice D0 m0 e0]⟩, ⟨10, 4, 24, 10, #[.bool b1, .slice A1 n1 c1, .slice D1 m1 e1]⟩, ⟨10, 5, 24, 10, #[.bool b2, .slice A2 n2 c2, .slice D2 m2 e2]⟩, ⟨6, 7, 24, 8, #[.bool false, .slice none 0 0, .slice none 0 0]⟩, ⟨7, 8, 24, 9, #[.bool false, .slice none 0 0, .slice none 0 0]⟩] [w.heap.size, w.heap.size + 1, w.heap.size + 2] [none, none, none, none, none, none, none, some 7, some 8, none, none, none, none, none, none, none, none, none, none, none, some 20, some 21, some 22, some 23, some 24, some 25, none, none, none, none, none, none, none, none, none, none, none, none, none, none, none, none, none, none, none, none, none, none, none, none, none, none, none, none, none, none, none, none, none, none, none, none, none, none, none, none, none, none, none, none, none, none, none, none, none, none, none, none, none, none, none, none, none, none, none, none, none, none] (by kernel_rfl) (by kernel_rfl) (by kernel_rfl) rfl B ?_ ?_ ?_ ?_ ?_
  · exact ⟨fun _ => ⟨by simp, rfl, OB3⟩, fun _ => ⟨by simp, rfl, OB4⟩, fun _ => ⟨by simp, rfl, OB5⟩, fun h => absurd h (by decide), fun h => absurd h (by decide), trivial⟩
  · exact .inr (by simp <;> omega)
  · exact ⟨⟨noWords_R _ _ _ _ _ _ _, (.inl (Nat.le_refl _)), (.inl (Nat.le_refl _))⟩, ⟨noWords_R _ _ _ _ _ _ _, (.inl (Nat.le_refl _)), (.inl (Nat.le_refl _))⟩, ⟨noWords_R _ _ _ _ _ _ _, (.inl (Nat.le_refl _)), (.inl (Nat.le_refl _))⟩, ⟨noWords_R _ _ _ _ _ _ _, (.inr ⟨fun _ _ => trivial, _, rfl, fun a w => ⟨rfl, do_value run_allocR⟩⟩), (.inr (store_ob (j := 2) (noWords_R _ _ _ _ _ _ _) rfl rfl rfl (by kernel_rfl) rfl rfl rfl))⟩, ⟨noWords_R _ _ _ _ _ _ _, (.inr ⟨fun _ _ => trivial, _, rfl, fun a w => ⟨rfl, do_value run_allocR⟩⟩), (.inr (store_ob (j := 5) (noWords_R _ _ _ _ _ _ _) rfl rfl rfl (by kernel_rfl) rfl rfl rfl))⟩, trivial⟩
  · refine ⟨?_, ?_, ?_, ?_, ?_, ?_, ?_, ?_, ?_, ?_, trivial⟩
    · exact .inr fun a w hp => ob_yes rfl (ob_loadR (hp.box (k := 0) rfl (Nat.le_refl _) (.inl (Nat.le_refl _)) (by kernel_rfl) rfl).1 (hp.box (k := 0) rfl (Nat.le_refl _) (.inl (Nat.le_refl _)) (by kernel_rfl) rfl).2 rfl)
    · exact .inr fun a w hp => ob_yes rfl (ob_zeroR (isR_zero _ _))
    · refine .inr fun a w hp => ob_yes rfl ?_
      have h20 : a.tmps.getD 20 undef = .agg #[.bool b0, .slice A0 n0 c0, .slice D0 m0 e0] := (hp.fact 0 20 (by kernel_rfl) rfl)
      have h21 : IsR w (a.tmps.getD 21 undef) (0) (2) := (hp.fact 1 21 (by kernel_rfl) rfl)
      obtain ⟨v21, e21⟩ : ∃ v, a.tmps.getD 21 undef = v := ⟨_, rfl⟩
      rw [e21] at h21
      unfold Does
      go_simp
      refine (addr_any _ _ _ _ _ 12 (F0.on hp.on) ((IsR.fld h21).wide (by decide)) (by decide) (by decide)).mono ?_
      rintro e w' ⟨u, rfl, I8, P8⟩
      rw [Rat.add_zero] at I8
      exact ⟨_, rfl, P8, I8⟩
    · exact .inr fun a w hp => ob_yes rfl (ob_loadR (hp.box (k := 1) rfl (Nat.le_refl _) (.inl (Nat.le_refl _)) (by kernel_rfl) rfl).1 (hp.box (k := 1) rfl (Nat.le_refl _) (.inl (Nat.le_refl _)) (by kernel_rfl) rfl).2 rfl)
    · exact .inr fun a w hp => ob_yes rfl (ob_zeroR (isR_zero _ _))
    · refine .inr fun a w hp => ob_yes rfl ?_
      have h23 : a.tmps.getD 23 undef = .agg #[.bool b1, .slice A1 n1 c1, .slice D1 m1 e1] := (hp.fact 3 23 (by kernel_rfl) rfl)
      have h24 : IsR w (a.tmps.getD 24 undef) (0) (2) := (hp.fact 4 24 (by kernel_rfl) rfl)
      obtain ⟨v24, e24⟩ : ∃ v, a.tmps.getD 24 undef = v := ⟨_, rfl⟩
      rw [e24] at h24
      unfold Does
      go_simp
      refine (addr_any _ _ _ _ _ 12 (F1.on hp.on) ((IsR.fld h24).wide (by decide)) (by decide) (by decide)).mono ?_
      rintro e w' ⟨u, rfl, I8, P8⟩
      rw [Rat.add_zero] at I8
      exact ⟨_, rfl, P8, I8⟩
    · exact .inl rfl
    · exact .inl rfl
    · exact .inl rfl
    · exact .inl rfl
  · intro f wr hon hk hf hb hap
    obtain ⟨q0, q1, q2, q3, q4, qz⟩ := hb
    clear qz
    have O3 : Own wr (w.heap.size) 24 #[.bool b0, .slice A0 n0 c0, .slice D0 m0 e0] := q0
    have c3_0 : wr.cell? ⟨w.heap.size, 0, none⟩ = some (.bool b0) := O3.cell 0
    have z3_0 := O3.frozen 0
    have c3_1 : wr.cell? ⟨w.heap.size, 1, none⟩ = some (.slice A0 n0 c0) := O3.cell 1
    have z3_1 := O3.frozen 1
    have c3_2 : wr.cell? ⟨w.heap.size, 2, none⟩ = some (.slice D0 m0 e0) := O3.cell 2
    have z3_2 := O3.frozen 2
    clear q0
    have O4 : Own wr (w.heap.size + 1) 24 #[.bool b1, .slice A1 n1 c1, .slice D1 m1 e1] := q1
    have c4_0 : wr.cell? ⟨w.heap.size + 1, 0, none⟩ = some (.bool b1) := O4.cell 0
    have z4_0 := O4.frozen 0
    have c4_1 : wr.cell? ⟨w.heap.size + 1, 1, none⟩ = some (.slice A1 n1 c1) := O4.cell 1
    have z4_1 := O4.frozen 1
    have c4_2 : wr.cell? ⟨w.heap.size + 1, 2, none⟩ = some (.slice D1 m1 e1) := O4.cell 2
    have z4_2 := O4.frozen 2
    clear q1
    have O5 : Own wr (w.heap.size + 2) 24 #[.bool b2, .slice A2 n2 c2, .slice D2 m2 e2] := q2
    have c5_0 : wr.cell? ⟨w.heap.size + 2, 0, none⟩ = some (.bool b2) := O5.cell 0
    have z5_0 := O5.frozen 0
    have c5_1 : wr.cell? ⟨w.heap.size + 2, 1, none⟩ = some (.slice A2 n2 c2) := O5.cell 1
    have z5_1 := O5.frozen 1
    have c5_2 : wr.cell? ⟨w.heap.size + 2, 2, none⟩ = some (.slice D2 m2 e2) := O5.cell 2
    have z5_2 := O5.frozen 2
    clear q2
    obtain ⟨g7, e7, G7, q3⟩ := q3
    change f 7 = _ at e7
    obtain ⟨cur7, O7, I7⟩ : ∃ cur, Own wr (g7) 24 cur ∧ IsR wr (.agg cur) (r0) (12 + 12 + 1) := q3
    obtain ⟨P7, Pn7, Pc7, _, R7, Rn7, Rc7, _, hz7, _⟩ := id I7
    injection hz7 with hz7
    subst hz7
    have c7_0 : wr.cell? ⟨g7, 0, none⟩ = some (.bool (decide (r0 < 0))) := O7.cell 0
    have z7_0 := O7.frozen 0
    have c7_1 : wr.cell? ⟨g7, 1, none⟩ = some (.slice P7 Pn7 Pc7) := O7.cell 1
    have z7_1 := O7.frozen 1
    have c7_2 : wr.cell? ⟨g7, 2, none⟩ = some (.slice R7 Rn7 Rc7) := O7.cell 2
    have z7_2 := O7.frozen 2
    obtain ⟨g8, e8, G8, q4⟩ := q4
    change f 8 = _ at e8
    obtain ⟨cur8, O8, I8⟩ : ∃ cur, Own wr (g8) 24 cur ∧ IsR wr (.agg cur) (r1) (12 + 12 + 1) := q4
    obtain ⟨P8, Pn8, Pc8, _, R8, Rn8, Rc8, _, hz8, _⟩ := id I8
    injection hz8 with hz8
    subst hz8
    have c8_0 : wr.cell? ⟨g8, 0, none⟩ = some (.bool (decide (r1 < 0))) := O8.cell 0
    have z8_0 := O8.frozen 0
    have c8_1 : wr.cell? ⟨g8, 1, none⟩ = some (.slice P8 Pn8 Pc8) := O8.cell 1
    have z8_1 := O8.frozen 1
    have c8_2 : wr.cell? ⟨g8, 2, none⟩ = some (.slice R8 Rn8 Rc8) := O8.cell 2
    have z8_2 := O8.frozen 2
    clear hf hap
    simp only [fillL]; simp only [e7, e8]
    clear e7 e8
    have OB3 : w.heap.size ≤ w.heap.size ∧ Own wr (w.heap.size) 24 #[.bool b0, .slice A0 n0 c0, .slice D0 m0 e0] := ⟨by omega, O3⟩
    clear c3_0 z3_0 c3_1 z3_1 c3_2 z3_2 O3
    have OB4 : w.heap.size ≤ w.heap.size + 1 ∧ Own wr (w.heap.size + 1) 24 #[.bool b1, .slice A1 n1 c1, .slice D1 m1 e1] := ⟨by omega, O4⟩
    clear c4_0 z4_0 c4_1 z4_1 c4_2 z4_2 O4
    have OB5 : w.heap.size ≤ w.heap.size + 2 ∧ Own wr (w.heap.size + 2) 24 #[.bool b2, .slice A2 n2 c2, .slice D2 m2 e2] := ⟨by omega, O5⟩
    clear c5_0 z5_0 c5_1 z5_1 c5_2 z5_2 O5
    clear B
    have B := hon
    clear hon hk
    have y3_0 : wr.cell? ⟨w.heap.size, 0, none⟩ = some (.bool b0) := OB3.2.cell 0
    have y3_1 : wr.cell? ⟨w.heap.size, 1, none⟩ = some (.slice A0 n0 c0) := OB3.2.cell 1
    have y3_2 : wr.cell? ⟨w.heap.size, 2, none⟩ = some (.slice D0 m0 e0) := OB3.2.cell 2
    have y3_f0 := OB3.2.frozen 0
    have y3_f1 := OB3.2.frozen 1
    have y3_f2 := OB3.2.frozen 2
    have y4_0 : wr.cell? ⟨w.heap.size + 1, 0, none⟩ = some (.bool b1) := OB4.2.cell 0
    have y4_1 : wr.cell? ⟨w.heap.size + 1, 1, none⟩ = some (.slice A1 n1 c1) := OB4.2.cell 1
    have y4_2 : wr.cell? ⟨w.heap.size + 1, 2, none⟩ = some (.slice D1 m1 e1) := OB4.2.cell 2
    have y4_f0 := OB4.2.frozen 0
    have y4_f1 := OB4.2.frozen 1
    have y4_f2 := OB4.2.frozen 2
    go_wp2_with fail
    refine (cmpr_any _ _ _ _ _ 12 (F0.on B) (F1.on B) (by decide)).mono ?_
    rintro e wk ⟨rfl, PK⟩
    rw [HN.out]
    clear y3_0 y3_f0 y3_1 y3_f1 y3_2 y3_f2
    clear y4_0 y4_f0 y4_1 y4_f1 y4_2 y4_f2
    replace OB3 := And.intro OB3.1 (OB3.2.on PK)
    replace OB4 := And.intro OB4.1 (OB4.2.on PK)
    replace OB5 := And.intro OB5.1 (OB5.2.on PK)
    have OB7 : w.heap.size ≤ g7 ∧ _ := ⟨G7, O7.on PK⟩
    have OB8 : w.heap.size ≤ g8 ∧ _ := ⟨G8, O8.on PK⟩
    replace I7 := I7.on PK
    replace I8 := I8.on PK
    replace B := B.trans PK
    clear c7_0 z7_0 c7_1 z7_1 c7_2 z7_2 O7
    clear c8_0 z8_0 c8_1 z8_1 c8_2 z8_2 O8
    clear PK
    obtain ⟨sg7, hs7⟩ : ∃ x, decide (r0 < 0) = x := ⟨_, rfl⟩
    obtain ⟨sg8, hs8⟩ : ∃ x, decide (r1 < 0) = x := ⟨_, rfl⟩
    rw [hs7] at I7 OB7
    rw [hs8] at I8 OB8
    clear hs7 hs8
    go_wp2
    refine wp_region_facts (by kernel_rfl) w [Fact.eq (.int .i64 n), Fact.eq (.bool z), Fact.eq (.agg #[.bool sg7, .slice P7 Pn7 Pc7, .slice R7 Rn7 Rc7]), Fact.eq (.agg #[.bool sg8, .slice P8 Pn8 Pc8, .slice R8 Rn8 Rc8]), Fact.eq (.bool z), Fact.eq (.bool false), Fact.eq (.bool false), Fact.eq (.agg #[.bool b1, .slice A1 n1 c1, .slice D1 m1 e1]), Fact.eq (.agg #[.bool b0, .slice A0 n0 c0, .slice D0 m0 e0]), Fact.eq (.int .i64 (-n)), Fact.eq (.int .i64 n), Fact.eq (.int .i64 (-n)), Fact.eq (.bool false), Fact.eq (.bool false), Fact.eq (.bool false), Fact.eq (.agg #[.bool b0, .slice A0 n0 c0, .slice D0 m0 e0]), Fact.eq (.agg #[.bool b1, .slice A1 n1 c1, .slice D1 m1 e1]), Fact.rat (r0 - r1) (12 + 12 + 1), Fact.eq (.int .i64 n), Fact.eq (.int .i64 n), Fact.eq (.bool false), Fact.eq (.bool false), Fact.eq (.bool false), Fact.eq (.agg #[.bool b0, .slice A0 n0 c0, .slice D0 m0 e0]), Fact.eq (.agg #[.bool b2, .slice A2 n2 c2, .slice D2 m2 e2]), Fact.rat (r0 + r2) (12 + 12 + 1), Fact.eq (.agg #[.bool b1, .slice A1 n1 c1, .slice D1 m1 e1]), Fact.eq (.agg #[.bool b2, .slice A2 n2 c2, .slice D2 m2 e2]), Fact.rat (r1 + r2) (12 + 12 + 1), Fact.eq (.int .i64 n), Fact.eq (.int .i64 n), Fact.eq (.bool false), Fact.eq (.bool false)] [Fact.any, Fact.any, Fact.any, Fact.any, Fact.any] [⟨33, 3, 24, 33, #[.bool b0, .slice A0 n0 c0, .slice D0 m0 e0]⟩, ⟨33, 4, 24, 33, #[.bool b1, .slice A1 n1 c1, .slice D1 m1 e1]⟩, ⟨33, 5, 24, 33, #[.bool b2, .slice A2 n2 c2, .slice D2 m2 e2]⟩, ⟨33, 7, 24, 33, #[.bool sg7, .slice P7 Pn7 Pc7, .slice R7 Rn7 Rc7]⟩, ⟨33, 8, 24, 33, #[.bool sg8, .slice P8 Pn8 Pc8, .slice R8 Rn8 Rc8]⟩] [w.heap.size, w.heap.size + 1, w.heap.size + 2, g7, g8] [none, none, none, none, none, none, none, none, none, none, none, none, none, none, none, none, none, none, none, none, none, none, none, none, none, none, none, none, none, some 29, some 30, some 31, some 32, some 33, some 34, some 35, some 36, some 37, some 38, some 39, some 40, some 41, some 42, some 43, some 44, some 45, some 46, some 47, some 48, some 49, some 50, some 51, some 52, some 53, some 54, some 55, some 56, some 57, some 58, some 59, some 60, some 61, none, none, none, none, none, none, none, none, none, none, none, none, none, none, none, none, none, none, none, none, none, none, none, none, none, none] (by kernel_rfl) (by kernel_rfl) (by kernel_rfl) rfl B ?_ ?_ ?_ ?_ ?_
    · exact ⟨fun _ => ⟨by simp, rfl, OB3⟩, fun _ => ⟨by simp, rfl, OB4⟩, fun _ => ⟨by simp, rfl, OB5⟩, fun _ => ⟨by simp, rfl, OB7⟩, fun _ => ⟨by simp, rfl, OB8⟩, trivial⟩
    · exact .inl ⟨Nat.le_refl _, Nat.le_refl _, Nat.le_refl _, Nat.le_refl _, Nat.le_refl _, trivial⟩
    · exact ⟨⟨noWords_R _ _ _ _ _ _ _, (.inl (Nat.le_refl _)), (.inl (Nat.le_refl _))⟩, ⟨noWords_R _ _ _ _ _ _ _, (.inl (Nat.le_refl _)), (.inl (Nat.le_refl _))⟩, ⟨noWords_R _ _ _ _ _ _ _, (.inl (Nat.le_refl _)), (.inl (Nat.le_refl _))⟩, ⟨noWords_R _ _ _ _ _ _ _, (.inl (Nat.le_refl _)), (.inl (Nat.le_refl _))⟩, ⟨noWords_R _ _ _ _ _ _ _, (.inl (Nat.le_refl _)), (.inl (Nat.le_refl _))⟩, trivial⟩
    · refine ⟨?_, ?_, ?_, ?_, ?_, ?_, ?_, ?_, ?_, ?_, ?_, ?_, ?_, ?_, ?_, ?_, ?_, ?_, ?_, ?_, ?_, ?_, ?_, ?_, ?_, ?_, ?_, ?_, ?_, ?_, ?_, ?_, ?_, trivial⟩
      · exact .inr fun a w hp => ob_yes rfl (ob_move (hp.same 9 (by kernel_rfl)))
      · refine .inr fun a w hp => ob_yes rfl ?_
        have h29 : a.tmps.getD 29 undef = .int .i64 n := (hp.fact 0 29 (by kernel_rfl) rfl)
        unfold Does
        go_simp
        exact ⟨_, rfl, On.refl _, by show Value.bool _ = Value.bool _; rw [← HNZ.out]; try (first | rfl | (simp; done))⟩
      · exact .inr fun a w hp => ob_yes rfl (ob_loadR (hp.box (k := 3) rfl (Nat.le_refl _) (.inl (Nat.le_refl _)) (by kernel_rfl) rfl).1 (hp.box (k := 3) rfl (Nat.le_refl _) (.inl (Nat.le_refl _)) (by kernel_rfl) rfl).2 rfl)
      · exact .inr fun a w hp => ob_yes rfl (ob_loadR (hp.box (k := 4) rfl (Nat.le_refl _) (.inl (Nat.le_refl _)) (by kernel_rfl) rfl).1 (hp.box (k := 4) rfl (Nat.le_refl _) (.inl (Nat.le_refl _)) (by kernel_rfl) rfl).2 rfl)
      · refine .inr fun a w hp => ob_yes rfl ?_
        have h31 : a.tmps.getD 31 undef = .agg #[.bool sg7, .slice P7 Pn7 Pc7, .slice R7 Rn7 Rc7] := (hp.fact 2 31 (by kernel_rfl) rfl)
        have h32 : a.tmps.getD 32 undef = .agg #[.bool sg8, .slice P8 Pn8 Pc8, .slice R8 Rn8 Rc8] := (hp.fact 3 32 (by kernel_rfl) rfl)
        unfold Does
        go_simp
        refine (rat_any _ _ _ _ _ (12 + 12 + 1) (12 + 12 + 1) (I7.kept hp.kept) (I8.kept hp.kept)).mono ?_
        rintro e w' ⟨rfl, P8⟩
        rw [HZ.out]
        exact ⟨_, rfl, P8, rfl⟩
      · refine .inr fun a w hp => ob_yes rfl ?_
        have h30 : a.tmps.getD 30 undef = .bool z := (hp.fact 1 30 (by kernel_rfl) rfl)
        have h33 : a.tmps.getD 33 undef = .bool z := (hp.fact 4 33 (by kernel_rfl) rfl)
        unfold Does
        go_simp
        exact ⟨_, rfl, On.refl _, by show Value.bool _ = Value.bool _; first | rfl | (simp; done)⟩
      · exact .inr fun a w hp => ob_yes rfl (ob_move (hp.fact 5 34 (by kernel_rfl) rfl))
      · exact .inr fun a w hp => ob_yes (wanted_yes (P := Try.prog) (j := 6) (d := 35) (b := false) rfl rfl (hp.fact 6 35 (by kernel_rfl) rfl)) (ob_loadR (hp.box (k := 1) rfl (Nat.le_refl _) (.inl (Nat.le_refl _)) (by kernel_rfl) rfl).1 (hp.box (k := 1) rfl (Nat.le_refl _) (.inl (Nat.le_refl _)) (by kernel_rfl) rfl).2 rfl)
      · exact .inr fun a w hp => ob_yes (wanted_yes (P := Try.prog) (j := 6) (d := 35) (b := false) rfl rfl (hp.fact 6 35 (by kernel_rfl) rfl)) (ob_loadR (hp.box (k := 0) rfl (Nat.le_refl _) (.inl (Nat.le_refl _)) (by kernel_rfl) rfl).1 (hp.box (k := 0) rfl (Nat.le_refl _) (.inl (Nat.le_refl _)) (by kernel_rfl) rfl).2 rfl)
      · refine .inr fun a w hp => ob_yes (wanted_yes (P := Try.prog) (j := 6) (d := 35) (b := false) rfl rfl (hp.fact 6 35 (by kernel_rfl) rfl)) ?_
        have h36 : a.tmps.getD 36 undef = .agg #[.bool b1, .slice A1 n1 c1, .slice D1 m1 e1] := (hp.fact 7 36 (by kernel_rfl) rfl)
        have h37 : a.tmps.getD 37 undef = .agg #[.bool b0, .slice A0 n0 c0, .slice D0 m0 e0] := (hp.fact 8 37 (by kernel_rfl) rfl)
        unfold Does
        go_simp
        refine (cmpr_any _ _ _ _ _ 12 (F1.on hp.on) (F0.on hp.on) (by decide)).mono ?_
        rintro e w' ⟨rfl, P8⟩
        rw [HN2.out]
        exact ⟨_, rfl, P8, rfl⟩
      · exact .inr fun a w hp => ob_yes (wanted_yes (P := Try.prog) (j := 6) (d := 35) (b := false) rfl rfl (hp.fact 6 35 (by kernel_rfl) rfl)) (ob_move (hp.same 9 (by kernel_rfl)))
      · refine .inr fun a w hp => ob_yes (wanted_yes (P := Try.prog) (j := 6) (d := 35) (b := false) rfl rfl (hp.fact 6 35 (by kernel_rfl) rfl)) ?_
        have h39 : a.tmps.getD 39 undef = .int .i64 n := (hp.fact 10 39 (by kernel_rfl) rfl)
        unfold Does
        go_simp
        exact ⟨_, rfl, On.refl _, by show Value.int _ _ = Value.int _ _; rcases hn3 with e | e | e <;> rw [e] <;> rfl⟩
      · refine .inr fun a w hp => ob_yes (wanted_yes (P := Try.prog) (j := 6) (d := 35) (b := false) rfl rfl (hp.fact 6 35 (by kernel_rfl) rfl)) ?_
        have h38 : a.tmps.getD 38 undef = .int .i64 (-n) := (hp.fact 9 38 (by kernel_rfl) rfl)
        have h40 : a.tmps.getD 40 undef = .int .i64 (-n) := (hp.fact 11 40 (by kernel_rfl) rfl)
        unfold Does
        go_simp
        exact ⟨_, rfl, On.refl _, by show Value.bool _ = Value.bool _; first | rfl | (simp; done)⟩
      · refine .inr fun a w hp => ob_yes rfl ?_
        have h35 : a.tmps.getD 35 undef = .bool false := (hp.fact 6 35 (by kernel_rfl) rfl)
        have h41 : a.tmps.getD 41 undef = .bool false := (hp.fact 12 41 (by kernel_rfl) rfl)
        unfold Does
        go_simp
        exact ⟨_, rfl, On.refl _, rfl⟩
      · exact .inr fun a w hp => ob_yes rfl (ob_move (hp.fact 13 42 (by kernel_rfl) rfl))
      · exact .inr fun a w hp => ob_yes (wanted_yes (P := Try.prog) (j := 14) (d := 43) (b := false) rfl rfl (hp.fact 14 43 (by kernel_rfl) rfl)) (ob_loadR (hp.box (k := 0) rfl (Nat.le_refl _) (.inl (Nat.le_refl _)) (by kernel_rfl) rfl).1 (hp.box (k := 0) rfl (Nat.le_refl _) (.inl (Nat.le_refl _)) (by kernel_rfl) rfl).2 rfl)
      · exact .inr fun a w hp => ob_yes (wanted_yes (P := Try.prog) (j := 14) (d := 43) (b := false) rfl rfl (hp.fact 14 43 (by kernel_rfl) rfl)) (ob_loadR (hp.box (k := 1) rfl (Nat.le_refl _) (.inl (Nat.le_refl _)) (by kernel_rfl) rfl).1 (hp.box (k := 1) rfl (Nat.le_refl _) (.inl (Nat.le_refl _)) (by kernel_rfl) rfl).2 rfl)
      · refine .inr fun a w hp => ob_yes (wanted_yes (P := Try.prog) (j := 14) (d := 43) (b := false) rfl rfl (hp.fact 14 43 (by kernel_rfl) rfl)) ?_
        have h44 : a.tmps.getD 44 undef = .agg #[.bool b0, .slice A0 n0 c0, .slice D0 m0 e0] := (hp.fact 15 44 (by kernel_rfl) rfl)
        have h45 : a.tmps.getD 45 undef = .agg #[.bool b1, .slice A1 n1 c1, .slice D1 m1 e1] := (hp.fact 16 45 (by kernel_rfl) rfl)
        unfold Does
        go_simp
        refine (subr_any _ _ _ _ _ 12 (F0.on hp.on) (F1.on hp.on) (by decide) (by decide)).mono ?_
        rintro e w' ⟨u, rfl, I8, P8⟩
        exact ⟨_, rfl, P8, I8⟩
      · refine .inr fun a w hp => ob_yes (wanted_yes (P := Try.prog) (j := 14) (d := 43) (b := false) rfl rfl (hp.fact 14 43 (by kernel_rfl) rfl)) ?_
        have h46 : IsR w (a.tmps.getD 46 undef) (r0 - r1) (12 + 12 + 1) := (hp.fact 17 46 (by kernel_rfl) rfl)
        obtain ⟨v46, e46⟩ : ∃ v, a.tmps.getD 46 undef = v := ⟨_, rfl⟩
        rw [e46] at h46
        unfold Does
        go_simp
        refine (signr_any _ _ _ (12 + 12 + 1) (IsR.fld h46) (by decide)).mono ?_
        rintro e w' ⟨rfl, P8⟩
        rw [HN.out]
        exact ⟨_, rfl, P8, rfl⟩
      · exact .inr fun a w hp => ob_yes (wanted_yes (P := Try.prog) (j := 14) (d := 43) (b := false) rfl rfl (hp.fact 14 43 (by kernel_rfl) rfl)) (ob_move (hp.same 9 (by kernel_rfl)))
      · refine .inr fun a w hp => ob_yes (wanted_yes (P := Try.prog) (j := 14) (d := 43) (b := false) rfl rfl (hp.fact 14 43 (by kernel_rfl) rfl)) ?_
        have h47 : a.tmps.getD 47 undef = .int .i64 n := (hp.fact 18 47 (by kernel_rfl) rfl)
        have h48 : a.tmps.getD 48 undef = .int .i64 n := (hp.fact 19 48 (by kernel_rfl) rfl)
        unfold Does
        go_simp
        exact ⟨_, rfl, On.refl _, by show Value.bool _ = Value.bool _; first | rfl | (simp; done)⟩
      · refine .inr fun a w hp => ob_yes rfl ?_
        have h43 : a.tmps.getD 43 undef = .bool false := (hp.fact 14 43 (by kernel_rfl) rfl)
        have h49 : a.tmps.getD 49 undef = .bool false := (hp.fact 20 49 (by kernel_rfl) rfl)
        unfold Does
        go_simp
        exact ⟨_, rfl, On.refl _, rfl⟩
      · exact .inr fun a w hp => ob_yes rfl (ob_move (hp.fact 21 50 (by kernel_rfl) rfl))
      · exact .inr fun a w hp => ob_yes (wanted_yes (P := Try.prog) (j := 22) (d := 51) (b := false) rfl rfl (hp.fact 22 51 (by kernel_rfl) rfl)) (ob_loadR (hp.box (k := 0) rfl (Nat.le_refl _) (.inl (Nat.le_refl _)) (by kernel_rfl) rfl).1 (hp.box (k := 0) rfl (Nat.le_refl _) (.inl (Nat.le_refl _)) (by kernel_rfl) rfl).2 rfl)
      · exact .inr fun a w hp => ob_yes (wanted_yes (P := Try.prog) (j := 22) (d := 51) (b := false) rfl rfl (hp.fact 22 51 (by kernel_rfl) rfl)) (ob_loadR (hp.box (k := 2) rfl (Nat.le_refl _) (.inl (Nat.le_refl _)) (by kernel_rfl) rfl).1 (hp.box (k := 2) rfl (Nat.le_refl _) (.inl (Nat.le_refl _)) (by kernel_rfl) rfl).2 rfl)
      · refine .inr fun a w hp => ob_yes (wanted_yes (P := Try.prog) (j := 22) (d := 51) (b := false) rfl rfl (hp.fact 22 51 (by kernel_rfl) rfl)) ?_
        have h52 : a.tmps.getD 52 undef = .agg #[.bool b0, .slice A0 n0 c0, .slice D0 m0 e0] := (hp.fact 23 52 (by kernel_rfl) rfl)
        have h53 : a.tmps.getD 53 undef = .agg #[.bool b2, .slice A2 n2 c2, .slice D2 m2 e2] := (hp.fact 24 53 (by kernel_rfl) rfl)
        unfold Does
        go_simp
        refine (addr_any _ _ _ _ _ 12 (F0.on hp.on) (F2.on hp.on) (by decide) (by decide)).mono ?_
        rintro e w' ⟨u, rfl, I8, P8⟩
        exact ⟨_, rfl, P8, I8⟩
      · exact .inr fun a w hp => ob_yes (wanted_yes (P := Try.prog) (j := 22) (d := 51) (b := false) rfl rfl (hp.fact 22 51 (by kernel_rfl) rfl)) (ob_loadR (hp.box (k := 1) rfl (Nat.le_refl _) (.inl (Nat.le_refl _)) (by kernel_rfl) rfl).1 (hp.box (k := 1) rfl (Nat.le_refl _) (.inl (Nat.le_refl _)) (by kernel_rfl) rfl).2 rfl)
      · exact .inr fun a w hp => ob_yes (wanted_yes (P := Try.prog) (j := 22) (d := 51) (b := false) rfl rfl (hp.fact 22 51 (by kernel_rfl) rfl)) (ob_loadR (hp.box (k := 2) rfl (Nat.le_refl _) (.inl (Nat.le_refl _)) (by kernel_rfl) rfl).1 (hp.box (k := 2) rfl (Nat.le_refl _) (.inl (Nat.le_refl _)) (by kernel_rfl) rfl).2 rfl)
      · refine .inr fun a w hp => ob_yes (wanted_yes (P := Try.prog) (j := 22) (d := 51) (b := false) rfl rfl (hp.fact 22 51 (by kernel_rfl) rfl)) ?_
        have h55 : a.tmps.getD 55 undef = .agg #[.bool b1, .slice A1 n1 c1, .slice D1 m1 e1] := (hp.fact 26 55 (by kernel_rfl) rfl)
        have h56 : a.tmps.getD 56 undef = .agg #[.bool b2, .slice A2 n2 c2, .slice D2 m2 e2] := (hp.fact 27 56 (by kernel_rfl) rfl)
        unfold Does
        go_simp
        refine (addr_any _ _ _ _ _ 12 (F1.on hp.on) (F2.on hp.on) (by decide) (by decide)).mono ?_
        rintro e w' ⟨u, rfl, I8, P8⟩
        exact ⟨_, rfl, P8, I8⟩
      · refine .inr fun a w hp => ob_yes (wanted_yes (P := Try.prog) (j := 22) (d := 51) (b := false) rfl rfl (hp.fact 22 51 (by kernel_rfl) rfl)) ?_
        have h54 : IsR w (a.tmps.getD 54 undef) (r0 + r2) (12 + 12 + 1) := (hp.fact 25 54 (by kernel_rfl) rfl)
        obtain ⟨v54, e54⟩ : ∃ v, a.tmps.getD 54 undef = v := ⟨_, rfl⟩
        rw [e54] at h54
        have h57 : IsR w (a.tmps.getD 57 undef) (r1 + r2) (12 + 12 + 1) := (hp.fact 28 57 (by kernel_rfl) rfl)
        obtain ⟨v57, e57⟩ : ∃ v, a.tmps.getD 57 undef = v := ⟨_, rfl⟩
        rw [e57] at h57
        unfold Does
        go_simp
        refine (cmpr_any _ _ _ _ _ (12 + 12 + 1) (IsR.fld h54) (IsR.fld h57) (by decide)).mono ?_
        rintro e w' ⟨rfl, P8⟩
        rw [HN3.out]
        exact ⟨_, rfl, P8, rfl⟩
      · exact .inr fun a w hp => ob_yes (wanted_yes (P := Try.prog) (j := 22) (d := 51) (b := false) rfl rfl (hp.fact 22 51 (by kernel_rfl) rfl)) (ob_move (hp.same 9 (by kernel_rfl)))
      · refine .inr fun a w hp => ob_yes (wanted_yes (P := Try.prog) (j := 22) (d := 51) (b := false) rfl rfl (hp.fact 22 51 (by kernel_rfl) rfl)) ?_
        have h58 : a.tmps.getD 58 undef = .int .i64 n := (hp.fact 29 58 (by kernel_rfl) rfl)
        have h59 : a.tmps.getD 59 undef = .int .i64 n := (hp.fact 30 59 (by kernel_rfl) rfl)
        unfold Does
        go_simp
        exact ⟨_, rfl, On.refl _, by show Value.bool _ = Value.bool _; first | rfl | (simp; done)⟩
      · refine .inr fun a w hp => ob_yes rfl ?_
        have h51 : a.tmps.getD 51 undef = .bool false := (hp.fact 22 51 (by kernel_rfl) rfl)
        have h60 : a.tmps.getD 60 undef = .bool false := (hp.fact 31 60 (by kernel_rfl) rfl)
        unfold Does
        go_simp
        exact ⟨_, rfl, On.refl _, rfl⟩
    · intro f wf hon hk hf hb hap
      obtain ⟨q0, q1, q2, q3, q4, qz⟩ := hb
      clear qz
      have O3 : Own wf (w.heap.size) 24 #[.bool b0, .slice A0 n0 c0, .slice D0 m0 e0] := q0
      have c3_0 : wf.cell? ⟨w.heap.size, 0, none⟩ = some (.bool b0) := O3.cell 0
      have z3_0 := O3.frozen 0
      have c3_1 : wf.cell? ⟨w.heap.size, 1, none⟩ = some (.slice A0 n0 c0) := O3.cell 1
      have z3_1 := O3.frozen 1
      have c3_2 : wf.cell? ⟨w.heap.size, 2, none⟩ = some (.slice D0 m0 e0) := O3.cell 2
      have z3_2 := O3.frozen 2
      clear q0
      have O4 : Own wf (w.heap.size + 1) 24 #[.bool b1, .slice A1 n1 c1, .slice D1 m1 e1] := q1
      have c4_0 : wf.cell? ⟨w.heap.size + 1, 0, none⟩ = some (.bool b1) := O4.cell 0
      have z4_0 := O4.frozen 0
      have c4_1 : wf.cell? ⟨w.heap.size + 1, 1, none⟩ = some (.slice A1 n1 c1) := O4.cell 1
      have z4_1 := O4.frozen 1
      have c4_2 : wf.cell? ⟨w.heap.size + 1, 2, none⟩ = some (.slice D1 m1 e1) := O4.cell 2
      have z4_2 := O4.frozen 2
      clear q1
      have O5 : Own wf (w.heap.size + 2) 24 #[.bool b2, .slice A2 n2 c2, .slice D2 m2 e2] := q2
      have c5_0 : wf.cell? ⟨w.heap.size + 2, 0, none⟩ = some (.bool b2) := O5.cell 0
      have z5_0 := O5.frozen 0
      have c5_1 : wf.cell? ⟨w.heap.size + 2, 1, none⟩ = some (.slice A2 n2 c2) := O5.cell 1
      have z5_1 := O5.frozen 1
      have c5_2 : wf.cell? ⟨w.heap.size + 2, 2, none⟩ = some (.slice D2 m2 e2) := O5.cell 2
      have z5_2 := O5.frozen 2
      clear q2
      have O7 : Own wf (g7) 24 #[.bool sg7, .slice P7 Pn7 Pc7, .slice R7 Rn7 Rc7] := q3
      have c7_0 : wf.cell? ⟨g7, 0, none⟩ = some (.bool sg7) := O7.cell 0
      have z7_0 := O7.frozen 0
      have c7_1 : wf.cell? ⟨g7, 1, none⟩ = some (.slice P7 Pn7 Pc7) := O7.cell 1
      have z7_1 := O7.frozen 1
      have c7_2 : wf.cell? ⟨g7, 2, none⟩ = some (.slice R7 Rn7 Rc7) := O7.cell 2
      have z7_2 := O7.frozen 2
      clear q3
      have O8 : Own wf (g8) 24 #[.bool sg8, .slice P8 Pn8 Pc8, .slice R8 Rn8 Rc8] := q4
      have c8_0 : wf.cell? ⟨g8, 0, none⟩ = some (.bool sg8) := O8.cell 0
      have z8_0 := O8.frozen 0
      have c8_1 : wf.cell? ⟨g8, 1, none⟩ = some (.slice P8 Pn8 Pc8) := O8.cell 1
      have z8_1 := O8.frozen 1
      have c8_2 : wf.cell? ⟨g8, 2, none⟩ = some (.slice R8 Rn8 Rc8) := O8.cell 2
      have z8_2 := O8.frozen 2
      clear q4
      have e61 : f 61 = .bool false := hf 32 61 rfl
      clear hf hap
      simp only [fillL, e61]
      clear e61
      have OB3 : w.heap.size ≤ w.heap.size ∧ Own wf (w.heap.size) 24 #[.bool b0, .slice A0 n0 c0, .slice D0 m0 e0] := ⟨by omega, O3⟩
      clear c3_0 z3_0 c3_1 z3_1 c3_2 z3_2 O3
      have OB4 : w.heap.size ≤ w.heap.size + 1 ∧ Own wf (w.heap.size + 1) 24 #[.bool b1, .slice A1 n1 c1, .slice D1 m1 e1] := ⟨by omega, O4⟩
      clear c4_0 z4_0 c4_1 z4_1 c4_2 z4_2 O4
      have OB5 : w.heap.size ≤ w.heap.size + 2 ∧ Own wf (w.heap.size + 2) 24 #[.bool b2, .slice A2 n2 c2, .slice D2 m2 e2] := ⟨by omega, O5⟩
      clear c5_0 z5_0 c5_1 z5_1 c5_2 z5_2 O5
      clear c7_0 z7_0 c7_1 z7_1 c7_2 z7_2 O7
      clear c8_0 z8_0 c8_1 z8_1 c8_2 z8_2 O8
      clear B
      have B := hon
      clear hon hk I7 I8 OB7 OB8 G7 G8
      go_wp2
      refine wp_region_facts (by kernel_rfl) w [Fact.eq (.agg #[.bool b0, .slice A0 n0 c0, .slice D0 m0 e0]), Fact.eq (.agg #[.bool b2, .slice A2 n2 c2, .slice D2 m2 e2]), Fact.rat (r0 * r2) (12 + 12), Fact.eq (.agg #[.bool b1, .slice A1 n1 c1, .slice D1 m1 e1]), Fact.eq (.agg #[.bool b2, .slice A2 n2 c2, .slice D2 m2 e2]), Fact.rat (r1 * r2) (12 + 12), Fact.eq (.int .i64 pp), Fact.eq (.int .i64 n), Fact.eq (.agg #[.bool b2, .slice A2 n2 c2, .slice D2 m2 e2]), Fact.eq (.int .i64 sc), Fact.eq (.int .i64 pp), Fact.eq (.bool false)] [Fact.any, Fact.any, Fact.any] [⟨12, 3, 24, 12, #[.bool b0, .slice A0 n0 c0, .slice D0 m0 e0]⟩, ⟨12, 4, 24, 12, #[.bool b1, .slice A1 n1 c1, .slice D1 m1 e1]⟩, ⟨12, 5, 24, 12, #[.bool b2, .slice A2 n2 c2, .slice D2 m2 e2]⟩] [w.heap.size, w.heap.size + 1, w.heap.size + 2] [none, none, none, none, none, none, none, none, none, none, none, none, none, none, none, none, none, none, none, none, none, none, none, none, none, none, none, none, none, none, none, none, none, none, none, none, none, none, none, none, none, none, none, none, none, none, none, none, none, none, none, none, none, none, none, none, none, none, none, none, none, none, some 62, some 63, some 64, some 65, some 66, some 67, some 68, some 69, some 70, some 71, some 72, some 73, none, none, none, none, none, none, none, none, none, none, none, none, none, none] (by kernel_rfl) (by kernel_rfl) (by kernel_rfl) rfl B ?_ ?_ ?_ ?_ ?_
      · exact ⟨fun _ => ⟨by simp, rfl, OB3⟩, fun _ => ⟨by simp, rfl, OB4⟩, fun _ => ⟨by simp, rfl, OB5⟩, trivial⟩
      · exact .inl ⟨Nat.le_refl _, Nat.le_refl _, Nat.le_refl _, trivial⟩
      · exact ⟨⟨noWords_R _ _ _ _ _ _ _, (.inl (Nat.le_refl _)), (.inl (Nat.le_refl _))⟩, ⟨noWords_R _ _ _ _ _ _ _, (.inl (Nat.le_refl _)), (.inl (Nat.le_refl _))⟩, ⟨noWords_R _ _ _ _ _ _ _, (.inl (Nat.le_refl _)), (.inl (Nat.le_refl _))⟩, trivial⟩
      · refine ⟨?_, ?_, ?_, ?_, ?_, ?_, ?_, ?_, ?_, ?_, ?_, ?_, trivial⟩
        · exact .inr fun a w hp => ob_yes rfl (ob_loadR (hp.box (k := 0) rfl (Nat.le_refl _) (.inl (Nat.le_refl _)) (by kernel_rfl) rfl).1 (hp.box (k := 0) rfl (Nat.le_refl _) (.inl (Nat.le_refl _)) (by kernel_rfl) rfl).2 rfl)
        · exact .inr fun a w hp => ob_yes rfl (ob_loadR (hp.box (k := 2) rfl (Nat.le_refl _) (.inl (Nat.le_refl _)) (by kernel_rfl) rfl).1 (hp.box (k := 2) rfl (Nat.le_refl _) (.inl (Nat.le_refl _)) (by kernel_rfl) rfl).2 rfl)
        · refine .inr fun a w hp => ob_yes rfl ?_
          have h62 : a.tmps.getD 62 undef = .agg #[.bool b0, .slice A0 n0 c0, .slice D0 m0 e0] := (hp.fact 0 62 (by kernel_rfl) rfl)
          have h63 : a.tmps.getD 63 undef = .agg #[.bool b2, .slice A2 n2 c2, .slice D2 m2 e2] := (hp.fact 1 63 (by kernel_rfl) rfl)
          unfold Does
          go_simp
          refine (mulr_any _ _ _ _ _ 12 (F0.on hp.on) (F2.on hp.on) (by decide) (by decide)).mono ?_
          rintro e w' ⟨u, rfl, I8, P8⟩
          exact ⟨_, rfl, P8, I8⟩
        · exact .inr fun a w hp => ob_yes rfl (ob_loadR (hp.box (k := 1) rfl (Nat.le_refl _) (.inl (Nat.le_refl _)) (by kernel_rfl) rfl).1 (hp.box (k := 1) rfl (Nat.le_refl _) (.inl (Nat.le_refl _)) (by kernel_rfl) rfl).2 rfl)
        · exact .inr fun a w hp => ob_yes rfl (ob_loadR (hp.box (k := 2) rfl (Nat.le_refl _) (.inl (Nat.le_refl _)) (by kernel_rfl) rfl).1 (hp.box (k := 2) rfl (Nat.le_refl _) (.inl (Nat.le_refl _)) (by kernel_rfl) rfl).2 rfl)
        · refine .inr fun a w hp => ob_yes rfl ?_
          have h65 : a.tmps.getD 65 undef = .agg #[.bool b1, .slice A1 n1 c1, .slice D1 m1 e1] := (hp.fact 3 65 (by kernel_rfl) rfl)
          have h66 : a.tmps.getD 66 undef = .agg #[.bool b2, .slice A2 n2 c2, .slice D2 m2 e2] := (hp.fact 4 66 (by kernel_rfl) rfl)
          unfold Does
          go_simp
          refine (mulr_any _ _ _ _ _ 12 (F1.on hp.on) (F2.on hp.on) (by decide) (by decide)).mono ?_
          rintro e w' ⟨u, rfl, I8, P8⟩
          exact ⟨_, rfl, P8, I8⟩
        · refine .inr fun a w hp => ob_yes rfl ?_
          have h64 : IsR w (a.tmps.getD 64 undef) (r0 * r2) (12 + 12) := (hp.fact 2 64 (by kernel_rfl) rfl)
          obtain ⟨v64, e64⟩ : ∃ v, a.tmps.getD 64 undef = v := ⟨_, rfl⟩
          rw [e64] at h64
          have h67 : IsR w (a.tmps.getD 67 undef) (r1 * r2) (12 + 12) := (hp.fact 5 67 (by kernel_rfl) rfl)
          obtain ⟨v67, e67⟩ : ∃ v, a.tmps.getD 67 undef = v := ⟨_, rfl⟩
          rw [e67] at h67
          unfold Does
          go_simp
          refine (cmpr_any _ _ _ _ _ (12 + 12) (IsR.fld h64) (IsR.fld h67) (by decide)).mono ?_
          rintro e w' ⟨rfl, P8⟩
          rw [HN4.out]
          exact ⟨_, rfl, P8, rfl⟩
        · exact .inr fun a w hp => ob_yes rfl (ob_move (hp.same 9 (by kernel_rfl)))
        · exact .inr fun a w hp => ob_yes rfl (ob_loadR (hp.box (k := 2) rfl (Nat.le_refl _) (.inl (Nat.le_refl _)) (by kernel_rfl) rfl).1 (hp.box (k := 2) rfl (Nat.le_refl _) (.inl (Nat.le_refl _)) (by kernel_rfl) rfl).2 rfl)
        · refine .inr fun a w hp => ob_yes rfl ?_
          have h70 : a.tmps.getD 70 undef = .agg #[.bool b2, .slice A2 n2 c2, .slice D2 m2 e2] := (hp.fact 8 70 (by kernel_rfl) rfl)
          unfold Does
          go_simp
          refine (signr_any _ _ _ 12 (F2.on hp.on) (by decide)).mono ?_
          rintro e w' ⟨rfl, P8⟩
          rw [HSC.out]
          exact ⟨_, rfl, P8, rfl⟩
        · refine .inr fun a w hp => ob_yes rfl ?_
          have h69 : a.tmps.getD 69 undef = .int .i64 n := (hp.fact 7 69 (by kernel_rfl) rfl)
          have h71 : a.tmps.getD 71 undef = .int .i64 sc := (hp.fact 9 71 (by kernel_rfl) rfl)
          unfold Does
          go_simp
          exact ⟨_, rfl, On.refl _, by show Value.int _ _ = Value.int _ _; rw [← HPP.out]; rcases hn3 with e | e | e <;> rcases hc3 with f | f | f <;> rw [e, f] <;> rfl⟩
        · refine .inr fun a w hp => ob_yes rfl ?_
          have h68 : a.tmps.getD 68 undef = .int .i64 pp := (hp.fact 6 68 (by kernel_rfl) rfl)
          have h72 : a.tmps.getD 72 undef = .int .i64 pp := (hp.fact 10 72 (by kernel_rfl) rfl)
          unfold Does
          go_simp
          exact ⟨_, rfl, On.refl _, by show Value.bool _ = Value.bool _; first | rfl | (simp; done)⟩
      · intro f wg hon hk hf hb hap
        obtain ⟨q0, q1, q2, qz⟩ := hb
        clear qz
        have O3 : Own wg (w.heap.size) 24 #[.bool b0, .slice A0 n0 c0, .slice D0 m0 e0] := q0
        have c3_0 : wg.cell? ⟨w.heap.size, 0, none⟩ = some (.bool b0) := O3.cell 0
        have z3_0 := O3.frozen 0
        have c3_1 : wg.cell? ⟨w.heap.size, 1, none⟩ = some (.slice A0 n0 c0) := O3.cell 1
        have z3_1 := O3.frozen 1
        have c3_2 : wg.cell? ⟨w.heap.size, 2, none⟩ = some (.slice D0 m0 e0) := O3.cell 2
        have z3_2 := O3.frozen 2
        clear q0
        have O4 : Own wg (w.heap.size + 1) 24 #[.bool b1, .slice A1 n1 c1, .slice D1 m1 e1] := q1
        have c4_0 : wg.cell? ⟨w.heap.size + 1, 0, none⟩ = some (.bool b1) := O4.cell 0
        have z4_0 := O4.frozen 0
        have c4_1 : wg.cell? ⟨w.heap.size + 1, 1, none⟩ = some (.slice A1 n1 c1) := O4.cell 1
        have z4_1 := O4.frozen 1
        have c4_2 : wg.cell? ⟨w.heap.size + 1, 2, none⟩ = some (.slice D1 m1 e1) := O4.cell 2
        have z4_2 := O4.frozen 2
        clear q1
        have O5 : Own wg (w.heap.size + 2) 24 #[.bool b2, .slice A2 n2 c2, .slice D2 m2 e2] := q2
        have c5_0 : wg.cell? ⟨w.heap.size + 2, 0, none⟩ = some (.bool b2) := O5.cell 0
        have z5_0 := O5.frozen 0
        have c5_1 : wg.cell? ⟨w.heap.size + 2, 1, none⟩ = some (.slice A2 n2 c2) := O5.cell 1
        have z5_1 := O5.frozen 1
        have c5_2 : wg.cell? ⟨w.heap.size + 2, 2, none⟩ = some (.slice D2 m2 e2) := O5.cell 2
        have z5_2 := O5.frozen 2
        clear q2
        have e73 : f 73 = .bool false := hf 11 73 rfl
        clear hf hap
        simp only [fillL, e73]
        clear e73
        by_cases hlt : n < 0
        · obtain ⟨k1, ek1⟩ : ∃ x, rsg (r1 - r2) = x := ⟨_, rfl⟩
          have hk3 : k1 = -1 ∨ k1 = 0 ∨ k1 = 1 := by rw [← ek1]; exact rsg_cases _
          have HK1 := Lib.hid ek1
          have hkb1 : -1 ≤ k1 := by omega
          have hkb2 : k1 ≤ 1 := by omega
          have hne : n = -1 := by omega
          have HNE := Lib.hid hne
          clear hne ek1
          go_wp2_with fail
          refine (cmpr_any _ _ _ _ _ 12 (F1.on hon) (F2.on hon) (by decide)).mono ?_
          rintro e wh ⟨rfl, P8⟩
          rw [HK1.out]
          clear c3_0 z3_0 c3_1 z3_1 c3_2 z3_2 c4_0 z4_0 c4_1 z4_1 c4_2 z4_2 c5_0 z5_0 c5_1 z5_1 c5_2 z5_2
          replace O3 := O3.on P8
          replace O5 := O5.on P8
          have c3_0 : wh.cell? ⟨w.heap.size, 0, none⟩ = some (.bool b0) := O3.cell 0
          have c3_1 : wh.cell? ⟨w.heap.size, 1, none⟩ = some (.slice A0 n0 c0) := O3.cell 1
          have c3_2 : wh.cell? ⟨w.heap.size, 2, none⟩ = some (.slice D0 m0 e0) := O3.cell 2
          have c5_0 : wh.cell? ⟨w.heap.size + 2, 0, none⟩ = some (.bool b2) := O5.cell 0
          have c5_1 : wh.cell? ⟨w.heap.size + 2, 1, none⟩ = some (.slice A2 n2 c2) := O5.cell 1
          have c5_2 : wh.cell? ⟨w.heap.size + 2, 2, none⟩ = some (.slice D2 m2 e2) := O5.cell 2
          by_cases hl2 : k1 < 0
          · have HQ : Hid (rsg (r0 - r2) = -1) := Lib.hid (HT.out (by rw [HK1.out]; omega) HNE.out)
            go_wp2_with fail
            refine (cmpr_any _ _ _ _ _ 12 ((F0.on hon).on P8) ((F2.on hon).on P8) (by decide)).mono ?_
            rintro e wi ⟨rfl, P9⟩
            rw [HQ.out]
            go_wp2
            go_ret
            exact ⟨rfl, (hon.trans P8).trans P9⟩
          · go_wp2
            go_ret
            exact ⟨rfl, hon.trans P8⟩
        · go_wp2
          go_ret
          exact ⟨rfl, hon⟩
theorem equal_any (w : World) (hx : MX w) (b0 : Bool) (A0 D0 : Option Addr) (n0 c0 m0 e0 : Nat) (x0 y0 : List Nat) (R0 : Rd w A0 n0 c0 x0) (S0 : Rd w D0 m0 e0 y0) (b1 : Bool) (A1 D1 : Option Addr) (n1 c1 m1 e1 : Nat) (x1 y1 : List Nat) (R1 : Rd w A1 n1 c1 x1) (S1 : Rd w D1 m1 e1 y1) (b2 : Bool) (A2 D2 : Option Addr) (n2 c2 m2 e2 : Nat) (x2 y2 : List Nat) (R2 : Rd w A2 n2 c2 x2) (S2 : Rd w D2 m2 e2 y2)  :
    Calls Try.prog 6 #[.agg #[.bool b0, .slice A0 n0 c0, .slice D0 m0 e0], .agg #[.bool b1, .slice A1 n1 c1, .slice D1 m1 e1], .agg #[.bool b2, .slice A2 n2 c2, .slice D2 m2 e2]] w fun e w' => e = .returned (.bool true) ∧ On w w' := by
  by_cases hs : n0 ≤ 12 ∧ m0 ≤ 12 ∧ n1 ≤ 12 ∧ m1 ≤ 12 ∧ n2 ≤ 12 ∧ m2 ≤ 12
  · exact equal_small w hx b0 A0 D0 n0 c0 m0 e0 x0 y0 R0 S0 b1 A1 D1 n1 c1 m1 e1 x1 y1 R1 S1 b2 A2 D2 n2 c2 m2 e2 x2 y2 R2 S2  hs
  · have : ∃ (mi : Nat) (qi : Nat × Nat), [(n0, m0), (n1, m1), (n2, m2)][mi]? = some qi ∧ (12 < qi.1 ∨ 12 < qi.2) := by
      by_cases h0 : 12 < n0 ∨ 12 < m0
      · exact ⟨0, _, rfl, h0⟩
      by_cases h1 : 12 < n1 ∨ 12 < m1
      · exact ⟨1, _, rfl, h1⟩
      by_cases h2 : 12 < n2 ∨ 12 < m2
      · exact ⟨2, _, rfl, h2⟩
      omega
    obtain ⟨mi, qi, h1, h2⟩ := this
    exact equal_large w hx b0 A0 D0 n0 c0 m0 e0 x0 y0 R0 S0 b1 A1 D1 n1 c1 m1 e1 x1 y1 R1 S1 b2 A2 D2 n2 c2 m2 e2 x2 y2 R2 S2  mi qi h1 h2
end Num
end Go.Proofs.Ytikmjlaeadockaa
