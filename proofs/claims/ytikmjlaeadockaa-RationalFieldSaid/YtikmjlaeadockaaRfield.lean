/-
  RationalField, walked.
-/
import Derived.Test.YtikmjlaeadockaaRcom
namespace Go.Proofs.Ytikmjlaeadockaa
open Go.RowKit
set_option linter.unusedVariables false
namespace Num
set_option maxRecDepth 100000 in
set_option maxHeartbeats 800000 in
theorem is_zero_err (w : World) : Calls Try.prog 31 #[.iface 49 (.int .i64 8), .int .i64 8] w fun e w' => e = .returned (.bool true) ∧ w = w' := by
  have hta : ∀ W, (Instr.typeAssert (.iface 49 (.int .i64 8)) 28 49 true).run Try.prog W = .ok (.tuple #[.int .i64 8, .bool true]) W := fun _ => by kernel_rfl
  go_enter Try.func31, Try.ntmps31
  go_wp2
  go_ret
  exact ⟨rfl, rfl⟩
theorem rlens3 {w : World} {g t : Nat} (b0 : Bool) (A0 D0 : Option Addr) (n0 c0 m0 e0 : Nat) (x0 y0 : List Nat) (R0 : Rd w A0 n0 c0 x0) (S0 : Rd w D0 m0 e0 y0) (b1 : Bool) (A1 D1 : Option Addr) (n1 c1 m1 e1 : Nat) (x1 y1 : List Nat) (R1 : Rd w A1 n1 c1 x1) (S1 : Rd w D1 m1 e1 y1) (b2 : Bool) (A2 D2 : Option Addr) (n2 c2 m2 e2 : Nat) (x2 y2 : List Nat) (R2 : Rd w A2 n2 c2 x2) (S2 : Rd w D2 m2 e2 y2) (h : Own w g t #[.bool b0, .slice A0 n0 c0, .slice D0 m0 e0, .bool b1, .slice A1 n1 c1, .slice D1 m1 e1, .bool b2, .slice A2 n2 c2, .slice D2 m2 e2]) : RLens w g [(n0, m0), (n1, m1), (n2, m2)] := by
  refine ⟨h.lt, fun i p hp => ?_⟩
  rcases i with _ | i
  · simp at hp; subst hp
    exact ⟨b0, A0, c0, D0, e0, h.cell 0, h.cell 1, h.cell 2, R0.max, R0.cap, S0.max, S0.cap⟩
  rcases i with _ | i
  · simp at hp; subst hp
    exact ⟨b1, A1, c1, D1, e1, h.cell 3, h.cell 4, h.cell 5, R1.max, R1.cap, S1.max, S1.cap⟩
  rcases i with _ | i
  · simp at hp; subst hp
    exact ⟨b2, A2, c2, D2, e2, h.cell 6, h.cell 7, h.cell 8, R2.max, R2.cap, S2.max, S2.cap⟩
  · simp at hp
set_option maxRecDepth 100000 in
set_option maxHeartbeats 1600000 in
theorem field_large (w : World) (hx : MX w) (b0 : Bool) (A0 D0 : Option Addr) (n0 c0 m0 e0 : Nat) (x0 y0 : List Nat) (R0 : Rd w A0 n0 c0 x0) (S0 : Rd w D0 m0 e0 y0) (b1 : Bool) (A1 D1 : Option Addr) (n1 c1 m1 e1 : Nat) (x1 y1 : List Nat) (R1 : Rd w A1 n1 c1 x1) (S1 : Rd w D1 m1 e1 y1) (b2 : Bool) (A2 D2 : Option Addr) (n2 c2 m2 e2 : Nat) (x2 y2 : List Nat) (R2 : Rd w A2 n2 c2 x2) (S2 : Rd w D2 m2 e2 y2)  (mi : Nat) (qi : Nat × Nat) (hmi : [(n0, m0), (n1, m1), (n2, m2)][mi]? = some qi) (hyi : 12 < qi.1 ∨ 12 < qi.2) :
    Calls Try.prog 5 #[.agg #[.bool b0, .slice A0 n0 c0, .slice D0 m0 e0], .agg #[.bool b1, .slice A1 n1 c1, .slice D1 m1 e1], .agg #[.bool b2, .slice A2 n2 c2, .slice D2 m2 e2]] w fun e w' => e = .returned (.bool true) ∧ On w w' := by
  have HMI := Lib.hid hmi
  have HYI := Lib.hid hyi
  clear hmi hyi
  have B : On w (((w.alloc (.cells #[.bool b0, .slice A0 n0 c0, .slice D0 m0 e0] 24)).alloc (.cells #[.bool b1, .slice A1 n1 c1, .slice D1 m1 e1] 24)).alloc (.cells #[.bool b2, .slice A2 n2 c2, .slice D2 m2 e2] 24)) := On.alloc (On.alloc (On.alloc (On.refl w) _) _) _
  have OB3 : w.heap.size ≤ w.heap.size ∧ Own (((w.alloc (.cells #[.bool b0, .slice A0 n0 c0, .slice D0 m0 e0] 24)).alloc (.cells #[.bool b1, .slice A1 n1 c1, .slice D1 m1 e1] 24)).alloc (.cells #[.bool b2, .slice A2 n2 c2, .slice D2 m2 e2] 24)) (w.heap.size) 24 #[.bool b0, .slice A0 n0 c0, .slice D0 m0 e0] := ⟨by omega, (((Own.at_ w (w.heap.size) (by simp) 24 #[.bool b0, .slice A0 n0 c0, .slice D0 m0 e0]).alloc (.cells #[.bool b1, .slice A1 n1 c1, .slice D1 m1 e1] 24)).alloc (.cells #[.bool b2, .slice A2 n2 c2, .slice D2 m2 e2] 24))⟩
  have OB4 : w.heap.size ≤ w.heap.size + 1 ∧ Own (((w.alloc (.cells #[.bool b0, .slice A0 n0 c0, .slice D0 m0 e0] 24)).alloc (.cells #[.bool b1, .slice A1 n1 c1, .slice D1 m1 e1] 24)).alloc (.cells #[.bool b2, .slice A2 n2 c2, .slice D2 m2 e2] 24)) (w.heap.size + 1) 24 #[.bool b1, .slice A1 n1 c1, .slice D1 m1 e1] := ⟨by omega, ((Own.at_ (w.alloc (.cells #[.bool b0, .slice A0 n0 c0, .slice D0 m0 e0] 24)) (w.heap.size + 1) (by simp) 24 #[.bool b1, .slice A1 n1 c1, .slice D1 m1 e1]).alloc (.cells #[.bool b2, .slice A2 n2 c2, .slice D2 m2 e2] 24))⟩
  have OB5 : w.heap.size ≤ w.heap.size + 2 ∧ Own (((w.alloc (.cells #[.bool b0, .slice A0 n0 c0, .slice D0 m0 e0] 24)).alloc (.cells #[.bool b1, .slice A1 n1 c1, .slice D1 m1 e1] 24)).alloc (.cells #[.bool b2, .slice A2 n2 c2, .slice D2 m2 e2] 24)) (w.heap.size + 2) 24 #[.bool b2, .slice A2 n2 c2, .slice D2 m2 e2] := ⟨by omega, (Own.at_ ((w.alloc (.cells #[.bool b0, .slice A0 n0 c0, .slice D0 m0 e0] 24)).alloc (.cells #[.bool b1, .slice A1 n1 c1, .slice D1 m1 e1] 24)) (w.heap.size + 2) (by simp) 24 #[.bool b2, .slice A2 n2 c2, .slice D2 m2 e2])⟩
  go_enter Try.func5, Try.ntmps5
  go_wp2_with fail
  refine (awake02 _ (hx.on B)).mono ?_
  rintro e w1 ⟨rfl, P1⟩
  replace OB3 := And.intro OB3.1 (OB3.2.on P1)
  replace OB4 := And.intro OB4.1 (OB4.2.on P1)
  replace OB5 := And.intro OB5.1 (OB5.2.on P1)
  replace B := B.trans P1
  have y3_0 : w1.cell? ⟨w.heap.size, 0, none⟩ = some (.bool b0) := OB3.2.cell 0
  have y3_1 : w1.cell? ⟨w.heap.size, 1, none⟩ = some (.slice A0 n0 c0) := OB3.2.cell 1
  have y3_2 : w1.cell? ⟨w.heap.size, 2, none⟩ = some (.slice D0 m0 e0) := OB3.2.cell 2
  have y3_f0 := OB3.2.frozen 0
  have y3_f1 := OB3.2.frozen 1
  have y3_f2 := OB3.2.frozen 2
  have y4_0 : w1.cell? ⟨w.heap.size + 1, 0, none⟩ = some (.bool b1) := OB4.2.cell 0
  have y4_1 : w1.cell? ⟨w.heap.size + 1, 1, none⟩ = some (.slice A1 n1 c1) := OB4.2.cell 1
  have y4_2 : w1.cell? ⟨w.heap.size + 1, 2, none⟩ = some (.slice D1 m1 e1) := OB4.2.cell 2
  have y4_f0 := OB4.2.frozen 0
  have y4_f1 := OB4.2.frozen 1
  have y4_f2 := OB4.2.frozen 2
  have y5_0 : w1.cell? ⟨w.heap.size + 2, 0, none⟩ = some (.bool b2) := OB5.2.cell 0
  have y5_1 : w1.cell? ⟨w.heap.size + 2, 1, none⟩ = some (.slice A2 n2 c2) := OB5.2.cell 1
  have y5_2 : w1.cell? ⟨w.heap.size + 2, 2, none⟩ = some (.slice D2 m2 e2) := OB5.2.cell 2
  have y5_f0 := OB5.2.frozen 0
  have y5_f1 := OB5.2.frozen 1
  have y5_f2 := OB5.2.frozen 2
  go_wp2_with fail
  clear y3_0 y3_f0 y3_1 y3_f1 y3_2 y3_f2
  clear y4_0 y4_f0 y4_1 y4_f1 y4_2 y4_f2
  clear y5_0 y5_f0 y5_1 y5_f1 y5_2 y5_f2
  have B1 := (On.refl w1).alloc (.cells #[.bool b0, .slice A0 n0 c0, .slice D0 m0 e0, .bool b1, .slice A1 n1 c1, .slice D1 m1 e1, .bool b2, .slice A2 n2 c2, .slice D2 m2 e2] 24)
  replace OB3 := And.intro OB3.1 (OB3.2.on B1)
  replace OB4 := And.intro OB4.1 (OB4.2.on B1)
  replace OB5 := And.intro OB5.1 (OB5.2.on B1)
  replace B := B.trans B1
  have hlens := rlens3 b0 A0 D0 n0 c0 m0 e0 x0 y0 (R0.on B) (S0.on B) b1 A1 D1 n1 c1 m1 e1 x1 y1 (R1.on B) (S1.on B) b2 A2 D2 n2 c2 m2 e2 x2 y2 (R2.on B) (S2.on B) (Own.new w1 24 #[.bool b0, .slice A0 n0 c0, .slice D0 m0 e0, .bool b1, .slice A1 n1 c1, .slice D1 m1 e1, .bool b2, .slice A2 n2 c2, .slice D2 m2 e2])
  refine (rlarge_yes _ _ 3 3 _ hlens rfl (by decide) (by decide) (by decide) mi qi HMI.out HYI.out).mono ?_
  rintro e w2 ⟨rfl, P2⟩
  clear hlens B1 P1
  replace OB3 := And.intro OB3.1 (OB3.2.on P2)
  replace OB4 := And.intro OB4.1 (OB4.2.on P2)
  replace OB5 := And.intro OB5.1 (OB5.2.on P2)
  replace B := B.trans P2
  clear P2
  go_wp2_with fail
  refine (awake02 _ (hx.on B)).mono ?_
  rintro e w3 ⟨rfl, P3⟩
  go_wp2
  go_ret
  exact ⟨rfl, B.trans P3⟩
set_option maxRecDepth 100000 in
set_option maxHeartbeats 1600000 in
theorem field_zero (w : World) (hx : MX w) (b0 : Bool) (A0 D0 : Option Addr) (n0 c0 m0 e0 : Nat) (x0 y0 : List Nat) (R0 : Rd w A0 n0 c0 x0) (S0 : Rd w D0 m0 e0 y0) (b1 : Bool) (A1 D1 : Option Addr) (n1 c1 m1 e1 : Nat) (x1 y1 : List Nat) (R1 : Rd w A1 n1 c1 x1) (S1 : Rd w D1 m1 e1 y1) (b2 : Bool) (A2 D2 : Option Addr) (n2 c2 m2 e2 : Nat) (x2 y2 : List Nat) (R2 : Rd w A2 n2 c2 x2) (S2 : Rd w D2 m2 e2 y2) (hs : n0 ≤ 12 ∧ m0 ≤ 12 ∧ n1 ≤ 12 ∧ m1 ≤ 12 ∧ n2 ≤ 12 ∧ m2 ≤ 12) (hz : raw b1 x1 y1 = 0) :
    Calls Try.prog 5 #[.agg #[.bool b0, .slice A0 n0 c0, .slice D0 m0 e0], .agg #[.bool b1, .slice A1 n1 c1, .slice D1 m1 e1], .agg #[.bool b2, .slice A2 n2 c2, .slice D2 m2 e2]] w fun e w' => e = .returned (.bool true) ∧ On w w' := by
  obtain ⟨r0, hr0⟩ : ∃ x, raw b0 x0 y0 = x := ⟨_, rfl⟩
  obtain ⟨r1, hr1⟩ : ∃ x, raw b1 x1 y1 = x := ⟨_, rfl⟩
  obtain ⟨r2, hr2⟩ : ∃ x, raw b2 x2 y2 = x := ⟨_, rfl⟩
  have F0 : Fld w (.agg #[.bool b0, .slice A0 n0 c0, .slice D0 m0 e0]) r0 12 := Fld.mk3 R0 S0 (by omega) (by omega) hr0
  have F1 : Fld w (.agg #[.bool b1, .slice A1 n1 c1, .slice D1 m1 e1]) r1 12 := Fld.mk3 R1 S1 (by omega) (by omega) hr1
  have F2 : Fld w (.agg #[.bool b2, .slice A2 n2 c2, .slice D2 m2 e2]) r2 12 := Fld.mk3 R2 S2 (by omega) (by omega) hr2
  rw [hr1] at hz
  have HZ := Lib.hid hz
  clear hr0 hr1 hr2 hz
  have HA1 : Hid (rsg ((r0 + r1) - (r1 + r0)) = 0) := Lib.hid (rsg_eq (by grind))
  have HA2 : Hid (rsg (((r0 + r1) + r2) - (r0 + (r1 + r2))) = 0) := Lib.hid (rsg_eq (by grind))
  have HA3 : Hid (rsg (((r0 + r1) - r1) - r0) = 0) := Lib.hid (rsg_eq (by grind))
  have HM1 : Hid (rsg (r0 * r1 - r1 * r0) = 0) := Lib.hid (rsg_eq (by grind))
  have HM2 : Hid (rsg ((r0 * r1) * r2 - r0 * (r1 * r2)) = 0) := Lib.hid (rsg_eq (by grind))
  have HM3 : Hid (rsg (r0 * (r1 + r2) - (r0 * r1 + r0 * r2)) = 0) := Lib.hid (rsg_eq (by grind))
  have B : On w (((w.alloc (.cells #[.bool b0, .slice A0 n0 c0, .slice D0 m0 e0] 24)).alloc (.cells #[.bool b1, .slice A1 n1 c1, .slice D1 m1 e1] 24)).alloc (.cells #[.bool b2, .slice A2 n2 c2, .slice D2 m2 e2] 24)) := On.alloc (On.alloc (On.alloc (On.refl w) _) _) _
  have OB3 : w.heap.size ≤ w.heap.size ∧ Own (((w.alloc (.cells #[.bool b0, .slice A0 n0 c0, .slice D0 m0 e0] 24)).alloc (.cells #[.bool b1, .slice A1 n1 c1, .slice D1 m1 e1] 24)).alloc (.cells #[.bool b2, .slice A2 n2 c2, .slice D2 m2 e2] 24)) (w.heap.size) 24 #[.bool b0, .slice A0 n0 c0, .slice D0 m0 e0] := ⟨by omega, (((Own.at_ w (w.heap.size) (by simp) 24 #[.bool b0, .slice A0 n0 c0, .slice D0 m0 e0]).alloc (.cells #[.bool b1, .slice A1 n1 c1, .slice D1 m1 e1] 24)).alloc (.cells #[.bool b2, .slice A2 n2 c2, .slice D2 m2 e2] 24))⟩
  have OB4 : w.heap.size ≤ w.heap.size + 1 ∧ Own (((w.alloc (.cells #[.bool b0, .slice A0 n0 c0, .slice D0 m0 e0] 24)).alloc (.cells #[.bool b1, .slice A1 n1 c1, .slice D1 m1 e1] 24)).alloc (.cells #[.bool b2, .slice A2 n2 c2, .slice D2 m2 e2] 24)) (w.heap.size + 1) 24 #[.bool b1, .slice A1 n1 c1, .slice D1 m1 e1] := ⟨by omega, ((Own.at_ (w.alloc (.cells #[.bool b0, .slice A0 n0 c0, .slice D0 m0 e0] 24)) (w.heap.size + 1) (by simp) 24 #[.bool b1, .slice A1 n1 c1, .slice D1 m1 e1]).alloc (.cells #[.bool b2, .slice A2 n2 c2, .slice D2 m2 e2] 24))⟩
  have OB5 : w.heap.size ≤ w.heap.size + 2 ∧ Own (((w.alloc (.cells #[.bool b0, .slice A0 n0 c0, .slice D0 m0 e0] 24)).alloc (.cells #[.bool b1, .slice A1 n1 c1, .slice D1 m1 e1] 24)).alloc (.cells #[.bool b2, .slice A2 n2 c2, .slice D2 m2 e2] 24)) (w.heap.size + 2) 24 #[.bool b2, .slice A2 n2 c2, .slice D2 m2 e2] := ⟨by omega, (Own.at_ ((w.alloc (.cells #[.bool b0, .slice A0 n0 c0, .slice D0 m0 e0] 24)).alloc (.cells #[.bool b1, .slice A1 n1 c1, .slice D1 m1 e1] 24)) (w.heap.size + 2) (by simp) 24 #[.bool b2, .slice A2 n2 c2, .slice D2 m2 e2])⟩
  go_enter Try.func5, Try.ntmps5
  go_wp2_with fail
  refine (awake02 _ (hx.on B)).mono ?_
  rintro e w1 ⟨rfl, P1⟩
  replace OB3 := And.intro OB3.1 (OB3.2.on P1)
  replace OB4 := And.intro OB4.1 (OB4.2.on P1)
  replace OB5 := And.intro OB5.1 (OB5.2.on P1)
  replace B := B.trans P1
  have y3_0 : w1.cell? ⟨w.heap.size, 0, none⟩ = some (.bool b0) := OB3.2.cell 0
  have y3_1 : w1.cell? ⟨w.heap.size, 1, none⟩ = some (.slice A0 n0 c0) := OB3.2.cell 1
  have y3_2 : w1.cell? ⟨w.heap.size, 2, none⟩ = some (.slice D0 m0 e0) := OB3.2.cell 2
  have y3_f0 := OB3.2.frozen 0
  have y3_f1 := OB3.2.frozen 1
  have y3_f2 := OB3.2.frozen 2
  have y4_0 : w1.cell? ⟨w.heap.size + 1, 0, none⟩ = some (.bool b1) := OB4.2.cell 0
  have y4_1 : w1.cell? ⟨w.heap.size + 1, 1, none⟩ = some (.slice A1 n1 c1) := OB4.2.cell 1
  have y4_2 : w1.cell? ⟨w.heap.size + 1, 2, none⟩ = some (.slice D1 m1 e1) := OB4.2.cell 2
  have y4_f0 := OB4.2.frozen 0
  have y4_f1 := OB4.2.frozen 1
  have y4_f2 := OB4.2.frozen 2
  have y5_0 : w1.cell? ⟨w.heap.size + 2, 0, none⟩ = some (.bool b2) := OB5.2.cell 0
  have y5_1 : w1.cell? ⟨w.heap.size + 2, 1, none⟩ = some (.slice A2 n2 c2) := OB5.2.cell 1
  have y5_2 : w1.cell? ⟨w.heap.size + 2, 2, none⟩ = some (.slice D2 m2 e2) := OB5.2.cell 2
  have y5_f0 := OB5.2.frozen 0
  have y5_f1 := OB5.2.frozen 1
  have y5_f2 := OB5.2.frozen 2
  go_wp2_with fail
  clear y3_0 y3_f0 y3_1 y3_f1 y3_2 y3_f2
  clear y4_0 y4_f0 y4_1 y4_f1 y4_2 y4_f2
  clear y5_0 y5_f0 y5_1 y5_f1 y5_2 y5_f2
  have B1 := (On.refl w1).alloc (.cells #[.bool b0, .slice A0 n0 c0, .slice D0 m0 e0, .bool b1, .slice A1 n1 c1, .slice D1 m1 e1, .bool b2, .slice A2 n2 c2, .slice D2 m2 e2] 24)
  replace OB3 := And.intro OB3.1 (OB3.2.on B1)
  replace OB4 := And.intro OB4.1 (OB4.2.on B1)
  replace OB5 := And.intro OB5.1 (OB5.2.on B1)
  replace B := B.trans B1
  have hlens := rlens3 b0 A0 D0 n0 c0 m0 e0 x0 y0 (R0.on B) (S0.on B) b1 A1 D1 n1 c1 m1 e1 x1 y1 (R1.on B) (S1.on B) b2 A2 D2 n2 c2 m2 e2 x2 y2 (R2.on B) (S2.on B) (Own.new w1 24 #[.bool b0, .slice A0 n0 c0, .slice D0 m0 e0, .bool b1, .slice A1 n1 c1, .slice D1 m1 e1, .bool b2, .slice A2 n2 c2, .slice D2 m2 e2])
  refine (rlarge_no _ _ 3 3 _ hlens rfl (by decide) (by decide) (by decide) (by simp; omega)).mono ?_
  rintro e w2 ⟨rfl, P2⟩
  clear hlens B1 P1
  replace OB3 := And.intro OB3.1 (OB3.2.on P2)
  replace OB4 := And.intro OB4.1 (OB4.2.on P2)
  replace OB5 := And.intro OB5.1 (OB5.2.on P2)
  replace B := B.trans P2
  clear P2
  clear hx
  go_wp2
  refine wp_region_facts (by kernel_rfl) w [Fact.eq (.agg #[.bool b0, .slice A0 n0 c0, .slice D0 m0 e0]), Fact.eq (.agg #[.bool b1, .slice A1 n1 c1, .slice D1 m1 e1]), Fact.rat (r0 + r1) (12 + 12 + 1), Fact.eq (.agg #[.bool b1, .slice A1 n1 c1, .slice D1 m1 e1]), Fact.eq (.agg #[.bool b2, .slice A2 n2 c2, .slice D2 m2 e2]), Fact.rat (r1 + r2) (12 + 12 + 1), Fact.eq (.agg #[.bool b0, .slice A0 n0 c0, .slice D0 m0 e0]), Fact.eq (.agg #[.bool b1, .slice A1 n1 c1, .slice D1 m1 e1]), Fact.rat (r0 * r1) (12 + 12), Fact.any, Fact.any, Fact.any, Fact.any, Fact.any, Fact.any] [Fact.any, Fact.any, Fact.any, Fact.rat (r0 + r1) (12 + 12 + 1), Fact.rat (r1 + r2) (12 + 12 + 1), Fact.rat (r0 * r1) (12 + 12)] [⟨15, 3, 24, 15, #[.bool b0, .slice A0 n0 c0, .slice D0 m0 e0]⟩, ⟨15, 4, 24, 15, #[.bool b1, .slice A1 n1 c1, .slice D1 m1 e1]⟩, ⟨15, 5, 24, 15, #[.bool b2, .slice A2 n2 c2, .slice D2 m2 e2]⟩, ⟨9, 7, 24, 12, #[.bool false, .slice none 0 0, .slice none 0 0]⟩, ⟨10, 8, 24, 13, #[.bool false, .slice none 0 0, .slice none 0 0]⟩, ⟨11, 9, 24, 14, #[.bool false, .slice none 0 0, .slice none 0 0]⟩] [w.heap.size, w.heap.size + 1, w.heap.size + 2] [none, none, none, none, none, none, none, some 7, some 8, some 9, none, none, none, none, none, none, none, none, none, none, none, none, some 22, some 23, some 24, some 25, some 26, some 27, some 28, some 29, some 30, none, none, none, none, none, none, none, none, none, none, none, none, none, none, none, none, none, none, none, none, none, none, none, none, none, none, none, none, none, none, none, none, none, none, none, none, none, none, none, none, none, none, none, none, none, none, none, none, none, none, none, none, none, none, none, none, none, none, none, none, none, none, none, none, none, none, none, none, none, none, none, none, none, none, none, none, none, none, none, none, none, none, none, none, none, none, none, none, none, none, none, none] (by kernel_rfl) (by kernel_rfl) (by kernel_rfl) rfl B ?_ ?_ ?_ ?_ ?_
  · exact ⟨fun _ => ⟨by simp, rfl, OB3⟩, fun _ => ⟨by simp, rfl, OB4⟩, fun _ => ⟨by simp, rfl, OB5⟩, fun h => absurd h (by decide), fun h => absurd h (by decide), fun h => absurd h (by decide), trivial⟩
  · exact .inr (by simp <;> omega)
  · exact ⟨⟨noWords_R _ _ _ _ _ _ _, (.inl (Nat.le_refl _)), (.inl (Nat.le_refl _))⟩, ⟨noWords_R _ _ _ _ _ _ _, (.inl (Nat.le_refl _)), (.inl (Nat.le_refl _))⟩, ⟨noWords_R _ _ _ _ _ _ _, (.inl (Nat.le_refl _)), (.inl (Nat.le_refl _))⟩, ⟨noWords_R _ _ _ _ _ _ _, (.inr ⟨fun _ _ => trivial, _, rfl, fun a w => ⟨rfl, do_value run_allocR⟩⟩), (.inr (store_ob (j := 2) (noWords_R _ _ _ _ _ _ _) rfl rfl rfl (by kernel_rfl) rfl rfl rfl))⟩, ⟨noWords_R _ _ _ _ _ _ _, (.inr ⟨fun _ _ => trivial, _, rfl, fun a w => ⟨rfl, do_value run_allocR⟩⟩), (.inr (store_ob (j := 5) (noWords_R _ _ _ _ _ _ _) rfl rfl rfl (by kernel_rfl) rfl rfl rfl))⟩, ⟨noWords_R _ _ _ _ _ _ _, (.inr ⟨fun _ _ => trivial, _, rfl, fun a w => ⟨rfl, do_value run_allocR⟩⟩), (.inr (store_ob (j := 8) (noWords_R _ _ _ _ _ _ _) rfl rfl rfl (by kernel_rfl) rfl rfl rfl))⟩, trivial⟩
  · refine ⟨?_, ?_, ?_, ?_, ?_, ?_, ?_, ?_, ?_, ?_, ?_, ?_, ?_, ?_, ?_, trivial⟩
    · exact .inr fun a w hp => ob_yes rfl (ob_loadR (hp.box (k := 0) rfl (Nat.le_refl _) (.inl (Nat.le_refl _)) (by kernel_rfl) rfl).1 (hp.box (k := 0) rfl (Nat.le_refl _) (.inl (Nat.le_refl _)) (by kernel_rfl) rfl).2 rfl)
    · exact .inr fun a w hp => ob_yes rfl (ob_loadR (hp.box (k := 1) rfl (Nat.le_refl _) (.inl (Nat.le_refl _)) (by kernel_rfl) rfl).1 (hp.box (k := 1) rfl (Nat.le_refl _) (.inl (Nat.le_refl _)) (by kernel_rfl) rfl).2 rfl)
    · refine .inr fun a w hp => ob_yes rfl ?_
      have h22 : a.tmps.getD 22 undef = .agg #[.bool b0, .slice A0 n0 c0, .slice D0 m0 e0] := (hp.fact 0 22 (by kernel_rfl) rfl)
      have h23 : a.tmps.getD 23 undef = .agg #[.bool b1, .slice A1 n1 c1, .slice D1 m1 e1] := (hp.fact 1 23 (by kernel_rfl) rfl)
      unfold Does
      go_simp
      refine (addr_any _ _ _ _ _ 12 ((F0.on hp.on).wide (by decide)) ((F1.on hp.on).wide (by decide)) (by decide) (by decide)).mono ?_
      rintro e w' ⟨u, rfl, I8, P8⟩
      exact ⟨_, rfl, P8, I8⟩
    · exact .inr fun a w hp => ob_yes rfl (ob_loadR (hp.box (k := 1) rfl (Nat.le_refl _) (.inl (Nat.le_refl _)) (by kernel_rfl) rfl).1 (hp.box (k := 1) rfl (Nat.le_refl _) (.inl (Nat.le_refl _)) (by kernel_rfl) rfl).2 rfl)
    · exact .inr fun a w hp => ob_yes rfl (ob_loadR (hp.box (k := 2) rfl (Nat.le_refl _) (.inl (Nat.le_refl _)) (by kernel_rfl) rfl).1 (hp.box (k := 2) rfl (Nat.le_refl _) (.inl (Nat.le_refl _)) (by kernel_rfl) rfl).2 rfl)
    · refine .inr fun a w hp => ob_yes rfl ?_
      have h25 : a.tmps.getD 25 undef = .agg #[.bool b1, .slice A1 n1 c1, .slice D1 m1 e1] := (hp.fact 3 25 (by kernel_rfl) rfl)
      have h26 : a.tmps.getD 26 undef = .agg #[.bool b2, .slice A2 n2 c2, .slice D2 m2 e2] := (hp.fact 4 26 (by kernel_rfl) rfl)
      unfold Does
      go_simp
      refine (addr_any _ _ _ _ _ 12 ((F1.on hp.on).wide (by decide)) ((F2.on hp.on).wide (by decide)) (by decide) (by decide)).mono ?_
      rintro e w' ⟨u, rfl, I8, P8⟩
      exact ⟨_, rfl, P8, I8⟩
    · exact .inr fun a w hp => ob_yes rfl (ob_loadR (hp.box (k := 0) rfl (Nat.le_refl _) (.inl (Nat.le_refl _)) (by kernel_rfl) rfl).1 (hp.box (k := 0) rfl (Nat.le_refl _) (.inl (Nat.le_refl _)) (by kernel_rfl) rfl).2 rfl)
    · exact .inr fun a w hp => ob_yes rfl (ob_loadR (hp.box (k := 1) rfl (Nat.le_refl _) (.inl (Nat.le_refl _)) (by kernel_rfl) rfl).1 (hp.box (k := 1) rfl (Nat.le_refl _) (.inl (Nat.le_refl _)) (by kernel_rfl) rfl).2 rfl)
    · refine .inr fun a w hp => ob_yes rfl ?_
      have h28 : a.tmps.getD 28 undef = .agg #[.bool b0, .slice A0 n0 c0, .slice D0 m0 e0] := (hp.fact 6 28 (by kernel_rfl) rfl)
      have h29 : a.tmps.getD 29 undef = .agg #[.bool b1, .slice A1 n1 c1, .slice D1 m1 e1] := (hp.fact 7 29 (by kernel_rfl) rfl)
      unfold Does
      go_simp
      refine (mulr_any _ _ _ _ _ 12 ((F0.on hp.on).wide (by decide)) ((F1.on hp.on).wide (by decide)) (by decide) (by decide)).mono ?_
      rintro e w' ⟨u, rfl, I8, P8⟩
      exact ⟨_, rfl, P8, I8⟩
    · exact .inl rfl
    · exact .inl rfl
    · exact .inl rfl
    · exact .inl rfl
    · exact .inl rfl
    · exact .inl rfl
  · intro f wr hon hk hf hb hap
    obtain ⟨q0, q1, q2, q3, q4, q5, qz⟩ := hb
    clear qz
    have O3 : Own wr (w.heap.size) 24 #[.bool b0, .slice A0 n0 c0, .slice D0 m0 e0] := q0
    have c3_0 : wr.cell? ⟨w.heap.size, 0, none⟩ = some (.bool b0) := O3.cell 0
    have z3_0 := O3.frozen 0
    have c3_1 : wr.cell? ⟨w.heap.size, 1, none⟩ = some (.slice A0 n0 c0) := O3.cell 1
    have z3_1 := O3.frozen 1
    have c3_2 : wr.cell? ⟨w.heap.size, 2, none⟩ = some (.slice D0 m0 e0) := O3.cell 2
    have z3_2 := O3.frozen 2
    clear q0
    have O4 : Own wr (w.heap.size + 1) 24 #[.bool b1, .slice A1 n1 c1, .slice D1 m1 e1] := q1
    have c4_0 : wr.cell? ⟨w.heap.size + 1, 0, none⟩ = some (.bool b1) := O4.cell 0
    have z4_0 := O4.frozen 0
    have c4_1 : wr.cell? ⟨w.heap.size + 1, 1, none⟩ = some (.slice A1 n1 c1) := O4.cell 1
    have z4_1 := O4.frozen 1
    have c4_2 : wr.cell? ⟨w.heap.size + 1, 2, none⟩ = some (.slice D1 m1 e1) := O4.cell 2
    have z4_2 := O4.frozen 2
    clear q1
    have O5 : Own wr (w.heap.size + 2) 24 #[.bool b2, .slice A2 n2 c2, .slice D2 m2 e2] := q2
    have c5_0 : wr.cell? ⟨w.heap.size + 2, 0, none⟩ = some (.bool b2) := O5.cell 0
    have z5_0 := O5.frozen 0
    have c5_1 : wr.cell? ⟨w.heap.size + 2, 1, none⟩ = some (.slice A2 n2 c2) := O5.cell 1
    have z5_1 := O5.frozen 1
    have c5_2 : wr.cell? ⟨w.heap.size + 2, 2, none⟩ = some (.slice D2 m2 e2) := O5.cell 2
    have z5_2 := O5.frozen 2
    clear q2
    obtain ⟨g7, e7, G7, q3⟩ := q3
    change f 7 = _ at e7
    obtain ⟨cur7, O7, I7⟩ : ∃ cur, Own wr (g7) 24 cur ∧ IsR wr (.agg cur) (r0 + r1) (12 + 12 + 1) := q3
    obtain ⟨P7, Pn7, Pc7, _, R7, Rn7, Rc7, _, hz7, _⟩ := id I7
    injection hz7 with hz7
    subst hz7
    have c7_0 : wr.cell? ⟨g7, 0, none⟩ = some (.bool (decide (r0 + r1 < 0))) := O7.cell 0
    have z7_0 := O7.frozen 0
    have c7_1 : wr.cell? ⟨g7, 1, none⟩ = some (.slice P7 Pn7 Pc7) := O7.cell 1
    have z7_1 := O7.frozen 1
    have c7_2 : wr.cell? ⟨g7, 2, none⟩ = some (.slice R7 Rn7 Rc7) := O7.cell 2
    have z7_2 := O7.frozen 2
    obtain ⟨g8, e8, G8, q4⟩ := q4
    change f 8 = _ at e8
    obtain ⟨cur8, O8, I8⟩ : ∃ cur, Own wr (g8) 24 cur ∧ IsR wr (.agg cur) (r1 + r2) (12 + 12 + 1) := q4
    obtain ⟨P8, Pn8, Pc8, _, R8, Rn8, Rc8, _, hz8, _⟩ := id I8
    injection hz8 with hz8
    subst hz8
    have c8_0 : wr.cell? ⟨g8, 0, none⟩ = some (.bool (decide (r1 + r2 < 0))) := O8.cell 0
    have z8_0 := O8.frozen 0
    have c8_1 : wr.cell? ⟨g8, 1, none⟩ = some (.slice P8 Pn8 Pc8) := O8.cell 1
    have z8_1 := O8.frozen 1
    have c8_2 : wr.cell? ⟨g8, 2, none⟩ = some (.slice R8 Rn8 Rc8) := O8.cell 2
    have z8_2 := O8.frozen 2
    obtain ⟨g9, e9, G9, q5⟩ := q5
    change f 9 = _ at e9
    obtain ⟨cur9, O9, I9⟩ : ∃ cur, Own wr (g9) 24 cur ∧ IsR wr (.agg cur) (r0 * r1) (12 + 12) := q5
    obtain ⟨P9, Pn9, Pc9, _, R9, Rn9, Rc9, _, hz9, _⟩ := id I9
    injection hz9 with hz9
    subst hz9
    have c9_0 : wr.cell? ⟨g9, 0, none⟩ = some (.bool (decide (r0 * r1 < 0))) := O9.cell 0
    have z9_0 := O9.frozen 0
    have c9_1 : wr.cell? ⟨g9, 1, none⟩ = some (.slice P9 Pn9 Pc9) := O9.cell 1
    have z9_1 := O9.frozen 1
    have c9_2 : wr.cell? ⟨g9, 2, none⟩ = some (.slice R9 Rn9 Rc9) := O9.cell 2
    have z9_2 := O9.frozen 2
    clear hf hap
    simp only [fillL]; simp only [e7, e8, e9]
    clear e7 e8 e9
    have OB3 : w.heap.size ≤ w.heap.size ∧ Own wr (w.heap.size) 24 #[.bool b0, .slice A0 n0 c0, .slice D0 m0 e0] := ⟨by omega, O3⟩
    clear c3_0 z3_0 c3_1 z3_1 c3_2 z3_2 O3
    have OB4 : w.heap.size ≤ w.heap.size + 1 ∧ Own wr (w.heap.size + 1) 24 #[.bool b1, .slice A1 n1 c1, .slice D1 m1 e1] := ⟨by omega, O4⟩
    clear c4_0 z4_0 c4_1 z4_1 c4_2 z4_2 O4
    have OB5 : w.heap.size ≤ w.heap.size + 2 ∧ Own wr (w.heap.size + 2) 24 #[.bool b2, .slice A2 n2 c2, .slice D2 m2 e2] := ⟨by omega, O5⟩
    clear c5_0 z5_0 c5_1 z5_1 c5_2 z5_2 O5
    have OB7 : w.heap.size ≤ g7 ∧ _ := ⟨G7, O7⟩
    obtain ⟨sg7, hs7⟩ : ∃ x, decide (r0 + r1 < 0) = x := ⟨_, rfl⟩
    rw [hs7] at I7 OB7
    clear hs7 c7_0 z7_0 c7_1 z7_1 c7_2 z7_2 O7
    have OB8 : w.heap.size ≤ g8 ∧ _ := ⟨G8, O8⟩
    obtain ⟨sg8, hs8⟩ : ∃ x, decide (r1 + r2 < 0) = x := ⟨_, rfl⟩
    rw [hs8] at I8 OB8
    clear hs8 c8_0 z8_0 c8_1 z8_1 c8_2 z8_2 O8
    have OB9 : w.heap.size ≤ g9 ∧ _ := ⟨G9, O9⟩
    obtain ⟨sg9, hs9⟩ : ∃ x, decide (r0 * r1 < 0) = x := ⟨_, rfl⟩
    rw [hs9] at I9 OB9
    clear hs9 c9_0 z9_0 c9_1 z9_1 c9_2 z9_2 O9
    clear B
    have B := hon
    clear hon hk
    go_wp2
    refine wp_region_facts (by kernel_rfl) w [Fact.eq (.agg #[.bool sg7, .slice P7 Pn7 Pc7, .slice R7 Rn7 Rc7]), Fact.eq (.bool true), Fact.eq (.bool false), Fact.eq (.bool false), Fact.eq (.agg #[.bool sg9, .slice P9 Pn9 Pc9, .slice R9 Rn9 Rc9]), Fact.eq (.bool true), Fact.eq (.bool false), Fact.eq (.bool false), Fact.eq (.bool false), Fact.eq (.agg #[.bool sg7, .slice P7 Pn7 Pc7, .slice R7 Rn7 Rc7]), Fact.eq (.agg #[.bool b1, .slice A1 n1 c1, .slice D1 m1 e1]), Fact.eq (.agg #[.bool b0, .slice A0 n0 c0, .slice D0 m0 e0]), Fact.rat (r1 + r0) (12 + 12 + 1), Fact.eq (.int .i64 0), Fact.eq (.bool false), Fact.eq (.bool false), Fact.eq (.bool false), Fact.eq (.agg #[.bool sg7, .slice P7 Pn7 Pc7, .slice R7 Rn7 Rc7]), Fact.eq (.agg #[.bool b2, .slice A2 n2 c2, .slice D2 m2 e2]), Fact.rat ((r0 + r1) + r2) (25 + 25 + 1), Fact.eq (.agg #[.bool b0, .slice A0 n0 c0, .slice D0 m0 e0]), Fact.eq (.agg #[.bool sg8, .slice P8 Pn8 Pc8, .slice R8 Rn8 Rc8]), Fact.rat (r0 + (r1 + r2)) (25 + 25 + 1), Fact.eq (.int .i64 0), Fact.eq (.bool false), Fact.eq (.bool false), Fact.eq (.bool false), Fact.eq (.agg #[.bool sg7, .slice P7 Pn7 Pc7, .slice R7 Rn7 Rc7]), Fact.eq (.agg #[.bool b1, .slice A1 n1 c1, .slice D1 m1 e1]), Fact.rat ((r0 + r1) - r1) (25 + 25 + 1), Fact.eq (.agg #[.bool b0, .slice A0 n0 c0, .slice D0 m0 e0]), Fact.eq (.int .i64 0), Fact.eq (.bool false), Fact.eq (.bool false)] [Fact.any, Fact.any, Fact.any, Fact.any, Fact.any, Fact.any] [⟨34, 3, 24, 34, #[.bool b0, .slice A0 n0 c0, .slice D0 m0 e0]⟩, ⟨34, 4, 24, 34, #[.bool b1, .slice A1 n1 c1, .slice D1 m1 e1]⟩, ⟨34, 5, 24, 34, #[.bool b2, .slice A2 n2 c2, .slice D2 m2 e2]⟩, ⟨34, 7, 24, 34, #[.bool sg7, .slice P7 Pn7 Pc7, .slice R7 Rn7 Rc7]⟩, ⟨34, 8, 24, 34, #[.bool sg8, .slice P8 Pn8 Pc8, .slice R8 Rn8 Rc8]⟩, ⟨34, 9, 24, 34, #[.bool sg9, .slice P9 Pn9 Pc9, .slice R9 Rn9 Rc9]⟩] [w.heap.size, w.heap.size + 1, w.heap.size + 2, g7, g8, g9] [none, none, none, none, none, none, none, none, none, none, none, none, none, none, none, none, none, none, none, none, none, none, none, none, none, none, none, none, none, none, none, some 31, some 32, some 33, some 34, some 35, some 36, some 37, some 38, some 39, some 40, some 41, some 42, some 43, some 44, some 45, some 46, some 47, some 48, some 49, some 50, some 51, some 52, some 53, some 54, some 55, some 56, some 57, some 58, some 59, some 60, some 61, some 62, some 63, some 64, none, none, none, none, none, none, none, none, none, none, none, none, none, none, none, none, none, none, none, none, none, none, none, none, none, none, none, none, none, none, none, none, none, none, none, none, none, none, none, none, none, none, none, none, none, none, none, none, none, none, none, none, none, none, none, none, none, none] (by kernel_rfl) (by kernel_rfl) (by kernel_rfl) rfl B ?_ ?_ ?_ ?_ ?_
    · exact ⟨fun _ => ⟨by simp, rfl, OB3⟩, fun _ => ⟨by simp, rfl, OB4⟩, fun _ => ⟨by simp, rfl, OB5⟩, fun _ => ⟨by simp, rfl, OB7⟩, fun _ => ⟨by simp, rfl, OB8⟩, fun _ => ⟨by simp, rfl, OB9⟩, trivial⟩
    · exact .inl ⟨Nat.le_refl _, Nat.le_refl _, Nat.le_refl _, Nat.le_refl _, Nat.le_refl _, Nat.le_refl _, trivial⟩
    · exact ⟨⟨noWords_R _ _ _ _ _ _ _, (.inl (Nat.le_refl _)), (.inl (Nat.le_refl _))⟩, ⟨noWords_R _ _ _ _ _ _ _, (.inl (Nat.le_refl _)), (.inl (Nat.le_refl _))⟩, ⟨noWords_R _ _ _ _ _ _ _, (.inl (Nat.le_refl _)), (.inl (Nat.le_refl _))⟩, ⟨noWords_R _ _ _ _ _ _ _, (.inl (Nat.le_refl _)), (.inl (Nat.le_refl _))⟩, ⟨noWords_R _ _ _ _ _ _ _, (.inl (Nat.le_refl _)), (.inl (Nat.le_refl _))⟩, ⟨noWords_R _ _ _ _ _ _ _, (.inl (Nat.le_refl _)), (.inl (Nat.le_refl _))⟩, trivial⟩
    · refine ⟨?_, ?_, ?_, ?_, ?_, ?_, ?_, ?_, ?_, ?_, ?_, ?_, ?_, ?_, ?_, ?_, ?_, ?_, ?_, ?_, ?_, ?_, ?_, ?_, ?_, ?_, ?_, ?_, ?_, ?_, ?_, ?_, ?_, ?_, trivial⟩
      · exact .inr fun a w hp => ob_yes rfl (ob_loadR (hp.box (k := 3) rfl (Nat.le_refl _) (.inl (Nat.le_refl _)) (by kernel_rfl) rfl).1 (hp.box (k := 3) rfl (Nat.le_refl _) (.inl (Nat.le_refl _)) (by kernel_rfl) rfl).2 rfl)
      · refine .inr fun a w hp => ob_yes rfl ?_
        have h31 : a.tmps.getD 31 undef = .agg #[.bool sg7, .slice P7 Pn7 Pc7, .slice R7 Rn7 Rc7] := (hp.fact 0 31 (by kernel_rfl) rfl)
        unfold Does
        go_simp
        refine (valid_isR _ _ _ _ (I7.kept hp.kept) (by decide)).mono ?_
        rintro e w' ⟨rfl, P8⟩
        exact ⟨_, rfl, P8, rfl⟩
      · refine .inr fun a w hp => ob_yes rfl ?_
        have h32 : a.tmps.getD 32 undef = .bool true := (hp.fact 1 32 (by kernel_rfl) rfl)
        unfold Does
        go_simp
        exact ⟨_, rfl, On.refl _, by show Value.bool _ = Value.bool _; first | rfl | (simp; done)⟩
      · exact .inr fun a w hp => ob_yes rfl (ob_move (hp.fact 2 33 (by kernel_rfl) rfl))
      · exact .inr fun a w hp => ob_yes (wanted_yes (P := Try.prog) (j := 3) (d := 34) (b := false) rfl rfl (hp.fact 3 34 (by kernel_rfl) rfl)) (ob_loadR (hp.box (k := 5) rfl (Nat.le_refl _) (.inl (Nat.le_refl _)) (by kernel_rfl) rfl).1 (hp.box (k := 5) rfl (Nat.le_refl _) (.inl (Nat.le_refl _)) (by kernel_rfl) rfl).2 rfl)
      · refine .inr fun a w hp => ob_yes (wanted_yes (P := Try.prog) (j := 3) (d := 34) (b := false) rfl rfl (hp.fact 3 34 (by kernel_rfl) rfl)) ?_
        have h35 : a.tmps.getD 35 undef = .agg #[.bool sg9, .slice P9 Pn9 Pc9, .slice R9 Rn9 Rc9] := (hp.fact 4 35 (by kernel_rfl) rfl)
        unfold Does
        go_simp
        refine (valid_isR _ _ _ _ (I9.kept hp.kept) (by decide)).mono ?_
        rintro e w' ⟨rfl, P8⟩
        exact ⟨_, rfl, P8, rfl⟩
      · refine .inr fun a w hp => ob_yes (wanted_yes (P := Try.prog) (j := 3) (d := 34) (b := false) rfl rfl (hp.fact 3 34 (by kernel_rfl) rfl)) ?_
        have h36 : a.tmps.getD 36 undef = .bool true := (hp.fact 5 36 (by kernel_rfl) rfl)
        unfold Does
        go_simp
        exact ⟨_, rfl, On.refl _, by show Value.bool _ = Value.bool _; first | rfl | (simp; done)⟩
      · refine .inr fun a w hp => ob_yes rfl ?_
        have h34 : a.tmps.getD 34 undef = .bool false := (hp.fact 3 34 (by kernel_rfl) rfl)
        have h37 : a.tmps.getD 37 undef = .bool false := (hp.fact 6 37 (by kernel_rfl) rfl)
        unfold Does
        go_simp
        exact ⟨_, rfl, On.refl _, rfl⟩
      · exact .inr fun a w hp => ob_yes rfl (ob_move (hp.fact 7 38 (by kernel_rfl) rfl))
      · exact .inr fun a w hp => ob_yes (wanted_yes (P := Try.prog) (j := 8) (d := 39) (b := false) rfl rfl (hp.fact 8 39 (by kernel_rfl) rfl)) (ob_loadR (hp.box (k := 3) rfl (Nat.le_refl _) (.inl (Nat.le_refl _)) (by kernel_rfl) rfl).1 (hp.box (k := 3) rfl (Nat.le_refl _) (.inl (Nat.le_refl _)) (by kernel_rfl) rfl).2 rfl)
      · exact .inr fun a w hp => ob_yes (wanted_yes (P := Try.prog) (j := 8) (d := 39) (b := false) rfl rfl (hp.fact 8 39 (by kernel_rfl) rfl)) (ob_loadR (hp.box (k := 1) rfl (Nat.le_refl _) (.inl (Nat.le_refl _)) (by kernel_rfl) rfl).1 (hp.box (k := 1) rfl (Nat.le_refl _) (.inl (Nat.le_refl _)) (by kernel_rfl) rfl).2 rfl)
      · exact .inr fun a w hp => ob_yes (wanted_yes (P := Try.prog) (j := 8) (d := 39) (b := false) rfl rfl (hp.fact 8 39 (by kernel_rfl) rfl)) (ob_loadR (hp.box (k := 0) rfl (Nat.le_refl _) (.inl (Nat.le_refl _)) (by kernel_rfl) rfl).1 (hp.box (k := 0) rfl (Nat.le_refl _) (.inl (Nat.le_refl _)) (by kernel_rfl) rfl).2 rfl)
      · refine .inr fun a w hp => ob_yes (wanted_yes (P := Try.prog) (j := 8) (d := 39) (b := false) rfl rfl (hp.fact 8 39 (by kernel_rfl) rfl)) ?_
        have h41 : a.tmps.getD 41 undef = .agg #[.bool b1, .slice A1 n1 c1, .slice D1 m1 e1] := (hp.fact 10 41 (by kernel_rfl) rfl)
        have h42 : a.tmps.getD 42 undef = .agg #[.bool b0, .slice A0 n0 c0, .slice D0 m0 e0] := (hp.fact 11 42 (by kernel_rfl) rfl)
        unfold Does
        go_simp
        refine (addr_any _ _ _ _ _ 12 ((F1.on hp.on).wide (by decide)) ((F0.on hp.on).wide (by decide)) (by decide) (by decide)).mono ?_
        rintro e w' ⟨u, rfl, I8, P8⟩
        exact ⟨_, rfl, P8, I8⟩
      · refine .inr fun a w hp => ob_yes (wanted_yes (P := Try.prog) (j := 8) (d := 39) (b := false) rfl rfl (hp.fact 8 39 (by kernel_rfl) rfl)) ?_
        have h40 : a.tmps.getD 40 undef = .agg #[.bool sg7, .slice P7 Pn7 Pc7, .slice R7 Rn7 Rc7] := (hp.fact 9 40 (by kernel_rfl) rfl)
        have h43 : IsR w (a.tmps.getD 43 undef) (r1 + r0) (12 + 12 + 1) := (hp.fact 12 43 (by kernel_rfl) rfl)
        obtain ⟨v43, e43⟩ : ∃ v, a.tmps.getD 43 undef = v := ⟨_, rfl⟩
        rw [e43] at h43
        unfold Does
        go_simp
        refine (cmpr_any _ _ _ _ _ 25 ((IsR.fld (I7.kept hp.kept)).wide (by decide)) ((IsR.fld h43).wide (by decide)) (by decide)).mono ?_
        rintro e w' ⟨rfl, P8⟩
        rw [HA1.out]
        exact ⟨_, rfl, P8, rfl⟩
      · refine .inr fun a w hp => ob_yes (wanted_yes (P := Try.prog) (j := 8) (d := 39) (b := false) rfl rfl (hp.fact 8 39 (by kernel_rfl) rfl)) ?_
        have h44 : a.tmps.getD 44 undef = .int .i64 0 := (hp.fact 13 44 (by kernel_rfl) rfl)
        unfold Does
        go_simp
        exact ⟨_, rfl, On.refl _, by show Value.bool _ = Value.bool _; first | rfl | (simp; done)⟩
      · refine .inr fun a w hp => ob_yes rfl ?_
        have h39 : a.tmps.getD 39 undef = .bool false := (hp.fact 8 39 (by kernel_rfl) rfl)
        have h45 : a.tmps.getD 45 undef = .bool false := (hp.fact 14 45 (by kernel_rfl) rfl)
        unfold Does
        go_simp
        exact ⟨_, rfl, On.refl _, rfl⟩
      · exact .inr fun a w hp => ob_yes rfl (ob_move (hp.fact 15 46 (by kernel_rfl) rfl))
      · exact .inr fun a w hp => ob_yes (wanted_yes (P := Try.prog) (j := 16) (d := 47) (b := false) rfl rfl (hp.fact 16 47 (by kernel_rfl) rfl)) (ob_loadR (hp.box (k := 3) rfl (Nat.le_refl _) (.inl (Nat.le_refl _)) (by kernel_rfl) rfl).1 (hp.box (k := 3) rfl (Nat.le_refl _) (.inl (Nat.le_refl _)) (by kernel_rfl) rfl).2 rfl)
      · exact .inr fun a w hp => ob_yes (wanted_yes (P := Try.prog) (j := 16) (d := 47) (b := false) rfl rfl (hp.fact 16 47 (by kernel_rfl) rfl)) (ob_loadR (hp.box (k := 2) rfl (Nat.le_refl _) (.inl (Nat.le_refl _)) (by kernel_rfl) rfl).1 (hp.box (k := 2) rfl (Nat.le_refl _) (.inl (Nat.le_refl _)) (by kernel_rfl) rfl).2 rfl)
      · refine .inr fun a w hp => ob_yes (wanted_yes (P := Try.prog) (j := 16) (d := 47) (b := false) rfl rfl (hp.fact 16 47 (by kernel_rfl) rfl)) ?_
        have h48 : a.tmps.getD 48 undef = .agg #[.bool sg7, .slice P7 Pn7 Pc7, .slice R7 Rn7 Rc7] := (hp.fact 17 48 (by kernel_rfl) rfl)
        have h49 : a.tmps.getD 49 undef = .agg #[.bool b2, .slice A2 n2 c2, .slice D2 m2 e2] := (hp.fact 18 49 (by kernel_rfl) rfl)
        unfold Does
        go_simp
        refine (addr_any _ _ _ _ _ 25 ((IsR.fld (I7.kept hp.kept)).wide (by decide)) ((F2.on hp.on).wide (by decide)) (by decide) (by decide)).mono ?_
        rintro e w' ⟨u, rfl, I8, P8⟩
        exact ⟨_, rfl, P8, I8⟩
      · exact .inr fun a w hp => ob_yes (wanted_yes (P := Try.prog) (j := 16) (d := 47) (b := false) rfl rfl (hp.fact 16 47 (by kernel_rfl) rfl)) (ob_loadR (hp.box (k := 0) rfl (Nat.le_refl _) (.inl (Nat.le_refl _)) (by kernel_rfl) rfl).1 (hp.box (k := 0) rfl (Nat.le_refl _) (.inl (Nat.le_refl _)) (by kernel_rfl) rfl).2 rfl)
      · exact .inr fun a w hp => ob_yes (wanted_yes (P := Try.prog) (j := 16) (d := 47) (b := false) rfl rfl (hp.fact 16 47 (by kernel_rfl) rfl)) (ob_loadR (hp.box (k := 4) rfl (Nat.le_refl _) (.inl (Nat.le_refl _)) (by kernel_rfl) rfl).1 (hp.box (k := 4) rfl (Nat.le_refl _) (.inl (Nat.le_refl _)) (by kernel_rfl) rfl).2 rfl)
      · refine .inr fun a w hp => ob_yes (wanted_yes (P := Try.prog) (j := 16) (d := 47) (b := false) rfl rfl (hp.fact 16 47 (by kernel_rfl) rfl)) ?_
        have h51 : a.tmps.getD 51 undef = .agg #[.bool b0, .slice A0 n0 c0, .slice D0 m0 e0] := (hp.fact 20 51 (by kernel_rfl) rfl)
        have h52 : a.tmps.getD 52 undef = .agg #[.bool sg8, .slice P8 Pn8 Pc8, .slice R8 Rn8 Rc8] := (hp.fact 21 52 (by kernel_rfl) rfl)
        unfold Does
        go_simp
        refine (addr_any _ _ _ _ _ 25 ((F0.on hp.on).wide (by decide)) ((IsR.fld (I8.kept hp.kept)).wide (by decide)) (by decide) (by decide)).mono ?_
        rintro e w' ⟨u, rfl, I8, P8⟩
        exact ⟨_, rfl, P8, I8⟩
      · refine .inr fun a w hp => ob_yes (wanted_yes (P := Try.prog) (j := 16) (d := 47) (b := false) rfl rfl (hp.fact 16 47 (by kernel_rfl) rfl)) ?_
        have h50 : IsR w (a.tmps.getD 50 undef) ((r0 + r1) + r2) (25 + 25 + 1) := (hp.fact 19 50 (by kernel_rfl) rfl)
        obtain ⟨v50, e50⟩ : ∃ v, a.tmps.getD 50 undef = v := ⟨_, rfl⟩
        rw [e50] at h50
        have h53 : IsR w (a.tmps.getD 53 undef) (r0 + (r1 + r2)) (25 + 25 + 1) := (hp.fact 22 53 (by kernel_rfl) rfl)
        obtain ⟨v53, e53⟩ : ∃ v, a.tmps.getD 53 undef = v := ⟨_, rfl⟩
        rw [e53] at h53
        unfold Does
        go_simp
        refine (cmpr_any _ _ _ _ _ 51 ((IsR.fld h50).wide (by decide)) ((IsR.fld h53).wide (by decide)) (by decide)).mono ?_
        rintro e w' ⟨rfl, P8⟩
        rw [HA2.out]
        exact ⟨_, rfl, P8, rfl⟩
      · refine .inr fun a w hp => ob_yes (wanted_yes (P := Try.prog) (j := 16) (d := 47) (b := false) rfl rfl (hp.fact 16 47 (by kernel_rfl) rfl)) ?_
        have h54 : a.tmps.getD 54 undef = .int .i64 0 := (hp.fact 23 54 (by kernel_rfl) rfl)
        unfold Does
        go_simp
        exact ⟨_, rfl, On.refl _, by show Value.bool _ = Value.bool _; first | rfl | (simp; done)⟩
      · refine .inr fun a w hp => ob_yes rfl ?_
        have h47 : a.tmps.getD 47 undef = .bool false := (hp.fact 16 47 (by kernel_rfl) rfl)
        have h55 : a.tmps.getD 55 undef = .bool false := (hp.fact 24 55 (by kernel_rfl) rfl)
        unfold Does
        go_simp
        exact ⟨_, rfl, On.refl _, rfl⟩
      · exact .inr fun a w hp => ob_yes rfl (ob_move (hp.fact 25 56 (by kernel_rfl) rfl))
      · exact .inr fun a w hp => ob_yes (wanted_yes (P := Try.prog) (j := 26) (d := 57) (b := false) rfl rfl (hp.fact 26 57 (by kernel_rfl) rfl)) (ob_loadR (hp.box (k := 3) rfl (Nat.le_refl _) (.inl (Nat.le_refl _)) (by kernel_rfl) rfl).1 (hp.box (k := 3) rfl (Nat.le_refl _) (.inl (Nat.le_refl _)) (by kernel_rfl) rfl).2 rfl)
      · exact .inr fun a w hp => ob_yes (wanted_yes (P := Try.prog) (j := 26) (d := 57) (b := false) rfl rfl (hp.fact 26 57 (by kernel_rfl) rfl)) (ob_loadR (hp.box (k := 1) rfl (Nat.le_refl _) (.inl (Nat.le_refl _)) (by kernel_rfl) rfl).1 (hp.box (k := 1) rfl (Nat.le_refl _) (.inl (Nat.le_refl _)) (by kernel_rfl) rfl).2 rfl)
      · refine .inr fun a w hp => ob_yes (wanted_yes (P := Try.prog) (j := 26) (d := 57) (b := false) rfl rfl (hp.fact 26 57 (by kernel_rfl) rfl)) ?_
        have h58 : a.tmps.getD 58 undef = .agg #[.bool sg7, .slice P7 Pn7 Pc7, .slice R7 Rn7 Rc7] := (hp.fact 27 58 (by kernel_rfl) rfl)
        have h59 : a.tmps.getD 59 undef = .agg #[.bool b1, .slice A1 n1 c1, .slice D1 m1 e1] := (hp.fact 28 59 (by kernel_rfl) rfl)
        unfold Does
        go_simp
        refine (subr_any _ _ _ _ _ 25 ((IsR.fld (I7.kept hp.kept)).wide (by decide)) ((F1.on hp.on).wide (by decide)) (by decide) (by decide)).mono ?_
        rintro e w' ⟨u, rfl, I8, P8⟩
        exact ⟨_, rfl, P8, I8⟩
      · exact .inr fun a w hp => ob_yes (wanted_yes (P := Try.prog) (j := 26) (d := 57) (b := false) rfl rfl (hp.fact 26 57 (by kernel_rfl) rfl)) (ob_loadR (hp.box (k := 0) rfl (Nat.le_refl _) (.inl (Nat.le_refl _)) (by kernel_rfl) rfl).1 (hp.box (k := 0) rfl (Nat.le_refl _) (.inl (Nat.le_refl _)) (by kernel_rfl) rfl).2 rfl)
      · refine .inr fun a w hp => ob_yes (wanted_yes (P := Try.prog) (j := 26) (d := 57) (b := false) rfl rfl (hp.fact 26 57 (by kernel_rfl) rfl)) ?_
        have h60 : IsR w (a.tmps.getD 60 undef) ((r0 + r1) - r1) (25 + 25 + 1) := (hp.fact 29 60 (by kernel_rfl) rfl)
        obtain ⟨v60, e60⟩ : ∃ v, a.tmps.getD 60 undef = v := ⟨_, rfl⟩
        rw [e60] at h60
        have h61 : a.tmps.getD 61 undef = .agg #[.bool b0, .slice A0 n0 c0, .slice D0 m0 e0] := (hp.fact 30 61 (by kernel_rfl) rfl)
        unfold Does
        go_simp
        refine (cmpr_any _ _ _ _ _ 51 ((IsR.fld h60).wide (by decide)) ((F0.on hp.on).wide (by decide)) (by decide)).mono ?_
        rintro e w' ⟨rfl, P8⟩
        rw [HA3.out]
        exact ⟨_, rfl, P8, rfl⟩
      · refine .inr fun a w hp => ob_yes (wanted_yes (P := Try.prog) (j := 26) (d := 57) (b := false) rfl rfl (hp.fact 26 57 (by kernel_rfl) rfl)) ?_
        have h62 : a.tmps.getD 62 undef = .int .i64 0 := (hp.fact 31 62 (by kernel_rfl) rfl)
        unfold Does
        go_simp
        exact ⟨_, rfl, On.refl _, by show Value.bool _ = Value.bool _; first | rfl | (simp; done)⟩
      · refine .inr fun a w hp => ob_yes rfl ?_
        have h57 : a.tmps.getD 57 undef = .bool false := (hp.fact 26 57 (by kernel_rfl) rfl)
        have h63 : a.tmps.getD 63 undef = .bool false := (hp.fact 32 63 (by kernel_rfl) rfl)
        unfold Does
        go_simp
        exact ⟨_, rfl, On.refl _, rfl⟩
    · intro f wf hon hk hf hb hap
      obtain ⟨q0, q1, q2, q3, q4, q5, qz⟩ := hb
      clear qz
      have O3 : Own wf (w.heap.size) 24 #[.bool b0, .slice A0 n0 c0, .slice D0 m0 e0] := q0
      have c3_0 : wf.cell? ⟨w.heap.size, 0, none⟩ = some (.bool b0) := O3.cell 0
      have z3_0 := O3.frozen 0
      have c3_1 : wf.cell? ⟨w.heap.size, 1, none⟩ = some (.slice A0 n0 c0) := O3.cell 1
      have z3_1 := O3.frozen 1
      have c3_2 : wf.cell? ⟨w.heap.size, 2, none⟩ = some (.slice D0 m0 e0) := O3.cell 2
      have z3_2 := O3.frozen 2
      clear q0
      have O4 : Own wf (w.heap.size + 1) 24 #[.bool b1, .slice A1 n1 c1, .slice D1 m1 e1] := q1
      have c4_0 : wf.cell? ⟨w.heap.size + 1, 0, none⟩ = some (.bool b1) := O4.cell 0
      have z4_0 := O4.frozen 0
      have c4_1 : wf.cell? ⟨w.heap.size + 1, 1, none⟩ = some (.slice A1 n1 c1) := O4.cell 1
      have z4_1 := O4.frozen 1
      have c4_2 : wf.cell? ⟨w.heap.size + 1, 2, none⟩ = some (.slice D1 m1 e1) := O4.cell 2
      have z4_2 := O4.frozen 2
      clear q1
      have O5 : Own wf (w.heap.size + 2) 24 #[.bool b2, .slice A2 n2 c2, .slice D2 m2 e2] := q2
      have c5_0 : wf.cell? ⟨w.heap.size + 2, 0, none⟩ = some (.bool b2) := O5.cell 0
      have z5_0 := O5.frozen 0
      have c5_1 : wf.cell? ⟨w.heap.size + 2, 1, none⟩ = some (.slice A2 n2 c2) := O5.cell 1
      have z5_1 := O5.frozen 1
      have c5_2 : wf.cell? ⟨w.heap.size + 2, 2, none⟩ = some (.slice D2 m2 e2) := O5.cell 2
      have z5_2 := O5.frozen 2
      clear q2
      have O7 : Own wf (g7) 24 #[.bool sg7, .slice P7 Pn7 Pc7, .slice R7 Rn7 Rc7] := q3
      have c7_0 : wf.cell? ⟨g7, 0, none⟩ = some (.bool sg7) := O7.cell 0
      have z7_0 := O7.frozen 0
      have c7_1 : wf.cell? ⟨g7, 1, none⟩ = some (.slice P7 Pn7 Pc7) := O7.cell 1
      have z7_1 := O7.frozen 1
      have c7_2 : wf.cell? ⟨g7, 2, none⟩ = some (.slice R7 Rn7 Rc7) := O7.cell 2
      have z7_2 := O7.frozen 2
      clear q3
      have O8 : Own wf (g8) 24 #[.bool sg8, .slice P8 Pn8 Pc8, .slice R8 Rn8 Rc8] := q4
      have c8_0 : wf.cell? ⟨g8, 0, none⟩ = some (.bool sg8) := O8.cell 0
      have z8_0 := O8.frozen 0
      have c8_1 : wf.cell? ⟨g8, 1, none⟩ = some (.slice P8 Pn8 Pc8) := O8.cell 1
      have z8_1 := O8.frozen 1
      have c8_2 : wf.cell? ⟨g8, 2, none⟩ = some (.slice R8 Rn8 Rc8) := O8.cell 2
      have z8_2 := O8.frozen 2
      clear q4
      have O9 : Own wf (g9) 24 #[.bool sg9, .slice P9 Pn9 Pc9, .slice R9 Rn9 Rc9] := q5
      have c9_0 : wf.cell? ⟨g9, 0, none⟩ = some (.bool sg9) := O9.cell 0
      have z9_0 := O9.frozen 0
      have c9_1 : wf.cell? ⟨g9, 1, none⟩ = some (.slice P9 Pn9 Pc9) := O9.cell 1
      have z9_1 := O9.frozen 1
      have c9_2 : wf.cell? ⟨g9, 2, none⟩ = some (.slice R9 Rn9 Rc9) := O9.cell 2
      have z9_2 := O9.frozen 2
      clear q5
      have e64 : f 64 = .bool false := hf 33 64 rfl
      clear hf hap
      simp only [fillL, e64]
      clear e64
      have OB3 : w.heap.size ≤ w.heap.size ∧ Own wf (w.heap.size) 24 #[.bool b0, .slice A0 n0 c0, .slice D0 m0 e0] := ⟨by omega, O3⟩
      clear c3_0 z3_0 c3_1 z3_1 c3_2 z3_2 O3
      have OB4 : w.heap.size ≤ w.heap.size + 1 ∧ Own wf (w.heap.size + 1) 24 #[.bool b1, .slice A1 n1 c1, .slice D1 m1 e1] := ⟨by omega, O4⟩
      clear c4_0 z4_0 c4_1 z4_1 c4_2 z4_2 O4
      have OB5 : w.heap.size ≤ w.heap.size + 2 ∧ Own wf (w.heap.size + 2) 24 #[.bool b2, .slice A2 n2 c2, .slice D2 m2 e2] := ⟨by omega, O5⟩
      clear c5_0 z5_0 c5_1 z5_1 c5_2 z5_2 O5
      have OB7 : w.heap.size ≤ g7 ∧ _ := ⟨G7, O7⟩
      clear c7_0 z7_0 c7_1 z7_1 c7_2 z7_2 O7
      replace I7 := I7.kept hk
      have OB8 : w.heap.size ≤ g8 ∧ _ := ⟨G8, O8⟩
      clear c8_0 z8_0 c8_1 z8_1 c8_2 z8_2 O8
      replace I8 := I8.kept hk
      have OB9 : w.heap.size ≤ g9 ∧ _ := ⟨G9, O9⟩
      clear c9_0 z9_0 c9_1 z9_1 c9_2 z9_2 O9
      replace I9 := I9.kept hk
      clear B
      have B := hon
      clear hon hk
      go_wp2
      refine wp_region_facts (by kernel_rfl) w [Fact.eq (.agg #[.bool sg9, .slice P9 Pn9 Pc9, .slice R9 Rn9 Rc9]), Fact.eq (.agg #[.bool b1, .slice A1 n1 c1, .slice D1 m1 e1]), Fact.eq (.agg #[.bool b0, .slice A0 n0 c0, .slice D0 m0 e0]), Fact.rat (r1 * r0) (12 + 12), Fact.eq (.int .i64 0), Fact.eq (.bool false), Fact.eq (.bool false), Fact.eq (.agg #[.bool sg9, .slice P9 Pn9 Pc9, .slice R9 Rn9 Rc9]), Fact.eq (.agg #[.bool b2, .slice A2 n2 c2, .slice D2 m2 e2]), Fact.rat ((r0 * r1) * r2) (24 + 24), Fact.eq (.agg #[.bool b0, .slice A0 n0 c0, .slice D0 m0 e0]), Fact.eq (.agg #[.bool b1, .slice A1 n1 c1, .slice D1 m1 e1]), Fact.eq (.agg #[.bool b2, .slice A2 n2 c2, .slice D2 m2 e2]), Fact.rat (r1 * r2) (12 + 12), Fact.rat (r0 * (r1 * r2)) (24 + 24), Fact.eq (.int .i64 0), Fact.eq (.bool false), Fact.eq (.bool false), Fact.eq (.bool false), Fact.eq (.agg #[.bool b0, .slice A0 n0 c0, .slice D0 m0 e0]), Fact.eq (.agg #[.bool sg8, .slice P8 Pn8 Pc8, .slice R8 Rn8 Rc8]), Fact.rat (r0 * (r1 + r2)) (25 + 25), Fact.eq (.agg #[.bool sg9, .slice P9 Pn9 Pc9, .slice R9 Rn9 Rc9]), Fact.eq (.agg #[.bool b0, .slice A0 n0 c0, .slice D0 m0 e0]), Fact.eq (.agg #[.bool b2, .slice A2 n2 c2, .slice D2 m2 e2]), Fact.rat (r0 * r2) (12 + 12), Fact.rat (r0 * r1 + r0 * r2) (24 + 24 + 1), Fact.eq (.int .i64 0), Fact.eq (.bool false), Fact.eq (.bool false)] [Fact.any, Fact.any, Fact.any, Fact.any, Fact.any, Fact.any] [⟨30, 3, 24, 30, #[.bool b0, .slice A0 n0 c0, .slice D0 m0 e0]⟩, ⟨30, 4, 24, 30, #[.bool b1, .slice A1 n1 c1, .slice D1 m1 e1]⟩, ⟨30, 5, 24, 30, #[.bool b2, .slice A2 n2 c2, .slice D2 m2 e2]⟩, ⟨30, 7, 24, 30, #[.bool sg7, .slice P7 Pn7 Pc7, .slice R7 Rn7 Rc7]⟩, ⟨30, 8, 24, 30, #[.bool sg8, .slice P8 Pn8 Pc8, .slice R8 Rn8 Rc8]⟩, ⟨30, 9, 24, 30, #[.bool sg9, .slice P9 Pn9 Pc9, .slice R9 Rn9 Rc9]⟩] [w.heap.size, w.heap.size + 1, w.heap.size + 2, g7, g8, g9] [none, none, none, none, none, none, none, none, none, none, none, none, none, none, none, none, none, none, none, none, none, none, none, none, none, none, none, none, none, none, none, none, none, none, none, none, none, none, none, none, none, none, none, none, none, none, none, none, none, none, none, none, none, none, none, none, none, none, none, none, none, none, none, none, none, some 65, some 66, some 67, some 68, some 69, some 70, some 71, some 72, some 73, some 74, some 75, some 76, some 77, some 78, some 79, some 80, some 81, some 82, some 83, some 84, some 85, some 86, some 87, some 88, some 89, some 90, some 91, some 92, some 93, some 94, none, none, none, none, none, none, none, none, none, none, none, none, none, none, none, none, none, none, none, none, none, none, none, none, none, none, none, none] (by kernel_rfl) (by kernel_rfl) (by kernel_rfl) rfl B ?_ ?_ ?_ ?_ ?_
      · exact ⟨fun _ => ⟨by simp, rfl, OB3⟩, fun _ => ⟨by simp, rfl, OB4⟩, fun _ => ⟨by simp, rfl, OB5⟩, fun _ => ⟨by simp, rfl, OB7⟩, fun _ => ⟨by simp, rfl, OB8⟩, fun _ => ⟨by simp, rfl, OB9⟩, trivial⟩
      · exact .inl ⟨Nat.le_refl _, Nat.le_refl _, Nat.le_refl _, Nat.le_refl _, Nat.le_refl _, Nat.le_refl _, trivial⟩
      · exact ⟨⟨noWords_R _ _ _ _ _ _ _, (.inl (Nat.le_refl _)), (.inl (Nat.le_refl _))⟩, ⟨noWords_R _ _ _ _ _ _ _, (.inl (Nat.le_refl _)), (.inl (Nat.le_refl _))⟩, ⟨noWords_R _ _ _ _ _ _ _, (.inl (Nat.le_refl _)), (.inl (Nat.le_refl _))⟩, ⟨noWords_R _ _ _ _ _ _ _, (.inl (Nat.le_refl _)), (.inl (Nat.le_refl _))⟩, ⟨noWords_R _ _ _ _ _ _ _, (.inl (Nat.le_refl _)), (.inl (Nat.le_refl _))⟩, ⟨noWords_R _ _ _ _ _ _ _, (.inl (Nat.le_refl _)), (.inl (Nat.le_refl _))⟩, trivial⟩
      · refine ⟨?_, ?_, ?_, ?_, ?_, ?_, ?_, ?_, ?_, ?_, ?_, ?_, ?_, ?_, ?_, ?_, ?_, ?_, ?_, ?_, ?_, ?_, ?_, ?_, ?_, ?_, ?_, ?_, ?_, ?_, trivial⟩
        · exact .inr fun a w hp => ob_yes rfl (ob_loadR (hp.box (k := 5) rfl (Nat.le_refl _) (.inl (Nat.le_refl _)) (by kernel_rfl) rfl).1 (hp.box (k := 5) rfl (Nat.le_refl _) (.inl (Nat.le_refl _)) (by kernel_rfl) rfl).2 rfl)
        · exact .inr fun a w hp => ob_yes rfl (ob_loadR (hp.box (k := 1) rfl (Nat.le_refl _) (.inl (Nat.le_refl _)) (by kernel_rfl) rfl).1 (hp.box (k := 1) rfl (Nat.le_refl _) (.inl (Nat.le_refl _)) (by kernel_rfl) rfl).2 rfl)
        · exact .inr fun a w hp => ob_yes rfl (ob_loadR (hp.box (k := 0) rfl (Nat.le_refl _) (.inl (Nat.le_refl _)) (by kernel_rfl) rfl).1 (hp.box (k := 0) rfl (Nat.le_refl _) (.inl (Nat.le_refl _)) (by kernel_rfl) rfl).2 rfl)
        · refine .inr fun a w hp => ob_yes rfl ?_
          have h66 : a.tmps.getD 66 undef = .agg #[.bool b1, .slice A1 n1 c1, .slice D1 m1 e1] := (hp.fact 1 66 (by kernel_rfl) rfl)
          have h67 : a.tmps.getD 67 undef = .agg #[.bool b0, .slice A0 n0 c0, .slice D0 m0 e0] := (hp.fact 2 67 (by kernel_rfl) rfl)
          unfold Does
          go_simp
          refine (mulr_any _ _ _ _ _ 12 ((F1.on hp.on).wide (by decide)) ((F0.on hp.on).wide (by decide)) (by decide) (by decide)).mono ?_
          rintro e w' ⟨u, rfl, I8, P8⟩
          exact ⟨_, rfl, P8, I8⟩
        · refine .inr fun a w hp => ob_yes rfl ?_
          have h65 : a.tmps.getD 65 undef = .agg #[.bool sg9, .slice P9 Pn9 Pc9, .slice R9 Rn9 Rc9] := (hp.fact 0 65 (by kernel_rfl) rfl)
          have h68 : IsR w (a.tmps.getD 68 undef) (r1 * r0) (12 + 12) := (hp.fact 3 68 (by kernel_rfl) rfl)
          obtain ⟨v68, e68⟩ : ∃ v, a.tmps.getD 68 undef = v := ⟨_, rfl⟩
          rw [e68] at h68
          unfold Does
          go_simp
          refine (cmpr_any _ _ _ _ _ 24 ((IsR.fld (I9.kept hp.kept)).wide (by decide)) ((IsR.fld h68).wide (by decide)) (by decide)).mono ?_
          rintro e w' ⟨rfl, P8⟩
          rw [HM1.out]
          exact ⟨_, rfl, P8, rfl⟩
        · refine .inr fun a w hp => ob_yes rfl ?_
          have h69 : a.tmps.getD 69 undef = .int .i64 0 := (hp.fact 4 69 (by kernel_rfl) rfl)
          unfold Does
          go_simp
          exact ⟨_, rfl, On.refl _, by show Value.bool _ = Value.bool _; first | rfl | (simp; done)⟩
        · exact .inr fun a w hp => ob_yes rfl (ob_move (hp.fact 5 70 (by kernel_rfl) rfl))
        · exact .inr fun a w hp => ob_yes (wanted_yes (P := Try.prog) (j := 6) (d := 71) (b := false) rfl rfl (hp.fact 6 71 (by kernel_rfl) rfl)) (ob_loadR (hp.box (k := 5) rfl (Nat.le_refl _) (.inl (Nat.le_refl _)) (by kernel_rfl) rfl).1 (hp.box (k := 5) rfl (Nat.le_refl _) (.inl (Nat.le_refl _)) (by kernel_rfl) rfl).2 rfl)
        · exact .inr fun a w hp => ob_yes (wanted_yes (P := Try.prog) (j := 6) (d := 71) (b := false) rfl rfl (hp.fact 6 71 (by kernel_rfl) rfl)) (ob_loadR (hp.box (k := 2) rfl (Nat.le_refl _) (.inl (Nat.le_refl _)) (by kernel_rfl) rfl).1 (hp.box (k := 2) rfl (Nat.le_refl _) (.inl (Nat.le_refl _)) (by kernel_rfl) rfl).2 rfl)
        · refine .inr fun a w hp => ob_yes (wanted_yes (P := Try.prog) (j := 6) (d := 71) (b := false) rfl rfl (hp.fact 6 71 (by kernel_rfl) rfl)) ?_
          have h72 : a.tmps.getD 72 undef = .agg #[.bool sg9, .slice P9 Pn9 Pc9, .slice R9 Rn9 Rc9] := (hp.fact 7 72 (by kernel_rfl) rfl)
          have h73 : a.tmps.getD 73 undef = .agg #[.bool b2, .slice A2 n2 c2, .slice D2 m2 e2] := (hp.fact 8 73 (by kernel_rfl) rfl)
          unfold Does
          go_simp
          refine (mulr_any _ _ _ _ _ 24 ((IsR.fld (I9.kept hp.kept)).wide (by decide)) ((F2.on hp.on).wide (by decide)) (by decide) (by decide)).mono ?_
          rintro e w' ⟨u, rfl, I8, P8⟩
          exact ⟨_, rfl, P8, I8⟩
        · exact .inr fun a w hp => ob_yes (wanted_yes (P := Try.prog) (j := 6) (d := 71) (b := false) rfl rfl (hp.fact 6 71 (by kernel_rfl) rfl)) (ob_loadR (hp.box (k := 0) rfl (Nat.le_refl _) (.inl (Nat.le_refl _)) (by kernel_rfl) rfl).1 (hp.box (k := 0) rfl (Nat.le_refl _) (.inl (Nat.le_refl _)) (by kernel_rfl) rfl).2 rfl)
        · exact .inr fun a w hp => ob_yes (wanted_yes (P := Try.prog) (j := 6) (d := 71) (b := false) rfl rfl (hp.fact 6 71 (by kernel_rfl) rfl)) (ob_loadR (hp.box (k := 1) rfl (Nat.le_refl _) (.inl (Nat.le_refl _)) (by kernel_rfl) rfl).1 (hp.box (k := 1) rfl (Nat.le_refl _) (.inl (Nat.le_refl _)) (by kernel_rfl) rfl).2 rfl)
        · exact .inr fun a w hp => ob_yes (wanted_yes (P := Try.prog) (j := 6) (d := 71) (b := false) rfl rfl (hp.fact 6 71 (by kernel_rfl) rfl)) (ob_loadR (hp.box (k := 2) rfl (Nat.le_refl _) (.inl (Nat.le_refl _)) (by kernel_rfl) rfl).1 (hp.box (k := 2) rfl (Nat.le_refl _) (.inl (Nat.le_refl _)) (by kernel_rfl) rfl).2 rfl)
        · refine .inr fun a w hp => ob_yes (wanted_yes (P := Try.prog) (j := 6) (d := 71) (b := false) rfl rfl (hp.fact 6 71 (by kernel_rfl) rfl)) ?_
          have h76 : a.tmps.getD 76 undef = .agg #[.bool b1, .slice A1 n1 c1, .slice D1 m1 e1] := (hp.fact 11 76 (by kernel_rfl) rfl)
          have h77 : a.tmps.getD 77 undef = .agg #[.bool b2, .slice A2 n2 c2, .slice D2 m2 e2] := (hp.fact 12 77 (by kernel_rfl) rfl)
          unfold Does
          go_simp
          refine (mulr_any _ _ _ _ _ 12 ((F1.on hp.on).wide (by decide)) ((F2.on hp.on).wide (by decide)) (by decide) (by decide)).mono ?_
          rintro e w' ⟨u, rfl, I8, P8⟩
          exact ⟨_, rfl, P8, I8⟩
        · refine .inr fun a w hp => ob_yes (wanted_yes (P := Try.prog) (j := 6) (d := 71) (b := false) rfl rfl (hp.fact 6 71 (by kernel_rfl) rfl)) ?_
          have h75 : a.tmps.getD 75 undef = .agg #[.bool b0, .slice A0 n0 c0, .slice D0 m0 e0] := (hp.fact 10 75 (by kernel_rfl) rfl)
          have h78 : IsR w (a.tmps.getD 78 undef) (r1 * r2) (12 + 12) := (hp.fact 13 78 (by kernel_rfl) rfl)
          obtain ⟨v78, e78⟩ : ∃ v, a.tmps.getD 78 undef = v := ⟨_, rfl⟩
          rw [e78] at h78
          unfold Does
          go_simp
          refine (mulr_any _ _ _ _ _ 24 ((F0.on hp.on).wide (by decide)) ((IsR.fld h78).wide (by decide)) (by decide) (by decide)).mono ?_
          rintro e w' ⟨u, rfl, I8, P8⟩
          exact ⟨_, rfl, P8, I8⟩
        · refine .inr fun a w hp => ob_yes (wanted_yes (P := Try.prog) (j := 6) (d := 71) (b := false) rfl rfl (hp.fact 6 71 (by kernel_rfl) rfl)) ?_
          have h74 : IsR w (a.tmps.getD 74 undef) ((r0 * r1) * r2) (24 + 24) := (hp.fact 9 74 (by kernel_rfl) rfl)
          obtain ⟨v74, e74⟩ : ∃ v, a.tmps.getD 74 undef = v := ⟨_, rfl⟩
          rw [e74] at h74
          have h79 : IsR w (a.tmps.getD 79 undef) (r0 * (r1 * r2)) (24 + 24) := (hp.fact 14 79 (by kernel_rfl) rfl)
          obtain ⟨v79, e79⟩ : ∃ v, a.tmps.getD 79 undef = v := ⟨_, rfl⟩
          rw [e79] at h79
          unfold Does
          go_simp
          refine (cmpr_any _ _ _ _ _ 48 ((IsR.fld h74).wide (by decide)) ((IsR.fld h79).wide (by decide)) (by decide)).mono ?_
          rintro e w' ⟨rfl, P8⟩
          rw [HM2.out]
          exact ⟨_, rfl, P8, rfl⟩
        · refine .inr fun a w hp => ob_yes (wanted_yes (P := Try.prog) (j := 6) (d := 71) (b := false) rfl rfl (hp.fact 6 71 (by kernel_rfl) rfl)) ?_
          have h80 : a.tmps.getD 80 undef = .int .i64 0 := (hp.fact 15 80 (by kernel_rfl) rfl)
          unfold Does
          go_simp
          exact ⟨_, rfl, On.refl _, by show Value.bool _ = Value.bool _; first | rfl | (simp; done)⟩
        · refine .inr fun a w hp => ob_yes rfl ?_
          have h71 : a.tmps.getD 71 undef = .bool false := (hp.fact 6 71 (by kernel_rfl) rfl)
          have h81 : a.tmps.getD 81 undef = .bool false := (hp.fact 16 81 (by kernel_rfl) rfl)
          unfold Does
          go_simp
          exact ⟨_, rfl, On.refl _, rfl⟩
        · exact .inr fun a w hp => ob_yes rfl (ob_move (hp.fact 17 82 (by kernel_rfl) rfl))
        · exact .inr fun a w hp => ob_yes (wanted_yes (P := Try.prog) (j := 18) (d := 83) (b := false) rfl rfl (hp.fact 18 83 (by kernel_rfl) rfl)) (ob_loadR (hp.box (k := 0) rfl (Nat.le_refl _) (.inl (Nat.le_refl _)) (by kernel_rfl) rfl).1 (hp.box (k := 0) rfl (Nat.le_refl _) (.inl (Nat.le_refl _)) (by kernel_rfl) rfl).2 rfl)
        · exact .inr fun a w hp => ob_yes (wanted_yes (P := Try.prog) (j := 18) (d := 83) (b := false) rfl rfl (hp.fact 18 83 (by kernel_rfl) rfl)) (ob_loadR (hp.box (k := 4) rfl (Nat.le_refl _) (.inl (Nat.le_refl _)) (by kernel_rfl) rfl).1 (hp.box (k := 4) rfl (Nat.le_refl _) (.inl (Nat.le_refl _)) (by kernel_rfl) rfl).2 rfl)
        · refine .inr fun a w hp => ob_yes (wanted_yes (P := Try.prog) (j := 18) (d := 83) (b := false) rfl rfl (hp.fact 18 83 (by kernel_rfl) rfl)) ?_
          have h84 : a.tmps.getD 84 undef = .agg #[.bool b0, .slice A0 n0 c0, .slice D0 m0 e0] := (hp.fact 19 84 (by kernel_rfl) rfl)
          have h85 : a.tmps.getD 85 undef = .agg #[.bool sg8, .slice P8 Pn8 Pc8, .slice R8 Rn8 Rc8] := (hp.fact 20 85 (by kernel_rfl) rfl)
          unfold Does
          go_simp
          refine (mulr_any _ _ _ _ _ 25 ((F0.on hp.on).wide (by decide)) ((IsR.fld (I8.kept hp.kept)).wide (by decide)) (by decide) (by decide)).mono ?_
          rintro e w' ⟨u, rfl, I8, P8⟩
          exact ⟨_, rfl, P8, I8⟩
        · exact .inr fun a w hp => ob_yes (wanted_yes (P := Try.prog) (j := 18) (d := 83) (b := false) rfl rfl (hp.fact 18 83 (by kernel_rfl) rfl)) (ob_loadR (hp.box (k := 5) rfl (Nat.le_refl _) (.inl (Nat.le_refl _)) (by kernel_rfl) rfl).1 (hp.box (k := 5) rfl (Nat.le_refl _) (.inl (Nat.le_refl _)) (by kernel_rfl) rfl).2 rfl)
        · exact .inr fun a w hp => ob_yes (wanted_yes (P := Try.prog) (j := 18) (d := 83) (b := false) rfl rfl (hp.fact 18 83 (by kernel_rfl) rfl)) (ob_loadR (hp.box (k := 0) rfl (Nat.le_refl _) (.inl (Nat.le_refl _)) (by kernel_rfl) rfl).1 (hp.box (k := 0) rfl (Nat.le_refl _) (.inl (Nat.le_refl _)) (by kernel_rfl) rfl).2 rfl)
        · exact .inr fun a w hp => ob_yes (wanted_yes (P := Try.prog) (j := 18) (d := 83) (b := false) rfl rfl (hp.fact 18 83 (by kernel_rfl) rfl)) (ob_loadR (hp.box (k := 2) rfl (Nat.le_refl _) (.inl (Nat.le_refl _)) (by kernel_rfl) rfl).1 (hp.box (k := 2) rfl (Nat.le_refl _) (.inl (Nat.le_refl _)) (by kernel_rfl) rfl).2 rfl)
        · refine .inr fun a w hp => ob_yes (wanted_yes (P := Try.prog) (j := 18) (d := 83) (b := false) rfl rfl (hp.fact 18 83 (by kernel_rfl) rfl)) ?_
          have h88 : a.tmps.getD 88 undef = .agg #[.bool b0, .slice A0 n0 c0, .slice D0 m0 e0] := (hp.fact 23 88 (by kernel_rfl) rfl)
          have h89 : a.tmps.getD 89 undef = .agg #[.bool b2, .slice A2 n2 c2, .slice D2 m2 e2] := (hp.fact 24 89 (by kernel_rfl) rfl)
          unfold Does
          go_simp
          refine (mulr_any _ _ _ _ _ 12 ((F0.on hp.on).wide (by decide)) ((F2.on hp.on).wide (by decide)) (by decide) (by decide)).mono ?_
          rintro e w' ⟨u, rfl, I8, P8⟩
          exact ⟨_, rfl, P8, I8⟩
        · refine .inr fun a w hp => ob_yes (wanted_yes (P := Try.prog) (j := 18) (d := 83) (b := false) rfl rfl (hp.fact 18 83 (by kernel_rfl) rfl)) ?_
          have h87 : a.tmps.getD 87 undef = .agg #[.bool sg9, .slice P9 Pn9 Pc9, .slice R9 Rn9 Rc9] := (hp.fact 22 87 (by kernel_rfl) rfl)
          have h90 : IsR w (a.tmps.getD 90 undef) (r0 * r2) (12 + 12) := (hp.fact 25 90 (by kernel_rfl) rfl)
          obtain ⟨v90, e90⟩ : ∃ v, a.tmps.getD 90 undef = v := ⟨_, rfl⟩
          rw [e90] at h90
          unfold Does
          go_simp
          refine (addr_any _ _ _ _ _ 24 ((IsR.fld (I9.kept hp.kept)).wide (by decide)) ((IsR.fld h90).wide (by decide)) (by decide) (by decide)).mono ?_
          rintro e w' ⟨u, rfl, I8, P8⟩
          exact ⟨_, rfl, P8, I8⟩
        · refine .inr fun a w hp => ob_yes (wanted_yes (P := Try.prog) (j := 18) (d := 83) (b := false) rfl rfl (hp.fact 18 83 (by kernel_rfl) rfl)) ?_
          have h86 : IsR w (a.tmps.getD 86 undef) (r0 * (r1 + r2)) (25 + 25) := (hp.fact 21 86 (by kernel_rfl) rfl)
          obtain ⟨v86, e86⟩ : ∃ v, a.tmps.getD 86 undef = v := ⟨_, rfl⟩
          rw [e86] at h86
          have h91 : IsR w (a.tmps.getD 91 undef) (r0 * r1 + r0 * r2) (24 + 24 + 1) := (hp.fact 26 91 (by kernel_rfl) rfl)
          obtain ⟨v91, e91⟩ : ∃ v, a.tmps.getD 91 undef = v := ⟨_, rfl⟩
          rw [e91] at h91
          unfold Does
          go_simp
          refine (cmpr_any _ _ _ _ _ 50 ((IsR.fld h86).wide (by decide)) ((IsR.fld h91).wide (by decide)) (by decide)).mono ?_
          rintro e w' ⟨rfl, P8⟩
          rw [HM3.out]
          exact ⟨_, rfl, P8, rfl⟩
        · refine .inr fun a w hp => ob_yes (wanted_yes (P := Try.prog) (j := 18) (d := 83) (b := false) rfl rfl (hp.fact 18 83 (by kernel_rfl) rfl)) ?_
          have h92 : a.tmps.getD 92 undef = .int .i64 0 := (hp.fact 27 92 (by kernel_rfl) rfl)
          unfold Does
          go_simp
          exact ⟨_, rfl, On.refl _, by show Value.bool _ = Value.bool _; first | rfl | (simp; done)⟩
        · refine .inr fun a w hp => ob_yes rfl ?_
          have h83 : a.tmps.getD 83 undef = .bool false := (hp.fact 18 83 (by kernel_rfl) rfl)
          have h93 : a.tmps.getD 93 undef = .bool false := (hp.fact 28 93 (by kernel_rfl) rfl)
          unfold Does
          go_simp
          exact ⟨_, rfl, On.refl _, rfl⟩
      · intro f wg hon hk hf hb hap
        obtain ⟨q0, q1, q2, q3, q4, q5, qz⟩ := hb
        clear qz
        have O3 : Own wg (w.heap.size) 24 #[.bool b0, .slice A0 n0 c0, .slice D0 m0 e0] := q0
        have c3_0 : wg.cell? ⟨w.heap.size, 0, none⟩ = some (.bool b0) := O3.cell 0
        have z3_0 := O3.frozen 0
        have c3_1 : wg.cell? ⟨w.heap.size, 1, none⟩ = some (.slice A0 n0 c0) := O3.cell 1
        have z3_1 := O3.frozen 1
        have c3_2 : wg.cell? ⟨w.heap.size, 2, none⟩ = some (.slice D0 m0 e0) := O3.cell 2
        have z3_2 := O3.frozen 2
        clear q0
        have O4 : Own wg (w.heap.size + 1) 24 #[.bool b1, .slice A1 n1 c1, .slice D1 m1 e1] := q1
        have c4_0 : wg.cell? ⟨w.heap.size + 1, 0, none⟩ = some (.bool b1) := O4.cell 0
        have z4_0 := O4.frozen 0
        have c4_1 : wg.cell? ⟨w.heap.size + 1, 1, none⟩ = some (.slice A1 n1 c1) := O4.cell 1
        have z4_1 := O4.frozen 1
        have c4_2 : wg.cell? ⟨w.heap.size + 1, 2, none⟩ = some (.slice D1 m1 e1) := O4.cell 2
        have z4_2 := O4.frozen 2
        clear q1
        have O5 : Own wg (w.heap.size + 2) 24 #[.bool b2, .slice A2 n2 c2, .slice D2 m2 e2] := q2
        have c5_0 : wg.cell? ⟨w.heap.size + 2, 0, none⟩ = some (.bool b2) := O5.cell 0
        have z5_0 := O5.frozen 0
        have c5_1 : wg.cell? ⟨w.heap.size + 2, 1, none⟩ = some (.slice A2 n2 c2) := O5.cell 1
        have z5_1 := O5.frozen 1
        have c5_2 : wg.cell? ⟨w.heap.size + 2, 2, none⟩ = some (.slice D2 m2 e2) := O5.cell 2
        have z5_2 := O5.frozen 2
        clear q2
        have O7 : Own wg (g7) 24 #[.bool sg7, .slice P7 Pn7 Pc7, .slice R7 Rn7 Rc7] := q3
        have c7_0 : wg.cell? ⟨g7, 0, none⟩ = some (.bool sg7) := O7.cell 0
        have z7_0 := O7.frozen 0
        have c7_1 : wg.cell? ⟨g7, 1, none⟩ = some (.slice P7 Pn7 Pc7) := O7.cell 1
        have z7_1 := O7.frozen 1
        have c7_2 : wg.cell? ⟨g7, 2, none⟩ = some (.slice R7 Rn7 Rc7) := O7.cell 2
        have z7_2 := O7.frozen 2
        clear q3
        have O8 : Own wg (g8) 24 #[.bool sg8, .slice P8 Pn8 Pc8, .slice R8 Rn8 Rc8] := q4
        have c8_0 : wg.cell? ⟨g8, 0, none⟩ = some (.bool sg8) := O8.cell 0
        have z8_0 := O8.frozen 0
        have c8_1 : wg.cell? ⟨g8, 1, none⟩ = some (.slice P8 Pn8 Pc8) := O8.cell 1
        have z8_1 := O8.frozen 1
        have c8_2 : wg.cell? ⟨g8, 2, none⟩ = some (.slice R8 Rn8 Rc8) := O8.cell 2
        have z8_2 := O8.frozen 2
        clear q4
        have O9 : Own wg (g9) 24 #[.bool sg9, .slice P9 Pn9 Pc9, .slice R9 Rn9 Rc9] := q5
        have c9_0 : wg.cell? ⟨g9, 0, none⟩ = some (.bool sg9) := O9.cell 0
        have z9_0 := O9.frozen 0
        have c9_1 : wg.cell? ⟨g9, 1, none⟩ = some (.slice P9 Pn9 Pc9) := O9.cell 1
        have z9_1 := O9.frozen 1
        have c9_2 : wg.cell? ⟨g9, 2, none⟩ = some (.slice R9 Rn9 Rc9) := O9.cell 2
        have z9_2 := O9.frozen 2
        clear q5
        have e94 : f 94 = .bool false := hf 29 94 rfl
        clear hf hap
        simp only [fillL, e94]
        clear e94
        replace I9 := I9.kept hk
        clear hk
        clear c3_0 z3_0 c3_1 z3_1 c3_2 z3_2 c5_0 z5_0 c5_1 z5_1 c5_2 z5_2 c7_0 z7_0 c7_1 z7_1 c7_2 z7_2 c8_0 z8_0 c8_1 z8_1 c8_2 z8_2
        clear B
        go_wp2_with fail
        refine (divr_zero _ _ _ _ _ 24 ((IsR.fld I9).wide (by decide)) ((F1.on hon).wide (by decide)) (by decide) (by decide) HZ.out).mono ?_
        rintro e wh ⟨v, rfl, IQ, P8⟩
        obtain ⟨Q1, Qn, Qc, _, Q2, Qm, Qd, _, rfl, _⟩ := id IQ
        clear c4_0 z4_0 c4_1 z4_1 c4_2 z4_2 c9_0 z9_0 c9_1 z9_1 c9_2 z9_2
        replace O3 := O3.on P8
        replace O4 := O4.on P8
        replace O9 := O9.on P8
        obtain ⟨sq, hsq⟩ : ∃ x, decide ((0 : Rat) < 0) = x := ⟨_, rfl⟩
        rw [hsq] at IQ
        try rw [hsq]
        clear hsq
        have PQ := (On.refl wh).alloc (.cells #[.bool sq, .slice Q1 Qn Qc, .slice Q2 Qm Qd] 24)
        replace O4 := O4.on PQ
        have c4_0 : (wh.alloc (.cells #[.bool sq, .slice Q1 Qn Qc, .slice Q2 Qm Qd] 24)).cell? ⟨w.heap.size + 1, 0, none⟩ = some (.bool b1) := O4.cell 0
        have c4_1 : (wh.alloc (.cells #[.bool sq, .slice Q1 Qn Qc, .slice Q2 Qm Qd] 24)).cell? ⟨w.heap.size + 1, 1, none⟩ = some (.slice A1 n1 c1) := O4.cell 1
        have c4_2 : (wh.alloc (.cells #[.bool sq, .slice Q1 Qn Qc, .slice Q2 Qm Qd] 24)).cell? ⟨w.heap.size + 1, 2, none⟩ = some (.slice D1 m1 e1) := O4.cell 2
        go_wp2_with fail
        refine (signr_any _ _ r1 12 (((F1.on hon).on P8).on PQ) (by decide)).mono ?_
        rintro e wi ⟨rfl, PP9⟩
        have OQ := Own.new wh 24 #[.bool sq, .slice Q1 Qn Qc, .slice Q2 Qm Qd]
        replace OQ := OQ.on PP9
        replace O3 := (O3.on PQ).on PP9
        replace O9 := (O9.on PQ).on PP9
        replace IQ := (IQ.on PQ).on PP9
        have I9' := ((I9.on P8).on PQ).on PP9
        have honi := ((hon.trans P8).trans PQ).trans PP9
        clear c4_0 c4_1 c4_2
        rw [show rsg r1 = 0 from (rsg_zero_iff _).2 HZ.out]
        go_wp2_with fail
        refine (is_zero_err _).mono ?_
        rintro e w' ⟨rfl, rfl⟩
        have c9_0 : wi.cell? ⟨g9, 0, none⟩ = some (.bool sg9) := O9.cell 0
        have c9_1 : wi.cell? ⟨g9, 1, none⟩ = some (.slice P9 Pn9 Pc9) := O9.cell 1
        have c9_2 : wi.cell? ⟨g9, 2, none⟩ = some (.slice R9 Rn9 Rc9) := O9.cell 2
        go_wp2_with fail
        refine (signr_any _ _ _ 24 ((IsR.fld I9').wide (by decide)) (by decide)).mono ?_
        rintro e wj ⟨rfl, P10⟩
        rw [show rsg (r0 * r1) = 0 from (rsg_zero_iff _).2 (by rw [HZ.out, Rat.mul_zero])]
        go_wp2
        go_ret
        exact ⟨rfl, honi.trans P10⟩
set_option maxRecDepth 100000 in
set_option maxHeartbeats 1600000 in
theorem field_ne (w : World) (hx : MX w) (b0 : Bool) (A0 D0 : Option Addr) (n0 c0 m0 e0 : Nat) (x0 y0 : List Nat) (R0 : Rd w A0 n0 c0 x0) (S0 : Rd w D0 m0 e0 y0) (b1 : Bool) (A1 D1 : Option Addr) (n1 c1 m1 e1 : Nat) (x1 y1 : List Nat) (R1 : Rd w A1 n1 c1 x1) (S1 : Rd w D1 m1 e1 y1) (b2 : Bool) (A2 D2 : Option Addr) (n2 c2 m2 e2 : Nat) (x2 y2 : List Nat) (R2 : Rd w A2 n2 c2 x2) (S2 : Rd w D2 m2 e2 y2) (hs : n0 ≤ 12 ∧ m0 ≤ 12 ∧ n1 ≤ 12 ∧ m1 ≤ 12 ∧ n2 ≤ 12 ∧ m2 ≤ 12) (hz : raw b1 x1 y1 ≠ 0) :
    Calls Try.prog 5 #[.agg #[.bool b0, .slice A0 n0 c0, .slice D0 m0 e0], .agg #[.bool b1, .slice A1 n1 c1, .slice D1 m1 e1], .agg #[.bool b2, .slice A2 n2 c2, .slice D2 m2 e2]] w fun e w' => e = .returned (.bool true) ∧ On w w' := by
  obtain ⟨r0, hr0⟩ : ∃ x, raw b0 x0 y0 = x := ⟨_, rfl⟩
  obtain ⟨r1, hr1⟩ : ∃ x, raw b1 x1 y1 = x := ⟨_, rfl⟩
  obtain ⟨r2, hr2⟩ : ∃ x, raw b2 x2 y2 = x := ⟨_, rfl⟩
  have F0 : Fld w (.agg #[.bool b0, .slice A0 n0 c0, .slice D0 m0 e0]) r0 12 := Fld.mk3 R0 S0 (by omega) (by omega) hr0
  have F1 : Fld w (.agg #[.bool b1, .slice A1 n1 c1, .slice D1 m1 e1]) r1 12 := Fld.mk3 R1 S1 (by omega) (by omega) hr1
  have F2 : Fld w (.agg #[.bool b2, .slice A2 n2 c2, .slice D2 m2 e2]) r2 12 := Fld.mk3 R2 S2 (by omega) (by omega) hr2
  rw [hr1] at hz
  have HZ := Lib.hid hz
  clear hr0 hr1 hr2 hz
  have HA1 : Hid (rsg ((r0 + r1) - (r1 + r0)) = 0) := Lib.hid (rsg_eq (by grind))
  have HA2 : Hid (rsg (((r0 + r1) + r2) - (r0 + (r1 + r2))) = 0) := Lib.hid (rsg_eq (by grind))
  have HA3 : Hid (rsg (((r0 + r1) - r1) - r0) = 0) := Lib.hid (rsg_eq (by grind))
  have HM1 : Hid (rsg (r0 * r1 - r1 * r0) = 0) := Lib.hid (rsg_eq (by grind))
  have HM2 : Hid (rsg ((r0 * r1) * r2 - r0 * (r1 * r2)) = 0) := Lib.hid (rsg_eq (by grind))
  have HM3 : Hid (rsg (r0 * (r1 + r2) - (r0 * r1 + r0 * r2)) = 0) := Lib.hid (rsg_eq (by grind))
  have B : On w (((w.alloc (.cells #[.bool b0, .slice A0 n0 c0, .slice D0 m0 e0] 24)).alloc (.cells #[.bool b1, .slice A1 n1 c1, .slice D1 m1 e1] 24)).alloc (.cells #[.bool b2, .slice A2 n2 c2, .slice D2 m2 e2] 24)) := On.alloc (On.alloc (On.alloc (On.refl w) _) _) _
  have OB3 : w.heap.size ≤ w.heap.size ∧ Own (((w.alloc (.cells #[.bool b0, .slice A0 n0 c0, .slice D0 m0 e0] 24)).alloc (.cells #[.bool b1, .slice A1 n1 c1, .slice D1 m1 e1] 24)).alloc (.cells #[.bool b2, .slice A2 n2 c2, .slice D2 m2 e2] 24)) (w.heap.size) 24 #[.bool b0, .slice A0 n0 c0, .slice D0 m0 e0] := ⟨by omega, (((Own.at_ w (w.heap.size) (by simp) 24 #[.bool b0, .slice A0 n0 c0, .slice D0 m0 e0]).alloc (.cells #[.bool b1, .slice A1 n1 c1, .slice D1 m1 e1] 24)).alloc (.cells #[.bool b2, .slice A2 n2 c2, .slice D2 m2 e2] 24))⟩
  have OB4 : w.heap.size ≤ w.heap.size + 1 ∧ Own (((w.alloc (.cells #[.bool b0, .slice A0 n0 c0, .slice D0 m0 e0] 24)).alloc (.cells #[.bool b1, .slice A1 n1 c1, .slice D1 m1 e1] 24)).alloc (.cells #[.bool b2, .slice A2 n2 c2, .slice D2 m2 e2] 24)) (w.heap.size + 1) 24 #[.bool b1, .slice A1 n1 c1, .slice D1 m1 e1] := ⟨by omega, ((Own.at_ (w.alloc (.cells #[.bool b0, .slice A0 n0 c0, .slice D0 m0 e0] 24)) (w.heap.size + 1) (by simp) 24 #[.bool b1, .slice A1 n1 c1, .slice D1 m1 e1]).alloc (.cells #[.bool b2, .slice A2 n2 c2, .slice D2 m2 e2] 24))⟩
  have OB5 : w.heap.size ≤ w.heap.size + 2 ∧ Own (((w.alloc (.cells #[.bool b0, .slice A0 n0 c0, .slice D0 m0 e0] 24)).alloc (.cells #[.bool b1, .slice A1 n1 c1, .slice D1 m1 e1] 24)).alloc (.cells #[.bool b2, .slice A2 n2 c2, .slice D2 m2 e2] 24)) (w.heap.size + 2) 24 #[.bool b2, .slice A2 n2 c2, .slice D2 m2 e2] := ⟨by omega, (Own.at_ ((w.alloc (.cells #[.bool b0, .slice A0 n0 c0, .slice D0 m0 e0] 24)).alloc (.cells #[.bool b1, .slice A1 n1 c1, .slice D1 m1 e1] 24)) (w.heap.size + 2) (by simp) 24 #[.bool b2, .slice A2 n2 c2, .slice D2 m2 e2])⟩
  go_enter Try.func5, Try.ntmps5
  go_wp2_with fail
  refine (awake02 _ (hx.on B)).mono ?_
  rintro e w1 ⟨rfl, P1⟩
  replace OB3 := And.intro OB3.1 (OB3.2.on P1)
  replace OB4 := And.intro OB4.1 (OB4.2.on P1)
  replace OB5 := And.intro OB5.1 (OB5.2.on P1)
  replace B := B.trans P1
  have y3_0 : w1.cell? ⟨w.heap.size, 0, none⟩ = some (.bool b0) := OB3.2.cell 0
  have y3_1 : w1.cell? ⟨w.heap.size, 1, none⟩ = some (.slice A0 n0 c0) := OB3.2.cell 1
  have y3_2 : w1.cell? ⟨w.heap.size, 2, none⟩ = some (.slice D0 m0 e0) := OB3.2.cell 2
  have y3_f0 := OB3.2.frozen 0
  have y3_f1 := OB3.2.frozen 1
  have y3_f2 := OB3.2.frozen 2
  have y4_0 : w1.cell? ⟨w.heap.size + 1, 0, none⟩ = some (.bool b1) := OB4.2.cell 0
  have y4_1 : w1.cell? ⟨w.heap.size + 1, 1, none⟩ = some (.slice A1 n1 c1) := OB4.2.cell 1
  have y4_2 : w1.cell? ⟨w.heap.size + 1, 2, none⟩ = some (.slice D1 m1 e1) := OB4.2.cell 2
  have y4_f0 := OB4.2.frozen 0
  have y4_f1 := OB4.2.frozen 1
  have y4_f2 := OB4.2.frozen 2
  have y5_0 : w1.cell? ⟨w.heap.size + 2, 0, none⟩ = some (.bool b2) := OB5.2.cell 0
  have y5_1 : w1.cell? ⟨w.heap.size + 2, 1, none⟩ = some (.slice A2 n2 c2) := OB5.2.cell 1
  have y5_2 : w1.cell? ⟨w.heap.size + 2, 2, none⟩ = some (.slice D2 m2 e2) := OB5.2.cell 2
  have y5_f0 := OB5.2.frozen 0
  have y5_f1 := OB5.2.frozen 1
  have y5_f2 := OB5.2.frozen 2
  go_wp2_with fail
  clear y3_0 y3_f0 y3_1 y3_f1 y3_2 y3_f2
  clear y4_0 y4_f0 y4_1 y4_f1 y4_2 y4_f2
  clear y5_0 y5_f0 y5_1 y5_f1 y5_2 y5_f2
  have B1 := (On.refl w1).alloc (.cells #[.bool b0, .slice A0 n0 c0, .slice D0 m0 e0, .bool b1, .slice A1 n1 c1, .slice D1 m1 e1, .bool b2, .slice A2 n2 c2, .slice D2 m2 e2] 24)
  replace OB3 := And.intro OB3.1 (OB3.2.on B1)
  replace OB4 := And.intro OB4.1 (OB4.2.on B1)
  replace OB5 := And.intro OB5.1 (OB5.2.on B1)
  replace B := B.trans B1
  have hlens := rlens3 b0 A0 D0 n0 c0 m0 e0 x0 y0 (R0.on B) (S0.on B) b1 A1 D1 n1 c1 m1 e1 x1 y1 (R1.on B) (S1.on B) b2 A2 D2 n2 c2 m2 e2 x2 y2 (R2.on B) (S2.on B) (Own.new w1 24 #[.bool b0, .slice A0 n0 c0, .slice D0 m0 e0, .bool b1, .slice A1 n1 c1, .slice D1 m1 e1, .bool b2, .slice A2 n2 c2, .slice D2 m2 e2])
  refine (rlarge_no _ _ 3 3 _ hlens rfl (by decide) (by decide) (by decide) (by simp; omega)).mono ?_
  rintro e w2 ⟨rfl, P2⟩
  clear hlens B1 P1
  replace OB3 := And.intro OB3.1 (OB3.2.on P2)
  replace OB4 := And.intro OB4.1 (OB4.2.on P2)
  replace OB5 := And.intro OB5.1 (OB5.2.on P2)
  replace B := B.trans P2
  clear P2
  clear hx
  go_wp2
  refine wp_region_facts (by kernel_rfl) w [Fact.eq (.agg #[.bool b0, .slice A0 n0 c0, .slice D0 m0 e0]), Fact.eq (.agg #[.bool b1, .slice A1 n1 c1, .slice D1 m1 e1]), Fact.rat (r0 + r1) (12 + 12 + 1), Fact.eq (.agg #[.bool b1, .slice A1 n1 c1, .slice D1 m1 e1]), Fact.eq (.agg #[.bool b2, .slice A2 n2 c2, .slice D2 m2 e2]), Fact.rat (r1 + r2) (12 + 12 + 1), Fact.eq (.agg #[.bool b0, .slice A0 n0 c0, .slice D0 m0 e0]), Fact.eq (.agg #[.bool b1, .slice A1 n1 c1, .slice D1 m1 e1]), Fact.rat (r0 * r1) (12 + 12), Fact.any, Fact.any, Fact.any, Fact.any, Fact.any, Fact.any] [Fact.any, Fact.any, Fact.any, Fact.rat (r0 + r1) (12 + 12 + 1), Fact.rat (r1 + r2) (12 + 12 + 1), Fact.rat (r0 * r1) (12 + 12)] [⟨15, 3, 24, 15, #[.bool b0, .slice A0 n0 c0, .slice D0 m0 e0]⟩, ⟨15, 4, 24, 15, #[.bool b1, .slice A1 n1 c1, .slice D1 m1 e1]⟩, ⟨15, 5, 24, 15, #[.bool b2, .slice A2 n2 c2, .slice D2 m2 e2]⟩, ⟨9, 7, 24, 12, #[.bool false, .slice none 0 0, .slice none 0 0]⟩, ⟨10, 8, 24, 13, #[.bool false, .slice none 0 0, .slice none 0 0]⟩, ⟨11, 9, 24, 14, #[.bool false, .slice none 0 0, .slice none 0 0]⟩] [w.heap.size, w.heap.size + 1, w.heap.size + 2] [none, none, none, none, none, none, none, some 7, some 8, some 9, none, none, none, none, none, none, none, none, none, none, none, none, some 22, some 23, some 24, some 25, some 26, some 27, some 28, some 29, some 30, none, none, none, none, none, none, none, none, none, none, none, none, none, none, none, none, none, none, none, none, none, none, none, none, none, none, none, none, none, none, none, none, none, none, none, none, none, none, none, none, none, none, none, none, none, none, none, none, none, none, none, none, none, none, none, none, none, none, none, none, none, none, none, none, none, none, none, none, none, none, none, none, none, none, none, none, none, none, none, none, none, none, none, none, none, none, none, none, none, none, none, none] (by kernel_rfl) (by kernel_rfl) (by kernel_rfl) rfl B ?_ ?_ ?_ ?_ ?_
  · exact ⟨fun _ => ⟨by simp, rfl, OB3⟩, fun _ => ⟨by simp, rfl, OB4⟩, fun _ => ⟨by simp, rfl, OB5⟩, fun h => absurd h (by decide), fun h => absurd h (by decide), fun h => absurd h (by decide), trivial⟩
  · exact .inr (by simp <;> omega)
  · exact ⟨⟨noWords_R _ _ _ _ _ _ _, (.inl (Nat.le_refl _)), (.inl (Nat.le_refl _))⟩, ⟨noWords_R _ _ _ _ _ _ _, (.inl (Nat.le_refl _)), (.inl (Nat.le_refl _))⟩, ⟨noWords_R _ _ _ _ _ _ _, (.inl (Nat.le_refl _)), (.inl (Nat.le_refl _))⟩, ⟨noWords_R _ _ _ _ _ _ _, (.inr ⟨fun _ _ => trivial, _, rfl, fun a w => ⟨rfl, do_value run_allocR⟩⟩), (.inr (store_ob (j := 2) (noWords_R _ _ _ _ _ _ _) rfl rfl rfl (by kernel_rfl) rfl rfl rfl))⟩, ⟨noWords_R _ _ _ _ _ _ _, (.inr ⟨fun _ _ => trivial, _, rfl, fun a w => ⟨rfl, do_value run_allocR⟩⟩), (.inr (store_ob (j := 5) (noWords_R _ _ _ _ _ _ _) rfl rfl rfl (by kernel_rfl) rfl rfl rfl))⟩, ⟨noWords_R _ _ _ _ _ _ _, (.inr ⟨fun _ _ => trivial, _, rfl, fun a w => ⟨rfl, do_value run_allocR⟩⟩), (.inr (store_ob (j := 8) (noWords_R _ _ _ _ _ _ _) rfl rfl rfl (by kernel_rfl) rfl rfl rfl))⟩, trivial⟩
  · refine ⟨?_, ?_, ?_, ?_, ?_, ?_, ?_, ?_, ?_, ?_, ?_, ?_, ?_, ?_, ?_, trivial⟩
    · exact .inr fun a w hp => ob_yes rfl (ob_loadR (hp.box (k := 0) rfl (Nat.le_refl _) (.inl (Nat.le_refl _)) (by kernel_rfl) rfl).1 (hp.box (k := 0) rfl (Nat.le_refl _) (.inl (Nat.le_refl _)) (by kernel_rfl) rfl).2 rfl)
    · exact .inr fun a w hp => ob_yes rfl (ob_loadR (hp.box (k := 1) rfl (Nat.le_refl _) (.inl (Nat.le_refl _)) (by kernel_rfl) rfl).1 (hp.box (k := 1) rfl (Nat.le_refl _) (.inl (Nat.le_refl _)) (by kernel_rfl) rfl).2 rfl)
    · refine .inr fun a w hp => ob_yes rfl ?_
      have h22 : a.tmps.getD 22 undef = .agg #[.bool b0, .slice A0 n0 c0, .slice D0 m0 e0] := (hp.fact 0 22 (by kernel_rfl) rfl)
      have h23 : a.tmps.getD 23 undef = .agg #[.bool b1, .slice A1 n1 c1, .slice D1 m1 e1] := (hp.fact 1 23 (by kernel_rfl) rfl)
      unfold Does
      go_simp
      refine (addr_any _ _ _ _ _ 12 ((F0.on hp.on).wide (by decide)) ((F1.on hp.on).wide (by decide)) (by decide) (by decide)).mono ?_
      rintro e w' ⟨u, rfl, I8, P8⟩
      exact ⟨_, rfl, P8, I8⟩
    · exact .inr fun a w hp => ob_yes rfl (ob_loadR (hp.box (k := 1) rfl (Nat.le_refl _) (.inl (Nat.le_refl _)) (by kernel_rfl) rfl).1 (hp.box (k := 1) rfl (Nat.le_refl _) (.inl (Nat.le_refl _)) (by kernel_rfl) rfl).2 rfl)
    · exact .inr fun a w hp => ob_yes rfl (ob_loadR (hp.box (k := 2) rfl (Nat.le_refl _) (.inl (Nat.le_refl _)) (by kernel_rfl) rfl).1 (hp.box (k := 2) rfl (Nat.le_refl _) (.inl (Nat.le_refl _)) (by kernel_rfl) rfl).2 rfl)
    · refine .inr fun a w hp => ob_yes rfl ?_
      have h25 : a.tmps.getD 25 undef = .agg #[.bool b1, .slice A1 n1 c1, .slice D1 m1 e1] := (hp.fact 3 25 (by kernel_rfl) rfl)
      have h26 : a.tmps.getD 26 undef = .agg #[.bool b2, .slice A2 n2 c2, .slice D2 m2 e2] := (hp.fact 4 26 (by kernel_rfl) rfl)
      unfold Does
      go_simp
      refine (addr_any _ _ _ _ _ 12 ((F1.on hp.on).wide (by decide)) ((F2.on hp.on).wide (by decide)) (by decide) (by decide)).mono ?_
      rintro e w' ⟨u, rfl, I8, P8⟩
      exact ⟨_, rfl, P8, I8⟩
    · exact .inr fun a w hp => ob_yes rfl (ob_loadR (hp.box (k := 0) rfl (Nat.le_refl _) (.inl (Nat.le_refl _)) (by kernel_rfl) rfl).1 (hp.box (k := 0) rfl (Nat.le_refl _) (.inl (Nat.le_refl _)) (by kernel_rfl) rfl).2 rfl)
    · exact .inr fun a w hp => ob_yes rfl (ob_loadR (hp.box (k := 1) rfl (Nat.le_refl _) (.inl (Nat.le_refl _)) (by kernel_rfl) rfl).1 (hp.box (k := 1) rfl (Nat.le_refl _) (.inl (Nat.le_refl _)) (by kernel_rfl) rfl).2 rfl)
    · refine .inr fun a w hp => ob_yes rfl ?_
      have h28 : a.tmps.getD 28 undef = .agg #[.bool b0, .slice A0 n0 c0, .slice D0 m0 e0] := (hp.fact 6 28 (by kernel_rfl) rfl)
      have h29 : a.tmps.getD 29 undef = .agg #[.bool b1, .slice A1 n1 c1, .slice D1 m1 e1] := (hp.fact 7 29 (by kernel_rfl) rfl)
      unfold Does
      go_simp
      refine (mulr_any _ _ _ _ _ 12 ((F0.on hp.on).wide (by decide)) ((F1.on hp.on).wide (by decide)) (by decide) (by decide)).mono ?_
      rintro e w' ⟨u, rfl, I8, P8⟩
      exact ⟨_, rfl, P8, I8⟩
    · exact .inl rfl
    · exact .inl rfl
    · exact .inl rfl
    · exact .inl rfl
    · exact .inl rfl
    · exact .inl rfl
  · intro f wr hon hk hf hb hap
    obtain ⟨q0, q1, q2, q3, q4, q5, qz⟩ := hb
    clear qz
    have O3 : Own wr (w.heap.size) 24 #[.bool b0, .slice A0 n0 c0, .slice D0 m0 e0] := q0
    have c3_0 : wr.cell? ⟨w.heap.size, 0, none⟩ = some (.bool b0) := O3.cell 0
    have z3_0 := O3.frozen 0
    have c3_1 : wr.cell? ⟨w.heap.size, 1, none⟩ = some (.slice A0 n0 c0) := O3.cell 1
    have z3_1 := O3.frozen 1
    have c3_2 : wr.cell? ⟨w.heap.size, 2, none⟩ = some (.slice D0 m0 e0) := O3.cell 2
    have z3_2 := O3.frozen 2
    clear q0
    have O4 : Own wr (w.heap.size + 1) 24 #[.bool b1, .slice A1 n1 c1, .slice D1 m1 e1] := q1
    have c4_0 : wr.cell? ⟨w.heap.size + 1, 0, none⟩ = some (.bool b1) := O4.cell 0
    have z4_0 := O4.frozen 0
    have c4_1 : wr.cell? ⟨w.heap.size + 1, 1, none⟩ = some (.slice A1 n1 c1) := O4.cell 1
    have z4_1 := O4.frozen 1
    have c4_2 : wr.cell? ⟨w.heap.size + 1, 2, none⟩ = some (.slice D1 m1 e1) := O4.cell 2
    have z4_2 := O4.frozen 2
    clear q1
    have O5 : Own wr (w.heap.size + 2) 24 #[.bool b2, .slice A2 n2 c2, .slice D2 m2 e2] := q2
    have c5_0 : wr.cell? ⟨w.heap.size + 2, 0, none⟩ = some (.bool b2) := O5.cell 0
    have z5_0 := O5.frozen 0
    have c5_1 : wr.cell? ⟨w.heap.size + 2, 1, none⟩ = some (.slice A2 n2 c2) := O5.cell 1
    have z5_1 := O5.frozen 1
    have c5_2 : wr.cell? ⟨w.heap.size + 2, 2, none⟩ = some (.slice D2 m2 e2) := O5.cell 2
    have z5_2 := O5.frozen 2
    clear q2
    obtain ⟨g7, e7, G7, q3⟩ := q3
    change f 7 = _ at e7
    obtain ⟨cur7, O7, I7⟩ : ∃ cur, Own wr (g7) 24 cur ∧ IsR wr (.agg cur) (r0 + r1) (12 + 12 + 1) := q3
    obtain ⟨P7, Pn7, Pc7, _, R7, Rn7, Rc7, _, hz7, _⟩ := id I7
    injection hz7 with hz7
    subst hz7
    have c7_0 : wr.cell? ⟨g7, 0, none⟩ = some (.bool (decide (r0 + r1 < 0))) := O7.cell 0
    have z7_0 := O7.frozen 0
    have c7_1 : wr.cell? ⟨g7, 1, none⟩ = some (.slice P7 Pn7 Pc7) := O7.cell 1
    have z7_1 := O7.frozen 1
    have c7_2 : wr.cell? ⟨g7, 2, none⟩ = some (.slice R7 Rn7 Rc7) := O7.cell 2
    have z7_2 := O7.frozen 2
    obtain ⟨g8, e8, G8, q4⟩ := q4
    change f 8 = _ at e8
    obtain ⟨cur8, O8, I8⟩ : ∃ cur, Own wr (g8) 24 cur ∧ IsR wr (.agg cur) (r1 + r2) (12 + 12 + 1) := q4
    obtain ⟨P8, Pn8, Pc8, _, R8, Rn8, Rc8, _, hz8, _⟩ := id I8
    injection hz8 with hz8
    subst hz8
    have c8_0 : wr.cell? ⟨g8, 0, none⟩ = some (.bool (decide (r1 + r2 < 0))) := O8.cell 0
    have z8_0 := O8.frozen 0
    have c8_1 : wr.cell? ⟨g8, 1, none⟩ = some (.slice P8 Pn8 Pc8) := O8.cell 1
    have z8_1 := O8.frozen 1
    have c8_2 : wr.cell? ⟨g8, 2, none⟩ = some (.slice R8 Rn8 Rc8) := O8.cell 2
    have z8_2 := O8.frozen 2
    obtain ⟨g9, e9, G9, q5⟩ := q5
    change f 9 = _ at e9
    obtain ⟨cur9, O9, I9⟩ : ∃ cur, Own wr (g9) 24 cur ∧ IsR wr (.agg cur) (r0 * r1) (12 + 12) := q5
    obtain ⟨P9, Pn9, Pc9, _, R9, Rn9, Rc9, _, hz9, _⟩ := id I9
    injection hz9 with hz9
    subst hz9
    have c9_0 : wr.cell? ⟨g9, 0, none⟩ = some (.bool (decide (r0 * r1 < 0))) := O9.cell 0
    have z9_0 := O9.frozen 0
    have c9_1 : wr.cell? ⟨g9, 1, none⟩ = some (.slice P9 Pn9 Pc9) := O9.cell 1
    have z9_1 := O9.frozen 1
    have c9_2 : wr.cell? ⟨g9, 2, none⟩ = some (.slice R9 Rn9 Rc9) := O9.cell 2
    have z9_2 := O9.frozen 2
    clear hf hap
    simp only [fillL]; simp only [e7, e8, e9]
    clear e7 e8 e9
    have OB3 : w.heap.size ≤ w.heap.size ∧ Own wr (w.heap.size) 24 #[.bool b0, .slice A0 n0 c0, .slice D0 m0 e0] := ⟨by omega, O3⟩
    clear c3_0 z3_0 c3_1 z3_1 c3_2 z3_2 O3
    have OB4 : w.heap.size ≤ w.heap.size + 1 ∧ Own wr (w.heap.size + 1) 24 #[.bool b1, .slice A1 n1 c1, .slice D1 m1 e1] := ⟨by omega, O4⟩
    clear c4_0 z4_0 c4_1 z4_1 c4_2 z4_2 O4
    have OB5 : w.heap.size ≤ w.heap.size + 2 ∧ Own wr (w.heap.size + 2) 24 #[.bool b2, .slice A2 n2 c2, .slice D2 m2 e2] := ⟨by omega, O5⟩
    clear c5_0 z5_0 c5_1 z5_1 c5_2 z5_2 O5
    have OB7 : w.heap.size ≤ g7 ∧ _ := ⟨G7, O7⟩
    obtain ⟨sg7, hs7⟩ : ∃ x, decide (r0 + r1 < 0) = x := ⟨_, rfl⟩
    rw [hs7] at I7 OB7
    clear hs7 c7_0 z7_0 c7_1 z7_1 c7_2 z7_2 O7
    have OB8 : w.heap.size ≤ g8 ∧ _ := ⟨G8, O8⟩
    obtain ⟨sg8, hs8⟩ : ∃ x, decide (r1 + r2 < 0) = x := ⟨_, rfl⟩
    rw [hs8] at I8 OB8
    clear hs8 c8_0 z8_0 c8_1 z8_1 c8_2 z8_2 O8
    have OB9 : w.heap.size ≤ g9 ∧ _ := ⟨G9, O9⟩
    obtain ⟨sg9, hs9⟩ : ∃ x, decide (r0 * r1 < 0) = x := ⟨_, rfl⟩
    rw [hs9] at I9 OB9
    clear hs9 c9_0 z9_0 c9_1 z9_1 c9_2 z9_2 O9
    clear B
    have B := hon
    clear hon hk
    go_wp2
    refine wp_region_facts (by kernel_rfl) w [Fact.eq (.agg #[.bool sg7, .slice P7 Pn7 Pc7, .slice R7 Rn7 Rc7]), Fact.eq (.bool true), Fact.eq (.bool false), Fact.eq (.bool false), Fact.eq (.agg #[.bool sg9, .slice P9 Pn9 Pc9, .slice R9 Rn9 Rc9]), Fact.eq (.bool true), Fact.eq (.bool false), Fact.eq (.bool false), Fact.eq (.bool false), Fact.eq (.agg #[.bool sg7, .slice P7 Pn7 Pc7, .slice R7 Rn7 Rc7]), Fact.eq (.agg #[.bool b1, .slice A1 n1 c1, .slice D1 m1 e1]), Fact.eq (.agg #[.bool b0, .slice A0 n0 c0, .slice D0 m0 e0]), Fact.rat (r1 + r0) (12 + 12 + 1), Fact.eq (.int .i64 0), Fact.eq (.bool false), Fact.eq (.bool false), Fact.eq (.bool false), Fact.eq (.agg #[.bool sg7, .slice P7 Pn7 Pc7, .slice R7 Rn7 Rc7]), Fact.eq (.agg #[.bool b2, .slice A2 n2 c2, .slice D2 m2 e2]), Fact.rat ((r0 + r1) + r2) (25 + 25 + 1), Fact.eq (.agg #[.bool b0, .slice A0 n0 c0, .slice D0 m0 e0]), Fact.eq (.agg #[.bool sg8, .slice P8 Pn8 Pc8, .slice R8 Rn8 Rc8]), Fact.rat (r0 + (r1 + r2)) (25 + 25 + 1), Fact.eq (.int .i64 0), Fact.eq (.bool false), Fact.eq (.bool false), Fact.eq (.bool false), Fact.eq (.agg #[.bool sg7, .slice P7 Pn7 Pc7, .slice R7 Rn7 Rc7]), Fact.eq (.agg #[.bool b1, .slice A1 n1 c1, .slice D1 m1 e1]), Fact.rat ((r0 + r1) - r1) (25 + 25 + 1), Fact.eq (.agg #[.bool b0, .slice A0 n0 c0, .slice D0 m0 e0]), Fact.eq (.int .i64 0), Fact.eq (.bool false), Fact.eq (.bool false)] [Fact.any, Fact.any, Fact.any, Fact.any, Fact.any, Fact.any] [⟨34, 3, 24, 34, #[.bool b0, .slice A0 n0 c0, .slice D0 m0 e0]⟩, ⟨34, 4, 24, 34, #[.bool b1, .slice A1 n1 c1, .slice D1 m1 e1]⟩, ⟨34, 5, 24, 34, #[.bool b2, .slice A2 n2 c2, .slice D2 m2 e2]⟩, ⟨34, 7, 24, 34, #[.bool sg7, .slice P7 Pn7 Pc7, .slice R7 Rn7 Rc7]⟩, ⟨34, 8, 24, 34, #[.bool sg8, .slice P8 Pn8 Pc8, .slice R8 Rn8 Rc8]⟩, ⟨34, 9, 24, 34, #[.bool sg9, .slice P9 Pn9 Pc9, .slice R9 Rn9 Rc9]⟩] [w.heap.size, w.heap.size + 1, w.heap.size + 2, g7, g8, g9] [none, none, none, none, none, none, none, none, none, none, none, none, none, none, none, none, none, none, none, none, none, none, none, none, none, none, none, none, none, none, none, some 31, some 32, some 33, some 34, some 35, some 36, some 37, some 38, some 39, some 40, some 41, some 42, some 43, some 44, some 45, some 46, some 47, some 48, some 49, some 50, some 51, some 52, some 53, some 54, some 55, some 56, some 57, some 58, some 59, some 60, some 61, some 62, some 63, some 64, none, none, none, none, none, none, none, none, none, none, none, none, none, none, none, none, none, none, none, none, none, none, none, none, none, none, none, none, none, none, none, none, none, none, none, none, none, none, none, none, none, none, none, none, none, none, none, none, none, none, none, none, none, none, none, none, none, none] (by kernel_rfl) (by kernel_rfl) (by kernel_rfl) rfl B ?_ ?_ ?_ ?_ ?_
    · exact ⟨fun _ => ⟨by simp, rfl, OB3⟩, fun _ => ⟨by simp, rfl, OB4⟩, fun _ => ⟨by simp, rfl, OB5⟩, fun _ => ⟨by simp, rfl, OB7⟩, fun _ => ⟨by simp, rfl, OB8⟩, fun _ => ⟨by simp, rfl, OB9⟩, trivial⟩
    · exact .inl ⟨Nat.le_refl _, Nat.le_refl _, Nat.le_refl _, Nat.le_refl _, Nat.le_refl _, Nat.le_refl _, trivial⟩
    · exact ⟨⟨noWords_R _ _ _ _ _ _ _, (.inl (Nat.le_refl _)), (.inl (Nat.le_refl _))⟩, ⟨noWords_R _ _ _ _ _ _ _, (.inl (Nat.le_refl _)), (.inl (Nat.le_refl _))⟩, ⟨noWords_R _ _ _ _ _ _ _, (.inl (Nat.le_refl _)), (.inl (Nat.le_refl _))⟩, ⟨noWords_R _ _ _ _ _ _ _, (.inl (Nat.le_refl _)), (.inl (Nat.le_refl _))⟩, ⟨noWords_R _ _ _ _ _ _ _, (.inl (Nat.le_refl _)), (.inl (Nat.le_refl _))⟩, ⟨noWords_R _ _ _ _ _ _ _, (.inl (Nat.le_refl _)), (.inl (Nat.le_refl _))⟩, trivial⟩
    · refine ⟨?_, ?_, ?_, ?_, ?_, ?_, ?_, ?_, ?_, ?_, ?_, ?_, ?_, ?_, ?_, ?_, ?_, ?_, ?_, ?_, ?_, ?_, ?_, ?_, ?_, ?_, ?_, ?_, ?_, ?_, ?_, ?_, ?_, ?_, trivial⟩
      · exact .inr fun a w hp => ob_yes rfl (ob_loadR (hp.box (k := 3) rfl (Nat.le_refl _) (.inl (Nat.le_refl _)) (by kernel_rfl) rfl).1 (hp.box (k := 3) rfl (Nat.le_refl _) (.inl (Nat.le_refl _)) (by kernel_rfl) rfl).2 rfl)
      · refine .inr fun a w hp => ob_yes rfl ?_
        have h31 : a.tmps.getD 31 undef = .agg #[.bool sg7, .slice P7 Pn7 Pc7, .slice R7 Rn7 Rc7] := (hp.fact 0 31 (by kernel_rfl) rfl)
        unfold Does
        go_simp
        refine (valid_isR _ _ _ _ (I7.kept hp.kept) (by decide)).mono ?_
        rintro e w' ⟨rfl, P8⟩
        exact ⟨_, rfl, P8, rfl⟩
      · refine .inr fun a w hp => ob_yes rfl ?_
        have h32 : a.tmps.getD 32 undef = .bool true := (hp.fact 1 32 (by kernel_rfl) rfl)
        unfold Does
        go_simp
        exact ⟨_, rfl, On.refl _, by show Value.bool _ = Value.bool _; first | rfl | (simp; done)⟩
      · exact .inr fun a w hp => ob_yes rfl (ob_move (hp.fact 2 33 (by kernel_rfl) rfl))
      · exact .inr fun a w hp => ob_yes (wanted_yes (P := Try.prog) (j := 3) (d := 34) (b := false) rfl rfl (hp.fact 3 34 (by kernel_rfl) rfl)) (ob_loadR (hp.box (k := 5) rfl (Nat.le_refl _) (.inl (Nat.le_refl _)) (by kernel_rfl) rfl).1 (hp.box (k := 5) rfl (Nat.le_refl _) (.inl (Nat.le_refl _)) (by kernel_rfl) rfl).2 rfl)
      · refine .inr fun a w hp => ob_yes (wanted_yes (P := Try.prog) (j := 3) (d := 34) (b := false) rfl rfl (hp.fact 3 34 (by kernel_rfl) rfl)) ?_
        have h35 : a.tmps.getD 35 undef = .agg #[.bool sg9, .slice P9 Pn9 Pc9, .slice R9 Rn9 Rc9] := (hp.fact 4 35 (by kernel_rfl) rfl)
        unfold Does
        go_simp
        refine (valid_isR _ _ _ _ (I9.kept hp.kept) (by decide)).mono ?_
        rintro e w' ⟨rfl, P8⟩
        exact ⟨_, rfl, P8, rfl⟩
      · refine .inr fun a w hp => ob_yes (wanted_yes (P := Try.prog) (j := 3) (d := 34) (b := false) rfl rfl (hp.fact 3 34 (by kernel_rfl) rfl)) ?_
        have h36 : a.tmps.getD 36 undef = .bool true := (hp.fact 5 36 (by kernel_rfl) rfl)
        unfold Does
        go_simp
        exact ⟨_, rfl, On.refl _, by show Value.bool _ = Value.bool _; first | rfl | (simp; done)⟩
      · refine .inr fun a w hp => ob_yes rfl ?_
        have h34 : a.tmps.getD 34 undef = .bool false := (hp.fact 3 34 (by kernel_rfl) rfl)
        have h37 : a.tmps.getD 37 undef = .bool false := (hp.fact 6 37 (by kernel_rfl) rfl)
        unfold Does
        go_simp
        exact ⟨_, rfl, On.refl _, rfl⟩
      · exact .inr fun a w hp => ob_yes rfl (ob_move (hp.fact 7 38 (by kernel_rfl) rfl))
      · exact .inr fun a w hp => ob_yes (wanted_yes (P := Try.prog) (j := 8) (d := 39) (b := false) rfl rfl (hp.fact 8 39 (by kernel_rfl) rfl)) (ob_loadR (hp.box (k := 3) rfl (Nat.le_refl _) (.inl (Nat.le_refl _)) (by kernel_rfl) rfl).1 (hp.box (k := 3) rfl (Nat.le_refl _) (.inl (Nat.le_refl _)) (by kernel_rfl) rfl).2 rfl)
      · exact .inr fun a w hp => ob_yes (wanted_yes (P := Try.prog) (j := 8) (d := 39) (b := false) rfl rfl (hp.fact 8 39 (by kernel_rfl) rfl)) (ob_loadR (hp.box (k := 1) rfl (Nat.le_refl _) (.inl (Nat.le_refl _)) (by kernel_rfl) rfl).1 (hp.box (k := 1) rfl (Nat.le_refl _) (.inl (Nat.le_refl _)) (by kernel_rfl) rfl).2 rfl)
      · exact .inr fun a w hp => ob_yes (wanted_yes (P := Try.prog) (j := 8) (d := 39) (b := false) rfl rfl (hp.fact 8 39 (by kernel_rfl) rfl)) (ob_loadR (hp.box (k := 0) rfl (Nat.le_refl _) (.inl (Nat.le_refl _)) (by kernel_rfl) rfl).1 (hp.box (k := 0) rfl (Nat.le_refl _) (.inl (Nat.le_refl _)) (by kernel_rfl) rfl).2 rfl)
      · refine .inr fun a w hp => ob_yes (wanted_yes (P := Try.prog) (j := 8) (d := 39) (b := false) rfl rfl (hp.fact 8 39 (by kernel_rfl) rfl)) ?_
        have h41 : a.tmps.getD 41 undef = .agg #[.bool b1, .slice A1 n1 c1, .slice D1 m1 e1] := (hp.fact 10 41 (by kernel_rfl) rfl)
        have h42 : a.tmps.getD 42 undef = .agg #[.bool b0, .slice A0 n0 c0, .slice D0 m0 e0] := (hp.fact 11 42 (by kernel_rfl) rfl)
        unfold Does
        go_simp
        refine (addr_any _ _ _ _ _ 12 ((F1.on hp.on).wide (by decide)) ((F0.on hp.on).wide (by decide)) (by decide) (by decide)).mono ?_
        rintro e w' ⟨u, rfl, I8, P8⟩
        exact ⟨_, rfl, P8, I8⟩
      · refine .inr fun a w hp => ob_yes (wanted_yes (P := Try.prog) (j := 8) (d := 39) (b := false) rfl rfl (hp.fact 8 39 (by kernel_rfl) rfl)) ?_
        have h40 : a.tmps.getD 40 undef = .agg #[.bool sg7, .slice P7 Pn7 Pc7, .slice R7 Rn7 Rc7] := (hp.fact 9 40 (by kernel_rfl) rfl)
        have h43 : IsR w (a.tmps.getD 43 undef) (r1 + r0) (12 + 12 + 1) := (hp.fact 12 43 (by kernel_rfl) rfl)
        obtain ⟨v43, e43⟩ : ∃ v, a.tmps.getD 43 undef = v := ⟨_, rfl⟩
        rw [e43] at h43
        unfold Does
        go_simp
        refine (cmpr_any _ _ _ _ _ 25 ((IsR.fld (I7.kept hp.kept)).wide (by decide)) ((IsR.fld h43).wide (by decide)) (by decide)).mono ?_
        rintro e w' ⟨rfl, P8⟩
        rw [HA1.out]
        exact ⟨_, rfl, P8, rfl⟩
      · refine .inr fun a w hp => ob_yes (wanted_yes (P := Try.prog) (j := 8) (d := 39) (b := false) rfl rfl (hp.fact 8 39 (by kernel_rfl) rfl)) ?_
        have h44 : a.tmps.getD 44 undef = .int .i64 0 := (hp.fact 13 44 (by kernel_rfl) rfl)
        unfold Does
        go_simp
        exact ⟨_, rfl, On.refl _, by show Value.bool _ = Value.bool _; first | rfl | (simp; done)⟩
      · refine .inr fun a w hp => ob_yes rfl ?_
        have h39 : a.tmps.getD 39 undef = .bool false := (hp.fact 8 39 (by kernel_rfl) rfl)
        have h45 : a.tmps.getD 45 undef = .bool false := (hp.fact 14 45 (by kernel_rfl) rfl)
        unfold Does
        go_simp
        exact ⟨_, rfl, On.refl _, rfl⟩
      · exact .inr fun a w hp => ob_yes rfl (ob_move (hp.fact 15 46 (by kernel_rfl) rfl))
      · exact .inr fun a w hp => ob_yes (wanted_yes (P := Try.prog) (j := 16) (d := 47) (b := false) rfl rfl (hp.fact 16 47 (by kernel_rfl) rfl)) (ob_loadR (hp.box (k := 3) rfl (Nat.le_refl _) (.inl (Nat.le_refl _)) (by kernel_rfl) rfl).1 (hp.box (k := 3) rfl (Nat.le_refl _) (.inl (Nat.le_refl _)) (by kernel_rfl) rfl).2 rfl)
      · exact .inr fun a w hp => ob_yes (wanted_yes (P := Try.prog) (j := 16) (d := 47) (b := false) rfl rfl (hp.fact 16 47 (by kernel_rfl) rfl)) (ob_loadR (hp.box (k := 2) rfl (Nat.le_refl _) (.inl (Nat.le_refl _)) (by kernel_rfl) rfl).1 (hp.box (k := 2) rfl (Nat.le_refl _) (.inl (Nat.le_refl _)) (by kernel_rfl) rfl).2 rfl)
      · refine .inr fun a w hp => ob_yes (wanted_yes (P := Try.prog) (j := 16) (d := 47) (b := false) rfl rfl (hp.fact 16 47 (by kernel_rfl) rfl)) ?_
        have h48 : a.tmps.getD 48 undef = .agg #[.bool sg7, .slice P7 Pn7 Pc7, .slice R7 Rn7 Rc7] := (hp.fact 17 48 (by kernel_rfl) rfl)
        have h49 : a.tmps.getD 49 undef = .agg #[.bool b2, .slice A2 n2 c2, .slice D2 m2 e2] := (hp.fact 18 49 (by kernel_rfl) rfl)
        unfold Does
        go_simp
        refine (addr_any _ _ _ _ _ 25 ((IsR.fld (I7.kept hp.kept)).wide (by decide)) ((F2.on hp.on).wide (by decide)) (by decide) (by decide)).mono ?_
        rintro e w' ⟨u, rfl, I8, P8⟩
        exact ⟨_, rfl, P8, I8⟩
      · exact .inr fun a w hp => ob_yes (wanted_yes (P := Try.prog) (j := 16) (d := 47) (b := false) rfl rfl (hp.fact 16 47 (by kernel_rfl) rfl)) (ob_loadR (hp.box (k := 0) rfl (Nat.le_refl _) (.inl (Nat.le_refl _)) (by kernel_rfl) rfl).1 (hp.box (k := 0) rfl (Nat.le_refl _) (.inl (Nat.le_refl _)) (by kernel_rfl) rfl).2 rfl)
      · exact .inr fun a w hp => ob_yes (wanted_yes (P := Try.prog) (j := 16) (d := 47) (b := false) rfl rfl (hp.fact 16 47 (by kernel_rfl) rfl)) (ob_loadR (hp.box (k := 4) rfl (Nat.le_refl _) (.inl (Nat.le_refl _)) (by kernel_rfl) rfl).1 (hp.box (k := 4) rfl (Nat.le_refl _) (.inl (Nat.le_refl _)) (by kernel_rfl) rfl).2 rfl)
      · refine .inr fun a w hp => ob_yes (wanted_yes (P := Try.prog) (j := 16) (d := 47) (b := false) rfl rfl (hp.fact 16 47 (by kernel_rfl) rfl)) ?_
        have h51 : a.tmps.getD 51 undef = .agg #[.bool b0, .slice A0 n0 c0, .slice D0 m0 e0] := (hp.fact 20 51 (by kernel_rfl) rfl)
        have h52 : a.tmps.getD 52 undef = .agg #[.bool sg8, .slice P8 Pn8 Pc8, .slice R8 Rn8 Rc8] := (hp.fact 21 52 (by kernel_rfl) rfl)
        unfold Does
        go_simp
        refine (addr_any _ _ _ _ _ 25 ((F0.on hp.on).wide (by decide)) ((IsR.fld (I8.kept hp.kept)).wide (by decide)) (by decide) (by decide)).mono ?_
        rintro e w' ⟨u, rfl, I8, P8⟩
        exact ⟨_, rfl, P8, I8⟩
      · refine .inr fun a w hp => ob_yes (wanted_yes (P := Try.prog) (j := 16) (d := 47) (b := false) rfl rfl (hp.fact 16 47 (by kernel_rfl) rfl)) ?_
        have h50 : IsR w (a.tmps.getD 50 undef) ((r0 + r1) + r2) (25 + 25 + 1) := (hp.fact 19 50 (by kernel_rfl) rfl)
        obtain ⟨v50, e50⟩ : ∃ v, a.tmps.getD 50 undef = v := ⟨_, rfl⟩
        rw [e50] at h50
        have h53 : IsR w (a.tmps.getD 53 undef) (r0 + (r1 + r2)) (25 + 25 + 1) := (hp.fact 22 53 (by kernel_rfl) rfl)
        obtain ⟨v53, e53⟩ : ∃ v, a.tmps.getD 53 undef = v := ⟨_, rfl⟩
        rw [e53] at h53
        unfold Does
        go_simp
        refine (cmpr_any _ _ _ _ _ 51 ((IsR.fld h50).wide (by decide)) ((IsR.fld h53).wide (by decide)) (by decide)).mono ?_
        rintro e w' ⟨rfl, P8⟩
        rw [HA2.out]
        exact ⟨_, rfl, P8, rfl⟩
      · refine .inr fun a w hp => ob_yes (wanted_yes (P := Try.prog) (j := 16) (d := 47) (b := false) rfl rfl (hp.fact 16 47 (by kernel_rfl) rfl)) ?_
        have h54 : a.tmps.getD 54 undef = .int .i64 0 := (hp.fact 23 54 (by kernel_rfl) rfl)
        unfold Does
        go_simp
        exact ⟨_, rfl, On.refl _, by show Value.bool _ = Value.bool _; first | rfl | (simp; done)⟩
      · refine .inr fun a w hp => ob_yes rfl ?_
        have h47 : a.tmps.getD 47 undef = .bool false := (hp.fact 16 47 (by kernel_rfl) rfl)
        have h55 : a.tmps.getD 55 undef = .bool false := (hp.fact 24 55 (by kernel_rfl) rfl)
        unfold Does
        go_simp
        exact ⟨_, rfl, On.refl _, rfl⟩
      · exact .inr fun a w hp => ob_yes rfl (ob_move (hp.fact 25 56 (by kernel_rfl) rfl))
      · exact .inr fun a w hp => ob_yes (wanted_yes (P := Try.prog) (j := 26) (d := 57) (b := false) rfl rfl (hp.fact 26 57 (by kernel_rfl) rfl)) (ob_loadR (hp.box (k := 3) rfl (Nat.le_refl _) (.inl (Nat.le_refl _)) (by kernel_rfl) rfl).1 (hp.box (k := 3) rfl (Nat.le_refl _) (.inl (Nat.le_refl _)) (by kernel_rfl) rfl).2 rfl)
      · exact .inr fun a w hp => ob_yes (wanted_yes (P := Try.prog) (j := 26) (d := 57) (b := false) rfl rfl (hp.fact 26 57 (by kernel_rfl) rfl)) (ob_loadR (hp.box (k := 1) rfl (Nat.le_refl _) (.inl (Nat.le_refl _)) (by kernel_rfl) rfl).1 (hp.box (k := 1) rfl (Nat.le_refl _) (.inl (Nat.le_refl _)) (by kernel_rfl) rfl).2 rfl)
      · refine .inr fun a w hp => ob_yes (wanted_yes (P := Try.prog) (j := 26) (d := 57) (b := false) rfl rfl (hp.fact 26 57 (by kernel_rfl) rfl)) ?_
        have h58 : a.tmps.getD 58 undef = .agg #[.bool sg7, .slice P7 Pn7 Pc7, .slice R7 Rn7 Rc7] := (hp.fact 27 58 (by kernel_rfl) rfl)
        have h59 : a.tmps.getD 59 undef = .agg #[.bool b1, .slice A1 n1 c1, .slice D1 m1 e1] := (hp.fact 28 59 (by kernel_rfl) rfl)
        unfold Does
        go_simp
        refine (subr_any _ _ _ _ _ 25 ((IsR.fld (I7.kept hp.kept)).wide (by decide)) ((F1.on hp.on).wide (by decide)) (by decide) (by decide)).mono ?_
        rintro e w' ⟨u, rfl, I8, P8⟩
        exact ⟨_, rfl, P8, I8⟩
      · exact .inr fun a w hp => ob_yes (wanted_yes (P := Try.prog) (j := 26) (d := 57) (b := false) rfl rfl (hp.fact 26 57 (by kernel_rfl) rfl)) (ob_loadR (hp.box (k := 0) rfl (Nat.le_refl _) (.inl (Nat.le_refl _)) (by kernel_rfl) rfl).1 (hp.box (k := 0) rfl (Nat.le_refl _) (.inl (Nat.le_refl _)) (by kernel_rfl) rfl).2 rfl)
      · refine .inr fun a w hp => ob_yes (wanted_yes (P := Try.prog) (j := 26) (d := 57) (b := false) rfl rfl (hp.fact 26 57 (by kernel_rfl) rfl)) ?_
        have h60 : IsR w (a.tmps.getD 60 undef) ((r0 + r1) - r1) (25 + 25 + 1) := (hp.fact 29 60 (by kernel_rfl) rfl)
        obtain ⟨v60, e60⟩ : ∃ v, a.tmps.getD 60 undef = v := ⟨_, rfl⟩
        rw [e60] at h60
        have h61 : a.tmps.getD 61 undef = .agg #[.bool b0, .slice A0 n0 c0, .slice D0 m0 e0] := (hp.fact 30 61 (by kernel_rfl) rfl)
        unfold Does
        go_simp
        refine (cmpr_any _ _ _ _ _ 51 ((IsR.fld h60).wide (by decide)) ((F0.on hp.on).wide (by decide)) (by decide)).mono ?_
        rintro e w' ⟨rfl, P8⟩
        rw [HA3.out]
        exact ⟨_, rfl, P8, rfl⟩
      · refine .inr fun a w hp => ob_yes (wanted_yes (P := Try.prog) (j := 26) (d := 57) (b := false) rfl rfl (hp.fact 26 57 (by kernel_rfl) rfl)) ?_
        have h62 : a.tmps.getD 62 undef = .int .i64 0 := (hp.fact 31 62 (by kernel_rfl) rfl)
        unfold Does
        go_simp
        exact ⟨_, rfl, On.refl _, by show Value.bool _ = Value.bool _; first | rfl | (simp; done)⟩
      · refine .inr fun a w hp => ob_yes rfl ?_
        have h57 : a.tmps.getD 57 undef = .bool false := (hp.fact 26 57 (by kernel_rfl) rfl)
        have h63 : a.tmps.getD 63 undef = .bool false := (hp.fact 32 63 (by kernel_rfl) rfl)
        unfold Does
        go_simp
        exact ⟨_, rfl, On.refl _, rfl⟩
    · intro f wf hon hk hf hb hap
      obtain ⟨q0, q1, q2, q3, q4, q5, qz⟩ := hb
      clear qz
      have O3 : Own wf (w.heap.size) 24 #[.bool b0, .slice A0 n0 c0, .slice D0 m0 e0] := q0
      have c3_0 : wf.cell? ⟨w.heap.size, 0, none⟩ = some (.bool b0) := O3.cell 0
      have z3_0 := O3.frozen 0
      have c3_1 : wf.cell? ⟨w.heap.size, 1, none⟩ = some (.slice A0 n0 c0) := O3.cell 1
      have z3_1 := O3.frozen 1
      have c3_2 : wf.cell? ⟨w.heap.size, 2, none⟩ = some (.slice D0 m0 e0) := O3.cell 2
      have z3_2 := O3.frozen 2
      clear q0
      have O4 : Own wf (w.heap.size + 1) 24 #[.bool b1, .slice A1 n1 c1, .slice D1 m1 e1] := q1
      have c4_0 : wf.cell? ⟨w.heap.size + 1, 0, none⟩ = some (.bool b1) := O4.cell 0
      have z4_0 := O4.frozen 0
      have c4_1 : wf.cell? ⟨w.heap.size + 1, 1, none⟩ = some (.slice A1 n1 c1) := O4.cell 1
      have z4_1 := O4.frozen 1
      have c4_2 : wf.cell? ⟨w.heap.size + 1, 2, none⟩ = some (.slice D1 m1 e1) := O4.cell 2
      have z4_2 := O4.frozen 2
      clear q1
      have O5 : Own wf (w.heap.size + 2) 24 #[.bool b2, .slice A2 n2 c2, .slice D2 m2 e2] := q2
      have c5_0 : wf.cell? ⟨w.heap.size + 2, 0, none⟩ = some (.bool b2) := O5.cell 0
      have z5_0 := O5.frozen 0
      have c5_1 : wf.cell? ⟨w.heap.size + 2, 1, none⟩ = some (.slice A2 n2 c2) := O5.cell 1
      have z5_1 := O5.frozen 1
      have c5_2 : wf.cell? ⟨w.heap.size + 2, 2, none⟩ = some (.slice D2 m2 e2) := O5.cell 2
      have z5_2 := O5.frozen 2
      clear q2
      have O7 : Own wf (g7) 24 #[.bool sg7, .slice P7 Pn7 Pc7, .slice R7 Rn7 Rc7] := q3
      have c7_0 : wf.cell? ⟨g7, 0, none⟩ = some (.bool sg7) := O7.cell 0
      have z7_0 := O7.frozen 0
      have c7_1 : wf.cell? ⟨g7, 1, none⟩ = some (.slice P7 Pn7 Pc7) := O7.cell 1
      have z7_1 := O7.frozen 1
      have c7_2 : wf.cell? ⟨g7, 2, none⟩ = some (.slice R7 Rn7 Rc7) := O7.cell 2
      have z7_2 := O7.frozen 2
      clear q3
      have O8 : Own wf (g8) 24 #[.bool sg8, .slice P8 Pn8 Pc8, .slice R8 Rn8 Rc8] := q4
      have c8_0 : wf.cell? ⟨g8, 0, none⟩ = some (.bool sg8) := O8.cell 0
      have z8_0 := O8.frozen 0
      have c8_1 : wf.cell? ⟨g8, 1, none⟩ = some (.slice P8 Pn8 Pc8) := O8.cell 1
      have z8_1 := O8.frozen 1
      have c8_2 : wf.cell? ⟨g8, 2, none⟩ = some (.slice R8 Rn8 Rc8) := O8.cell 2
      have z8_2 := O8.frozen 2
      clear q4
      have O9 : Own wf (g9) 24 #[.bool sg9, .slice P9 Pn9 Pc9, .slice R9 Rn9 Rc9] := q5
      have c9_0 : wf.cell? ⟨g9, 0, none⟩ = some (.bool sg9) := O9.cell 0
      have z9_0 := O9.frozen 0
      have c9_1 : wf.cell? ⟨g9, 1, none⟩ = some (.slice P9 Pn9 Pc9) := O9.cell 1
      have z9_1 := O9.frozen 1
      have c9_2 : wf.cell? ⟨g9, 2, none⟩ = some (.slice R9 Rn9 Rc9) := O9.cell 2
      have z9_2 := O9.frozen 2
      clear q5
      have e64 : f 64 = .bool false := hf 33 64 rfl
      clear hf hap
      simp only [fillL, e64]
      clear e64
      have OB3 : w.heap.size ≤ w.heap.size ∧ Own wf (w.heap.size) 24 #[.bool b0, .slice A0 n0 c0, .slice D0 m0 e0] := ⟨by omega, O3⟩
      clear c3_0 z3_0 c3_1 z3_1 c3_2 z3_2 O3
      have OB4 : w.heap.size ≤ w.heap.size + 1 ∧ Own wf (w.heap.size + 1) 24 #[.bool b1, .slice A1 n1 c1, .slice D1 m1 e1] := ⟨by omega, O4⟩
      clear c4_0 z4_0 c4_1 z4_1 c4_2 z4_2 O4
      have OB5 : w.heap.size ≤ w.heap.size + 2 ∧ Own wf (w.heap.size + 2) 24 #[.bool b2, .slice A2 n2 c2, .slice D2 m2 e2] := ⟨by omega, O5⟩
      clear c5_0 z5_0 c5_1 z5_1 c5_2 z5_2 O5
      have OB7 : w.heap.size ≤ g7 ∧ _ := ⟨G7, O7⟩
      clear c7_0 z7_0 c7_1 z7_1 c7_2 z7_2 O7
      replace I7 := I7.kept hk
      have OB8 : w.heap.size ≤ g8 ∧ _ := ⟨G8, O8⟩
      clear c8_0 z8_0 c8_1 z8_1 c8_2 z8_2 O8
      replace I8 := I8.kept hk
      have OB9 : w.heap.size ≤ g9 ∧ _ := ⟨G9, O9⟩
      clear c9_0 z9_0 c9_1 z9_1 c9_2 z9_2 O9
      replace I9 := I9.kept hk
      clear B
      have B := hon
      clear hon hk
      go_wp2
      refine wp_region_facts (by kernel_rfl) w [Fact.eq (.agg #[.bool sg9, .slice P9 Pn9 Pc9, .slice R9 Rn9 Rc9]), Fact.eq (.agg #[.bool b1, .slice A1 n1 c1, .slice D1 m1 e1]), Fact.eq (.agg #[.bool b0, .slice A0 n0 c0, .slice D0 m0 e0]), Fact.rat (r1 * r0) (12 + 12), Fact.eq (.int .i64 0), Fact.eq (.bool false), Fact.eq (.bool false), Fact.eq (.agg #[.bool sg9, .slice P9 Pn9 Pc9, .slice R9 Rn9 Rc9]), Fact.eq (.agg #[.bool b2, .slice A2 n2 c2, .slice D2 m2 e2]), Fact.rat ((r0 * r1) * r2) (24 + 24), Fact.eq (.agg #[.bool b0, .slice A0 n0 c0, .slice D0 m0 e0]), Fact.eq (.agg #[.bool b1, .slice A1 n1 c1, .slice D1 m1 e1]), Fact.eq (.agg #[.bool b2, .slice A2 n2 c2, .slice D2 m2 e2]), Fact.rat (r1 * r2) (12 + 12), Fact.rat (r0 * (r1 * r2)) (24 + 24), Fact.eq (.int .i64 0), Fact.eq (.bool false), Fact.eq (.bool false), Fact.eq (.bool false), Fact.eq (.agg #[.bool b0, .slice A0 n0 c0, .slice D0 m0 e0]), Fact.eq (.agg #[.bool sg8, .slice P8 Pn8 Pc8, .slice R8 Rn8 Rc8]), Fact.rat (r0 * (r1 + r2)) (25 + 25), Fact.eq (.agg #[.bool sg9, .slice P9 Pn9 Pc9, .slice R9 Rn9 Rc9]), Fact.eq (.agg #[.bool b0, .slice A0 n0 c0, .slice D0 m0 e0]), Fact.eq (.agg #[.bool b2, .slice A2 n2 c2, .slice D2 m2 e2]), Fact.rat (r0 * r2) (12 + 12), Fact.rat (r0 * r1 + r0 * r2) (24 + 24 + 1), Fact.eq (.int .i64 0), Fact.eq (.bool false), Fact.eq (.bool false)] [Fact.any, Fact.any, Fact.any, Fact.any, Fact.any, Fact.any] [⟨30, 3, 24, 30, #[.bool b0, .slice A0 n0 c0, .slice D0 m0 e0]⟩, ⟨30, 4, 24, 30, #[.bool b1, .slice A1 n1 c1, .slice D1 m1 e1]⟩, ⟨30, 5, 24, 30, #[.bool b2, .slice A2 n2 c2, .slice D2 m2 e2]⟩, ⟨30, 7, 24, 30, #[.bool sg7, .slice P7 Pn7 Pc7, .slice R7 Rn7 Rc7]⟩, ⟨30, 8, 24, 30, #[.bool sg8, .slice P8 Pn8 Pc8, .slice R8 Rn8 Rc8]⟩, ⟨30, 9, 24, 30, #[.bool sg9, .slice P9 Pn9 Pc9, .slice R9 Rn9 Rc9]⟩] [w.heap.size, w.heap.size + 1, w.heap.size + 2, g7, g8, g9] [none, none, none, none, none, none, none, none, none, none, none, none, none, none, none, none, none, none, none, none, none, none, none, none, none, none, none, none, none, none, none, none, none, none, none, none, none, none, none, none, none, none, none, none, none, none, none, none, none, none, none, none, none, none, none, none, none, none, none, none, none, none, none, none, none, some 65, some 66, some 67, some 68, some 69, some 70, some 71, some 72, some 73, some 74, some 75, some 76, some 77, some 78, some 79, some 80, some 81, some 82, some 83, some 84, some 85, some 86, some 87, some 88, some 89, some 90, some 91, some 92, some 93, some 94, none, none, none, none, none, none, none, none, none, none, none, none, none, none, none, none, none, none, none, none, none, none, none, none, none, none, none, none] (by kernel_rfl) (by kernel_rfl) (by kernel_rfl) rfl B ?_ ?_ ?_ ?_ ?_
      · exact ⟨fun _ => ⟨by simp, rfl, OB3⟩, fun _ => ⟨by simp, rfl, OB4⟩, fun _ => ⟨by simp, rfl, OB5⟩, fun _ => ⟨by simp, rfl, OB7⟩, fun _ => ⟨by simp, rfl, OB8⟩, fun _ => ⟨by simp, rfl, OB9⟩, trivial⟩
      · exact .inl ⟨Nat.le_refl _, Nat.le_refl _, Nat.le_refl _, Nat.le_refl _, Nat.le_refl _, Nat.le_refl _, trivial⟩
      · exact ⟨⟨noWords_R _ _ _ _ _ _ _, (.inl (Nat.le_refl _)), (.inl (Nat.le_refl _))⟩, ⟨noWords_R _ _ _ _ _ _ _, (.inl (Nat.le_refl _)), (.inl (Nat.le_refl _))⟩, ⟨noWords_R _ _ _ _ _ _ _, (.inl (Nat.le_refl _)), (.inl (Nat.le_refl _))⟩, ⟨noWords_R _ _ _ _ _ _ _, (.inl (Nat.le_refl _)), (.inl (Nat.le_refl _))⟩, ⟨noWords_R _ _ _ _ _ _ _, (.inl (Nat.le_refl _)), (.inl (Nat.le_refl _))⟩, ⟨noWords_R _ _ _ _ _ _ _, (.inl (Nat.le_refl _)), (.inl (Nat.le_refl _))⟩, trivial⟩
      · refine ⟨?_, ?_, ?_, ?_, ?_, ?_, ?_, ?_, ?_, ?_, ?_, ?_, ?_, ?_, ?_, ?_, ?_, ?_, ?_, ?_, ?_, ?_, ?_, ?_, ?_, ?_, ?_, ?_, ?_, ?_, trivial⟩
        · exact .inr fun a w hp => ob_yes rfl (ob_loadR (hp.box (k := 5) rfl (Nat.le_refl _) (.inl (Nat.le_refl _)) (by kernel_rfl) rfl).1 (hp.box (k := 5) rfl (Nat.le_refl _) (.inl (Nat.le_refl _)) (by kernel_rfl) rfl).2 rfl)
        · exact .inr fun a w hp => ob_yes rfl (ob_loadR (hp.box (k := 1) rfl (Nat.le_refl _) (.inl (Nat.le_refl _)) (by kernel_rfl) rfl).1 (hp.box (k := 1) rfl (Nat.le_refl _) (.inl (Nat.le_refl _)) (by kernel_rfl) rfl).2 rfl)
        · exact .inr fun a w hp => ob_yes rfl (ob_loadR (hp.box (k := 0) rfl (Nat.le_refl _) (.inl (Nat.le_refl _)) (by kernel_rfl) rfl).1 (hp.box (k := 0) rfl (Nat.le_refl _) (.inl (Nat.le_refl _)) (by kernel_rfl) rfl).2 rfl)
        · refine .inr fun a w hp => ob_yes rfl ?_
          have h66 : a.tmps.getD 66 undef = .agg #[.bool b1, .slice A1 n1 c1, .slice D1 m1 e1] := (hp.fact 1 66 (by kernel_rfl) rfl)
          have h67 : a.tmps.getD 67 undef = .agg #[.bool b0, .slice A0 n0 c0, .slice D0 m0 e0] := (hp.fact 2 67 (by kernel_rfl) rfl)
          unfold Does
          go_simp
          refine (mulr_any _ _ _ _ _ 12 ((F1.on hp.on).wide (by decide)) ((F0.on hp.on).wide (by decide)) (by decide) (by decide)).mono ?_
          rintro e w' ⟨u, rfl, I8, P8⟩
          exact ⟨_, rfl, P8, I8⟩
        · refine .inr fun a w hp => ob_yes rfl ?_
          have h65 : a.tmps.getD 65 undef = .agg #[.bool sg9, .slice P9 Pn9 Pc9, .slice R9 Rn9 Rc9] := (hp.fact 0 65 (by kernel_rfl) rfl)
          have h68 : IsR w (a.tmps.getD 68 undef) (r1 * r0) (12 + 12) := (hp.fact 3 68 (by kernel_rfl) rfl)
          obtain ⟨v68, e68⟩ : ∃ v, a.tmps.getD 68 undef = v := ⟨_, rfl⟩
          rw [e68] at h68
          unfold Does
          go_simp
          refine (cmpr_any _ _ _ _ _ 24 ((IsR.fld (I9.kept hp.kept)).wide (by decide)) ((IsR.fld h68).wide (by decide)) (by decide)).mono ?_
          rintro e w' ⟨rfl, P8⟩
          rw [HM1.out]
          exact ⟨_, rfl, P8, rfl⟩
        · refine .inr fun a w hp => ob_yes rfl ?_
          have h69 : a.tmps.getD 69 undef = .int .i64 0 := (hp.fact 4 69 (by kernel_rfl) rfl)
          unfold Does
          go_simp
          exact ⟨_, rfl, On.refl _, by show Value.bool _ = Value.bool _; first | rfl | (simp; done)⟩
        · exact .inr fun a w hp => ob_yes rfl (ob_move (hp.fact 5 70 (by kernel_rfl) rfl))
        · exact .inr fun a w hp => ob_yes (wanted_yes (P := Try.prog) (j := 6) (d := 71) (b := false) rfl rfl (hp.fact 6 71 (by kernel_rfl) rfl)) (ob_loadR (hp.box (k := 5) rfl (Nat.le_refl _) (.inl (Nat.le_refl _)) (by kernel_rfl) rfl).1 (hp.box (k := 5) rfl (Nat.le_refl _) (.inl (Nat.le_refl _)) (by kernel_rfl) rfl).2 rfl)
        · exact .inr fun a w hp => ob_yes (wanted_yes (P := Try.prog) (j := 6) (d := 71) (b := false) rfl rfl (hp.fact 6 71 (by kernel_rfl) rfl)) (ob_loadR (hp.box (k := 2) rfl (Nat.le_refl _) (.inl (Nat.le_refl _)) (by kernel_rfl) rfl).1 (hp.box (k := 2) rfl (Nat.le_refl _) (.inl (Nat.le_refl _)) (by kernel_rfl) rfl).2 rfl)
        · refine .inr fun a w hp => ob_yes (wanted_yes (P := Try.prog) (j := 6) (d := 71) (b := false) rfl rfl (hp.fact 6 71 (by kernel_rfl) rfl)) ?_
          have h72 : a.tmps.getD 72 undef = .agg #[.bool sg9, .slice P9 Pn9 Pc9, .slice R9 Rn9 Rc9] := (hp.fact 7 72 (by kernel_rfl) rfl)
          have h73 : a.tmps.getD 73 undef = .agg #[.bool b2, .slice A2 n2 c2, .slice D2 m2 e2] := (hp.fact 8 73 (by kernel_rfl) rfl)
          unfold Does
          go_simp
          refine (mulr_any _ _ _ _ _ 24 ((IsR.fld (I9.kept hp.kept)).wide (by decide)) ((F2.on hp.on).wide (by decide)) (by decide) (by decide)).mono ?_
          rintro e w' ⟨u, rfl, I8, P8⟩
          exact ⟨_, rfl, P8, I8⟩
        · exact .inr fun a w hp => ob_yes (wanted_yes (P := Try.prog) (j := 6) (d := 71) (b := false) rfl rfl (hp.fact 6 71 (by kernel_rfl) rfl)) (ob_loadR (hp.box (k := 0) rfl (Nat.le_refl _) (.inl (Nat.le_refl _)) (by kernel_rfl) rfl).1 (hp.box (k := 0) rfl (Nat.le_refl _) (.inl (Nat.le_refl _)) (by kernel_rfl) rfl).2 rfl)
        · exact .inr fun a w hp => ob_yes (wanted_yes (P := Try.prog) (j := 6) (d := 71) (b := false) rfl rfl (hp.fact 6 71 (by kernel_rfl) rfl)) (ob_loadR (hp.box (k := 1) rfl (Nat.le_refl _) (.inl (Nat.le_refl _)) (by kernel_rfl) rfl).1 (hp.box (k := 1) rfl (Nat.le_refl _) (.inl (Nat.le_refl _)) (by kernel_rfl) rfl).2 rfl)
        · exact .inr fun a w hp => ob_yes (wanted_yes (P := Try.prog) (j := 6) (d := 71) (b := false) rfl rfl (hp.fact 6 71 (by kernel_rfl) rfl)) (ob_loadR (hp.box (k := 2) rfl (Nat.le_refl _) (.inl (Nat.le_refl _)) (by kernel_rfl) rfl).1 (hp.box (k := 2) rfl (Nat.le_refl _) (.inl (Nat.le_refl _)) (by kernel_rfl) rfl).2 rfl)
        · refine .inr fun a w hp => ob_yes (wanted_yes (P := Try.prog) (j := 6) (d := 71) (b := false) rfl rfl (hp.fact 6 71 (by kernel_rfl) rfl)) ?_
          have h76 : a.tmps.getD 76 undef = .agg #[.bool b1, .slice A1 n1 c1, .slice D1 m1 e1] := (hp.fact 11 76 (by kernel_rfl) rfl)
          have h77 : a.tmps.getD 77 undef = .agg #[.bool b2, .slice A2 n2 c2, .slice D2 m2 e2] := (hp.fact 12 77 (by kernel_rfl) rfl)
          unfold Does
          go_simp
          refine (mulr_any _ _ _ _ _ 12 ((F1.on hp.on).wide (by decide)) ((F2.on hp.on).wide (by decide)) (by decide) (by decide)).mono ?_
          rintro e w' ⟨u, rfl, I8, P8⟩
          exact ⟨_, rfl, P8, I8⟩
        · refine .inr fun a w hp => ob_yes (wanted_yes (P := Try.prog) (j := 6) (d := 71) (b := false) rfl rfl (hp.fact 6 71 (by kernel_rfl) rfl)) ?_
          have h75 : a.tmps.getD 75 undef = .agg #[.bool b0, .slice A0 n0 c0, .slice D0 m0 e0] := (hp.fact 10 75 (by kernel_rfl) rfl)
          have h78 : IsR w (a.tmps.getD 78 undef) (r1 * r2) (12 + 12) := (hp.fact 13 78 (by kernel_rfl) rfl)
          obtain ⟨v78, e78⟩ : ∃ v, a.tmps.getD 78 undef = v := ⟨_, rfl⟩
          rw [e78] at h78
          unfold Does
          go_simp
          refine (mulr_any _ _ _ _ _ 24 ((F0.on hp.on).wide (by decide)) ((IsR.fld h78).wide (by decide)) (by decide) (by decide)).mono ?_
          rintro e w' ⟨u, rfl, I8, P8⟩
          exact ⟨_, rfl, P8, I8⟩
        · refine .inr fun a w hp => ob_yes (wanted_yes (P := Try.prog) (j := 6) (d := 71) (b := false) rfl rfl (hp.fact 6 71 (by kernel_rfl) rfl)) ?_
          have h74 : IsR w (a.tmps.getD 74 undef) ((r0 * r1) * r2) (24 + 24) := (hp.fact 9 74 (by kernel_rfl) rfl)
          obtain ⟨v74, e74⟩ : ∃ v, a.tmps.getD 74 undef = v := ⟨_, rfl⟩
          rw [e74] at h74
          have h79 : IsR w (a.tmps.getD 79 undef) (r0 * (r1 * r2)) (24 + 24) := (hp.fact 14 79 (by kernel_rfl) rfl)
          obtain ⟨v79, e79⟩ : ∃ v, a.tmps.getD 79 undef = v := ⟨_, rfl⟩
          rw [e79] at h79
          unfold Does
          go_simp
          refine (cmpr_any _ _ _ _ _ 48 ((IsR.fld h74).wide (by decide)) ((IsR.fld h79).wide (by decide)) (by decide)).mono ?_
          rintro e w' ⟨rfl, P8⟩
          rw [HM2.out]
          exact ⟨_, rfl, P8, rfl⟩
        · refine .inr fun a w hp => ob_yes (wanted_yes (P := Try.prog) (j := 6) (d := 71) (b := false) rfl rfl (hp.fact 6 71 (by kernel_rfl) rfl)) ?_
          have h80 : a.tmps.getD 80 undef = .int .i64 0 := (hp.fact 15 80 (by kernel_rfl) rfl)
          unfold Does
          go_simp
          exact ⟨_, rfl, On.refl _, by show Value.bool _ = Value.bool _; first | rfl | (simp; done)⟩
        · refine .inr fun a w hp => ob_yes rfl ?_
          have h71 : a.tmps.getD 71 undef = .bool false := (hp.fact 6 71 (by kernel_rfl) rfl)
          have h81 : a.tmps.getD 81 undef = .bool false := (hp.fact 16 81 (by kernel_rfl) rfl)
          unfold Does
          go_simp
          exact ⟨_, rfl, On.refl _, rfl⟩
        · exact .inr fun a w hp => ob_yes rfl (ob_move (hp.fact 17 82 (by kernel_rfl) rfl))
        · exact .inr fun a w hp => ob_yes (wanted_yes (P := Try.prog) (j := 18) (d := 83) (b := false) rfl rfl (hp.fact 18 83 (by kernel_rfl) rfl)) (ob_loadR (hp.box (k := 0) rfl (Nat.le_refl _) (.inl (Nat.le_refl _)) (by kernel_rfl) rfl).1 (hp.box (k := 0) rfl (Nat.le_refl _) (.inl (Nat.le_refl _)) (by kernel_rfl) rfl).2 rfl)
        · exact .inr fun a w hp => ob_yes (wanted_yes (P := Try.prog) (j := 18) (d := 83) (b := false) rfl rfl (hp.fact 18 83 (by kernel_rfl) rfl)) (ob_loadR (hp.box (k := 4) rfl (Nat.le_refl _) (.inl (Nat.le_refl _)) (by kernel_rfl) rfl).1 (hp.box (k := 4) rfl (Nat.le_refl _) (.inl (Nat.le_refl _)) (by kernel_rfl) rfl).2 rfl)
        · refine .inr fun a w hp => ob_yes (wanted_yes (P := Try.prog) (j := 18) (d := 83) (b := false) rfl rfl (hp.fact 18 83 (by kernel_rfl) rfl)) ?_
          have h84 : a.tmps.getD 84 undef = .agg #[.bool b0, .slice A0 n0 c0, .slice D0 m0 e0] := (hp.fact 19 84 (by kernel_rfl) rfl)
          have h85 : a.tmps.getD 85 undef = .agg #[.bool sg8, .slice P8 Pn8 Pc8, .slice R8 Rn8 Rc8] := (hp.fact 20 85 (by kernel_rfl) rfl)
          unfold Does
          go_simp
          refine (mulr_any _ _ _ _ _ 25 ((F0.on hp.on).wide (by decide)) ((IsR.fld (I8.kept hp.kept)).wide (by decide)) (by decide) (by decide)).mono ?_
          rintro e w' ⟨u, rfl, I8, P8⟩
          exact ⟨_, rfl, P8, I8⟩
        · exact .inr fun a w hp => ob_yes (wanted_yes (P := Try.prog) (j := 18) (d := 83) (b := false) rfl rfl (hp.fact 18 83 (by kernel_rfl) rfl)) (ob_loadR (hp.box (k := 5) rfl (Nat.le_refl _) (.inl (Nat.le_refl _)) (by kernel_rfl) rfl).1 (hp.box (k := 5) rfl (Nat.le_refl _) (.inl (Nat.le_refl _)) (by kernel_rfl) rfl).2 rfl)
        · exact .inr fun a w hp => ob_yes (wanted_yes (P := Try.prog) (j := 18) (d := 83) (b := false) rfl rfl (hp.fact 18 83 (by kernel_rfl) rfl)) (ob_loadR (hp.box (k := 0) rfl (Nat.le_refl _) (.inl (Nat.le_refl _)) (by kernel_rfl) rfl).1 (hp.box (k := 0) rfl (Nat.le_refl _) (.inl (Nat.le_refl _)) (by kernel_rfl) rfl).2 rfl)
        · exact .inr fun a w hp => ob_yes (wanted_yes (P := Try.prog) (j := 18) (d := 83) (b := false) rfl rfl (hp.fact 18 83 (by kernel_rfl) rfl)) (ob_loadR (hp.box (k := 2) rfl (Nat.le_refl _) (.inl (Nat.le_refl _)) (by kernel_rfl) rfl).1 (hp.box (k := 2) rfl (Nat.le_refl _) (.inl (Nat.le_refl _)) (by kernel_rfl) rfl).2 rfl)
        · refine .inr fun a w hp => ob_yes (wanted_yes (P := Try.prog) (j := 18) (d := 83) (b := false) rfl rfl (hp.fact 18 83 (by kernel_rfl) rfl)) ?_
          have h88 : a.tmps.getD 88 undef = .agg #[.bool b0, .slice A0 n0 c0, .slice D0 m0 e0] := (hp.fact 23 88 (by kernel_rfl) rfl)
          have h89 : a.tmps.getD 89 undef = .agg #[.bool b2, .slice A2 n2 c2, .slice D2 m2 e2] := (hp.fact 24 89 (by kernel_rfl) rfl)
          unfold Does
          go_simp
          refine (mulr_any _ _ _ _ _ 12 ((F0.on hp.on).wide (by decide)) ((F2.on hp.on).wide (by decide)) (by decide) (by decide)).mono ?_
          rintro e w' ⟨u, rfl, I8, P8⟩
          exact ⟨_, rfl, P8, I8⟩
        · refine .inr fun a w hp => ob_yes (wanted_yes (P := Try.prog) (j := 18) (d := 83) (b := false) rfl rfl (hp.fact 18 83 (by kernel_rfl) rfl)) ?_
          have h87 : a.tmps.getD 87 undef = .agg #[.bool sg9, .slice P9 Pn9 Pc9, .slice R9 Rn9 Rc9] := (hp.fact 22 87 (by kernel_rfl) rfl)
          have h90 : IsR w (a.tmps.getD 90 undef) (r0 * r2) (12 + 12) := (hp.fact 25 90 (by kernel_rfl) rfl)
          obtain ⟨v90, e90⟩ : ∃ v, a.tmps.getD 90 undef = v := ⟨_, rfl⟩
          rw [e90] at h90
          unfold Does
          go_simp
          refine (addr_any _ _ _ _ _ 24 ((IsR.fld (I9.kept hp.kept)).wide (by decide)) ((IsR.fld h90).wide (by decide)) (by decide) (by decide)).mono ?_
          rintro e w' ⟨u, rfl, I8, P8⟩
          exact ⟨_, rfl, P8, I8⟩
        · refine .inr fun a w hp => ob_yes (wanted_yes (P := Try.prog) (j := 18) (d := 83) (b := false) rfl rfl (hp.fact 18 83 (by kernel_rfl) rfl)) ?_
          have h86 : IsR w (a.tmps.getD 86 undef) (r0 * (r1 + r2)) (25 + 25) := (hp.fact 21 86 (by kernel_rfl) rfl)
          obtain ⟨v86, e86⟩ : ∃ v, a.tmps.getD 86 undef = v := ⟨_, rfl⟩
          rw [e86] at h86
          have h91 : IsR w (a.tmps.getD 91 undef) (r0 * r1 + r0 * r2) (24 + 24 + 1) := (hp.fact 26 91 (by kernel_rfl) rfl)
          obtain ⟨v91, e91⟩ : ∃ v, a.tmps.getD 91 undef = v := ⟨_, rfl⟩
          rw [e91] at h91
          unfold Does
          go_simp
          refine (cmpr_any _ _ _ _ _ 50 ((IsR.fld h86).wide (by decide)) ((IsR.fld h91).wide (by decide)) (by decide)).mono ?_
          rintro e w' ⟨rfl, P8⟩
          rw [HM3.out]
          exact ⟨_, rfl, P8, rfl⟩
        · refine .inr fun a w hp => ob_yes (wanted_yes (P := Try.prog) (j := 18) (d := 83) (b := false) rfl rfl (hp.fact 18 83 (by kernel_rfl) rfl)) ?_
          have h92 : a.tmps.getD 92 undef = .int .i64 0 := (hp.fact 27 92 (by kernel_rfl) rfl)
          unfold Does
          go_simp
          exact ⟨_, rfl, On.refl _, by show Value.bool _ = Value.bool _; first | rfl | (simp; done)⟩
        · refine .inr fun a w hp => ob_yes rfl ?_
          have h83 : a.tmps.getD 83 undef = .bool false := (hp.fact 18 83 (by kernel_rfl) rfl)
          have h93 : a.tmps.getD 93 undef = .bool false := (hp.fact 28 93 (by kernel_rfl) rfl)
          unfold Does
          go_simp
          exact ⟨_, rfl, On.refl _, rfl⟩
      · intro f wg hon hk hf hb hap
        obtain ⟨q0, q1, q2, q3, q4, q5, qz⟩ := hb
        clear qz
        have O3 : Own wg (w.heap.size) 24 #[.bool b0, .slice A0 n0 c0, .slice D0 m0 e0] := q0
        have c3_0 : wg.cell? ⟨w.heap.size, 0, none⟩ = some (.bool b0) := O3.cell 0
        have z3_0 := O3.frozen 0
        have c3_1 : wg.cell? ⟨w.heap.size, 1, none⟩ = some (.slice A0 n0 c0) := O3.cell 1
        have z3_1 := O3.frozen 1
        have c3_2 : wg.cell? ⟨w.heap.size, 2, none⟩ = some (.slice D0 m0 e0) := O3.cell 2
        have z3_2 := O3.frozen 2
        clear q0
        have O4 : Own wg (w.heap.size + 1) 24 #[.bool b1, .slice A1 n1 c1, .slice D1 m1 e1] := q1
        have c4_0 : wg.cell? ⟨w.heap.size + 1, 0, none⟩ = some (.bool b1) := O4.cell 0
        have z4_0 := O4.frozen 0
        have c4_1 : wg.cell? ⟨w.heap.size + 1, 1, none⟩ = some (.slice A1 n1 c1) := O4.cell 1
        have z4_1 := O4.frozen 1
        have c4_2 : wg.cell? ⟨w.heap.size + 1, 2, none⟩ = some (.slice D1 m1 e1) := O4.cell 2
        have z4_2 := O4.frozen 2
        clear q1
        have O5 : Own wg (w.heap.size + 2) 24 #[.bool b2, .slice A2 n2 c2, .slice D2 m2 e2] := q2
        have c5_0 : wg.cell? ⟨w.heap.size + 2, 0, none⟩ = some (.bool b2) := O5.cell 0
        have z5_0 := O5.frozen 0
        have c5_1 : wg.cell? ⟨w.heap.size + 2, 1, none⟩ = some (.slice A2 n2 c2) := O5.cell 1
        have z5_1 := O5.frozen 1
        have c5_2 : wg.cell? ⟨w.heap.size + 2, 2, none⟩ = some (.slice D2 m2 e2) := O5.cell 2
        have z5_2 := O5.frozen 2
        clear q2
        have O7 : Own wg (g7) 24 #[.bool sg7, .slice P7 Pn7 Pc7, .slice R7 Rn7 Rc7] := q3
        have c7_0 : wg.cell? ⟨g7, 0, none⟩ = some (.bool sg7) := O7.cell 0
        have z7_0 := O7.frozen 0
        have c7_1 : wg.cell? ⟨g7, 1, none⟩ = some (.slice P7 Pn7 Pc7) := O7.cell 1
        have z7_1 := O7.frozen 1
        have c7_2 : wg.cell? ⟨g7, 2, none⟩ = some (.slice R7 Rn7 Rc7) := O7.cell 2
        have z7_2 := O7.frozen 2
        clear q3
        have O8 : Own wg (g8) 24 #[.bool sg8, .slice P8 Pn8 Pc8, .slice R8 Rn8 Rc8] := q4
        have c8_0 : wg.cell? ⟨g8, 0, none⟩ = some (.bool sg8) := O8.cell 0
        have z8_0 := O8.frozen 0
        have c8_1 : wg.cell? ⟨g8, 1, none⟩ = some (.slice P8 Pn8 Pc8) := O8.cell 1
        have z8_1 := O8.frozen 1
        have c8_2 : wg.cell? ⟨g8, 2, none⟩ = some (.slice R8 Rn8 Rc8) := O8.cell 2
        have z8_2 := O8.frozen 2
        clear q4
        have O9 : Own wg (g9) 24 #[.bool sg9, .slice P9 Pn9 Pc9, .slice R9 Rn9 Rc9] := q5
        have c9_0 : wg.cell? ⟨g9, 0, none⟩ = some (.bool sg9) := O9.cell 0
        have z9_0 := O9.frozen 0
        have c9_1 : wg.cell? ⟨g9, 1, none⟩ = some (.slice P9 Pn9 Pc9) := O9.cell 1
        have z9_1 := O9.frozen 1
        have c9_2 : wg.cell? ⟨g9, 2, none⟩ = some (.slice R9 Rn9 Rc9) := O9.cell 2
        have z9_2 := O9.frozen 2
        clear q5
        have e94 : f 94 = .bool false := hf 29 94 rfl
        clear hf hap
        simp only [fillL, e94]
        clear e94
        replace I9 := I9.kept hk
        clear hk
        clear c3_0 z3_0 c3_1 z3_1 c3_2 z3_2 c5_0 z5_0 c5_1 z5_1 c5_2 z5_2 c7_0 z7_0 c7_1 z7_1 c7_2 z7_2 c8_0 z8_0 c8_1 z8_1 c8_2 z8_2
        clear B
        go_wp2_with fail
        refine (divr_ok _ _ _ _ _ 24 ((IsR.fld I9).wide (by decide)) ((F1.on hon).wide (by decide)) (by decide) (by decide) HZ.out).mono ?_
        rintro e wh ⟨v, rfl, IQ, P8⟩
        have hcan : r0 * r1 * r1⁻¹ = r0 := by rw [Rat.mul_assoc, Rat.mul_inv_cancel _ HZ.out, Rat.mul_one]
        rw [hcan] at IQ
        clear hcan
        obtain ⟨Q1, Qn, Qc, _, Q2, Qm, Qd, _, rfl, _⟩ := id IQ
        clear c4_0 z4_0 c4_1 z4_1 c4_2 z4_2 c9_0 z9_0 c9_1 z9_1 c9_2 z9_2
        replace O3 := O3.on P8
        replace O4 := O4.on P8
        replace O9 := O9.on P8
        obtain ⟨sq, hsq⟩ : ∃ x, decide ((r0 : Rat) < 0) = x := ⟨_, rfl⟩
        rw [hsq] at IQ
        try rw [hsq]
        clear hsq
        have PQ := (On.refl wh).alloc (.cells #[.bool sq, .slice Q1 Qn Qc, .slice Q2 Qm Qd] 24)
        replace O4 := O4.on PQ
        have c4_0 : (wh.alloc (.cells #[.bool sq, .slice Q1 Qn Qc, .slice Q2 Qm Qd] 24)).cell? ⟨w.heap.size + 1, 0, none⟩ = some (.bool b1) := O4.cell 0
        have c4_1 : (wh.alloc (.cells #[.bool sq, .slice Q1 Qn Qc, .slice Q2 Qm Qd] 24)).cell? ⟨w.heap.size + 1, 1, none⟩ = some (.slice A1 n1 c1) := O4.cell 1
        have c4_2 : (wh.alloc (.cells #[.bool sq, .slice Q1 Qn Qc, .slice Q2 Qm Qd] 24)).cell? ⟨w.heap.size + 1, 2, none⟩ = some (.slice D1 m1 e1) := O4.cell 2
        go_wp2_with fail
        refine (signr_any _ _ r1 12 (((F1.on hon).on P8).on PQ) (by decide)).mono ?_
        rintro e wi ⟨rfl, PP9⟩
        have OQ := Own.new wh 24 #[.bool sq, .slice Q1 Qn Qc, .slice Q2 Qm Qd]
        replace OQ := OQ.on PP9
        replace O3 := (O3.on PQ).on PP9
        replace O9 := (O9.on PQ).on PP9
        replace IQ := (IQ.on PQ).on PP9
        have I9' := ((I9.on P8).on PQ).on PP9
        have honi := ((hon.trans P8).trans PQ).trans PP9
        clear c4_0 c4_1 c4_2
        obtain ⟨k1, ek1⟩ : ∃ x, rsg r1 = x := ⟨_, rfl⟩
        have hb1 : (k1 == 0) = false := by rw [← ek1]; simp; exact fun e => HZ.out ((rsg_zero_iff _).1 e)
        rw [ek1]
        clear ek1
        have q0 : wi.cell? ⟨wh.heap.size, 0, none⟩ = some (.bool sq) := OQ.cell 0
        have q1 : wi.cell? ⟨wh.heap.size, 1, none⟩ = some (.slice Q1 Qn Qc) := OQ.cell 1
        have q2 : wi.cell? ⟨wh.heap.size, 2, none⟩ = some (.slice Q2 Qm Qd) := OQ.cell 2
        go_wp2_with fail
        refine (valid_isR _ _ _ _ IQ (by decide)).mono ?_
        rintro e wj ⟨rfl, P10⟩
        clear q0 q1 q2
        replace OQ := OQ.on P10
        replace O3 := O3.on P10
        have q0 : wj.cell? ⟨wh.heap.size, 0, none⟩ = some (.bool sq) := OQ.cell 0
        have q1 : wj.cell? ⟨wh.heap.size, 1, none⟩ = some (.slice Q1 Qn Qc) := OQ.cell 1
        have q2 : wj.cell? ⟨wh.heap.size, 2, none⟩ = some (.slice Q2 Qm Qd) := OQ.cell 2
        have c3_0 : wj.cell? ⟨w.heap.size, 0, none⟩ = some (.bool b0) := O3.cell 0
        have c3_1 : wj.cell? ⟨w.heap.size, 1, none⟩ = some (.slice A0 n0 c0) := O3.cell 1
        have c3_2 : wj.cell? ⟨w.heap.size, 2, none⟩ = some (.slice D0 m0 e0) := O3.cell 2
        go_wp2_with fail
        refine (cmpr_any _ _ _ _ _ 48 ((IsR.fld (IQ.on P10)).wide (by decide)) ((F0.on (honi.trans P10)).wide (by decide)) (by decide)).mono ?_
        rintro e wk ⟨rfl, P11⟩
        rw [rsg_eq rfl]
        go_wp2
        go_ret
        exact ⟨rfl, (honi.trans P10).trans P11⟩
theorem field_small (w : World) (hx : MX w) (b0 : Bool) (A0 D0 : Option Addr) (n0 c0 m0 e0 : Nat) (x0 y0 : List Nat) (R0 : Rd w A0 n0 c0 x0) (S0 : Rd w D0 m0 e0 y0) (b1 : Bool) (A1 D1 : Option Addr) (n1 c1 m1 e1 : Nat) (x1 y1 : List Nat) (R1 : Rd w A1 n1 c1 x1) (S1 : Rd w D1 m1 e1 y1) (b2 : Bool) (A2 D2 : Option Addr) (n2 c2 m2 e2 : Nat) (x2 y2 : List Nat) (R2 : Rd w A2 n2 c2 x2) (S2 : Rd w D2 m2 e2 y2) (hs : n0 ≤ 12 ∧ m0 ≤ 12 ∧ n1 ≤ 12 ∧ m1 ≤ 12 ∧ n2 ≤ 12 ∧ m2 ≤ 12) :
    Calls Try.prog 5 #[.agg #[.bool b0, .slice A0 n0 c0, .slice D0 m0 e0], .agg #[.bool b1, .slice A1 n1 c1, .slice D1 m1 e1], .agg #[.bool b2, .slice A2 n2 c2, .slice D2 m2 e2]] w fun e w' => e = .returned (.bool true) ∧ On w w' := by
  by_cases hz : raw b1 x1 y1 = 0
  · exact field_zero w hx b0 A0 D0 n0 c0 m0 e0 x0 y0 R0 S0 b1 A1 D1 n1 c1 m1 e1 x1 y1 R1 S1 b2 A2 D2 n2 c2 m2 e2 x2 y2 R2 S2 hs hz
  · exact field_ne w hx b0 A0 D0 n0 c0 m0 e0 x0 y0 R0 S0 b1 A1 D1 n1 c1 m1 e1 x1 y1 R1 S1 b2 A2 D2 n2 c2 m2 e2 x2 y2 R2 S2 hs hz
theorem field_any (w : World) (hx : MX w) (b0 : Bool) (A0 D0 : Option Addr) (n0 c0 m0 e0 : Nat) (x0 y0 : List Nat) (R0 : Rd w A0 n0 c0 x0) (S0 : Rd w D0 m0 e0 y0) (b1 : Bool) (A1 D1 : Option Addr) (n1 c1 m1 e1 : Nat) (x1 y1 : List Nat) (R1 : Rd w A1 n1 c1 x1) (S1 : Rd w D1 m1 e1 y1) (b2 : Bool) (A2 D2 : Option Addr) (n2 c2 m2 e2 : Nat) (x2 y2 : List Nat) (R2 : Rd w A2 n2 c2 x2) (S2 : Rd w D2 m2 e2 y2)  :
    Calls Try.prog 5 #[.agg #[.bool b0, .slice A0 n0 c0, .slice D0 m0 e0], .agg #[.bool b1, .slice A1 n1 c1, .slice D1 m1 e1], .agg #[.bool b2, .slice A2 n2 c2, .slice D2 m2 e2]] w fun e w' => e = .returned (.bool true) ∧ On w w' := by
  by_cases hs : n0 ≤ 12 ∧ m0 ≤ 12 ∧ n1 ≤ 12 ∧ m1 ≤ 12 ∧ n2 ≤ 12 ∧ m2 ≤ 12
  · exact field_small w hx b0 A0 D0 n0 c0 m0 e0 x0 y0 R0 S0 b1 A1 D1 n1 c1 m1 e1 x1 y1 R1 S1 b2 A2 D2 n2 c2 m2 e2 x2 y2 R2 S2  hs
  · have : ∃ (mi : Nat) (qi : Nat × Nat), [(n0, m0), (n1, m1), (n2, m2)][mi]? = some qi ∧ (12 < qi.1 ∨ 12 < qi.2) := by
      by_cases h0 : 12 < n0 ∨ 12 < m0
      · exact ⟨0, _, rfl, h0⟩
      by_cases h1 : 12 < n1 ∨ 12 < m1
      · exact ⟨1, _, rfl, h1⟩
      by_cases h2 : 12 < n2 ∨ 12 < m2
      · exact ⟨2, _, rfl, h2⟩
      omega
    obtain ⟨mi, qi, h1, h2⟩ := this
    exact field_large w hx b0 A0 D0 n0 c0 m0 e0 x0 y0 R0 S0 b1 A1 D1 n1 c1 m1 e1 x1 y1 R1 S1 b2 A2 D2 n2 c2 m2 e2 x2 y2 R2 S2  mi qi h1 h2
end Num
end Go.Proofs.Ytikmjlaeadockaa
