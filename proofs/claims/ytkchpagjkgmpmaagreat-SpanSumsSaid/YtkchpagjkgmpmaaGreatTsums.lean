/-
  SpanSums, walked.
-/
import Derived.Test.YtkchpagjkgmpmaaGreatSrc
import Derived.Test.YtkchpagjkgmpmaaGreatSrfa
namespace Go.Proofs.YtkchpagjkgmpmaaGreat
open Go.RowKit
set_option linter.unusedVariables false
namespace Num
set_option maxRecDepth 100000 in
set_option maxHeartbeats 1600000 in
theorem sums_large (w : World) (ba0 : Bool) (Aa0 : Option Addr) (na0 ca0 : Nat) (Ba0 : Option Addr) (ma0 oa0 : Nat) (bb0 : Bool) (Ab0 : Option Addr) (nb0 cb0 : Nat) (Bb0 : Option Addr) (mb0 ob0 : Nat) (xs0 ys0 us0 vs0 : List Nat) (R0 : Rd w Aa0 na0 ca0 xs0) (S0 : Rd w Ba0 ma0 oa0 ys0) (U0 : Rd w Ab0 nb0 cb0 us0) (V0 : Rd w Bb0 mb0 ob0 vs0) (ba1 : Bool) (Aa1 : Option Addr) (na1 ca1 : Nat) (Ba1 : Option Addr) (ma1 oa1 : Nat) (bb1 : Bool) (Ab1 : Option Addr) (nb1 cb1 : Nat) (Bb1 : Option Addr) (mb1 ob1 : Nat) (xs1 ys1 us1 vs1 : List Nat) (R1 : Rd w Aa1 na1 ca1 xs1) (S1 : Rd w Ba1 ma1 oa1 ys1) (U1 : Rd w Ab1 nb1 cb1 us1) (V1 : Rd w Bb1 mb1 ob1 vs1)  (mi : Nat) (qi : Nat × Nat × Nat × Nat) (hmi : [(na0, ma0, nb0, mb0), (na1, ma1, nb1, mb1)][mi]? = some qi) (hyi : Big qi) :
    Calls Tryz.prog 4 #[.agg #[.bool ba0, .slice Aa0 na0 ca0, .slice Ba0 ma0 oa0, .bool bb0, .slice Ab0 nb0 cb0, .slice Bb0 mb0 ob0], .agg #[.bool ba1, .slice Aa1 na1 ca1, .slice Ba1 ma1 oa1, .bool bb1, .slice Ab1 nb1 cb1, .slice Bb1 mb1 ob1]] w fun e w' => e = .returned (.bool true) ∧ On w w' := by
  have HMI := Lib.hid hmi
  have HYI := Lib.hid hyi
  clear hmi hyi
  have B : On w ((w.alloc (.cells #[.bool ba0, .slice Aa0 na0 ca0, .slice Ba0 ma0 oa0, .bool bb0, .slice Ab0 nb0 cb0, .slice Bb0 mb0 ob0] 26)).alloc (.cells #[.bool ba1, .slice Aa1 na1 ca1, .slice Ba1 ma1 oa1, .bool bb1, .slice Ab1 nb1 cb1, .slice Bb1 mb1 ob1] 26)) := On.alloc (On.alloc (On.refl w) _) _
  have OB2 : w.heap.size ≤ w.heap.size ∧ Own ((w.alloc (.cells #[.bool ba0, .slice Aa0 na0 ca0, .slice Ba0 ma0 oa0, .bool bb0, .slice Ab0 nb0 cb0, .slice Bb0 mb0 ob0] 26)).alloc (.cells #[.bool ba1, .slice Aa1 na1 ca1, .slice Ba1 ma1 oa1, .bool bb1, .slice Ab1 nb1 cb1, .slice Bb1 mb1 ob1] 26)) (w.heap.size) 26 #[.bool ba0, .slice Aa0 na0 ca0, .slice Ba0 ma0 oa0, .bool bb0, .slice Ab0 nb0 cb0, .slice Bb0 mb0 ob0] := ⟨by omega, ((Own.at_ w (w.heap.size) (by simp) 26 #[.bool ba0, .slice Aa0 na0 ca0, .slice Ba0 ma0 oa0, .bool bb0, .slice Ab0 nb0 cb0, .slice Bb0 mb0 ob0]).alloc (.cells #[.bool ba1, .slice Aa1 na1 ca1, .slice Ba1 ma1 oa1, .bool bb1, .slice Ab1 nb1 cb1, .slice Bb1 mb1 ob1] 26))⟩
  have OB3 : w.heap.size ≤ w.heap.size + 1 ∧ Own ((w.alloc (.cells #[.bool ba0, .slice Aa0 na0 ca0, .slice Ba0 ma0 oa0, .bool bb0, .slice Ab0 nb0 cb0, .slice Bb0 mb0 ob0] 26)).alloc (.cells #[.bool ba1, .slice Aa1 na1 ca1, .slice Ba1 ma1 oa1, .bool bb1, .slice Ab1 nb1 cb1, .slice Bb1 mb1 ob1] 26)) (w.heap.size + 1) 26 #[.bool ba1, .slice Aa1 na1 ca1, .slice Ba1 ma1 oa1, .bool bb1, .slice Ab1 nb1 cb1, .slice Bb1 mb1 ob1] := ⟨by omega, (Own.at_ (w.alloc (.cells #[.bool ba0, .slice Aa0 na0 ca0, .slice Ba0 ma0 oa0, .bool bb0, .slice Ab0 nb0 cb0, .slice Bb0 mb0 ob0] 26)) (w.heap.size + 1) (by simp) 26 #[.bool ba1, .slice Aa1 na1 ca1, .slice Ba1 ma1 oa1, .bool bb1, .slice Ab1 nb1 cb1, .slice Bb1 mb1 ob1])⟩
  go_enter Tryz.func4, Tryz.ntmps4
  go_wp2_with fail
  refine (awake03 _).mono ?_
  rintro e w1 ⟨rfl, P1⟩
  replace OB2 := And.intro OB2.1 (OB2.2.on P1)
  replace OB3 := And.intro OB3.1 (OB3.2.on P1)
  replace B := B.trans P1
  have y2_0 : w1.cell? ⟨w.heap.size, 0, none⟩ = some (.bool ba0) := OB2.2.cell 0
  have y2_1 : w1.cell? ⟨w.heap.size, 1, none⟩ = some (.slice Aa0 na0 ca0) := OB2.2.cell 1
  have y2_2 : w1.cell? ⟨w.heap.size, 2, none⟩ = some (.slice Ba0 ma0 oa0) := OB2.2.cell 2
  have y2_3 : w1.cell? ⟨w.heap.size, 3, none⟩ = some (.bool bb0) := OB2.2.cell 3
  have y2_4 : w1.cell? ⟨w.heap.size, 4, none⟩ = some (.slice Ab0 nb0 cb0) := OB2.2.cell 4
  have y2_5 : w1.cell? ⟨w.heap.size, 5, none⟩ = some (.slice Bb0 mb0 ob0) := OB2.2.cell 5
  have y2_f0 := OB2.2.frozen 0
  have y2_f1 := OB2.2.frozen 1
  have y2_f2 := OB2.2.frozen 2
  have y2_f3 := OB2.2.frozen 3
  have y2_f4 := OB2.2.frozen 4
  have y2_f5 := OB2.2.frozen 5
  have y3_0 : w1.cell? ⟨w.heap.size + 1, 0, none⟩ = some (.bool ba1) := OB3.2.cell 0
  have y3_1 : w1.cell? ⟨w.heap.size + 1, 1, none⟩ = some (.slice Aa1 na1 ca1) := OB3.2.cell 1
  have y3_2 : w1.cell? ⟨w.heap.size + 1, 2, none⟩ = some (.slice Ba1 ma1 oa1) := OB3.2.cell 2
  have y3_3 : w1.cell? ⟨w.heap.size + 1, 3, none⟩ = some (.bool bb1) := OB3.2.cell 3
  have y3_4 : w1.cell? ⟨w.heap.size + 1, 4, none⟩ = some (.slice Ab1 nb1 cb1) := OB3.2.cell 4
  have y3_5 : w1.cell? ⟨w.heap.size + 1, 5, none⟩ = some (.slice Bb1 mb1 ob1) := OB3.2.cell 5
  have y3_f0 := OB3.2.frozen 0
  have y3_f1 := OB3.2.frozen 1
  have y3_f2 := OB3.2.frozen 2
  have y3_f3 := OB3.2.frozen 3
  have y3_f4 := OB3.2.frozen 4
  have y3_f5 := OB3.2.frozen 5
  go_wp2_with fail
  clear y2_0 y2_f0 y2_1 y2_f1 y2_2 y2_f2 y2_3 y2_f3 y2_4 y2_f4 y2_5 y2_f5
  clear y3_0 y3_f0 y3_1 y3_f1 y3_2 y3_f2 y3_3 y3_f3 y3_4 y3_f4 y3_5 y3_f5
  have B1 := (On.refl w1).alloc (.cells #[.bool ba0, .slice Aa0 na0 ca0, .slice Ba0 ma0 oa0, .bool bb0, .slice Ab0 nb0 cb0, .slice Bb0 mb0 ob0, .bool ba1, .slice Aa1 na1 ca1, .slice Ba1 ma1 oa1, .bool bb1, .slice Ab1 nb1 cb1, .slice Bb1 mb1 ob1] 26)
  replace OB2 := And.intro OB2.1 (OB2.2.on B1)
  replace OB3 := And.intro OB3.1 (OB3.2.on B1)
  replace B := B.trans B1
  have hlens := slens2 ba0 Aa0 na0 ca0 Ba0 ma0 oa0 bb0 Ab0 nb0 cb0 Bb0 mb0 ob0 xs0 ys0 us0 vs0 (R0.on B) (S0.on B) (U0.on B) (V0.on B) ba1 Aa1 na1 ca1 Ba1 ma1 oa1 bb1 Ab1 nb1 cb1 Bb1 mb1 ob1 xs1 ys1 us1 vs1 (R1.on B) (S1.on B) (U1.on B) (V1.on B) (Own.new w1 26 #[.bool ba0, .slice Aa0 na0 ca0, .slice Ba0 ma0 oa0, .bool bb0, .slice Ab0 nb0 cb0, .slice Bb0 mb0 ob0, .bool ba1, .slice Aa1 na1 ca1, .slice Ba1 ma1 oa1, .bool bb1, .slice Ab1 nb1 cb1, .slice Bb1 mb1 ob1])
  refine (slarge_yes _ _ 2 2 _ hlens rfl (by decide) (by decide) (by decide) mi qi HMI.out HYI.out).mono ?_
  rintro e w2 ⟨rfl, P2⟩
  clear hlens B1 P1
  replace OB2 := And.intro OB2.1 (OB2.2.on P2)
  replace OB3 := And.intro OB3.1 (OB3.2.on P2)
  replace B := B.trans P2
  clear P2
  go_wp2_with fail
  refine (awake03 _).mono ?_
  rintro e w3 ⟨rfl, P3⟩
  go_wp2
  go_ret
  exact ⟨rfl, B.trans P3⟩
set_option maxRecDepth 100000 in
set_option maxHeartbeats 1600000 in
theorem sums_main (w : World) (ba0 : Bool) (Aa0 : Option Addr) (na0 ca0 : Nat) (Ba0 : Option Addr) (ma0 oa0 : Nat) (bb0 : Bool) (Ab0 : Option Addr) (nb0 cb0 : Nat) (Bb0 : Option Addr) (mb0 ob0 : Nat) (xs0 ys0 us0 vs0 : List Nat) (R0 : Rd w Aa0 na0 ca0 xs0) (S0 : Rd w Ba0 ma0 oa0 ys0) (U0 : Rd w Ab0 nb0 cb0 us0) (V0 : Rd w Bb0 mb0 ob0 vs0) (ba1 : Bool) (Aa1 : Option Addr) (na1 ca1 : Nat) (Ba1 : Option Addr) (ma1 oa1 : Nat) (bb1 : Bool) (Ab1 : Option Addr) (nb1 cb1 : Nat) (Bb1 : Option Addr) (mb1 ob1 : Nat) (xs1 ys1 us1 vs1 : List Nat) (R1 : Rd w Aa1 na1 ca1 xs1) (S1 : Rd w Ba1 ma1 oa1 ys1) (U1 : Rd w Ab1 nb1 cb1 us1) (V1 : Rd w Bb1 mb1 ob1 vs1)  (hs : na0 ≤ 6 ∧ ma0 ≤ 6 ∧ nb0 ≤ 6 ∧ mb0 ≤ 6 ∧ na1 ≤ 6 ∧ ma1 ≤ 6 ∧ nb1 ≤ 6 ∧ mb1 ≤ 6)  :
    Calls Tryz.prog 4 #[.agg #[.bool ba0, .slice Aa0 na0 ca0, .slice Ba0 ma0 oa0, .bool bb0, .slice Ab0 nb0 cb0, .slice Bb0 mb0 ob0], .agg #[.bool ba1, .slice Aa1 na1 ca1, .slice Ba1 ma1 oa1, .bool bb1, .slice Ab1 nb1 cb1, .slice Bb1 mb1 ob1]] w fun e w' => e = .returned (.bool true) ∧ On w w' := by
  obtain ⟨lo0, hi0, f0, Q0⟩ : ∃ lo hi f, SRaw w (.agg #[.bool ba0, .slice Aa0 na0 ca0, .slice Ba0 ma0 oa0, .bool bb0, .slice Ab0 nb0 cb0, .slice Bb0 mb0 ob0]) lo hi f 6 := ⟨_, _, _, ba0, Aa0, na0, ca0, Ba0, ma0, oa0, bb0, Ab0, nb0, cb0, Bb0, mb0, ob0, xs0, ys0, us0, vs0, rfl, R0, S0, U0, V0, by omega, by omega, by omega, by omega, rfl, rfl, rfl⟩
  obtain ⟨lo1, hi1, f1, Q1⟩ : ∃ lo hi f, SRaw w (.agg #[.bool ba1, .slice Aa1 na1 ca1, .slice Ba1 ma1 oa1, .bool bb1, .slice Ab1 nb1 cb1, .slice Bb1 mb1 ob1]) lo hi f 6 := ⟨_, _, _, ba1, Aa1, na1, ca1, Ba1, ma1, oa1, bb1, Ab1, nb1, cb1, Bb1, mb1, ob1, xs1, ys1, us1, vs1, rfl, R1, S1, U1, V1, by omega, by omega, by omega, by omega, rfl, rfl, rfl⟩
  obtain ⟨p0, q0, T0⟩ : ∃ p q, Sp w (.agg #[.bool ba0, .slice Aa0 na0 ca0, .slice Ba0 ma0 oa0, .bool bb0, .slice Ab0 nb0 cb0, .slice Bb0 mb0 ob0]) p q 6 := ⟨_, _, _, _, _, Q0, rfl, rfl⟩
  obtain ⟨p1, q1, T1⟩ : ∃ p q, Sp w (.agg #[.bool ba1, .slice Aa1 na1 ca1, .slice Ba1 ma1 oa1, .bool bb1, .slice Ab1 nb1 cb1, .slice Bb1 mb1 ob1]) p q 6 := ⟨_, _, _, _, _, Q1, rfl, rfl⟩
  have HSM : Hid (∀ p ∈ [(na0, ma0, nb0, mb0), (na1, ma1, nb1, mb1)], ¬ Big p) := Lib.hid (by intro p hp; simp at hp; rcases hp with rfl | rfl <;> (unfold Big; simp only; omega))
  clear Q0 Q1
  have B : On w ((w.alloc (.cells #[.bool ba0, .slice Aa0 na0 ca0, .slice Ba0 ma0 oa0, .bool bb0, .slice Ab0 nb0 cb0, .slice Bb0 mb0 ob0] 26)).alloc (.cells #[.bool ba1, .slice Aa1 na1 ca1, .slice Ba1 ma1 oa1, .bool bb1, .slice Ab1 nb1 cb1, .slice Bb1 mb1 ob1] 26)) := On.alloc (On.alloc (On.refl w) _) _
  have OB2 : w.heap.size ≤ w.heap.size ∧ Own ((w.alloc (.cells #[.bool ba0, .slice Aa0 na0 ca0, .slice Ba0 ma0 oa0, .bool bb0, .slice Ab0 nb0 cb0, .slice Bb0 mb0 ob0] 26)).alloc (.cells #[.bool ba1, .slice Aa1 na1 ca1, .slice Ba1 ma1 oa1, .bool bb1, .slice Ab1 nb1 cb1, .slice Bb1 mb1 ob1] 26)) (w.heap.size) 26 #[.bool ba0, .slice Aa0 na0 ca0, .slice Ba0 ma0 oa0, .bool bb0, .slice Ab0 nb0 cb0, .slice Bb0 mb0 ob0] := ⟨by omega, ((Own.at_ w (w.heap.size) (by simp) 26 #[.bool ba0, .slice Aa0 na0 ca0, .slice Ba0 ma0 oa0, .bool bb0, .slice Ab0 nb0 cb0, .slice Bb0 mb0 ob0]).alloc (.cells #[.bool ba1, .slice Aa1 na1 ca1, .slice Ba1 ma1 oa1, .bool bb1, .slice Ab1 nb1 cb1, .slice Bb1 mb1 ob1] 26))⟩
  have OB3 : w.heap.size ≤ w.heap.size + 1 ∧ Own ((w.alloc (.cells #[.bool ba0, .slice Aa0 na0 ca0, .slice Ba0 ma0 oa0, .bool bb0, .slice Ab0 nb0 cb0, .slice Bb0 mb0 ob0] 26)).alloc (.cells #[.bool ba1, .slice Aa1 na1 ca1, .slice Ba1 ma1 oa1, .bool bb1, .slice Ab1 nb1 cb1, .slice Bb1 mb1 ob1] 26)) (w.heap.size + 1) 26 #[.bool ba1, .slice Aa1 na1 ca1, .slice Ba1 ma1 oa1, .bool bb1, .slice Ab1 nb1 cb1, .slice Bb1 mb1 ob1] := ⟨by omega, (Own.at_ (w.alloc (.cells #[.bool ba0, .slice Aa0 na0 ca0, .slice Ba0 ma0 oa0, .bool bb0, .slice Ab0 nb0 cb0, .slice Bb0 mb0 ob0] 26)) (w.heap.size + 1) (by simp) 26 #[.bool ba1, .slice Aa1 na1 ca1, .slice Ba1 ma1 oa1, .bool bb1, .slice Ab1 nb1 cb1, .slice Bb1 mb1 ob1])⟩
  go_enter Tryz.func4, Tryz.ntmps4
  go_wp2_with fail
  refine (awake03 _).mono ?_
  rintro e w1 ⟨rfl, P1⟩
  replace OB2 := And.intro OB2.1 (OB2.2.on P1)
  replace OB3 := And.intro OB3.1 (OB3.2.on P1)
  replace B := B.trans P1
  have y2_0 : w1.cell? ⟨w.heap.size, 0, none⟩ = some (.bool ba0) := OB2.2.cell 0
  have y2_1 : w1.cell? ⟨w.heap.size, 1, none⟩ = some (.slice Aa0 na0 ca0) := OB2.2.cell 1
  have y2_2 : w1.cell? ⟨w.heap.size, 2, none⟩ = some (.slice Ba0 ma0 oa0) := OB2.2.cell 2
  have y2_3 : w1.cell? ⟨w.heap.size, 3, none⟩ = some (.bool bb0) := OB2.2.cell 3
  have y2_4 : w1.cell? ⟨w.heap.size, 4, none⟩ = some (.slice Ab0 nb0 cb0) := OB2.2.cell 4
  have y2_5 : w1.cell? ⟨w.heap.size, 5, none⟩ = some (.slice Bb0 mb0 ob0) := OB2.2.cell 5
  have y2_f0 := OB2.2.frozen 0
  have y2_f1 := OB2.2.frozen 1
  have y2_f2 := OB2.2.frozen 2
  have y2_f3 := OB2.2.frozen 3
  have y2_f4 := OB2.2.frozen 4
  have y2_f5 := OB2.2.frozen 5
  have y3_0 : w1.cell? ⟨w.heap.size + 1, 0, none⟩ = some (.bool ba1) := OB3.2.cell 0
  have y3_1 : w1.cell? ⟨w.heap.size + 1, 1, none⟩ = some (.slice Aa1 na1 ca1) := OB3.2.cell 1
  have y3_2 : w1.cell? ⟨w.heap.size + 1, 2, none⟩ = some (.slice Ba1 ma1 oa1) := OB3.2.cell 2
  have y3_3 : w1.cell? ⟨w.heap.size + 1, 3, none⟩ = some (.bool bb1) := OB3.2.cell 3
  have y3_4 : w1.cell? ⟨w.heap.size + 1, 4, none⟩ = some (.slice Ab1 nb1 cb1) := OB3.2.cell 4
  have y3_5 : w1.cell? ⟨w.heap.size + 1, 5, none⟩ = some (.slice Bb1 mb1 ob1) := OB3.2.cell 5
  have y3_f0 := OB3.2.frozen 0
  have y3_f1 := OB3.2.frozen 1
  have y3_f2 := OB3.2.frozen 2
  have y3_f3 := OB3.2.frozen 3
  have y3_f4 := OB3.2.frozen 4
  have y3_f5 := OB3.2.frozen 5
  go_wp2_with fail
  clear y2_0 y2_f0 y2_1 y2_f1 y2_2 y2_f2 y2_3 y2_f3 y2_4 y2_f4 y2_5 y2_f5
  clear y3_0 y3_f0 y3_1 y3_f1 y3_2 y3_f2 y3_3 y3_f3 y3_4 y3_f4 y3_5 y3_f5
  have B1 := (On.refl w1).alloc (.cells #[.bool ba0, .slice Aa0 na0 ca0, .slice Ba0 ma0 oa0, .bool bb0, .slice Ab0 nb0 cb0, .slice Bb0 mb0 ob0, .bool ba1, .slice Aa1 na1 ca1, .slice Ba1 ma1 oa1, .bool bb1, .slice Ab1 nb1 cb1, .slice Bb1 mb1 ob1] 26)
  replace OB2 := And.intro OB2.1 (OB2.2.on B1)
  replace OB3 := And.intro OB3.1 (OB3.2.on B1)
  replace B := B.trans B1
  have hlens := slens2 ba0 Aa0 na0 ca0 Ba0 ma0 oa0 bb0 Ab0 nb0 cb0 Bb0 mb0 ob0 xs0 ys0 us0 vs0 (R0.on B) (S0.on B) (U0.on B) (V0.on B) ba1 Aa1 na1 ca1 Ba1 ma1 oa1 bb1 Ab1 nb1 cb1 Bb1 mb1 ob1 xs1 ys1 us1 vs1 (R1.on B) (S1.on B) (U1.on B) (V1.on B) (Own.new w1 26 #[.bool ba0, .slice Aa0 na0 ca0, .slice Ba0 ma0 oa0, .bool bb0, .slice Ab0 nb0 cb0, .slice Bb0 mb0 ob0, .bool ba1, .slice Aa1 na1 ca1, .slice Ba1 ma1 oa1, .bool bb1, .slice Ab1 nb1 cb1, .slice Bb1 mb1 ob1])
  refine (slarge_no _ _ 2 2 _ hlens rfl (by decide) (by decide) (by decide) HSM.out).mono ?_
  rintro e w2 ⟨rfl, P2⟩
  clear hlens B1 P1
  replace OB2 := And.intro OB2.1 (OB2.2.on P2)
  replace OB3 := And.intro OB3.1 (OB3.2.on P2)
  replace B := B.trans P2
  clear P2
  clear HSM
  go_wp2
  refine wp_region_facts (by kernel_rfl) w [Fact.eq (.agg #[.bool ba0, .slice Aa0 na0 ca0, .slice Ba0 ma0 oa0, .bool bb0, .slice Ab0 nb0 cb0, .slice Bb0 mb0 ob0]), Fact.eq (.agg #[.bool ba1, .slice Aa1 na1 ca1, .slice Ba1 ma1 oa1, .bool bb1, .slice Ab1 nb1 cb1, .slice Bb1 mb1 ob1]), Fact.sp (p0 + p1) (q0 + q1) (13), Fact.eq (.agg #[.bool ba0, .slice Aa0 na0 ca0, .slice Ba0 ma0 oa0, .bool bb0, .slice Ab0 nb0 cb0, .slice Bb0 mb0 ob0]), Fact.eq (.agg #[.bool ba1, .slice Aa1 na1 ca1, .slice Ba1 ma1 oa1, .bool bb1, .slice Ab1 nb1 cb1, .slice Bb1 mb1 ob1]), Fact.sp (p0 + p1) (q0 + q1) (13), Fact.eq (.bool true), Fact.eq (.bool true), Fact.eq (.agg #[.bool ba0, .slice Aa0 na0 ca0, .slice Ba0 ma0 oa0, .bool bb0, .slice Ab0 nb0 cb0, .slice Bb0 mb0 ob0]), Fact.eq (.agg #[.bool ba1, .slice Aa1 na1 ca1, .slice Ba1 ma1 oa1, .bool bb1, .slice Ab1 nb1 cb1, .slice Bb1 mb1 ob1]), Fact.sp (p0 - q1) (q0 - p1) (13), Fact.eq (.agg #[.bool ba0, .slice Aa0 na0 ca0, .slice Ba0 ma0 oa0, .bool bb0, .slice Ab0 nb0 cb0, .slice Bb0 mb0 ob0]), Fact.eq (.agg #[.bool ba1, .slice Aa1 na1 ca1, .slice Ba1 ma1 oa1, .bool bb1, .slice Ab1 nb1 cb1, .slice Bb1 mb1 ob1]), Fact.sp (p0 - q1) (q0 - p1) (13), Fact.eq (.bool true), Fact.eq (.bool true), Fact.eq (.bool true), Fact.eq (.agg #[.bool ba0, .slice Aa0 na0 ca0, .slice Ba0 ma0 oa0, .bool bb0, .slice Ab0 nb0 cb0, .slice Bb0 mb0 ob0]), Fact.sp (-q0) (-p0) (6), Fact.eq (.agg #[.bool ba0, .slice Aa0 na0 ca0, .slice Ba0 ma0 oa0, .bool bb0, .slice Ab0 nb0 cb0, .slice Bb0 mb0 ob0]), Fact.sp (-q0) (-p0) (13), Fact.eq (.bool true), Fact.eq (.bool true), Fact.eq (.bool true), Fact.eq (.agg #[.bool ba0, .slice Aa0 na0 ca0, .slice Ba0 ma0 oa0, .bool bb0, .slice Ab0 nb0 cb0, .slice Bb0 mb0 ob0]), Fact.sp (1 - q0) (1 - p0) (13), Fact.eq (.agg #[.bool ba0, .slice Aa0 na0 ca0, .slice Ba0 ma0 oa0, .bool bb0, .slice Ab0 nb0 cb0, .slice Bb0 mb0 ob0]), Fact.sp (1 - q0) (1 - p0) (13), Fact.eq (.bool true), Fact.eq (.bool true), Fact.eq (.bool true), Fact.eq (.agg #[.bool ba0, .slice Aa0 na0 ca0, .slice Ba0 ma0 oa0, .bool bb0, .slice Ab0 nb0 cb0, .slice Bb0 mb0 ob0]), Fact.sp (clipR p0) (clipR q0) (6), Fact.eq (.agg #[.bool ba0, .slice Aa0 na0 ca0, .slice Ba0 ma0 oa0, .bool bb0, .slice Ab0 nb0 cb0, .slice Bb0 mb0 ob0]), Fact.sp (clipR p0) (clipR q0) (6), Fact.eq (.bool true), Fact.eq (.bool true), Fact.eq (.bool true)] [Fact.any, Fact.any] [⟨38, 2, 26, 38, #[.bool ba0, .slice Aa0 na0 ca0, .slice Ba0 ma0 oa0, .bool bb0, .slice Ab0 nb0 cb0, .slice Bb0 mb0 ob0]⟩, ⟨38, 3, 26, 38, #[.bool ba1, .slice Aa1 na1 ca1, .slice Ba1 ma1 oa1, .bool bb1, .slice Ab1 nb1 cb1, .slice Bb1 mb1 ob1]⟩] [w.heap.size, w.heap.size + 1] [none, none, none, none, some 4, none, none, none, none, none, none, none, none, none, some 14, some 15, some 16, some 17, some 18, some 19, some 20, some 21, some 22, some 23, some 24, some 25, some 26, some 27, some 28, some 29, some 30, some 31, some 32, some 33, some 34, some 35, some 36, some 37, some 38, some 39, some 40, some 41, some 42, some 43, some 44, some 45, some 46, some 47, some 48, some 49, some 50] (by kernel_rfl) (by kernel_rfl) (by kernel_rfl) rfl B ?_ ?_ ?_ ?_ ?_
  · exact ⟨fun _ => ⟨by simp, rfl, OB2⟩, fun _ => ⟨by simp, rfl, OB3⟩, trivial⟩
  · exact .inl ⟨Nat.le_refl _, Nat.le_refl _, trivial⟩
  · exact ⟨⟨noWords_S _ _ _ _ _ _ _ _ _ _ _ _ _ _, (.inl (Nat.le_refl _)), (.inl (Nat.le_refl _))⟩, ⟨noWords_S _ _ _ _ _ _ _ _ _ _ _ _ _ _, (.inl (Nat.le_refl _)), (.inl (Nat.le_refl _))⟩, trivial⟩
  · refine ⟨?_, ?_, ?_, ?_, ?_, ?_, ?_, ?_, ?_, ?_, ?_, ?_, ?_, ?_, ?_, ?_, ?_, ?_, ?_, ?_, ?_, ?_, ?_, ?_, ?_, ?_, ?_, ?_, ?_, ?_, ?_, ?_, ?_, ?_, ?_, ?_, ?_, ?_, trivial⟩
    · exact .inr fun a w hp => ob_yes rfl (ob_loadSp (hp.box (k := 0) rfl (Nat.le_refl _) (.inl (Nat.le_refl _)) (by kernel_rfl) rfl).1 (hp.box (k := 0) rfl (Nat.le_refl _) (.inl (Nat.le_refl _)) (by kernel_rfl) rfl).2 rfl)
    · exact .inr fun a w hp => ob_yes rfl (ob_loadSp (hp.box (k := 1) rfl (Nat.le_refl _) (.inl (Nat.le_refl _)) (by kernel_rfl) rfl).1 (hp.box (k := 1) rfl (Nat.le_refl _) (.inl (Nat.le_refl _)) (by kernel_rfl) rfl).2 rfl)
    · refine .inr fun a w hp => ob_yes rfl ?_
      have h14 : a.tmps.getD 14 undef = .agg #[.bool ba0, .slice Aa0 na0 ca0, .slice Ba0 ma0 oa0, .bool bb0, .slice Ab0 nb0 cb0, .slice Bb0 mb0 ob0] := (hp.fact 0 14 (by kernel_rfl) rfl)
      have h15 : a.tmps.getD 15 undef = .agg #[.bool ba1, .slice Aa1 na1 ca1, .slice Ba1 ma1 oa1, .bool bb1, .slice Ab1 nb1 cb1, .slice Bb1 mb1 ob1] := (hp.fact 1 15 (by kernel_rfl) rfl)
      unfold Does
      go_simp
      refine (spadd_any _ _ _ p0 q0 p1 q1 6 (T0.on hp.on) (T1.on hp.on) (by decide) (by decide)).mono ?_
      rintro e w' ⟨u, rfl, I8, P8⟩
      exact ⟨_, rfl, P8, I8⟩
    · exact .inr fun a w hp => ob_yes rfl (ob_loadSp (hp.box (k := 0) rfl (Nat.le_refl _) (.inl (Nat.le_refl _)) (by kernel_rfl) rfl).1 (hp.box (k := 0) rfl (Nat.le_refl _) (.inl (Nat.le_refl _)) (by kernel_rfl) rfl).2 rfl)
    · exact .inr fun a w hp => ob_yes rfl (ob_loadSp (hp.box (k := 1) rfl (Nat.le_refl _) (.inl (Nat.le_refl _)) (by kernel_rfl) rfl).1 (hp.box (k := 1) rfl (Nat.le_refl _) (.inl (Nat.le_refl _)) (by kernel_rfl) rfl).2 rfl)
    · refine .inr fun a w hp => ob_yes rfl ?_
      have h17 : a.tmps.getD 17 undef = .agg #[.bool ba0, .slice Aa0 na0 ca0, .slice Ba0 ma0 oa0, .bool bb0, .slice Ab0 nb0 cb0, .slice Bb0 mb0 ob0] := (hp.fact 3 17 (by kernel_rfl) rfl)
      have h18 : a.tmps.getD 18 undef = .agg #[.bool ba1, .slice Aa1 na1 ca1, .slice Ba1 ma1 oa1, .bool bb1, .slice Ab1 nb1 cb1, .slice Bb1 mb1 ob1] := (hp.fact 4 18 (by kernel_rfl) rfl)
      unfold Does
      go_simp
      refine (radd3_any _ _ _ p0 q0 p1 q1 6 (T0.on hp.on) (T1.on hp.on) (by decide) (by decide)).mono ?_
      rintro e w' ⟨u, rfl, I8, P8⟩
      exact ⟨_, rfl, P8, I8⟩
    · refine .inr fun a w hp => ob_yes rfl ?_
      have h16 : IsS w (a.tmps.getD 16 undef) (p0 + p1) (q0 + q1) (13) := (hp.fact 2 16 (by kernel_rfl) rfl)
      obtain ⟨v16, e16⟩ : ∃ v, a.tmps.getD 16 undef = v := ⟨_, rfl⟩
      rw [e16] at h16
      have h19 : IsS w (a.tmps.getD 19 undef) (p0 + p1) (q0 + q1) (13) := (hp.fact 5 19 (by kernel_rfl) rfl)
      obtain ⟨v19, e19⟩ : ∃ v, a.tmps.getD 19 undef = v := ⟨_, rfl⟩
      rw [e19] at h19
      unfold Does
      go_simp
      refine (ssame_any _ _ _ _ _ _ _ h16 h19).mono ?_
      rintro e w' ⟨rfl, P8⟩
      exact ⟨_, rfl, P8, rfl⟩
    · exact .inr fun a w hp => ob_yes rfl (ob_move (hp.fact 6 20 (by kernel_rfl) rfl))
    · exact .inr fun a w hp => ob_yes (wanted_yes (P := Tryz.prog) (j := 7) (d := 21) (b := true) rfl rfl (hp.fact 7 21 (by kernel_rfl) rfl)) (ob_loadSp (hp.box (k := 0) rfl (Nat.le_refl _) (.inl (Nat.le_refl _)) (by kernel_rfl) rfl).1 (hp.box (k := 0) rfl (Nat.le_refl _) (.inl (Nat.le_refl _)) (by kernel_rfl) rfl).2 rfl)
    · exact .inr fun a w hp => ob_yes (wanted_yes (P := Tryz.prog) (j := 7) (d := 21) (b := true) rfl rfl (hp.fact 7 21 (by kernel_rfl) rfl)) (ob_loadSp (hp.box (k := 1) rfl (Nat.le_refl _) (.inl (Nat.le_refl _)) (by kernel_rfl) rfl).1 (hp.box (k := 1) rfl (Nat.le_refl _) (.inl (Nat.le_refl _)) (by kernel_rfl) rfl).2 rfl)
    · refine .inr fun a w hp => ob_yes (wanted_yes (P := Tryz.prog) (j := 7) (d := 21) (b := true) rfl rfl (hp.fact 7 21 (by kernel_rfl) rfl)) ?_
      have h22 : a.tmps.getD 22 undef = .agg #[.bool ba0, .slice Aa0 na0 ca0, .slice Ba0 ma0 oa0, .bool bb0, .slice Ab0 nb0 cb0, .slice Bb0 mb0 ob0] := (hp.fact 8 22 (by kernel_rfl) rfl)
      have h23 : a.tmps.getD 23 undef = .agg #[.bool ba1, .slice Aa1 na1 ca1, .slice Ba1 ma1 oa1, .bool bb1, .slice Ab1 nb1 cb1, .slice Bb1 mb1 ob1] := (hp.fact 9 23 (by kernel_rfl) rfl)
      unfold Does
      go_simp
      refine (spsub_any _ _ _ p0 q0 p1 q1 6 (T0.on hp.on) (T1.on hp.on) (by decide) (by decide)).mono ?_
      rintro e w' ⟨u, rfl, I8, P8⟩
      exact ⟨_, rfl, P8, I8⟩
    · exact .inr fun a w hp => ob_yes (wanted_yes (P := Tryz.prog) (j := 7) (d := 21) (b := true) rfl rfl (hp.fact 7 21 (by kernel_rfl) rfl)) (ob_loadSp (hp.box (k := 0) rfl (Nat.le_refl _) (.inl (Nat.le_refl _)) (by kernel_rfl) rfl).1 (hp.box (k := 0) rfl (Nat.le_refl _) (.inl (Nat.le_refl _)) (by kernel_rfl) rfl).2 rfl)
    · exact .inr fun a w hp => ob_yes (wanted_yes (P := Tryz.prog) (j := 7) (d := 21) (b := true) rfl rfl (hp.fact 7 21 (by kernel_rfl) rfl)) (ob_loadSp (hp.box (k := 1) rfl (Nat.le_refl _) (.inl (Nat.le_refl _)) (by kernel_rfl) rfl).1 (hp.box (k := 1) rfl (Nat.le_refl _) (.inl (Nat.le_refl _)) (by kernel_rfl) rfl).2 rfl)
    · refine .inr fun a w hp => ob_yes (wanted_yes (P := Tryz.prog) (j := 7) (d := 21) (b := true) rfl rfl (hp.fact 7 21 (by kernel_rfl) rfl)) ?_
      have h25 : a.tmps.getD 25 undef = .agg #[.bool ba0, .slice Aa0 na0 ca0, .slice Ba0 ma0 oa0, .bool bb0, .slice Ab0 nb0 cb0, .slice Bb0 mb0 ob0] := (hp.fact 11 25 (by kernel_rfl) rfl)
      have h26 : a.tmps.getD 26 undef = .agg #[.bool ba1, .slice Aa1 na1 ca1, .slice Ba1 ma1 oa1, .bool bb1, .slice Ab1 nb1 cb1, .slice Bb1 mb1 ob1] := (hp.fact 12 26 (by kernel_rfl) rfl)
      unfold Does
      go_simp
      refine (rsub3_any _ _ _ p0 q0 p1 q1 6 (T0.on hp.on) (T1.on hp.on) (by decide) (by decide)).mono ?_
      rintro e w' ⟨u, rfl, I8, P8⟩
      exact ⟨_, rfl, P8, I8⟩
    · refine .inr fun a w hp => ob_yes (wanted_yes (P := Tryz.prog) (j := 7) (d := 21) (b := true) rfl rfl (hp.fact 7 21 (by kernel_rfl) rfl)) ?_
      have h24 : IsS w (a.tmps.getD 24 undef) (p0 - q1) (q0 - p1) (13) := (hp.fact 10 24 (by kernel_rfl) rfl)
      obtain ⟨v24, e24⟩ : ∃ v, a.tmps.getD 24 undef = v := ⟨_, rfl⟩
      rw [e24] at h24
      have h27 : IsS w (a.tmps.getD 27 undef) (p0 - q1) (q0 - p1) (13) := (hp.fact 13 27 (by kernel_rfl) rfl)
      obtain ⟨v27, e27⟩ : ∃ v, a.tmps.getD 27 undef = v := ⟨_, rfl⟩
      rw [e27] at h27
      unfold Does
      go_simp
      refine (ssame_any _ _ _ _ _ _ _ h24 h27).mono ?_
      rintro e w' ⟨rfl, P8⟩
      exact ⟨_, rfl, P8, rfl⟩
    · refine .inr fun a w hp => ob_yes rfl ?_
      have h21 : a.tmps.getD 21 undef = .bool true := (hp.fact 7 21 (by kernel_rfl) rfl)
      have h28 : a.tmps.getD 28 undef = .bool true := (hp.fact 14 28 (by kernel_rfl) rfl)
      unfold Does
      go_simp
      exact ⟨_, rfl, On.refl _, rfl⟩
    · exact .inr fun a w hp => ob_yes rfl (ob_move (hp.fact 15 29 (by kernel_rfl) rfl))
    · exact .inr fun a w hp => ob_yes (wanted_yes (P := Tryz.prog) (j := 16) (d := 30) (b := true) rfl rfl (hp.fact 16 30 (by kernel_rfl) rfl)) (ob_loadSp (hp.box (k := 0) rfl (Nat.le_refl _) (.inl (Nat.le_refl _)) (by kernel_rfl) rfl).1 (hp.box (k := 0) rfl (Nat.le_refl _) (.inl (Nat.le_refl _)) (by kernel_rfl) rfl).2 rfl)
    · refine .inr fun a w hp => ob_yes (wanted_yes (P := Tryz.prog) (j := 16) (d := 30) (b := true) rfl rfl (hp.fact 16 30 (by kernel_rfl) rfl)) ?_
      have h31 : a.tmps.getD 31 undef = .agg #[.bool ba0, .slice Aa0 na0 ca0, .slice Ba0 ma0 oa0, .bool bb0, .slice Ab0 nb0 cb0, .slice Bb0 mb0 ob0] := (hp.fact 17 31 (by kernel_rfl) rfl)
      unfold Does
      go_simp
      refine (spneg_any _ _ p0 q0 6 (T0.on hp.on) (by decide) (by decide)).mono ?_
      rintro e w' ⟨u, rfl, I8, P8⟩
      exact ⟨_, rfl, P8, I8⟩
    · exact .inr fun a w hp => ob_yes (wanted_yes (P := Tryz.prog) (j := 16) (d := 30) (b := true) rfl rfl (hp.fact 16 30 (by kernel_rfl) rfl)) (ob_loadSp (hp.box (k := 0) rfl (Nat.le_refl _) (.inl (Nat.le_refl _)) (by kernel_rfl) rfl).1 (hp.box (k := 0) rfl (Nat.le_refl _) (.inl (Nat.le_refl _)) (by kernel_rfl) rfl).2 rfl)
    · refine .inr fun a w hp => ob_yes (wanted_yes (P := Tryz.prog) (j := 16) (d := 30) (b := true) rfl rfl (hp.fact 16 30 (by kernel_rfl) rfl)) ?_
      have h33 : a.tmps.getD 33 undef = .agg #[.bool ba0, .slice Aa0 na0 ca0, .slice Ba0 ma0 oa0, .bool bb0, .slice Ab0 nb0 cb0, .slice Bb0 mb0 ob0] := (hp.fact 19 33 (by kernel_rfl) rfl)
      unfold Does
      go_simp
      refine (rneg3_any _ _ p0 q0 6 (T0.on hp.on) (by decide) (by decide)).mono ?_
      rintro e w' ⟨u, rfl, I8, P8⟩
      exact ⟨_, rfl, P8, I8⟩
    · refine .inr fun a w hp => ob_yes (wanted_yes (P := Tryz.prog) (j := 16) (d := 30) (b := true) rfl rfl (hp.fact 16 30 (by kernel_rfl) rfl)) ?_
      have h32 : IsS w (a.tmps.getD 32 undef) (-q0) (-p0) (6) := (hp.fact 18 32 (by kernel_rfl) rfl)
      obtain ⟨v32, e32⟩ : ∃ v, a.tmps.getD 32 undef = v := ⟨_, rfl⟩
      rw [e32] at h32
      have h34 : IsS w (a.tmps.getD 34 undef) (-q0) (-p0) (13) := (hp.fact 20 34 (by kernel_rfl) rfl)
      obtain ⟨v34, e34⟩ : ∃ v, a.tmps.getD 34 undef = v := ⟨_, rfl⟩
      rw [e34] at h34
      unfold Does
      go_simp
      refine (ssame_any _ _ _ _ _ _ _ h32 h34).mono ?_
      rintro e w' ⟨rfl, P8⟩
      exact ⟨_, rfl, P8, rfl⟩
    · refine .inr fun a w hp => ob_yes rfl ?_
      have h30 : a.tmps.getD 30 undef = .bool true := (hp.fact 16 30 (by kernel_rfl) rfl)
      have h35 : a.tmps.getD 35 undef = .bool true := (hp.fact 21 35 (by kernel_rfl) rfl)
      unfold Does
      go_simp
      exact ⟨_, rfl, On.refl _, rfl⟩
    · exact .inr fun a w hp => ob_yes rfl (ob_move (hp.fact 22 36 (by kernel_rfl) rfl))
    · exact .inr fun a w hp => ob_yes (wanted_yes (P := Tryz.prog) (j := 23) (d := 37) (b := true) rfl rfl (hp.fact 23 37 (by kernel_rfl) rfl)) (ob_loadSp (hp.box (k := 0) rfl (Nat.le_refl _) (.inl (Nat.le_refl _)) (by kernel_rfl) rfl).1 (hp.box (k := 0) rfl (Nat.le_refl _) (.inl (Nat.le_refl _)) (by kernel_rfl) rfl).2 rfl)
    · refine .inr fun a w hp => ob_yes (wanted_yes (P := Tryz.prog) (j := 23) (d := 37) (b := true) rfl rfl (hp.fact 23 37 (by kernel_rfl) rfl)) ?_
      have h38 : a.tmps.getD 38 undef = .agg #[.bool ba0, .slice Aa0 na0 ca0, .slice Ba0 ma0 oa0, .bool bb0, .slice Ab0 nb0 cb0, .slice Bb0 mb0 ob0] := (hp.fact 24 38 (by kernel_rfl) rfl)
      unfold Does
      go_simp
      refine (spnot_any _ _ p0 q0 6 (T0.on hp.on) (by decide) (by decide)).mono ?_
      rintro e w' ⟨u, rfl, I8, P8⟩
      exact ⟨_, rfl, P8, I8⟩
    · exact .inr fun a w hp => ob_yes (wanted_yes (P := Tryz.prog) (j := 23) (d := 37) (b := true) rfl rfl (hp.fact 23 37 (by kernel_rfl) rfl)) (ob_loadSp (hp.box (k := 0) rfl (Nat.le_refl _) (.inl (Nat.le_refl _)) (by kernel_rfl) rfl).1 (hp.box (k := 0) rfl (Nat.le_refl _) (.inl (Nat.le_refl _)) (by kernel_rfl) rfl).2 rfl)
    · refine .inr fun a w hp => ob_yes (wanted_yes (P := Tryz.prog) (j := 23) (d := 37) (b := true) rfl rfl (hp.fact 23 37 (by kernel_rfl) rfl)) ?_
      have h40 : a.tmps.getD 40 undef = .agg #[.bool ba0, .slice Aa0 na0 ca0, .slice Ba0 ma0 oa0, .bool bb0, .slice Ab0 nb0 cb0, .slice Bb0 mb0 ob0] := (hp.fact 26 40 (by kernel_rfl) rfl)
      unfold Does
      go_simp
      refine (rnot3_any _ _ p0 q0 6 (T0.on hp.on) (by decide) (by decide)).mono ?_
      rintro e w' ⟨u, rfl, I8, P8⟩
      exact ⟨_, rfl, P8, I8⟩
    · refine .inr fun a w hp => ob_yes (wanted_yes (P := Tryz.prog) (j := 23) (d := 37) (b := true) rfl rfl (hp.fact 23 37 (by kernel_rfl) rfl)) ?_
      have h39 : IsS w (a.tmps.getD 39 undef) (1 - q0) (1 - p0) (13) := (hp.fact 25 39 (by kernel_rfl) rfl)
      obtain ⟨v39, e39⟩ : ∃ v, a.tmps.getD 39 undef = v := ⟨_, rfl⟩
      rw [e39] at h39
      have h41 : IsS w (a.tmps.getD 41 undef) (1 - q0) (1 - p0) (13) := (hp.fact 27 41 (by kernel_rfl) rfl)
      obtain ⟨v41, e41⟩ : ∃ v, a.tmps.getD 41 undef = v := ⟨_, rfl⟩
      rw [e41] at h41
      unfold Does
      go_simp
      refine (ssame_any _ _ _ _ _ _ _ h39 h41).mono ?_
      rintro e w' ⟨rfl, P8⟩
      exact ⟨_, rfl, P8, rfl⟩
    · refine .inr fun a w hp => ob_yes rfl ?_
      have h37 : a.tmps.getD 37 undef = .bool true := (hp.fact 23 37 (by kernel_rfl) rfl)
      have h42 : a.tmps.getD 42 undef = .bool true := (hp.fact 28 42 (by kernel_rfl) rfl)
      unfold Does
      go_simp
      exact ⟨_, rfl, On.refl _, rfl⟩
    · exact .inr fun a w hp => ob_yes rfl (ob_move (hp.fact 29 43 (by kernel_rfl) rfl))
    · exact .inr fun a w hp => ob_yes (wanted_yes (P := Tryz.prog) (j := 30) (d := 44) (b := true) rfl rfl (hp.fact 30 44 (by kernel_rfl) rfl)) (ob_loadSp (hp.box (k := 0) rfl (Nat.le_refl _) (.inl (Nat.le_refl _)) (by kernel_rfl) rfl).1 (hp.box (k := 0) rfl (Nat.le_refl _) (.inl (Nat.le_refl _)) (by kernel_rfl) rfl).2 rfl)
    · refine .inr fun a w hp => ob_yes (wanted_yes (P := Tryz.prog) (j := 30) (d := 44) (b := true) rfl rfl (hp.fact 30 44 (by kernel_rfl) rfl)) ?_
      have h45 : a.tmps.getD 45 undef = .agg #[.bool ba0, .slice Aa0 na0 ca0, .slice Ba0 ma0 oa0, .bool bb0, .slice Ab0 nb0 cb0, .slice Bb0 mb0 ob0] := (hp.fact 31 45 (by kernel_rfl) rfl)
      unfold Does
      go_simp
      refine (spclip_any _ _ p0 q0 6 (T0.on hp.on) (by decide) (by decide)).mono ?_
      rintro e w' ⟨u, rfl, I8, P8⟩
      exact ⟨_, rfl, P8, I8⟩
    · exact .inr fun a w hp => ob_yes (wanted_yes (P := Tryz.prog) (j := 30) (d := 44) (b := true) rfl rfl (hp.fact 30 44 (by kernel_rfl) rfl)) (ob_loadSp (hp.box (k := 0) rfl (Nat.le_refl _) (.inl (Nat.le_refl _)) (by kernel_rfl) rfl).1 (hp.box (k := 0) rfl (Nat.le_refl _) (.inl (Nat.le_refl _)) (by kernel_rfl) rfl).2 rfl)
    · refine .inr fun a w hp => ob_yes (wanted_yes (P := Tryz.prog) (j := 30) (d := 44) (b := true) rfl rfl (hp.fact 30 44 (by kernel_rfl) rfl)) ?_
      have h47 : a.tmps.getD 47 undef = .agg #[.bool ba0, .slice Aa0 na0 ca0, .slice Ba0 ma0 oa0, .bool bb0, .slice Ab0 nb0 cb0, .slice Bb0 mb0 ob0] := (hp.fact 33 47 (by kernel_rfl) rfl)
      unfold Does
      go_simp
      refine (rclip3_any _ _ p0 q0 6 (T0.on hp.on) (by decide) (by decide)).mono ?_
      rintro e w' ⟨u, rfl, I8, P8⟩
      exact ⟨_, rfl, P8, I8⟩
    · refine .inr fun a w hp => ob_yes (wanted_yes (P := Tryz.prog) (j := 30) (d := 44) (b := true) rfl rfl (hp.fact 30 44 (by kernel_rfl) rfl)) ?_
      have h46 : IsS w (a.tmps.getD 46 undef) (clipR p0) (clipR q0) (6) := (hp.fact 32 46 (by kernel_rfl) rfl)
      obtain ⟨v46, e46⟩ : ∃ v, a.tmps.getD 46 undef = v := ⟨_, rfl⟩
      rw [e46] at h46
      have h48 : IsS w (a.tmps.getD 48 undef) (clipR p0) (clipR q0) (6) := (hp.fact 34 48 (by kernel_rfl) rfl)
      obtain ⟨v48, e48⟩ : ∃ v, a.tmps.getD 48 undef = v := ⟨_, rfl⟩
      rw [e48] at h48
      unfold Does
      go_simp
      refine (ssame_any _ _ _ _ _ _ _ h46 h48).mono ?_
      rintro e w' ⟨rfl, P8⟩
      exact ⟨_, rfl, P8, rfl⟩
    · refine .inr fun a w hp => ob_yes rfl ?_
      have h44 : a.tmps.getD 44 undef = .bool true := (hp.fact 30 44 (by kernel_rfl) rfl)
      have h49 : a.tmps.getD 49 undef = .bool true := (hp.fact 35 49 (by kernel_rfl) rfl)
      unfold Does
      go_simp
      exact ⟨_, rfl, On.refl _, rfl⟩
    · exact .inr fun a w hp => ob_yes rfl (ob_assign (hp.fact 36 50 (by kernel_rfl) rfl))
  · intro f wr hon hk hf hb hap
    obtain ⟨q0, q1, qz⟩ := hb
    clear qz
    have O2 : Own wr (w.heap.size) 26 #[.bool ba0, .slice Aa0 na0 ca0, .slice Ba0 ma0 oa0, .bool bb0, .slice Ab0 nb0 cb0, .slice Bb0 mb0 ob0] := q0
    have c2_0 : wr.cell? ⟨w.heap.size, 0, none⟩ = some (.bool ba0) := O2.cell 0
    have z2_0 := O2.frozen 0
    have c2_1 : wr.cell? ⟨w.heap.size, 1, none⟩ = some (.slice Aa0 na0 ca0) := O2.cell 1
    have z2_1 := O2.frozen 1
    have c2_2 : wr.cell? ⟨w.heap.size, 2, none⟩ = some (.slice Ba0 ma0 oa0) := O2.cell 2
    have z2_2 := O2.frozen 2
    have c2_3 : wr.cell? ⟨w.heap.size, 3, none⟩ = some (.bool bb0) := O2.cell 3
    have z2_3 := O2.frozen 3
    have c2_4 : wr.cell? ⟨w.heap.size, 4, none⟩ = some (.slice Ab0 nb0 cb0) := O2.cell 4
    have z2_4 := O2.frozen 4
    have c2_5 : wr.cell? ⟨w.heap.size, 5, none⟩ = some (.slice Bb0 mb0 ob0) := O2.cell 5
    have z2_5 := O2.frozen 5
    clear q0
    have O3 : Own wr (w.heap.size + 1) 26 #[.bool ba1, .slice Aa1 na1 ca1, .slice Ba1 ma1 oa1, .bool bb1, .slice Ab1 nb1 cb1, .slice Bb1 mb1 ob1] := q1
    have c3_0 : wr.cell? ⟨w.heap.size + 1, 0, none⟩ = some (.bool ba1) := O3.cell 0
    have z3_0 := O3.frozen 0
    have c3_1 : wr.cell? ⟨w.heap.size + 1, 1, none⟩ = some (.slice Aa1 na1 ca1) := O3.cell 1
    have z3_1 := O3.frozen 1
    have c3_2 : wr.cell? ⟨w.heap.size + 1, 2, none⟩ = some (.slice Ba1 ma1 oa1) := O3.cell 2
    have z3_2 := O3.frozen 2
    have c3_3 : wr.cell? ⟨w.heap.size + 1, 3, none⟩ = some (.bool bb1) := O3.cell 3
    have z3_3 := O3.frozen 3
    have c3_4 : wr.cell? ⟨w.heap.size + 1, 4, none⟩ = some (.slice Ab1 nb1 cb1) := O3.cell 4
    have z3_4 := O3.frozen 4
    have c3_5 : wr.cell? ⟨w.heap.size + 1, 5, none⟩ = some (.slice Bb1 mb1 ob1) := O3.cell 5
    have z3_5 := O3.frozen 5
    clear q1
    have e4 : f 4 = .bool true := hf 37 4 rfl
    clear hf hap
    simp only [fillL, e4]
    clear e4
    go_wp2
    go_ret
    exact ⟨rfl, hon⟩
theorem sums_any (w : World) (ba0 : Bool) (Aa0 : Option Addr) (na0 ca0 : Nat) (Ba0 : Option Addr) (ma0 oa0 : Nat) (bb0 : Bool) (Ab0 : Option Addr) (nb0 cb0 : Nat) (Bb0 : Option Addr) (mb0 ob0 : Nat) (xs0 ys0 us0 vs0 : List Nat) (R0 : Rd w Aa0 na0 ca0 xs0) (S0 : Rd w Ba0 ma0 oa0 ys0) (U0 : Rd w Ab0 nb0 cb0 us0) (V0 : Rd w Bb0 mb0 ob0 vs0) (ba1 : Bool) (Aa1 : Option Addr) (na1 ca1 : Nat) (Ba1 : Option Addr) (ma1 oa1 : Nat) (bb1 : Bool) (Ab1 : Option Addr) (nb1 cb1 : Nat) (Bb1 : Option Addr) (mb1 ob1 : Nat) (xs1 ys1 us1 vs1 : List Nat) (R1 : Rd w Aa1 na1 ca1 xs1) (S1 : Rd w Ba1 ma1 oa1 ys1) (U1 : Rd w Ab1 nb1 cb1 us1) (V1 : Rd w Bb1 mb1 ob1 vs1)  :
    Calls Tryz.prog 4 #[.agg #[.bool ba0, .slice Aa0 na0 ca0, .slice Ba0 ma0 oa0, .bool bb0, .slice Ab0 nb0 cb0, .slice Bb0 mb0 ob0], .agg #[.bool ba1, .slice Aa1 na1 ca1, .slice Ba1 ma1 oa1, .bool bb1, .slice Ab1 nb1 cb1, .slice Bb1 mb1 ob1]] w fun e w' => e = .returned (.bool true) ∧ On w w' := by
  by_cases hs : na0 ≤ 6 ∧ ma0 ≤ 6 ∧ nb0 ≤ 6 ∧ mb0 ≤ 6 ∧ na1 ≤ 6 ∧ ma1 ≤ 6 ∧ nb1 ≤ 6 ∧ mb1 ≤ 6
  · exact sums_main w ba0 Aa0 na0 ca0 Ba0 ma0 oa0 bb0 Ab0 nb0 cb0 Bb0 mb0 ob0 xs0 ys0 us0 vs0 R0 S0 U0 V0 ba1 Aa1 na1 ca1 Ba1 ma1 oa1 bb1 Ab1 nb1 cb1 Bb1 mb1 ob1 xs1 ys1 us1 vs1 R1 S1 U1 V1  hs
  · have : ∃ (mi : Nat) (qi : Nat × Nat × Nat × Nat), [(na0, ma0, nb0, mb0), (na1, ma1, nb1, mb1)][mi]? = some qi ∧ Big qi := by
      by_cases h0 : Big (na0, ma0, nb0, mb0)
      · exact ⟨0, _, rfl, h0⟩
      by_cases h1 : Big (na1, ma1, nb1, mb1)
      · exact ⟨1, _, rfl, h1⟩
      exfalso
      apply hs
      simp only [Big] at h0 h1
      omega
    obtain ⟨mi, qi, h1, h2⟩ := this
    exact sums_large w ba0 Aa0 na0 ca0 Ba0 ma0 oa0 bb0 Ab0 nb0 cb0 Bb0 mb0 ob0 xs0 ys0 us0 vs0 R0 S0 U0 V0 ba1 Aa1 na1 ca1 Ba1 ma1 oa1 bb1 Ab1 nb1 cb1 Bb1 mb1 ob1 xs1 ys1 us1 vs1 R1 S1 U1 V1  mi qi h1 h2
end Num
end Go.Proofs.YtkchpagjkgmpmaaGreat
