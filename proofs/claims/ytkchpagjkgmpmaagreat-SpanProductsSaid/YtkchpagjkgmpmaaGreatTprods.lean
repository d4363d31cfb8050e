/-
  SpanProducts, walked.
-/
import Derived.Test.YtkchpagjkgmpmaaGreatSrd
namespace Go.Proofs.YtkchpagjkgmpmaaGreat
open Go.RowKit
set_option linter.unusedVariables false
namespace Num
theorem SpPost2.wide {w : World} {lo hi : Rat} {L M : Nat} {er : Value} {e : Ending} {w' : World} (h : SpPost2 w lo hi L er e w') (k : L ≤ M) : SpPost2 w lo hi M er e w' := by
  obtain ⟨v, h1, h2, h3⟩ := h
  exact ⟨v, h1, h2.wide k, h3⟩
theorem sdv_twin (p q r s : Rat) : ∃ (lo hi : Rat) (er : Value) (z : Int), (∀ w v v', Sp w v p q 6 → Sp w v' r s 6 → Calls Tryz.prog 32 #[v, v'] w (SpPost2 w lo hi 49 er)) ∧ (∀ w v v', Sp w v p q 6 → Sp w v' r s 6 → Calls Tryz.prog 33 #[v, v'] w (SpPost2 w lo hi 49 (.int .i64 z))) ∧ ∀ w, Calls Tryz.prog 14 #[er] w fun e w' => e = .returned (.int .i64 z) ∧ w = w' := by
  by_cases hz : r ≤ 0 ∧ 0 ≤ s
  · exact ⟨0, 0, _, 8, fun w v v' h k => (spdiv_zero w v v' p q r s 6 h k (by decide) (by decide) hz).mono fun e w' h => h.wide (by decide), fun w v v' h k => (rdiv3_zero w v v' p q r s 6 h k (by decide) (by decide) hz).mono fun e w' h => h.wide (by decide), fun w => num_err w 8⟩
  · exact ⟨_, _, _, 0, fun w v v' h k => spdiv_ok w v v' p q r s 6 h k (by decide) (by decide) hz, fun w v v' h k => (rdiv3_ok w v v' p q r s 6 h k (by decide) (by decide) hz).mono fun e w' h => h.wide (by decide), fun w => num_nil w⟩
set_option maxRecDepth 100000 in
set_option maxHeartbeats 1600000 in
theorem sprods_large (w : World) (ba0 : Bool) (Aa0 : Option Addr) (na0 ca0 : Nat) (Ba0 : Option Addr) (ma0 oa0 : Nat) (bb0 : Bool) (Ab0 : Option Addr) (nb0 cb0 : Nat) (Bb0 : Option Addr) (mb0 ob0 : Nat) (xs0 ys0 us0 vs0 : List Nat) (R0 : Rd w Aa0 na0 ca0 xs0) (S0 : Rd w Ba0 ma0 oa0 ys0) (U0 : Rd w Ab0 nb0 cb0 us0) (V0 : Rd w Bb0 mb0 ob0 vs0) (ba1 : Bool) (Aa1 : Option Addr) (na1 ca1 : Nat) (Ba1 : Option Addr) (ma1 oa1 : Nat) (bb1 : Bool) (Ab1 : Option Addr) (nb1 cb1 : Nat) (Bb1 : Option Addr) (mb1 ob1 : Nat) (xs1 ys1 us1 vs1 : List Nat) (R1 : Rd w Aa1 na1 ca1 xs1) (S1 : Rd w Ba1 ma1 oa1 ys1) (U1 : Rd w Ab1 nb1 cb1 us1) (V1 : Rd w Bb1 mb1 ob1 vs1)  (mi : Nat) (qi : Nat × Nat × Nat × Nat) (hmi : [(na0, ma0, nb0, mb0), (na1, ma1, nb1, mb1)][mi]? = some qi) (hyi : Big qi) :
    Calls Tryz.prog 5 #[.agg #[.bool ba0, .slice Aa0 na0 ca0, .slice Ba0 ma0 oa0, .bool bb0, .slice Ab0 nb0 cb0, .slice Bb0 mb0 ob0], .agg #[.bool ba1, .slice Aa1 na1 ca1, .slice Ba1 ma1 oa1, .bool bb1, .slice Ab1 nb1 cb1, .slice Bb1 mb1 ob1]] w fun e w' => e = .returned (.bool true) ∧ On w w' := by
  have HMI := Lib.hid hmi
  have HYI := Lib.hid hyi
  clear hmi hyi
  have B : On w ((w.alloc (.cells #[.bool ba0, .slice Aa0 na0 ca0, .slice Ba0 ma0 oa0, .bool bb0, .slice Ab0 nb0 cb0, .slice Bb0 mb0 ob0] 26)).alloc (.cells #[.bool ba1, .slice Aa1 na1 ca1, .slice Ba1 ma1 oa1, .bool bb1, .slice Ab1 nb1 cb1, .slice Bb1 mb1 ob1] 26)) := On.alloc (On.alloc (On.refl w) _) _
  have OB2 : w.heap.size ≤ w.heap.size ∧ Own ((w.alloc (.cells #[.bool ba0, .slice Aa0 na0 ca0, .slice Ba0 ma0 oa0, .bool bb0, .slice Ab0 nb0 cb0, .slice Bb0 mb0 ob0] 26)).alloc (.cells #[.bool ba1, .slice Aa1 na1 ca1, .slice Ba1 ma1 oa1, .bool bb1, .slice Ab1 nb1 cb1, .slice Bb1 mb1 ob1] 26)) (w.heap.size) 26 #[.bool ba0, .slice Aa0 na0 ca0, .slice Ba0 ma0 oa0, .bool bb0, .slice Ab0 nb0 cb0, .slice Bb0 mb0 ob0] := ⟨by omega, ((Own.at_ w (w.heap.size) (by simp) 26 #[.bool ba0, .slice Aa0 na0 ca0, .slice Ba0 ma0 oa0, .bool bb0, .slice Ab0 nb0 cb0, .slice Bb0 mb0 ob0]).alloc (.cells #[.bool ba1, .slice Aa1 na1 ca1, .slice Ba1 ma1 oa1, .bool bb1, .slice Ab1 nb1 cb1, .slice Bb1 mb1 ob1] 26))⟩
  have OB3 : w.heap.size ≤ w.heap.size + 1 ∧ Own ((w.alloc (.cells #[.bool ba0, .slice Aa0 na0 ca0, .slice Ba0 ma0 oa0, .bool bb0, .slice Ab0 nb0 cb0, .slice Bb0 mb0 ob0] 26)).alloc (.cells #[.bool ba1, .slice Aa1 na1 ca1, .slice Ba1 ma1 oa1, .bool bb1, .slice Ab1 nb1 cb1, .slice Bb1 mb1 ob1] 26)) (w.heap.size + 1) 26 #[.bool ba1, .slice Aa1 na1 ca1, .slice Ba1 ma1 oa1, .bool bb1, .slice Ab1 nb1 cb1, .slice Bb1 mb1 ob1] := ⟨by omega, (Own.at_ (w.alloc (.cells #[.bool ba0, .slice Aa0 na0 ca0, .slice Ba0 ma0 oa0, .bool bb0, .slice Ab0 nb0 cb0, .slice Bb0 mb0 ob0] 26)) (w.heap.size + 1) (by simp) 26 #[.bool ba1, .slice Aa1 na1 ca1, .slice Ba1 ma1 oa1, .bool bb1, .slice Ab1 nb1 cb1, .slice Bb1 mb1 ob1])⟩
  go_enter Tryz.func5, Tryz.ntmps5
  go_wp2_with fail
  refine (awake03 _).mono ?_
  rintro e w1 ⟨rfl, P1⟩
  replace OB2 := And.intro OB2.1 (OB2.2.on P1)
  replace OB3 := And.intro OB3.1 (OB3.2.on P1)
  replace B := B.trans P1
  have y2_0 : w1.cell? ⟨w.heap.size, 0, none⟩ = some (.bool ba0) := OB2.2.cell 0
  have y2_1 : w1.cell? ⟨w.heap.size, 1, none⟩ = some (.slice Aa0 na0 ca0) := OB2.2.cell 1
  have y2_2 : w1.cell? ⟨w.heap.size, 2, none⟩ = some (.slice Ba0 ma0 oa0) := OB2.2.cell 2
  have y2_3 : w1.cell? ⟨w.heap.size, 3, none⟩ = some (.bool bb0) := OB2.2.cell 3
  have y2_4 : w1.cell? ⟨w.heap.size, 4, none⟩ = some (.slice Ab0 nb0 cb0) := OB2.2.cell 4
  have y2_5 : w1.cell? ⟨w.heap.size, 5, none⟩ = some (.slice Bb0 mb0 ob0) := OB2.2.cell 5
  have y2_f0 := OB2.2.frozen 0
  have y2_f1 := OB2.2.frozen 1
  have y2_f2 := OB2.2.frozen 2
  have y2_f3 := OB2.2.frozen 3
  have y2_f4 := OB2.2.frozen 4
  have y2_f5 := OB2.2.frozen 5
  have y3_0 : w1.cell? ⟨w.heap.size + 1, 0, none⟩ = some (.bool ba1) := OB3.2.cell 0
  have y3_1 : w1.cell? ⟨w.heap.size + 1, 1, none⟩ = some (.slice Aa1 na1 ca1) := OB3.2.cell 1
  have y3_2 : w1.cell? ⟨w.heap.size + 1, 2, none⟩ = some (.slice Ba1 ma1 oa1) := OB3.2.cell 2
  have y3_3 : w1.cell? ⟨w.heap.size + 1, 3, none⟩ = some (.bool bb1) := OB3.2.cell 3
  have y3_4 : w1.cell? ⟨w.heap.size + 1, 4, none⟩ = some (.slice Ab1 nb1 cb1) := OB3.2.cell 4
  have y3_5 : w1.cell? ⟨w.heap.size + 1, 5, none⟩ = some (.slice Bb1 mb1 ob1) := OB3.2.cell 5
  have y3_f0 := OB3.2.frozen 0
  have y3_f1 := OB3.2.frozen 1
  have y3_f2 := OB3.2.frozen 2
  have y3_f3 := OB3.2.frozen 3
  have y3_f4 := OB3.2.frozen 4
  have y3_f5 := OB3.2.frozen 5
  go_wp2_with fail
  clear y2_0 y2_f0 y2_1 y2_f1 y2_2 y2_f2 y2_3 y2_f3 y2_4 y2_f4 y2_5 y2_f5
  clear y3_0 y3_f0 y3_1 y3_f1 y3_2 y3_f2 y3_3 y3_f3 y3_4 y3_f4 y3_5 y3_f5
  have B1 := (On.refl w1).alloc (.cells #[.bool ba0, .slice Aa0 na0 ca0, .slice Ba0 ma0 oa0, .bool bb0, .slice Ab0 nb0 cb0, .slice Bb0 mb0 ob0, .bool ba1, .slice Aa1 na1 ca1, .slice Ba1 ma1 oa1, .bool bb1, .slice Ab1 nb1 cb1, .slice Bb1 mb1 ob1] 26)
  replace OB2 := And.intro OB2.1 (OB2.2.on B1)
  replace OB3 := And.intro OB3.1 (OB3.2.on B1)
  replace B := B.trans B1
  have hlens := slens2 ba0 Aa0 na0 ca0 Ba0 ma0 oa0 bb0 Ab0 nb0 cb0 Bb0 mb0 ob0 xs0 ys0 us0 vs0 (R0.on B) (S0.on B) (U0.on B) (V0.on B) ba1 Aa1 na1 ca1 Ba1 ma1 oa1 bb1 Ab1 nb1 cb1 Bb1 mb1 ob1 xs1 ys1 us1 vs1 (R1.on B) (S1.on B) (U1.on B) (V1.on B) (Own.new w1 26 #[.bool ba0, .slice Aa0 na0 ca0, .slice Ba0 ma0 oa0, .bool bb0, .slice Ab0 nb0 cb0, .slice Bb0 mb0 ob0, .bool ba1, .slice Aa1 na1 ca1, .slice Ba1 ma1 oa1, .bool bb1, .slice Ab1 nb1 cb1, .slice Bb1 mb1 ob1])
  refine (slarge_yes _ _ 2 2 _ hlens rfl (by decide) (by decide) (by decide) mi qi HMI.out HYI.out).mono ?_
  rintro e w2 ⟨rfl, P2⟩
  clear hlens B1 P1
  replace OB2 := And.intro OB2.1 (OB2.2.on P2)
  replace OB3 := And.intro OB3.1 (OB3.2.on P2)
  replace B := B.trans P2
  clear P2
  go_wp2_with fail
  refine (awake03 _).mono ?_
  rintro e w3 ⟨rfl, P3⟩
  go_wp2
  go_ret
  exact ⟨rfl, B.trans P3⟩
set_option maxRecDepth 100000 in
set_option maxHeartbeats 1600000 in
theorem sprods_main (w : World) (ba0 : Bool) (Aa0 : Option Addr) (na0 ca0 : Nat) (Ba0 : Option Addr) (ma0 oa0 : Nat) (bb0 : Bool) (Ab0 : Option Addr) (nb0 cb0 : Nat) (Bb0 : Option Addr) (mb0 ob0 : Nat) (xs0 ys0 us0 vs0 : List Nat) (R0 : Rd w Aa0 na0 ca0 xs0) (S0 : Rd w Ba0 ma0 oa0 ys0) (U0 : Rd w Ab0 nb0 cb0 us0) (V0 : Rd w Bb0 mb0 ob0 vs0) (ba1 : Bool) (Aa1 : Option Addr) (na1 ca1 : Nat) (Ba1 : Option Addr) (ma1 oa1 : Nat) (bb1 : Bool) (Ab1 : Option Addr) (nb1 cb1 : Nat) (Bb1 : Option Addr) (mb1 ob1 : Nat) (xs1 ys1 us1 vs1 : List Nat) (R1 : Rd w Aa1 na1 ca1 xs1) (S1 : Rd w Ba1 ma1 oa1 ys1) (U1 : Rd w Ab1 nb1 cb1 us1) (V1 : Rd w Bb1 mb1 ob1 vs1)  (hs : na0 ≤ 6 ∧ ma0 ≤ 6 ∧ nb0 ≤ 6 ∧ mb0 ≤ 6 ∧ na1 ≤ 6 ∧ ma1 ≤ 6 ∧ nb1 ≤ 6 ∧ mb1 ≤ 6)  :
    Calls Tryz.prog 5 #[.agg #[.bool ba0, .slice Aa0 na0 ca0, .slice Ba0 ma0 oa0, .bool bb0, .slice Ab0 nb0 cb0, .slice Bb0 mb0 ob0], .agg #[.bool ba1, .slice Aa1 na1 ca1, .slice Ba1 ma1 oa1, .bool bb1, .slice Ab1 nb1 cb1, .slice Bb1 mb1 ob1]] w fun e w' => e = .returned (.bool true) ∧ On w w' := by
  obtain ⟨lo0, hi0, f0, Q0⟩ : ∃ lo hi f, SRaw w (.agg #[.bool ba0, .slice Aa0 na0 ca0, .slice Ba0 ma0 oa0, .bool bb0, .slice Ab0 nb0 cb0, .slice Bb0 mb0 ob0]) lo hi f 6 := ⟨_, _, _, ba0, Aa0, na0, ca0, Ba0, ma0, oa0, bb0, Ab0, nb0, cb0, Bb0, mb0, ob0, xs0, ys0, us0, vs0, rfl, R0, S0, U0, V0, by omega, by omega, by omega, by omega, rfl, rfl, rfl⟩
  obtain ⟨lo1, hi1, f1, Q1⟩ : ∃ lo hi f, SRaw w (.agg #[.bool ba1, .slice Aa1 na1 ca1, .slice Ba1 ma1 oa1, .bool bb1, .slice Ab1 nb1 cb1, .slice Bb1 mb1 ob1]) lo hi f 6 := ⟨_, _, _, ba1, Aa1, na1, ca1, Ba1, ma1, oa1, bb1, Ab1, nb1, cb1, Bb1, mb1, ob1, xs1, ys1, us1, vs1, rfl, R1, S1, U1, V1, by omega, by omega, by omega, by omega, rfl, rfl, rfl⟩
  obtain ⟨p0, q0, T0⟩ : ∃ p q, Sp w (.agg #[.bool ba0, .slice Aa0 na0 ca0, .slice Ba0 ma0 oa0, .bool bb0, .slice Ab0 nb0 cb0, .slice Bb0 mb0 ob0]) p q 6 := ⟨_, _, _, _, _, Q0, rfl, rfl⟩
  obtain ⟨p1, q1, T1⟩ : ∃ p q, Sp w (.agg #[.bool ba1, .slice Aa1 na1 ca1, .slice Ba1 ma1 oa1, .bool bb1, .slice Ab1 nb1 cb1, .slice Bb1 mb1 ob1]) p q 6 := ⟨_, _, _, _, _, Q1, rfl, rfl⟩
  obtain ⟨ml, mh, me, mz, TA, TB, TC⟩ := sdv_twin p0 q0 p1 q1
  have HTA := Lib.hid TA
  have HTB := Lib.hid TB
  have HTC := Lib.hid TC
  clear TA TB TC Q0 Q1
  have HSM : Hid (∀ p ∈ [(na0, ma0, nb0, mb0), (na1, ma1, nb1, mb1)], ¬ Big p) := Lib.hid (by intro p hp; simp at hp; rcases hp with rfl | rfl <;> (unfold Big; simp only; omega))
  have B : On w ((w.alloc (.cells #[.bool ba0, .slice Aa0 na0 ca0, .slice Ba0 ma0 oa0, .bool bb0, .slice Ab0 nb0 cb0, .slice Bb0 mb0 ob0] 26)).alloc (.cells #[.bool ba1, .slice Aa1 na1 ca1, .slice Ba1 ma1 oa1, .bool bb1, .slice Ab1 nb1 cb1, .slice Bb1 mb1 ob1] 26)) := On.alloc (On.alloc (On.refl w) _) _
  have OB2 : w.heap.size ≤ w.heap.size ∧ Own ((w.alloc (.cells #[.bool ba0, .slice Aa0 na0 ca0, .slice Ba0 ma0 oa0, .bool bb0, .slice Ab0 nb0 cb0, .slice Bb0 mb0 ob0] 26)).alloc (.cells #[.bool ba1, .slice Aa1 na1 ca1, .slice Ba1 ma1 oa1, .bool bb1, .slice Ab1 nb1 cb1, .slice Bb1 mb1 ob1] 26)) (w.heap.size) 26 #[.bool ba0, .slice Aa0 na0 ca0, .slice Ba0 ma0 oa0, .bool bb0, .slice Ab0 nb0 cb0, .slice Bb0 mb0 ob0] := ⟨by omega, ((Own.at_ w (w.heap.size) (by simp) 26 #[.bool ba0, .slice Aa0 na0 ca0, .slice Ba0 ma0 oa0, .bool bb0, .slice Ab0 nb0 cb0, .slice Bb0 mb0 ob0]).alloc (.cells #[.bool ba1, .slice Aa1 na1 ca1, .slice Ba1 ma1 oa1, .bool bb1, .slice Ab1 nb1 cb1, .slice Bb1 mb1 ob1] 26))⟩
  have OB3 : w.heap.size ≤ w.heap.size + 1 ∧ Own ((w.alloc (.cells #[.bool ba0, .slice Aa0 na0 ca0, .slice Ba0 ma0 oa0, .bool bb0, .slice Ab0 nb0 cb0, .slice Bb0 mb0 ob0] 26)).alloc (.cells #[.bool ba1, .slice Aa1 na1 ca1, .slice Ba1 ma1 oa1, .bool bb1, .slice Ab1 nb1 cb1, .slice Bb1 mb1 ob1] 26)) (w.heap.size + 1) 26 #[.bool ba1, .slice Aa1 na1 ca1, .slice Ba1 ma1 oa1, .bool bb1, .slice Ab1 nb1 cb1, .slice Bb1 mb1 ob1] := ⟨by omega, (Own.at_ (w.alloc (.cells #[.bool ba0, .slice Aa0 na0 ca0, .slice Ba0 ma0 oa0, .bool bb0, .slice Ab0 nb0 cb0, .slice Bb0 mb0 ob0] 26)) (w.heap.size + 1) (by simp) 26 #[.bool ba1, .slice Aa1 na1 ca1, .slice Ba1 ma1 oa1, .bool bb1, .slice Ab1 nb1 cb1, .slice Bb1 mb1 ob1])⟩
  go_enter Tryz.func5, Tryz.ntmps5
  go_wp2_with fail
  refine (awake03 _).mono ?_
  rintro e w1 ⟨rfl, P1⟩
  replace OB2 := And.intro OB2.1 (OB2.2.on P1)
  replace OB3 := And.intro OB3.1 (OB3.2.on P1)
  replace B := B.trans P1
  have y2_0 : w1.cell? ⟨w.heap.size, 0, none⟩ = some (.bool ba0) := OB2.2.cell 0
  have y2_1 : w1.cell? ⟨w.heap.size, 1, none⟩ = some (.slice Aa0 na0 ca0) := OB2.2.cell 1
  have y2_2 : w1.cell? ⟨w.heap.size, 2, none⟩ = some (.slice Ba0 ma0 oa0) := OB2.2.cell 2
  have y2_3 : w1.cell? ⟨w.heap.size, 3, none⟩ = some (.bool bb0) := OB2.2.cell 3
  have y2_4 : w1.cell? ⟨w.heap.size, 4, none⟩ = some (.slice Ab0 nb0 cb0) := OB2.2.cell 4
  have y2_5 : w1.cell? ⟨w.heap.size, 5, none⟩ = some (.slice Bb0 mb0 ob0) := OB2.2.cell 5
  have y2_f0 := OB2.2.frozen 0
  have y2_f1 := OB2.2.frozen 1
  have y2_f2 := OB2.2.frozen 2
  have y2_f3 := OB2.2.frozen 3
  have y2_f4 := OB2.2.frozen 4
  have y2_f5 := OB2.2.frozen 5
  have y3_0 : w1.cell? ⟨w.heap.size + 1, 0, none⟩ = some (.bool ba1) := OB3.2.cell 0
  have y3_1 : w1.cell? ⟨w.heap.size + 1, 1, none⟩ = some (.slice Aa1 na1 ca1) := OB3.2.cell 1
  have y3_2 : w1.cell? ⟨w.heap.size + 1, 2, none⟩ = some (.slice Ba1 ma1 oa1) := OB3.2.cell 2
  have y3_3 : w1.cell? ⟨w.heap.size + 1, 3, none⟩ = some (.bool bb1) := OB3.2.cell 3
  have y3_4 : w1.cell? ⟨w.heap.size + 1, 4, none⟩ = some (.slice Ab1 nb1 cb1) := OB3.2.cell 4
  have y3_5 : w1.cell? ⟨w.heap.size + 1, 5, none⟩ = some (.slice Bb1 mb1 ob1) := OB3.2.cell 5
  have y3_f0 := OB3.2.frozen 0
  have y3_f1 := OB3.2.frozen 1
  have y3_f2 := OB3.2.frozen 2
  have y3_f3 := OB3.2.frozen 3
  have y3_f4 := OB3.2.frozen 4
  have y3_f5 := OB3.2.frozen 5
  go_wp2_with fail
  clear y2_0 y2_f0 y2_1 y2_f1 y2_2 y2_f2 y2_3 y2_f3 y2_4 y2_f4 y2_5 y2_f5
  clear y3_0 y3_f0 y3_1 y3_f1 y3_2 y3_f2 y3_3 y3_f3 y3_4 y3_f4 y3_5 y3_f5
  have B1 := (On.refl w1).alloc (.cells #[.bool ba0, .slice Aa0 na0 ca0, .slice Ba0 ma0 oa0, .bool bb0, .slice Ab0 nb0 cb0, .slice Bb0 mb0 ob0, .bool ba1, .slice Aa1 na1 ca1, .slice Ba1 ma1 oa1, .bool bb1, .slice Ab1 nb1 cb1, .slice Bb1 mb1 ob1] 26)
  replace OB2 := And.intro OB2.1 (OB2.2.on B1)
  replace OB3 := And.intro OB3.1 (OB3.2.on B1)
  replace B := B.trans B1
  have hlens := slens2 ba0 Aa0 na0 ca0 Ba0 ma0 oa0 bb0 Ab0 nb0 cb0 Bb0 mb0 ob0 xs0 ys0 us0 vs0 (R0.on B) (S0.on B) (U0.on B) (V0.on B) ba1 Aa1 na1 ca1 Ba1 ma1 oa1 bb1 Ab1 nb1 cb1 Bb1 mb1 ob1 xs1 ys1 us1 vs1 (R1.on B) (S1.on B) (U1.on B) (V1.on B) (Own.new w1 26 #[.bool ba0, .slice Aa0 na0 ca0, .slice Ba0 ma0 oa0, .bool bb0, .slice Ab0 nb0 cb0, .slice Bb0 mb0 ob0, .bool ba1, .slice Aa1 na1 ca1, .slice Ba1 ma1 oa1, .bool bb1, .slice Ab1 nb1 cb1, .slice Bb1 mb1 ob1])
  refine (slarge_no _ _ 2 2 _ hlens rfl (by decide) (by decide) (by decide) HSM.out).mono ?_
  rintro e w2 ⟨rfl, P2⟩
  clear hlens B1 P1
  replace OB2 := And.intro OB2.1 (OB2.2.on P2)
  replace OB3 := And.intro OB3.1 (OB3.2.on P2)
  replace B := B.trans P2
  clear P2
  clear HSM
  have y2_0 : w2.cell? ⟨w.heap.size, 0, none⟩ = some (.bool ba0) := OB2.2.cell 0
  have y2_1 : w2.cell? ⟨w.heap.size, 1, none⟩ = some (.slice Aa0 na0 ca0) := OB2.2.cell 1
  have y2_2 : w2.cell? ⟨w.heap.size, 2, none⟩ = some (.slice Ba0 ma0 oa0) := OB2.2.cell 2
  have y2_3 : w2.cell? ⟨w.heap.size, 3, none⟩ = some (.bool bb0) := OB2.2.cell 3
  have y2_4 : w2.cell? ⟨w.heap.size, 4, none⟩ = some (.slice Ab0 nb0 cb0) := OB2.2.cell 4
  have y2_5 : w2.cell? ⟨w.heap.size, 5, none⟩ = some (.slice Bb0 mb0 ob0) := OB2.2.cell 5
  have y2_f0 := OB2.2.frozen 0
  have y2_f1 := OB2.2.frozen 1
  have y2_f2 := OB2.2.frozen 2
  have y2_f3 := OB2.2.frozen 3
  have y2_f4 := OB2.2.frozen 4
  have y2_f5 := OB2.2.frozen 5
  have y3_0 : w2.cell? ⟨w.heap.size + 1, 0, none⟩ = some (.bool ba1) := OB3.2.cell 0
  have y3_1 : w2.cell? ⟨w.heap.size + 1, 1, none⟩ = some (.slice Aa1 na1 ca1) := OB3.2.cell 1
  have y3_2 : w2.cell? ⟨w.heap.size + 1, 2, none⟩ = some (.slice Ba1 ma1 oa1) := OB3.2.cell 2
  have y3_3 : w2.cell? ⟨w.heap.size + 1, 3, none⟩ = some (.bool bb1) := OB3.2.cell 3
  have y3_4 : w2.cell? ⟨w.heap.size + 1, 4, none⟩ = some (.slice Ab1 nb1 cb1) := OB3.2.cell 4
  have y3_5 : w2.cell? ⟨w.heap.size + 1, 5, none⟩ = some (.slice Bb1 mb1 ob1) := OB3.2.cell 5
  have y3_f0 := OB3.2.frozen 0
  have y3_f1 := OB3.2.frozen 1
  have y3_f2 := OB3.2.frozen 2
  have y3_f3 := OB3.2.frozen 3
  have y3_f4 := OB3.2.frozen 4
  have y3_f5 := OB3.2.frozen 5
  go_wp2_with fail
  refine (HTA.out _ _ _ (T0.on B) (T1.on B)).mono ?_
  rintro e w3 ⟨v5, rfl, I5, P3⟩
  clear y2_0 y2_f0 y2_1 y2_f1 y2_2 y2_f2 y2_3 y2_f3 y2_4 y2_f4 y2_5 y2_f5
  clear y3_0 y3_f0 y3_1 y3_f1 y3_2 y3_f2 y3_3 y3_f3 y3_4 y3_f4 y3_5 y3_f5
  replace OB2 := And.intro OB2.1 (OB2.2.on P3)
  replace OB3 := And.intro OB3.1 (OB3.2.on P3)
  replace B := B.trans P3
  obtain ⟨ba5, Aa5, na5, ca5, Ba5, ma5, oa5, bb5, Ab5, nb5, cb5, Bb5, mb5, ob5, rfl, IL5, IH5⟩ := id I5
  clear IL5 IH5
  have PA := (On.refl w3).alloc (.cells #[.bool ba5, .slice Aa5 na5 ca5, .slice Ba5 ma5 oa5, .bool bb5, .slice Ab5 nb5 cb5, .slice Bb5 mb5 ob5] 26)
  have B0_5 := B.size
  replace OB2 := And.intro OB2.1 (OB2.2.on PA)
  replace OB3 := And.intro OB3.1 (OB3.2.on PA)
  replace B := B.trans PA
  replace I5 := I5.on PA
  have OB5 : w.heap.size ≤ w3.heap.size ∧ _ := ⟨B0_5, Own.new w3 26 #[.bool ba5, .slice Aa5 na5 ca5, .slice Ba5 ma5 oa5, .bool bb5, .slice Ab5 nb5 cb5, .slice Bb5 mb5 ob5]⟩
  clear PA
  have y2_0 : (w3.alloc (.cells #[.bool ba5, .slice Aa5 na5 ca5, .slice Ba5 ma5 oa5, .bool bb5, .slice Ab5 nb5 cb5, .slice Bb5 mb5 ob5] 26)).cell? ⟨w.heap.size, 0, none⟩ = some (.bool ba0) := OB2.2.cell 0
  have y2_1 : (w3.alloc (.cells #[.bool ba5, .slice Aa5 na5 ca5, .slice Ba5 ma5 oa5, .bool bb5, .slice Ab5 nb5 cb5, .slice Bb5 mb5 ob5] 26)).cell? ⟨w.heap.size, 1, none⟩ = some (.slice Aa0 na0 ca0) := OB2.2.cell 1
  have y2_2 : (w3.alloc (.cells #[.bool ba5, .slice Aa5 na5 ca5, .slice Ba5 ma5 oa5, .bool bb5, .slice Ab5 nb5 cb5, .slice Bb5 mb5 ob5] 26)).cell? ⟨w.heap.size, 2, none⟩ = some (.slice Ba0 ma0 oa0) := OB2.2.cell 2
  have y2_3 : (w3.alloc (.cells #[.bool ba5, .slice Aa5 na5 ca5, .slice Ba5 ma5 oa5, .bool bb5, .slice Ab5 nb5 cb5, .slice Bb5 mb5 ob5] 26)).cell? ⟨w.heap.size, 3, none⟩ = some (.bool bb0) := OB2.2.cell 3
  have y2_4 : (w3.alloc (.cells #[.bool ba5, .slice Aa5 na5 ca5, .slice Ba5 ma5 oa5, .bool bb5, .slice Ab5 nb5 cb5, .slice Bb5 mb5 ob5] 26)).cell? ⟨w.heap.size, 4, none⟩ = some (.slice Ab0 nb0 cb0) := OB2.2.cell 4
  have y2_5 : (w3.alloc (.cells #[.bool ba5, .slice Aa5 na5 ca5, .slice Ba5 ma5 oa5, .bool bb5, .slice Ab5 nb5 cb5, .slice Bb5 mb5 ob5] 26)).cell? ⟨w.heap.size, 5, none⟩ = some (.slice Bb0 mb0 ob0) := OB2.2.cell 5
  have y2_f0 := OB2.2.frozen 0
  have y2_f1 := OB2.2.frozen 1
  have y2_f2 := OB2.2.frozen 2
  have y2_f3 := OB2.2.frozen 3
  have y2_f4 := OB2.2.frozen 4
  have y2_f5 := OB2.2.frozen 5
  have y3_0 : (w3.alloc (.cells #[.bool ba5, .slice Aa5 na5 ca5, .slice Ba5 ma5 oa5, .bool bb5, .slice Ab5 nb5 cb5, .slice Bb5 mb5 ob5] 26)).cell? ⟨w.heap.size + 1, 0, none⟩ = some (.bool ba1) := OB3.2.cell 0
  have y3_1 : (w3.alloc (.cells #[.bool ba5, .slice Aa5 na5 ca5, .slice Ba5 ma5 oa5, .bool bb5, .slice Ab5 nb5 cb5, .slice Bb5 mb5 ob5] 26)).cell? ⟨w.heap.size + 1, 1, none⟩ = some (.slice Aa1 na1 ca1) := OB3.2.cell 1
  have y3_2 : (w3.alloc (.cells #[.bool ba5, .slice Aa5 na5 ca5, .slice Ba5 ma5 oa5, .bool bb5, .slice Ab5 nb5 cb5, .slice Bb5 mb5 ob5] 26)).cell? ⟨w.heap.size + 1, 2, none⟩ = some (.slice Ba1 ma1 oa1) := OB3.2.cell 2
  have y3_3 : (w3.alloc (.cells #[.bool ba5, .slice Aa5 na5 ca5, .slice Ba5 ma5 oa5, .bool bb5, .slice Ab5 nb5 cb5, .slice Bb5 mb5 ob5] 26)).cell? ⟨w.heap.size + 1, 3, none⟩ = some (.bool bb1) := OB3.2.cell 3
  have y3_4 : (w3.alloc (.cells #[.bool ba5, .slice Aa5 na5 ca5, .slice Ba5 ma5 oa5, .bool bb5, .slice Ab5 nb5 cb5, .slice Bb5 mb5 ob5] 26)).cell? ⟨w.heap.size + 1, 4, none⟩ = some (.slice Ab1 nb1 cb1) := OB3.2.cell 4
  have y3_5 : (w3.alloc (.cells #[.bool ba5, .slice Aa5 na5 ca5, .slice Ba5 ma5 oa5, .bool bb5, .slice Ab5 nb5 cb5, .slice Bb5 mb5 ob5] 26)).cell? ⟨w.heap.size + 1, 5, none⟩ = some (.slice Bb1 mb1 ob1) := OB3.2.cell 5
  have y3_f0 := OB3.2.frozen 0
  have y3_f1 := OB3.2.frozen 1
  have y3_f2 := OB3.2.frozen 2
  have y3_f3 := OB3.2.frozen 3
  have y3_f4 := OB3.2.frozen 4
  have y3_f5 := OB3.2.frozen 5
  go_wp2_with fail
  refine (HTB.out _ _ _ (T0.on B) (T1.on B)).mono ?_
  rintro e w4 ⟨v7, rfl, I7, P4⟩
  clear y2_0 y2_f0 y2_1 y2_f1 y2_2 y2_f2 y2_3 y2_f3 y2_4 y2_f4 y2_5 y2_f5
  clear y3_0 y3_f0 y3_1 y3_f1 y3_2 y3_f2 y3_3 y3_f3 y3_4 y3_f4 y3_5 y3_f5
  replace OB2 := And.intro OB2.1 (OB2.2.on P4)
  replace OB3 := And.intro OB3.1 (OB3.2.on P4)
  replace OB5 := And.intro OB5.1 (OB5.2.on P4)
  replace B := B.trans P4
  replace I5 := I5.on P4
  obtain ⟨ba7, Aa7, na7, ca7, Ba7, ma7, oa7, bb7, Ab7, nb7, cb7, Bb7, mb7, ob7, rfl, IL7, IH7⟩ := id I7
  clear IL7 IH7
  have PA := (On.refl w4).alloc (.cells #[.bool ba7, .slice Aa7 na7 ca7, .slice Ba7 ma7 oa7, .bool bb7, .slice Ab7 nb7 cb7, .slice Bb7 mb7 ob7] 26)
  have B0_7 := B.size
  replace OB2 := And.intro OB2.1 (OB2.2.on PA)
  replace OB3 := And.intro OB3.1 (OB3.2.on PA)
  replace OB5 := And.intro OB5.1 (OB5.2.on PA)
  replace B := B.trans PA
  replace I7 := I7.on PA
  have OB7 : w.heap.size ≤ w4.heap.size ∧ _ := ⟨B0_7, Own.new w4 26 #[.bool ba7, .slice Aa7 na7 ca7, .slice Ba7 ma7 oa7, .bool bb7, .slice Ab7 nb7 cb7, .slice Bb7 mb7 ob7]⟩
  clear PA
  replace I5 := I5.on ((On.refl w4).alloc (.cells #[.bool ba7, .slice Aa7 na7 ca7, .slice Ba7 ma7 oa7, .bool bb7, .slice Ab7 nb7 cb7, .slice Bb7 mb7 ob7] 26))
  clear P3 P4
  go_wp2
  refine wp_region_facts (by kernel_rfl) w [Fact.eq (.agg #[.bool ba0, .slice Aa0 na0 ca0, .slice Ba0 ma0 oa0, .bool bb0, .slice Ab0 nb0 cb0, .slice Bb0 mb0 ob0]), Fact.eq (.agg #[.bool ba1, .slice Aa1 na1 ca1, .slice Ba1 ma1 oa1, .bool bb1, .slice Ab1 nb1 cb1, .slice Bb1 mb1 ob1]), Fact.sp (prodLo p0 q0 p1 q1) (prodHi p0 q0 p1 q1) (25), Fact.eq (.agg #[.bool ba0, .slice Aa0 na0 ca0, .slice Ba0 ma0 oa0, .bool bb0, .slice Ab0 nb0 cb0, .slice Bb0 mb0 ob0]), Fact.eq (.agg #[.bool ba1, .slice Aa1 na1 ca1, .slice Ba1 ma1 oa1, .bool bb1, .slice Ab1 nb1 cb1, .slice Bb1 mb1 ob1]), Fact.sp (prodLo p0 q0 p1 q1) (prodHi p0 q0 p1 q1) (12), Fact.eq (.bool true), Fact.eq (.bool true), Fact.eq (.agg #[.bool ba5, .slice Aa5 na5 ca5, .slice Ba5 ma5 oa5, .bool bb5, .slice Ab5 nb5 cb5, .slice Bb5 mb5 ob5]), Fact.eq (.agg #[.bool ba7, .slice Aa7 na7 ca7, .slice Ba7 ma7 oa7, .bool bb7, .slice Ab7 nb7 cb7, .slice Bb7 mb7 ob7]), Fact.eq (.bool true), Fact.eq (.bool true), Fact.eq (.bool true), Fact.eq (me), Fact.eq (.int .i64 mz), Fact.eq (.int .i64 mz), Fact.eq (.bool true), Fact.eq (.bool true), Fact.eq (.bool true)] [Fact.any, Fact.any, Fact.any, Fact.any] [⟨19, 2, 26, 19, #[.bool ba0, .slice Aa0 na0 ca0, .slice Ba0 ma0 oa0, .bool bb0, .slice Ab0 nb0 cb0, .slice Bb0 mb0 ob0]⟩, ⟨19, 3, 26, 19, #[.bool ba1, .slice Aa1 na1 ca1, .slice Ba1 ma1 oa1, .bool bb1, .slice Ab1 nb1 cb1, .slice Bb1 mb1 ob1]⟩, ⟨19, 5, 26, 19, #[.bool ba5, .slice Aa5 na5 ca5, .slice Ba5 ma5 oa5, .bool bb5, .slice Ab5 nb5 cb5, .slice Bb5 mb5 ob5]⟩, ⟨19, 7, 26, 19, #[.bool ba7, .slice Aa7 na7 ca7, .slice Ba7 ma7 oa7, .bool bb7, .slice Ab7 nb7 cb7, .slice Bb7 mb7 ob7]⟩] [w.heap.size, w.heap.size + 1, w3.heap.size, w4.heap.size] [none, none, none, none, some 4, none, none, none, none, none, none, none, none, none, none, none, none, none, none, none, none, none, none, none, none, none, none, none, none, none, some 30, some 31, some 32, some 33, some 34, some 35, some 36, some 37, some 38, some 39, some 40, some 41, some 42, some 43, some 44, some 45, some 46, some 47] (by kernel_rfl) (by kernel_rfl) (by kernel_rfl) rfl B ?_ ?_ ?_ ?_ ?_
  · exact ⟨fun _ => ⟨by simp, rfl, OB2⟩, fun _ => ⟨by simp, rfl, OB3⟩, fun _ => ⟨by simp, rfl, OB5⟩, fun _ => ⟨by simp, rfl, OB7⟩, trivial⟩
  · exact .inl ⟨Nat.le_refl _, Nat.le_refl _, Nat.le_refl _, Nat.le_refl _, trivial⟩
  · exact ⟨⟨noWords_S _ _ _ _ _ _ _ _ _ _ _ _ _ _, (.inl (Nat.le_refl _)), (.inl (Nat.le_refl _))⟩, ⟨noWords_S _ _ _ _ _ _ _ _ _ _ _ _ _ _, (.inl (Nat.le_refl _)), (.inl (Nat.le_refl _))⟩, ⟨noWords_S _ _ _ _ _ _ _ _ _ _ _ _ _ _, (.inl (Nat.le_refl _)), (.inl (Nat.le_refl _))⟩, ⟨noWords_S _ _ _ _ _ _ _ _ _ _ _ _ _ _, (.inl (Nat.le_refl _)), (.inl (Nat.le_refl _))⟩, trivial⟩
  · refine ⟨?_, ?_, ?_, ?_, ?_, ?_, ?_, ?_, ?_, ?_, ?_, ?_, ?_, ?_, ?_, ?_, ?_, ?_, ?_, trivial⟩
    · exact .inr fun a w hp => ob_yes rfl (ob_loadSp (hp.box (k := 0) rfl (Nat.le_refl _) (.inl (Nat.le_refl _)) (by kernel_rfl) rfl).1 (hp.box (k := 0) rfl (Nat.le_refl _) (.inl (Nat.le_refl _)) (by kernel_rfl) rfl).2 rfl)
    · exact .inr fun a w hp => ob_yes rfl (ob_loadSp (hp.box (k := 1) rfl (Nat.le_refl _) (.inl (Nat.le_refl _)) (by kernel_rfl) rfl).1 (hp.box (k := 1) rfl (Nat.le_refl _) (.inl (Nat.le_refl _)) (by kernel_rfl) rfl).2 rfl)
    · refine .inr fun a w hp => ob_yes rfl ?_
      have h30 : a.tmps.getD 30 undef = .agg #[.bool ba0, .slice Aa0 na0 ca0, .slice Ba0 ma0 oa0, .bool bb0, .slice Ab0 nb0 cb0, .slice Bb0 mb0 ob0] := (hp.fact 0 30 (by kernel_rfl) rfl)
      have h31 : a.tmps.getD 31 undef = .agg #[.bool ba1, .slice Aa1 na1 ca1, .slice Ba1 ma1 oa1, .bool bb1, .slice Ab1 nb1 cb1, .slice Bb1 mb1 ob1] := (hp.fact 1 31 (by kernel_rfl) rfl)
      unfold Does
      go_simp
      refine (spmul_any _ _ _ p0 q0 p1 q1 6 (T0.on hp.on) (T1.on hp.on) (by decide) (by decide)).mono ?_
      rintro e w' ⟨u, rfl, I8, P8⟩
      exact ⟨_, rfl, P8, I8⟩
    · exact .inr fun a w hp => ob_yes rfl (ob_loadSp (hp.box (k := 0) rfl (Nat.le_refl _) (.inl (Nat.le_refl _)) (by kernel_rfl) rfl).1 (hp.box (k := 0) rfl (Nat.le_refl _) (.inl (Nat.le_refl _)) (by kernel_rfl) rfl).2 rfl)
    · exact .inr fun a w hp => ob_yes rfl (ob_loadSp (hp.box (k := 1) rfl (Nat.le_refl _) (.inl (Nat.le_refl _)) (by kernel_rfl) rfl).1 (hp.box (k := 1) rfl (Nat.le_refl _) (.inl (Nat.le_refl _)) (by kernel_rfl) rfl).2 rfl)
    · refine .inr fun a w hp => ob_yes rfl ?_
      have h33 : a.tmps.getD 33 undef = .agg #[.bool ba0, .slice Aa0 na0 ca0, .slice Ba0 ma0 oa0, .bool bb0, .slice Ab0 nb0 cb0, .slice Bb0 mb0 ob0] := (hp.fact 3 33 (by kernel_rfl) rfl)
      have h34 : a.tmps.getD 34 undef = .agg #[.bool ba1, .slice Aa1 na1 ca1, .slice Ba1 ma1 oa1, .bool bb1, .slice Ab1 nb1 cb1, .slice Bb1 mb1 ob1] := (hp.fact 4 34 (by kernel_rfl) rfl)
      unfold Does
      go_simp
      refine (rmul3_any _ _ _ p0 q0 p1 q1 6 (T0.on hp.on) (T1.on hp.on) (by decide) (by decide)).mono ?_
      rintro e w' ⟨u, rfl, I8, P8⟩
      exact ⟨_, rfl, P8, I8⟩
    · refine .inr fun a w hp => ob_yes rfl ?_
      have h32 : IsS w (a.tmps.getD 32 undef) (prodLo p0 q0 p1 q1) (prodHi p0 q0 p1 q1) (25) := (hp.fact 2 32 (by kernel_rfl) rfl)
      obtain ⟨v32, e32⟩ : ∃ v, a.tmps.getD 32 undef = v := ⟨_, rfl⟩
      rw [e32] at h32
      have h35 : IsS w (a.tmps.getD 35 undef) (prodLo p0 q0 p1 q1) (prodHi p0 q0 p1 q1) (12) := (hp.fact 5 35 (by kernel_rfl) rfl)
      obtain ⟨v35, e35⟩ : ∃ v, a.tmps.getD 35 undef = v := ⟨_, rfl⟩
      rw [e35] at h35
      unfold Does
      go_simp
      refine (ssame_any _ _ _ _ _ _ _ h32 h35).mono ?_
      rintro e w' ⟨rfl, P8⟩
      exact ⟨_, rfl, P8, rfl⟩
    · exact .inr fun a w hp => ob_yes rfl (ob_move (hp.fact 6 36 (by kernel_rfl) rfl))
    · exact .inr fun a w hp => ob_yes (wanted_yes (P := Tryz.prog) (j := 7) (d := 37) (b := true) rfl rfl (hp.fact 7 37 (by kernel_rfl) rfl)) (ob_loadSp (hp.box (k := 2) rfl (Nat.le_refl _) (.inl (Nat.le_refl _)) (by kernel_rfl) rfl).1 (hp.box (k := 2) rfl (Nat.le_refl _) (.inl (Nat.le_refl _)) (by kernel_rfl) rfl).2 rfl)
    · exact .inr fun a w hp => ob_yes (wanted_yes (P := Tryz.prog) (j := 7) (d := 37) (b := true) rfl rfl (hp.fact 7 37 (by kernel_rfl) rfl)) (ob_loadSp (hp.box (k := 3) rfl (Nat.le_refl _) (.inl (Nat.le_refl _)) (by kernel_rfl) rfl).1 (hp.box (k := 3) rfl (Nat.le_refl _) (.inl (Nat.le_refl _)) (by kernel_rfl) rfl).2 rfl)
    · refine .inr fun a w hp => ob_yes (wanted_yes (P := Tryz.prog) (j := 7) (d := 37) (b := true) rfl rfl (hp.fact 7 37 (by kernel_rfl) rfl)) ?_
      have h38 : a.tmps.getD 38 undef = .agg #[.bool ba5, .slice Aa5 na5 ca5, .slice Ba5 ma5 oa5, .bool bb5, .slice Ab5 nb5 cb5, .slice Bb5 mb5 ob5] := (hp.fact 8 38 (by kernel_rfl) rfl)
      have h39 : a.tmps.getD 39 undef = .agg #[.bool ba7, .slice Aa7 na7 ca7, .slice Ba7 ma7 oa7, .bool bb7, .slice Ab7 nb7 cb7, .slice Bb7 mb7 ob7] := (hp.fact 9 39 (by kernel_rfl) rfl)
      unfold Does
      go_simp
      refine (ssame_any _ _ _ _ _ _ _ (I5.kept hp.kept) (I7.kept hp.kept)).mono ?_
      rintro e w' ⟨rfl, P8⟩
      exact ⟨_, rfl, P8, rfl⟩
    · refine .inr fun a w hp => ob_yes rfl ?_
      have h37 : a.tmps.getD 37 undef = .bool true := (hp.fact 7 37 (by kernel_rfl) rfl)
      have h40 : a.tmps.getD 40 undef = .bool true := (hp.fact 10 40 (by kernel_rfl) rfl)
      unfold Does
      go_simp
      exact ⟨_, rfl, On.refl _, rfl⟩
    · exact .inr fun a w hp => ob_yes rfl (ob_move (hp.fact 11 41 (by kernel_rfl) rfl))
    · exact .inr fun a w hp => ob_yes (wanted_yes (P := Tryz.prog) (j := 12) (d := 42) (b := true) rfl rfl (hp.fact 12 42 (by kernel_rfl) rfl)) (ob_move (hp.same 6 (by kernel_rfl)))
    · refine .inr fun a w hp => ob_yes (wanted_yes (P := Tryz.prog) (j := 12) (d := 42) (b := true) rfl rfl (hp.fact 12 42 (by kernel_rfl) rfl)) ?_
      have h43 : a.tmps.getD 43 undef = me := (hp.fact 13 43 (by kernel_rfl) rfl)
      unfold Does
      go_simp
      refine (HTC.out _).mono ?_
      rintro e w' ⟨rfl, rfl⟩
      exact ⟨_, rfl, On.refl _, rfl⟩
    · exact .inr fun a w hp => ob_yes (wanted_yes (P := Tryz.prog) (j := 12) (d := 42) (b := true) rfl rfl (hp.fact 12 42 (by kernel_rfl) rfl)) (ob_move (hp.same 8 (by kernel_rfl)))
    · refine .inr fun a w hp => ob_yes (wanted_yes (P := Tryz.prog) (j := 12) (d := 42) (b := true) rfl rfl (hp.fact 12 42 (by kernel_rfl) rfl)) ?_
      have h44 : a.tmps.getD 44 undef = .int .i64 mz := (hp.fact 14 44 (by kernel_rfl) rfl)
      have h45 : a.tmps.getD 45 undef = .int .i64 mz := (hp.fact 15 45 (by kernel_rfl) rfl)
      unfold Does
      go_simp
      exact ⟨_, rfl, On.refl _, by show Value.bool _ = Value.bool _; first | rfl | (simp; done)⟩
    · refine .inr fun a w hp => ob_yes rfl ?_
      have h42 : a.tmps.getD 42 undef = .bool true := (hp.fact 12 42 (by kernel_rfl) rfl)
      have h46 : a.tmps.getD 46 undef = .bool true := (hp.fact 16 46 (by kernel_rfl) rfl)
      unfold Does
      go_simp
      exact ⟨_, rfl, On.refl _, rfl⟩
    · exact .inr fun a w hp => ob_yes rfl (ob_assign (hp.fact 17 47 (by kernel_rfl) rfl))
  · intro f wr hon hk hf hb hap
    obtain ⟨q0, q1, q2, q3, qz⟩ := hb
    clear qz
    have O2 : Own wr (w.heap.size) 26 #[.bool ba0, .slice Aa0 na0 ca0, .slice Ba0 ma0 oa0, .bool bb0, .slice Ab0 nb0 cb0, .slice Bb0 mb0 ob0] := q0
    have c2_0 : wr.cell? ⟨w.heap.size, 0, none⟩ = some (.bool ba0) := O2.cell 0
    have z2_0 := O2.frozen 0
    have c2_1 : wr.cell? ⟨w.heap.size, 1, none⟩ = some (.slice Aa0 na0 ca0) := O2.cell 1
    have z2_1 := O2.frozen 1
    have c2_2 : wr.cell? ⟨w.heap.size, 2, none⟩ = some (.slice Ba0 ma0 oa0) := O2.cell 2
    have z2_2 := O2.frozen 2
    have c2_3 : wr.cell? ⟨w.heap.size, 3, none⟩ = some (.bool bb0) := O2.cell 3
    have z2_3 := O2.frozen 3
    have c2_4 : wr.cell? ⟨w.heap.size, 4, none⟩ = some (.slice Ab0 nb0 cb0) := O2.cell 4
    have z2_4 := O2.frozen 4
    have c2_5 : wr.cell? ⟨w.heap.size, 5, none⟩ = some (.slice Bb0 mb0 ob0) := O2.cell 5
    have z2_5 := O2.frozen 5
    clear q0
    have O3 : Own wr (w.heap.size + 1) 26 #[.bool ba1, .slice Aa1 na1 ca1, .slice Ba1 ma1 oa1, .bool bb1, .slice Ab1 nb1 cb1, .slice Bb1 mb1 ob1] := q1
    have c3_0 : wr.cell? ⟨w.heap.size + 1, 0, none⟩ = some (.bool ba1) := O3.cell 0
    have z3_0 := O3.frozen 0
    have c3_1 : wr.cell? ⟨w.heap.size + 1, 1, none⟩ = some (.slice Aa1 na1 ca1) := O3.cell 1
    have z3_1 := O3.frozen 1
    have c3_2 : wr.cell? ⟨w.heap.size + 1, 2, none⟩ = some (.slice Ba1 ma1 oa1) := O3.cell 2
    have z3_2 := O3.frozen 2
    have c3_3 : wr.cell? ⟨w.heap.size + 1, 3, none⟩ = some (.bool bb1) := O3.cell 3
    have z3_3 := O3.frozen 3
    have c3_4 : wr.cell? ⟨w.heap.size + 1, 4, none⟩ = some (.slice Ab1 nb1 cb1) := O3.cell 4
    have z3_4 := O3.frozen 4
    have c3_5 : wr.cell? ⟨w.heap.size + 1, 5, none⟩ = some (.slice Bb1 mb1 ob1) := O3.cell 5
    have z3_5 := O3.frozen 5
    clear q1
    have O5 : Own wr (w3.heap.size) 26 #[.bool ba5, .slice Aa5 na5 ca5, .slice Ba5 ma5 oa5, .bool bb5, .slice Ab5 nb5 cb5, .slice Bb5 mb5 ob5] := q2
    have c5_0 : wr.cell? ⟨w3.heap.size, 0, none⟩ = some (.bool ba5) := O5.cell 0
    have z5_0 := O5.frozen 0
    have c5_1 : wr.cell? ⟨w3.heap.size, 1, none⟩ = some (.slice Aa5 na5 ca5) := O5.cell 1
    have z5_1 := O5.frozen 1
    have c5_2 : wr.cell? ⟨w3.heap.size, 2, none⟩ = some (.slice Ba5 ma5 oa5) := O5.cell 2
    have z5_2 := O5.frozen 2
    have c5_3 : wr.cell? ⟨w3.heap.size, 3, none⟩ = some (.bool bb5) := O5.cell 3
    have z5_3 := O5.frozen 3
    have c5_4 : wr.cell? ⟨w3.heap.size, 4, none⟩ = some (.slice Ab5 nb5 cb5) := O5.cell 4
    have z5_4 := O5.frozen 4
    have c5_5 : wr.cell? ⟨w3.heap.size, 5, none⟩ = some (.slice Bb5 mb5 ob5) := O5.cell 5
    have z5_5 := O5.frozen 5
    clear q2
    have O7 : Own wr (w4.heap.size) 26 #[.bool ba7, .slice Aa7 na7 ca7, .slice Ba7 ma7 oa7, .bool bb7, .slice Ab7 nb7 cb7, .slice Bb7 mb7 ob7] := q3
    have c7_0 : wr.cell? ⟨w4.heap.size, 0, none⟩ = some (.bool ba7) := O7.cell 0
    have z7_0 := O7.frozen 0
    have c7_1 : wr.cell? ⟨w4.heap.size, 1, none⟩ = some (.slice Aa7 na7 ca7) := O7.cell 1
    have z7_1 := O7.frozen 1
    have c7_2 : wr.cell? ⟨w4.heap.size, 2, none⟩ = some (.slice Ba7 ma7 oa7) := O7.cell 2
    have z7_2 := O7.frozen 2
    have c7_3 : wr.cell? ⟨w4.heap.size, 3, none⟩ = some (.bool bb7) := O7.cell 3
    have z7_3 := O7.frozen 3
    have c7_4 : wr.cell? ⟨w4.heap.size, 4, none⟩ = some (.slice Ab7 nb7 cb7) := O7.cell 4
    have z7_4 := O7.frozen 4
    have c7_5 : wr.cell? ⟨w4.heap.size, 5, none⟩ = some (.slice Bb7 mb7 ob7) := O7.cell 5
    have z7_5 := O7.frozen 5
    clear q3
    have e4 : f 4 = .bool true := hf 18 4 rfl
    clear hf hap
    simp only [fillL, e4]
    clear e4
    go_wp2
    go_ret
    exact ⟨rfl, hon⟩
theorem sprods_any (w : World) (ba0 : Bool) (Aa0 : Option Addr) (na0 ca0 : Nat) (Ba0 : Option Addr) (ma0 oa0 : Nat) (bb0 : Bool) (Ab0 : Option Addr) (nb0 cb0 : Nat) (Bb0 : Option Addr) (mb0 ob0 : Nat) (xs0 ys0 us0 vs0 : List Nat) (R0 : Rd w Aa0 na0 ca0 xs0) (S0 : Rd w Ba0 ma0 oa0 ys0) (U0 : Rd w Ab0 nb0 cb0 us0) (V0 : Rd w Bb0 mb0 ob0 vs0) (ba1 : Bool) (Aa1 : Option Addr) (na1 ca1 : Nat) (Ba1 : Option Addr) (ma1 oa1 : Nat) (bb1 : Bool) (Ab1 : Option Addr) (nb1 cb1 : Nat) (Bb1 : Option Addr) (mb1 ob1 : Nat) (xs1 ys1 us1 vs1 : List Nat) (R1 : Rd w Aa1 na1 ca1 xs1) (S1 : Rd w Ba1 ma1 oa1 ys1) (U1 : Rd w Ab1 nb1 cb1 us1) (V1 : Rd w Bb1 mb1 ob1 vs1)  :
    Calls Tryz.prog 5 #[.agg #[.bool ba0, .slice Aa0 na0 ca0, .slice Ba0 ma0 oa0, .bool bb0, .slice Ab0 nb0 cb0, .slice Bb0 mb0 ob0], .agg #[.bool ba1, .slice Aa1 na1 ca1, .slice Ba1 ma1 oa1, .bool bb1, .slice Ab1 nb1 cb1, .slice Bb1 mb1 ob1]] w fun e w' => e = .returned (.bool true) ∧ On w w' := by
  by_cases hs : na0 ≤ 6 ∧ ma0 ≤ 6 ∧ nb0 ≤ 6 ∧ mb0 ≤ 6 ∧ na1 ≤ 6 ∧ ma1 ≤ 6 ∧ nb1 ≤ 6 ∧ mb1 ≤ 6
  · exact sprods_main w ba0 Aa0 na0 ca0 Ba0 ma0 oa0 bb0 Ab0 nb0 cb0 Bb0 mb0 ob0 xs0 ys0 us0 vs0 R0 S0 U0 V0 ba1 Aa1 na1 ca1 Ba1 ma1 oa1 bb1 Ab1 nb1 cb1 Bb1 mb1 ob1 xs1 ys1 us1 vs1 R1 S1 U1 V1  hs
  · have : ∃ (mi : Nat) (qi : Nat × Nat × Nat × Nat), [(na0, ma0, nb0, mb0), (na1, ma1, nb1, mb1)][mi]? = some qi ∧ Big qi := by
      by_cases h0 : Big (na0, ma0, nb0, mb0)
      · exact ⟨0, _, rfl, h0⟩
      by_cases h1 : Big (na1, ma1, nb1, mb1)
      · exact ⟨1, _, rfl, h1⟩
      exfalso
      apply hs
      simp only [Big] at h0 h1
      omega
    obtain ⟨mi, qi, h1, h2⟩ := this
    exact sprods_large w ba0 Aa0 na0 ca0 Ba0 ma0 oa0 bb0 Ab0 nb0 cb0 Bb0 mb0 ob0 xs0 ys0 us0 vs0 R0 S0 U0 V0 ba1 Aa1 na1 ca1 Ba1 ma1 oa1 bb1 Ab1 nb1 cb1 Bb1 mb1 ob1 xs1 ys1 us1 vs1 R1 S1 U1 V1  mi qi h1 h2
end Num
end Go.Proofs.YtkchpagjkgmpmaaGreat
