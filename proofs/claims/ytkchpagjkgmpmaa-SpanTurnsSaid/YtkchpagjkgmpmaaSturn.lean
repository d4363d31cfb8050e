/-
  SpanTurns, walked.
-/
import Derived.Test.YtkchpagjkgmpmaaSsm
namespace Go.Proofs.Ytkchpagjkgmpmaa
open Go.RowKit
set_option linter.unusedVariables false
namespace Num
theorem one_sub (x : Rat) : 1 - (1 - x) = x := by grind
theorem neg_le {x y : Rat} (h : x ≤ y) : -y ≤ -x := by grind
theorem not_le' {x y : Rat} (h : x ≤ y) : 1 - y ≤ 1 - x := by grind
theorem add_le' {x y a b : Rat} (h : x ≤ y) (k : a ≤ b) : x + a ≤ y + b := by grind
theorem turn_sub (x y : Rat) : x + -y = x - y := by grind
theorem turn_width (a b c d : Rat) : b + d - (a + c) = b - a + (d - c) := by grind
theorem turn_not (a b : Rat) : 1 - a - (1 - b) = b - a := by grind
theorem ratL {w : World} {v : Value} {r : Rat} {L M : Nat} (h : IsR w v r L) (k : L ≤ M) : Fld w v r M := (IsR.fld h).wide k
set_option maxRecDepth 100000 in
set_option maxHeartbeats 1600000 in
theorem turns_large (w : World) (ba0 : Bool) (Aa0 : Option Addr) (na0 ca0 : Nat) (Ba0 : Option Addr) (ma0 oa0 : Nat) (bb0 : Bool) (Ab0 : Option Addr) (nb0 cb0 : Nat) (Bb0 : Option Addr) (mb0 ob0 : Nat) (xs0 ys0 us0 vs0 : List Nat) (R0 : Rd w Aa0 na0 ca0 xs0) (S0 : Rd w Ba0 ma0 oa0 ys0) (U0 : Rd w Ab0 nb0 cb0 us0) (V0 : Rd w Bb0 mb0 ob0 vs0) (ba1 : Bool) (Aa1 : Option Addr) (na1 ca1 : Nat) (Ba1 : Option Addr) (ma1 oa1 : Nat) (bb1 : Bool) (Ab1 : Option Addr) (nb1 cb1 : Nat) (Bb1 : Option Addr) (mb1 ob1 : Nat) (xs1 ys1 us1 vs1 : List Nat) (R1 : Rd w Aa1 na1 ca1 xs1) (S1 : Rd w Ba1 ma1 oa1 ys1) (U1 : Rd w Ab1 nb1 cb1 us1) (V1 : Rd w Bb1 mb1 ob1 vs1)  (mi : Nat) (qi : Nat × Nat × Nat × Nat) (hmi : [(na0, ma0, nb0, mb0), (na1, ma1, nb1, mb1)][mi]? = some qi) (hyi : Big qi) :
    Calls Try.prog 7 #[.agg #[.bool ba0, .slice Aa0 na0 ca0, .slice Ba0 ma0 oa0, .bool bb0, .slice Ab0 nb0 cb0, .slice Bb0 mb0 ob0], .agg #[.bool ba1, .slice Aa1 na1 ca1, .slice Ba1 ma1 oa1, .bool bb1, .slice Ab1 nb1 cb1, .slice Bb1 mb1 ob1]] w fun e w' => e = .returned (.bool true) ∧ On w w' := by
  have HMI := Lib.hid hmi
  have HYI := Lib.hid hyi
  clear hmi hyi
  have B : On w ((w.alloc (.cells #[.bool ba0, .slice Aa0 na0 ca0, .slice Ba0 ma0 oa0, .bool bb0, .slice Ab0 nb0 cb0, .slice Bb0 mb0 ob0] 38)).alloc (.cells #[.bool ba1, .slice Aa1 na1 ca1, .slice Ba1 ma1 oa1, .bool bb1, .slice Ab1 nb1 cb1, .slice Bb1 mb1 ob1] 38)) := On.alloc (On.alloc (On.refl w) _) _
  have OB2 : w.heap.size ≤ w.heap.size ∧ Own ((w.alloc (.cells #[.bool ba0, .slice Aa0 na0 ca0, .slice Ba0 ma0 oa0, .bool bb0, .slice Ab0 nb0 cb0, .slice Bb0 mb0 ob0] 38)).alloc (.cells #[.bool ba1, .slice Aa1 na1 ca1, .slice Ba1 ma1 oa1, .bool bb1, .slice Ab1 nb1 cb1, .slice Bb1 mb1 ob1] 38)) (w.heap.size) 38 #[.bool ba0, .slice Aa0 na0 ca0, .slice Ba0 ma0 oa0, .bool bb0, .slice Ab0 nb0 cb0, .slice Bb0 mb0 ob0] := ⟨by omega, ((Own.at_ w (w.heap.size) (by simp) 38 #[.bool ba0, .slice Aa0 na0 ca0, .slice Ba0 ma0 oa0, .bool bb0, .slice Ab0 nb0 cb0, .slice Bb0 mb0 ob0]).alloc (.cells #[.bool ba1, .slice Aa1 na1 ca1, .slice Ba1 ma1 oa1, .bool bb1, .slice Ab1 nb1 cb1, .slice Bb1 mb1 ob1] 38))⟩
  have OB3 : w.heap.size ≤ w.heap.size + 1 ∧ Own ((w.alloc (.cells #[.bool ba0, .slice Aa0 na0 ca0, .slice Ba0 ma0 oa0, .bool bb0, .slice Ab0 nb0 cb0, .slice Bb0 mb0 ob0] 38)).alloc (.cells #[.bool ba1, .slice Aa1 na1 ca1, .slice Ba1 ma1 oa1, .bool bb1, .slice Ab1 nb1 cb1, .slice Bb1 mb1 ob1] 38)) (w.heap.size + 1) 38 #[.bool ba1, .slice Aa1 na1 ca1, .slice Ba1 ma1 oa1, .bool bb1, .slice Ab1 nb1 cb1, .slice Bb1 mb1 ob1] := ⟨by omega, (Own.at_ (w.alloc (.cells #[.bool ba0, .slice Aa0 na0 ca0, .slice Ba0 ma0 oa0, .bool bb0, .slice Ab0 nb0 cb0, .slice Bb0 mb0 ob0] 38)) (w.heap.size + 1) (by simp) 38 #[.bool ba1, .slice Aa1 na1 ca1, .slice Ba1 ma1 oa1, .bool bb1, .slice Ab1 nb1 cb1, .slice Bb1 mb1 ob1])⟩
  go_enter Try.func7, Try.ntmps7
  go_wp2_with fail
  refine (awake03 _).mono ?_
  rintro e w1 ⟨rfl, P1⟩
  replace OB2 := And.intro OB2.1 (OB2.2.on P1)
  replace OB3 := And.intro OB3.1 (OB3.2.on P1)
  replace B := B.trans P1
  have y2_0 : w1.cell? ⟨w.heap.size, 0, none⟩ = some (.bool ba0) := OB2.2.cell 0
  have y2_1 : w1.cell? ⟨w.heap.size, 1, none⟩ = some (.slice Aa0 na0 ca0) := OB2.2.cell 1
  have y2_2 : w1.cell? ⟨w.heap.size, 2, none⟩ = some (.slice Ba0 ma0 oa0) := OB2.2.cell 2
  have y2_3 : w1.cell? ⟨w.heap.size, 3, none⟩ = some (.bool bb0) := OB2.2.cell 3
  have y2_4 : w1.cell? ⟨w.heap.size, 4, none⟩ = some (.slice Ab0 nb0 cb0) := OB2.2.cell 4
  have y2_5 : w1.cell? ⟨w.heap.size, 5, none⟩ = some (.slice Bb0 mb0 ob0) := OB2.2.cell 5
  have y2_f0 := OB2.2.frozen 0
  have y2_f1 := OB2.2.frozen 1
  have y2_f2 := OB2.2.frozen 2
  have y2_f3 := OB2.2.frozen 3
  have y2_f4 := OB2.2.frozen 4
  have y2_f5 := OB2.2.frozen 5
  have y3_0 : w1.cell? ⟨w.heap.size + 1, 0, none⟩ = some (.bool ba1) := OB3.2.cell 0
  have y3_1 : w1.cell? ⟨w.heap.size + 1, 1, none⟩ = some (.slice Aa1 na1 ca1) := OB3.2.cell 1
  have y3_2 : w1.cell? ⟨w.heap.size + 1, 2, none⟩ = some (.slice Ba1 ma1 oa1) := OB3.2.cell 2
  have y3_3 : w1.cell? ⟨w.heap.size + 1, 3, none⟩ = some (.bool bb1) := OB3.2.cell 3
  have y3_4 : w1.cell? ⟨w.heap.size + 1, 4, none⟩ = some (.slice Ab1 nb1 cb1) := OB3.2.cell 4
  have y3_5 : w1.cell? ⟨w.heap.size + 1, 5, none⟩ = some (.slice Bb1 mb1 ob1) := OB3.2.cell 5
  have y3_f0 := OB3.2.frozen 0
  have y3_f1 := OB3.2.frozen 1
  have y3_f2 := OB3.2.frozen 2
  have y3_f3 := OB3.2.frozen 3
  have y3_f4 := OB3.2.frozen 4
  have y3_f5 := OB3.2.frozen 5
  go_wp2_with fail
  clear y2_0 y2_f0 y2_1 y2_f1 y2_2 y2_f2 y2_3 y2_f3 y2_4 y2_f4 y2_5 y2_f5
  clear y3_0 y3_f0 y3_1 y3_f1 y3_2 y3_f2 y3_3 y3_f3 y3_4 y3_f4 y3_5 y3_f5
  have B1 := (On.refl w1).alloc (.cells #[.bool ba0, .slice Aa0 na0 ca0, .slice Ba0 ma0 oa0, .bool bb0, .slice Ab0 nb0 cb0, .slice Bb0 mb0 ob0, .bool ba1, .slice Aa1 na1 ca1, .slice Ba1 ma1 oa1, .bool bb1, .slice Ab1 nb1 cb1, .slice Bb1 mb1 ob1] 38)
  replace OB2 := And.intro OB2.1 (OB2.2.on B1)
  replace OB3 := And.intro OB3.1 (OB3.2.on B1)
  replace B := B.trans B1
  have hlens := slens2 ba0 Aa0 na0 ca0 Ba0 ma0 oa0 bb0 Ab0 nb0 cb0 Bb0 mb0 ob0 xs0 ys0 us0 vs0 (R0.on B) (S0.on B) (U0.on B) (V0.on B) ba1 Aa1 na1 ca1 Ba1 ma1 oa1 bb1 Ab1 nb1 cb1 Bb1 mb1 ob1 xs1 ys1 us1 vs1 (R1.on B) (S1.on B) (U1.on B) (V1.on B) (Own.new w1 38 #[.bool ba0, .slice Aa0 na0 ca0, .slice Ba0 ma0 oa0, .bool bb0, .slice Ab0 nb0 cb0, .slice Bb0 mb0 ob0, .bool ba1, .slice Aa1 na1 ca1, .slice Ba1 ma1 oa1, .bool bb1, .slice Ab1 nb1 cb1, .slice Bb1 mb1 ob1])
  refine (slarge_yes _ _ 2 2 _ hlens rfl (by decide) (by decide) (by decide) mi qi HMI.out HYI.out).mono ?_
  rintro e w2 ⟨rfl, P2⟩
  clear hlens B1 P1
  replace OB2 := And.intro OB2.1 (OB2.2.on P2)
  replace OB3 := And.intro OB3.1 (OB3.2.on P2)
  replace B := B.trans P2
  clear P2
  go_wp2_with fail
  refine (awake03 _).mono ?_
  rintro e w3 ⟨rfl, P3⟩
  go_wp2
  go_ret
  exact ⟨rfl, B.trans P3⟩
set_option maxRecDepth 100000 in
set_option maxHeartbeats 1600000 in
theorem turns_inv0 (w : World) (ba0 : Bool) (Aa0 : Option Addr) (na0 ca0 : Nat) (Ba0 : Option Addr) (ma0 oa0 : Nat) (bb0 : Bool) (Ab0 : Option Addr) (nb0 cb0 : Nat) (Bb0 : Option Addr) (mb0 ob0 : Nat) (xs0 ys0 us0 vs0 : List Nat) (R0 : Rd w Aa0 na0 ca0 xs0) (S0 : Rd w Ba0 ma0 oa0 ys0) (U0 : Rd w Ab0 nb0 cb0 us0) (V0 : Rd w Bb0 mb0 ob0 vs0) (ba1 : Bool) (Aa1 : Option Addr) (na1 ca1 : Nat) (Ba1 : Option Addr) (ma1 oa1 : Nat) (bb1 : Bool) (Ab1 : Option Addr) (nb1 cb1 : Nat) (Bb1 : Option Addr) (mb1 ob1 : Nat) (xs1 ys1 us1 vs1 : List Nat) (R1 : Rd w Aa1 na1 ca1 xs1) (S1 : Rd w Ba1 ma1 oa1 ys1) (U1 : Rd w Ab1 nb1 cb1 us1) (V1 : Rd w Bb1 mb1 ob1 vs1)  (hs : na0 ≤ 6 ∧ ma0 ≤ 6 ∧ nb0 ≤ 6 ∧ mb0 ≤ 6 ∧ na1 ≤ 6 ∧ ma1 ≤ 6 ∧ nb1 ≤ 6 ∧ mb1 ≤ 6) (lo0 hi0 : Rat) (Q0 : SRaw w (.agg #[.bool ba0, .slice Aa0 na0 ca0, .slice Ba0 ma0 oa0, .bool bb0, .slice Ab0 nb0 cb0, .slice Bb0 mb0 ob0]) lo0 hi0 false 6) :
    Calls Try.prog 7 #[.agg #[.bool ba0, .slice Aa0 na0 ca0, .slice Ba0 ma0 oa0, .bool bb0, .slice Ab0 nb0 cb0, .slice Bb0 mb0 ob0], .agg #[.bool ba1, .slice Aa1 na1 ca1, .slice Ba1 ma1 oa1, .bool bb1, .slice Ab1 nb1 cb1, .slice Bb1 mb1 ob1]] w fun e w' => e = .returned (.bool true) ∧ On w w' := by
  have HSM : Hid (∀ p ∈ [(na0, ma0, nb0, mb0), (na1, ma1, nb1, mb1)], ¬ Big p) := Lib.hid (by intro p hp; simp at hp; rcases hp with rfl | rfl <;> (unfold Big; simp only; omega))
  have B : On w ((w.alloc (.cells #[.bool ba0, .slice Aa0 na0 ca0, .slice Ba0 ma0 oa0, .bool bb0, .slice Ab0 nb0 cb0, .slice Bb0 mb0 ob0] 38)).alloc (.cells #[.bool ba1, .slice Aa1 na1 ca1, .slice Ba1 ma1 oa1, .bool bb1, .slice Ab1 nb1 cb1, .slice Bb1 mb1 ob1] 38)) := On.alloc (On.alloc (On.refl w) _) _
  have OB2 : w.heap.size ≤ w.heap.size ∧ Own ((w.alloc (.cells #[.bool ba0, .slice Aa0 na0 ca0, .slice Ba0 ma0 oa0, .bool bb0, .slice Ab0 nb0 cb0, .slice Bb0 mb0 ob0] 38)).alloc (.cells #[.bool ba1, .slice Aa1 na1 ca1, .slice Ba1 ma1 oa1, .bool bb1, .slice Ab1 nb1 cb1, .slice Bb1 mb1 ob1] 38)) (w.heap.size) 38 #[.bool ba0, .slice Aa0 na0 ca0, .slice Ba0 ma0 oa0, .bool bb0, .slice Ab0 nb0 cb0, .slice Bb0 mb0 ob0] := ⟨by omega, ((Own.at_ w (w.heap.size) (by simp) 38 #[.bool ba0, .slice Aa0 na0 ca0, .slice Ba0 ma0 oa0, .bool bb0, .slice Ab0 nb0 cb0, .slice Bb0 mb0 ob0]).alloc (.cells #[.bool ba1, .slice Aa1 na1 ca1, .slice Ba1 ma1 oa1, .bool bb1, .slice Ab1 nb1 cb1, .slice Bb1 mb1 ob1] 38))⟩
  have OB3 : w.heap.size ≤ w.heap.size + 1 ∧ Own ((w.alloc (.cells #[.bool ba0, .slice Aa0 na0 ca0, .slice Ba0 ma0 oa0, .bool bb0, .slice Ab0 nb0 cb0, .slice Bb0 mb0 ob0] 38)).alloc (.cells #[.bool ba1, .slice Aa1 na1 ca1, .slice Ba1 ma1 oa1, .bool bb1, .slice Ab1 nb1 cb1, .slice Bb1 mb1 ob1] 38)) (w.heap.size + 1) 38 #[.bool ba1, .slice Aa1 na1 ca1, .slice Ba1 ma1 oa1, .bool bb1, .slice Ab1 nb1 cb1, .slice Bb1 mb1 ob1] := ⟨by omega, (Own.at_ (w.alloc (.cells #[.bool ba0, .slice Aa0 na0 ca0, .slice Ba0 ma0 oa0, .bool bb0, .slice Ab0 nb0 cb0, .slice Bb0 mb0 ob0] 38)) (w.heap.size + 1) (by simp) 38 #[.bool ba1, .slice Aa1 na1 ca1, .slice Ba1 ma1 oa1, .bool bb1, .slice Ab1 nb1 cb1, .slice Bb1 mb1 ob1])⟩
  go_enter Try.func7, Try.ntmps7
  go_wp2_with fail
  refine (awake03 _).mono ?_
  rintro e w1 ⟨rfl, P1⟩
  replace OB2 := And.intro OB2.1 (OB2.2.on P1)
  replace OB3 := And.intro OB3.1 (OB3.2.on P1)
  replace B := B.trans P1
  have y2_0 : w1.cell? ⟨w.heap.size, 0, none⟩ = some (.bool ba0) := OB2.2.cell 0
  have y2_1 : w1.cell? ⟨w.heap.size, 1, none⟩ = some (.slice Aa0 na0 ca0) := OB2.2.cell 1
  have y2_2 : w1.cell? ⟨w.heap.size, 2, none⟩ = some (.slice Ba0 ma0 oa0) := OB2.2.cell 2
  have y2_3 : w1.cell? ⟨w.heap.size, 3, none⟩ = some (.bool bb0) := OB2.2.cell 3
  have y2_4 : w1.cell? ⟨w.heap.size, 4, none⟩ = some (.slice Ab0 nb0 cb0) := OB2.2.cell 4
  have y2_5 : w1.cell? ⟨w.heap.size, 5, none⟩ = some (.slice Bb0 mb0 ob0) := OB2.2.cell 5
  have y2_f0 := OB2.2.frozen 0
  have y2_f1 := OB2.2.frozen 1
  have y2_f2 := OB2.2.frozen 2
  have y2_f3 := OB2.2.frozen 3
  have y2_f4 := OB2.2.frozen 4
  have y2_f5 := OB2.2.frozen 5
  have y3_0 : w1.cell? ⟨w.heap.size + 1, 0, none⟩ = some (.bool ba1) := OB3.2.cell 0
  have y3_1 : w1.cell? ⟨w.heap.size + 1, 1, none⟩ = some (.slice Aa1 na1 ca1) := OB3.2.cell 1
  have y3_2 : w1.cell? ⟨w.heap.size + 1, 2, none⟩ = some (.slice Ba1 ma1 oa1) := OB3.2.cell 2
  have y3_3 : w1.cell? ⟨w.heap.size + 1, 3, none⟩ = some (.bool bb1) := OB3.2.cell 3
  have y3_4 : w1.cell? ⟨w.heap.size + 1, 4, none⟩ = some (.slice Ab1 nb1 cb1) := OB3.2.cell 4
  have y3_5 : w1.cell? ⟨w.heap.size + 1, 5, none⟩ = some (.slice Bb1 mb1 ob1) := OB3.2.cell 5
  have y3_f0 := OB3.2.frozen 0
  have y3_f1 := OB3.2.frozen 1
  have y3_f2 := OB3.2.frozen 2
  have y3_f3 := OB3.2.frozen 3
  have y3_f4 := OB3.2.frozen 4
  have y3_f5 := OB3.2.frozen 5
  go_wp2_with fail
  clear y2_0 y2_f0 y2_1 y2_f1 y2_2 y2_f2 y2_3 y2_f3 y2_4 y2_f4 y2_5 y2_f5
  clear y3_0 y3_f0 y3_1 y3_f1 y3_2 y3_f2 y3_3 y3_f3 y3_4 y3_f4 y3_5 y3_f5
  have B1 := (On.refl w1).alloc (.cells #[.bool ba0, .slice Aa0 na0 ca0, .slice Ba0 ma0 oa0, .bool bb0, .slice Ab0 nb0 cb0, .slice Bb0 mb0 ob0, .bool ba1, .slice Aa1 na1 ca1, .slice Ba1 ma1 oa1, .bool bb1, .slice Ab1 nb1 cb1, .slice Bb1 mb1 ob1] 38)
  replace OB2 := And.intro OB2.1 (OB2.2.on B1)
  replace OB3 := And.intro OB3.1 (OB3.2.on B1)
  replace B := B.trans B1
  have hlens := slens2 ba0 Aa0 na0 ca0 Ba0 ma0 oa0 bb0 Ab0 nb0 cb0 Bb0 mb0 ob0 xs0 ys0 us0 vs0 (R0.on B) (S0.on B) (U0.on B) (V0.on B) ba1 Aa1 na1 ca1 Ba1 ma1 oa1 bb1 Ab1 nb1 cb1 Bb1 mb1 ob1 xs1 ys1 us1 vs1 (R1.on B) (S1.on B) (U1.on B) (V1.on B) (Own.new w1 38 #[.bool ba0, .slice Aa0 na0 ca0, .slice Ba0 ma0 oa0, .bool bb0, .slice Ab0 nb0 cb0, .slice Bb0 mb0 ob0, .bool ba1, .slice Aa1 na1 ca1, .slice Ba1 ma1 oa1, .bool bb1, .slice Ab1 nb1 cb1, .slice Bb1 mb1 ob1])
  refine (slarge_no _ _ 2 2 _ hlens rfl (by decide) (by decide) (by decide) HSM.out).mono ?_
  rintro e w2 ⟨rfl, P2⟩
  clear hlens B1 P1
  replace OB2 := And.intro OB2.1 (OB2.2.on P2)
  replace OB3 := And.intro OB3.1 (OB3.2.on P2)
  replace B := B.trans P2
  clear P2
  have y2_0 : w2.cell? ⟨w.heap.size, 0, none⟩ = some (.bool ba0) := OB2.2.cell 0
  have y2_1 : w2.cell? ⟨w.heap.size, 1, none⟩ = some (.slice Aa0 na0 ca0) := OB2.2.cell 1
  have y2_2 : w2.cell? ⟨w.heap.size, 2, none⟩ = some (.slice Ba0 ma0 oa0) := OB2.2.cell 2
  have y2_3 : w2.cell? ⟨w.heap.size, 3, none⟩ = some (.bool bb0) := OB2.2.cell 3
  have y2_4 : w2.cell? ⟨w.heap.size, 4, none⟩ = some (.slice Ab0 nb0 cb0) := OB2.2.cell 4
  have y2_5 : w2.cell? ⟨w.heap.size, 5, none⟩ = some (.slice Bb0 mb0 ob0) := OB2.2.cell 5
  have y2_f0 := OB2.2.frozen 0
  have y2_f1 := OB2.2.frozen 1
  have y2_f2 := OB2.2.frozen 2
  have y2_f3 := OB2.2.frozen 3
  have y2_f4 := OB2.2.frozen 4
  have y2_f5 := OB2.2.frozen 5
  go_wp2_with fail
  refine (svalid_any _ _ _ _ _ _ (Q0.on B) (by decide)).mono ?_
  rintro e wv0 ⟨rfl, PV⟩
  clear y2_0 y2_f0 y2_1 y2_f1 y2_2 y2_f2 y2_3 y2_f3 y2_4 y2_f4 y2_5 y2_f5
  replace OB2 := And.intro OB2.1 (OB2.2.on PV)
  replace OB3 := And.intro OB3.1 (OB3.2.on PV)
  replace B := B.trans PV
  clear PV
  go_wp2_with fail
  refine (awake03 _).mono ?_
  rintro e w3 ⟨rfl, P3⟩
  go_wp2
  go_ret
  exact ⟨rfl, B.trans P3⟩
set_option maxRecDepth 100000 in
set_option maxHeartbeats 1600000 in
theorem turns_inv1 (w : World) (ba0 : Bool) (Aa0 : Option Addr) (na0 ca0 : Nat) (Ba0 : Option Addr) (ma0 oa0 : Nat) (bb0 : Bool) (Ab0 : Option Addr) (nb0 cb0 : Nat) (Bb0 : Option Addr) (mb0 ob0 : Nat) (xs0 ys0 us0 vs0 : List Nat) (R0 : Rd w Aa0 na0 ca0 xs0) (S0 : Rd w Ba0 ma0 oa0 ys0) (U0 : Rd w Ab0 nb0 cb0 us0) (V0 : Rd w Bb0 mb0 ob0 vs0) (ba1 : Bool) (Aa1 : Option Addr) (na1 ca1 : Nat) (Ba1 : Option Addr) (ma1 oa1 : Nat) (bb1 : Bool) (Ab1 : Option Addr) (nb1 cb1 : Nat) (Bb1 : Option Addr) (mb1 ob1 : Nat) (xs1 ys1 us1 vs1 : List Nat) (R1 : Rd w Aa1 na1 ca1 xs1) (S1 : Rd w Ba1 ma1 oa1 ys1) (U1 : Rd w Ab1 nb1 cb1 us1) (V1 : Rd w Bb1 mb1 ob1 vs1)  (hs : na0 ≤ 6 ∧ ma0 ≤ 6 ∧ nb0 ≤ 6 ∧ mb0 ≤ 6 ∧ na1 ≤ 6 ∧ ma1 ≤ 6 ∧ nb1 ≤ 6 ∧ mb1 ≤ 6) (lo0 hi0 : Rat) (Q0 : SRaw w (.agg #[.bool ba0, .slice Aa0 na0 ca0, .slice Ba0 ma0 oa0, .bool bb0, .slice Ab0 nb0 cb0, .slice Bb0 mb0 ob0]) lo0 hi0 true 6) (lo1 hi1 : Rat) (Q1 : SRaw w (.agg #[.bool ba1, .slice Aa1 na1 ca1, .slice Ba1 ma1 oa1, .bool bb1, .slice Ab1 nb1 cb1, .slice Bb1 mb1 ob1]) lo1 hi1 false 6) :
    Calls Try.prog 7 #[.agg #[.bool ba0, .slice Aa0 na0 ca0, .slice Ba0 ma0 oa0, .bool bb0, .slice Ab0 nb0 cb0, .slice Bb0 mb0 ob0], .agg #[.bool ba1, .slice Aa1 na1 ca1, .slice Ba1 ma1 oa1, .bool bb1, .slice Ab1 nb1 cb1, .slice Bb1 mb1 ob1]] w fun e w' => e = .returned (.bool true) ∧ On w w' := by
  have HSM : Hid (∀ p ∈ [(na0, ma0, nb0, mb0), (na1, ma1, nb1, mb1)], ¬ Big p) := Lib.hid (by intro p hp; simp at hp; rcases hp with rfl | rfl <;> (unfold Big; simp only; omega))
  have B : On w ((w.alloc (.cells #[.bool ba0, .slice Aa0 na0 ca0, .slice Ba0 ma0 oa0, .bool bb0, .slice Ab0 nb0 cb0, .slice Bb0 mb0 ob0] 38)).alloc (.cells #[.bool ba1, .slice Aa1 na1 ca1, .slice Ba1 ma1 oa1, .bool bb1, .slice Ab1 nb1 cb1, .slice Bb1 mb1 ob1] 38)) := On.alloc (On.alloc (On.refl w) _) _
  have OB2 : w.heap.size ≤ w.heap.size ∧ Own ((w.alloc (.cells #[.bool ba0, .slice Aa0 na0 ca0, .slice Ba0 ma0 oa0, .bool bb0, .slice Ab0 nb0 cb0, .slice Bb0 mb0 ob0] 38)).alloc (.cells #[.bool ba1, .slice Aa1 na1 ca1, .slice Ba1 ma1 oa1, .bool bb1, .slice Ab1 nb1 cb1, .slice Bb1 mb1 ob1] 38)) (w.heap.size) 38 #[.bool ba0, .slice Aa0 na0 ca0, .slice Ba0 ma0 oa0, .bool bb0, .slice Ab0 nb0 cb0, .slice Bb0 mb0 ob0] := ⟨by omega, ((Own.at_ w (w.heap.size) (by simp) 38 #[.bool ba0, .slice Aa0 na0 ca0, .slice Ba0 ma0 oa0, .bool bb0, .slice Ab0 nb0 cb0, .slice Bb0 mb0 ob0]).alloc (.cells #[.bool ba1, .slice Aa1 na1 ca1, .slice Ba1 ma1 oa1, .bool bb1, .slice Ab1 nb1 cb1, .slice Bb1 mb1 ob1] 38))⟩
  have OB3 : w.heap.size ≤ w.heap.size + 1 ∧ Own ((w.alloc (.cells #[.bool ba0, .slice Aa0 na0 ca0, .slice Ba0 ma0 oa0, .bool bb0, .slice Ab0 nb0 cb0, .slice Bb0 mb0 ob0] 38)).alloc (.cells #[.bool ba1, .slice Aa1 na1 ca1, .slice Ba1 ma1 oa1, .bool bb1, .slice Ab1 nb1 cb1, .slice Bb1 mb1 ob1] 38)) (w.heap.size + 1) 38 #[.bool ba1, .slice Aa1 na1 ca1, .slice Ba1 ma1 oa1, .bool bb1, .slice Ab1 nb1 cb1, .slice Bb1 mb1 ob1] := ⟨by omega, (Own.at_ (w.alloc (.cells #[.bool ba0, .slice Aa0 na0 ca0, .slice Ba0 ma0 oa0, .bool bb0, .slice Ab0 nb0 cb0, .slice Bb0 mb0 ob0] 38)) (w.heap.size + 1) (by simp) 38 #[.bool ba1, .slice Aa1 na1 ca1, .slice Ba1 ma1 oa1, .bool bb1, .slice Ab1 nb1 cb1, .slice Bb1 mb1 ob1])⟩
  go_enter Try.func7, Try.ntmps7
  go_wp2_with fail
  refine (awake03 _).mono ?_
  rintro e w1 ⟨rfl, P1⟩
  replace OB2 := And.intro OB2.1 (OB2.2.on P1)
  replace OB3 := And.intro OB3.1 (OB3.2.on P1)
  replace B := B.trans P1
  have y2_0 : w1.cell? ⟨w.heap.size, 0, none⟩ = some (.bool ba0) := OB2.2.cell 0
  have y2_1 : w1.cell? ⟨w.heap.size, 1, none⟩ = some (.slice Aa0 na0 ca0) := OB2.2.cell 1
  have y2_2 : w1.cell? ⟨w.heap.size, 2, none⟩ = some (.slice Ba0 ma0 oa0) := OB2.2.cell 2
  have y2_3 : w1.cell? ⟨w.heap.size, 3, none⟩ = some (.bool bb0) := OB2.2.cell 3
  have y2_4 : w1.cell? ⟨w.heap.size, 4, none⟩ = some (.slice Ab0 nb0 cb0) := OB2.2.cell 4
  have y2_5 : w1.cell? ⟨w.heap.size, 5, none⟩ = some (.slice Bb0 mb0 ob0) := OB2.2.cell 5
  have y2_f0 := OB2.2.frozen 0
  have y2_f1 := OB2.2.frozen 1
  have y2_f2 := OB2.2.frozen 2
  have y2_f3 := OB2.2.frozen 3
  have y2_f4 := OB2.2.frozen 4
  have y2_f5 := OB2.2.frozen 5
  have y3_0 : w1.cell? ⟨w.heap.size + 1, 0, none⟩ = some (.bool ba1) := OB3.2.cell 0
  have y3_1 : w1.cell? ⟨w.heap.size + 1, 1, none⟩ = some (.slice Aa1 na1 ca1) := OB3.2.cell 1
  have y3_2 : w1.cell? ⟨w.heap.size + 1, 2, none⟩ = some (.slice Ba1 ma1 oa1) := OB3.2.cell 2
  have y3_3 : w1.cell? ⟨w.heap.size + 1, 3, none⟩ = some (.bool bb1) := OB3.2.cell 3
  have y3_4 : w1.cell? ⟨w.heap.size + 1, 4, none⟩ = some (.slice Ab1 nb1 cb1) := OB3.2.cell 4
  have y3_5 : w1.cell? ⟨w.heap.size + 1, 5, none⟩ = some (.slice Bb1 mb1 ob1) := OB3.2.cell 5
  have y3_f0 := OB3.2.frozen 0
  have y3_f1 := OB3.2.frozen 1
  have y3_f2 := OB3.2.frozen 2
  have y3_f3 := OB3.2.frozen 3
  have y3_f4 := OB3.2.frozen 4
  have y3_f5 := OB3.2.frozen 5
  go_wp2_with fail
  clear y2_0 y2_f0 y2_1 y2_f1 y2_2 y2_f2 y2_3 y2_f3 y2_4 y2_f4 y2_5 y2_f5
  clear y3_0 y3_f0 y3_1 y3_f1 y3_2 y3_f2 y3_3 y3_f3 y3_4 y3_f4 y3_5 y3_f5
  have B1 := (On.refl w1).alloc (.cells #[.bool ba0, .slice Aa0 na0 ca0, .slice Ba0 ma0 oa0, .bool bb0, .slice Ab0 nb0 cb0, .slice Bb0 mb0 ob0, .bool ba1, .slice Aa1 na1 ca1, .slice Ba1 ma1 oa1, .bool bb1, .slice Ab1 nb1 cb1, .slice Bb1 mb1 ob1] 38)
  replace OB2 := And.intro OB2.1 (OB2.2.on B1)
  replace OB3 := And.intro OB3.1 (OB3.2.on B1)
  replace B := B.trans B1
  have hlens := slens2 ba0 Aa0 na0 ca0 Ba0 ma0 oa0 bb0 Ab0 nb0 cb0 Bb0 mb0 ob0 xs0 ys0 us0 vs0 (R0.on B) (S0.on B) (U0.on B) (V0.on B) ba1 Aa1 na1 ca1 Ba1 ma1 oa1 bb1 Ab1 nb1 cb1 Bb1 mb1 ob1 xs1 ys1 us1 vs1 (R1.on B) (S1.on B) (U1.on B) (V1.on B) (Own.new w1 38 #[.bool ba0, .slice Aa0 na0 ca0, .slice Ba0 ma0 oa0, .bool bb0, .slice Ab0 nb0 cb0, .slice Bb0 mb0 ob0, .bool ba1, .slice Aa1 na1 ca1, .slice Ba1 ma1 oa1, .bool bb1, .slice Ab1 nb1 cb1, .slice Bb1 mb1 ob1])
  refine (slarge_no _ _ 2 2 _ hlens rfl (by decide) (by decide) (by decide) HSM.out).mono ?_
  rintro e w2 ⟨rfl, P2⟩
  clear hlens B1 P1
  replace OB2 := And.intro OB2.1 (OB2.2.on P2)
  replace OB3 := And.intro OB3.1 (OB3.2.on P2)
  replace B := B.trans P2
  clear P2
  have y2_0 : w2.cell? ⟨w.heap.size, 0, none⟩ = some (.bool ba0) := OB2.2.cell 0
  have y2_1 : w2.cell? ⟨w.heap.size, 1, none⟩ = some (.slice Aa0 na0 ca0) := OB2.2.cell 1
  have y2_2 : w2.cell? ⟨w.heap.size, 2, none⟩ = some (.slice Ba0 ma0 oa0) := OB2.2.cell 2
  have y2_3 : w2.cell? ⟨w.heap.size, 3, none⟩ = some (.bool bb0) := OB2.2.cell 3
  have y2_4 : w2.cell? ⟨w.heap.size, 4, none⟩ = some (.slice Ab0 nb0 cb0) := OB2.2.cell 4
  have y2_5 : w2.cell? ⟨w.heap.size, 5, none⟩ = some (.slice Bb0 mb0 ob0) := OB2.2.cell 5
  have y2_f0 := OB2.2.frozen 0
  have y2_f1 := OB2.2.frozen 1
  have y2_f2 := OB2.2.frozen 2
  have y2_f3 := OB2.2.frozen 3
  have y2_f4 := OB2.2.frozen 4
  have y2_f5 := OB2.2.frozen 5
  go_wp2_with fail
  refine (svalid_any _ _ _ _ _ _ (Q0.on B) (by decide)).mono ?_
  rintro e wv0 ⟨rfl, PV⟩
  clear y2_0 y2_f0 y2_1 y2_f1 y2_2 y2_f2 y2_3 y2_f3 y2_4 y2_f4 y2_5 y2_f5
  replace OB2 := And.intro OB2.1 (OB2.2.on PV)
  replace OB3 := And.intro OB3.1 (OB3.2.on PV)
  replace B := B.trans PV
  clear PV
  have y3_0 : wv0.cell? ⟨w.heap.size + 1, 0, none⟩ = some (.bool ba1) := OB3.2.cell 0
  have y3_1 : wv0.cell? ⟨w.heap.size + 1, 1, none⟩ = some (.slice Aa1 na1 ca1) := OB3.2.cell 1
  have y3_2 : wv0.cell? ⟨w.heap.size + 1, 2, none⟩ = some (.slice Ba1 ma1 oa1) := OB3.2.cell 2
  have y3_3 : wv0.cell? ⟨w.heap.size + 1, 3, none⟩ = some (.bool bb1) := OB3.2.cell 3
  have y3_4 : wv0.cell? ⟨w.heap.size + 1, 4, none⟩ = some (.slice Ab1 nb1 cb1) := OB3.2.cell 4
  have y3_5 : wv0.cell? ⟨w.heap.size + 1, 5, none⟩ = some (.slice Bb1 mb1 ob1) := OB3.2.cell 5
  have y3_f0 := OB3.2.frozen 0
  have y3_f1 := OB3.2.frozen 1
  have y3_f2 := OB3.2.frozen 2
  have y3_f3 := OB3.2.frozen 3
  have y3_f4 := OB3.2.frozen 4
  have y3_f5 := OB3.2.frozen 5
  go_wp2_with fail
  refine (svalid_any _ _ _ _ _ _ (Q1.on B) (by decide)).mono ?_
  rintro e wv1 ⟨rfl, PV⟩
  clear y3_0 y3_f0 y3_1 y3_f1 y3_2 y3_f2 y3_3 y3_f3 y3_4 y3_f4 y3_5 y3_f5
  replace OB2 := And.intro OB2.1 (OB2.2.on PV)
  replace OB3 := And.intro OB3.1 (OB3.2.on PV)
  replace B := B.trans PV
  clear PV
  go_wp2_with fail
  refine (awake03 _).mono ?_
  rintro e w3 ⟨rfl, P3⟩
  go_wp2
  go_ret
  exact ⟨rfl, B.trans P3⟩
set_option maxRecDepth 100000 in
set_option maxHeartbeats 1600000 in
theorem turns_main (w : World) (ba0 : Bool) (Aa0 : Option Addr) (na0 ca0 : Nat) (Ba0 : Option Addr) (ma0 oa0 : Nat) (bb0 : Bool) (Ab0 : Option Addr) (nb0 cb0 : Nat) (Bb0 : Option Addr) (mb0 ob0 : Nat) (xs0 ys0 us0 vs0 : List Nat) (R0 : Rd w Aa0 na0 ca0 xs0) (S0 : Rd w Ba0 ma0 oa0 ys0) (U0 : Rd w Ab0 nb0 cb0 us0) (V0 : Rd w Bb0 mb0 ob0 vs0) (ba1 : Bool) (Aa1 : Option Addr) (na1 ca1 : Nat) (Ba1 : Option Addr) (ma1 oa1 : Nat) (bb1 : Bool) (Ab1 : Option Addr) (nb1 cb1 : Nat) (Bb1 : Option Addr) (mb1 ob1 : Nat) (xs1 ys1 us1 vs1 : List Nat) (R1 : Rd w Aa1 na1 ca1 xs1) (S1 : Rd w Ba1 ma1 oa1 ys1) (U1 : Rd w Ab1 nb1 cb1 us1) (V1 : Rd w Bb1 mb1 ob1 vs1)  (hs : na0 ≤ 6 ∧ ma0 ≤ 6 ∧ nb0 ≤ 6 ∧ mb0 ≤ 6 ∧ na1 ≤ 6 ∧ ma1 ≤ 6 ∧ nb1 ≤ 6 ∧ mb1 ≤ 6) (lo0 hi0 : Rat) (Q0 : SRaw w (.agg #[.bool ba0, .slice Aa0 na0 ca0, .slice Ba0 ma0 oa0, .bool bb0, .slice Ab0 nb0 cb0, .slice Bb0 mb0 ob0]) lo0 hi0 true 6) (lo1 hi1 : Rat) (Q1 : SRaw w (.agg #[.bool ba1, .slice Aa1 na1 ca1, .slice Ba1 ma1 oa1, .bool bb1, .slice Ab1 nb1 cb1, .slice Bb1 mb1 ob1]) lo1 hi1 true 6)  :
    Calls Try.prog 7 #[.agg #[.bool ba0, .slice Aa0 na0 ca0, .slice Ba0 ma0 oa0, .bool bb0, .slice Ab0 nb0 cb0, .slice Bb0 mb0 ob0], .agg #[.bool ba1, .slice Aa1 na1 ca1, .slice Ba1 ma1 oa1, .bool bb1, .slice Ab1 nb1 cb1, .slice Bb1 mb1 ob1]] w fun e w' => e = .returned (.bool true) ∧ On w w' := by
  obtain ⟨I0, le0⟩ := raw_isS Q0
  have T0 := I0.sp le0
  obtain ⟨I1, le1⟩ := raw_isS Q1
  have T1 := I1.sp le1
  have HSM : Hid (∀ p ∈ [(na0, ma0, nb0, mb0), (na1, ma1, nb1, mb1)], ¬ Big p) := Lib.hid (by intro p hp; simp at hp; rcases hp with rfl | rfl <;> (unfold Big; simp only; omega))
  have B : On w ((w.alloc (.cells #[.bool ba0, .slice Aa0 na0 ca0, .slice Ba0 ma0 oa0, .bool bb0, .slice Ab0 nb0 cb0, .slice Bb0 mb0 ob0] 38)).alloc (.cells #[.bool ba1, .slice Aa1 na1 ca1, .slice Ba1 ma1 oa1, .bool bb1, .slice Ab1 nb1 cb1, .slice Bb1 mb1 ob1] 38)) := On.alloc (On.alloc (On.refl w) _) _
  have OB2 : w.heap.size ≤ w.heap.size ∧ Own ((w.alloc (.cells #[.bool ba0, .slice Aa0 na0 ca0, .slice Ba0 ma0 oa0, .bool bb0, .slice Ab0 nb0 cb0, .slice Bb0 mb0 ob0] 38)).alloc (.cells #[.bool ba1, .slice Aa1 na1 ca1, .slice Ba1 ma1 oa1, .bool bb1, .slice Ab1 nb1 cb1, .slice Bb1 mb1 ob1] 38)) (w.heap.size) 38 #[.bool ba0, .slice Aa0 na0 ca0, .slice Ba0 ma0 oa0, .bool bb0, .slice Ab0 nb0 cb0, .slice Bb0 mb0 ob0] := ⟨by omega, ((Own.at_ w (w.heap.size) (by simp) 38 #[.bool ba0, .slice Aa0 na0 ca0, .slice Ba0 ma0 oa0, .bool bb0, .slice Ab0 nb0 cb0, .slice Bb0 mb0 ob0]).alloc (.cells #[.bool ba1, .slice Aa1 na1 ca1, .slice Ba1 ma1 oa1, .bool bb1, .slice Ab1 nb1 cb1, .slice Bb1 mb1 ob1] 38))⟩
  have OB3 : w.heap.size ≤ w.heap.size + 1 ∧ Own ((w.alloc (.cells #[.bool ba0, .slice Aa0 na0 ca0, .slice Ba0 ma0 oa0, .bool bb0, .slice Ab0 nb0 cb0, .slice Bb0 mb0 ob0] 38)).alloc (.cells #[.bool ba1, .slice Aa1 na1 ca1, .slice Ba1 ma1 oa1, .bool bb1, .slice Ab1 nb1 cb1, .slice Bb1 mb1 ob1] 38)) (w.heap.size + 1) 38 #[.bool ba1, .slice Aa1 na1 ca1, .slice Ba1 ma1 oa1, .bool bb1, .slice Ab1 nb1 cb1, .slice Bb1 mb1 ob1] := ⟨by omega, (Own.at_ (w.alloc (.cells #[.bool ba0, .slice Aa0 na0 ca0, .slice Ba0 ma0 oa0, .bool bb0, .slice Ab0 nb0 cb0, .slice Bb0 mb0 ob0] 38)) (w.heap.size + 1) (by simp) 38 #[.bool ba1, .slice Aa1 na1 ca1, .slice Ba1 ma1 oa1, .bool bb1, .slice Ab1 nb1 cb1, .slice Bb1 mb1 ob1])⟩
  go_enter Try.func7, Try.ntmps7
  go_wp2_with fail
  refine (awake03 _).mono ?_
  rintro e w1 ⟨rfl, P1⟩
  replace OB2 := And.intro OB2.1 (OB2.2.on P1)
  replace OB3 := And.intro OB3.1 (OB3.2.on P1)
  replace B := B.trans P1
  have y2_0 : w1.cell? ⟨w.heap.size, 0, none⟩ = some (.bool ba0) := OB2.2.cell 0
  have y2_1 : w1.cell? ⟨w.heap.size, 1, none⟩ = some (.slice Aa0 na0 ca0) := OB2.2.cell 1
  have y2_2 : w1.cell? ⟨w.heap.size, 2, none⟩ = some (.slice Ba0 ma0 oa0) := OB2.2.cell 2
  have y2_3 : w1.cell? ⟨w.heap.size, 3, none⟩ = some (.bool bb0) := OB2.2.cell 3
  have y2_4 : w1.cell? ⟨w.heap.size, 4, none⟩ = some (.slice Ab0 nb0 cb0) := OB2.2.cell 4
  have y2_5 : w1.cell? ⟨w.heap.size, 5, none⟩ = some (.slice Bb0 mb0 ob0) := OB2.2.cell 5
  have y2_f0 := OB2.2.frozen 0
  have y2_f1 := OB2.2.frozen 1
  have y2_f2 := OB2.2.frozen 2
  have y2_f3 := OB2.2.frozen 3
  have y2_f4 := OB2.2.frozen 4
  have y2_f5 := OB2.2.frozen 5
  have y3_0 : w1.cell? ⟨w.heap.size + 1, 0, none⟩ = some (.bool ba1) := OB3.2.cell 0
  have y3_1 : w1.cell? ⟨w.heap.size + 1, 1, none⟩ = some (.slice Aa1 na1 ca1) := OB3.2.cell 1
  have y3_2 : w1.cell? ⟨w.heap.size + 1, 2, none⟩ = some (.slice Ba1 ma1 oa1) := OB3.2.cell 2
  have y3_3 : w1.cell? ⟨w.heap.size + 1, 3, none⟩ = some (.bool bb1) := OB3.2.cell 3
  have y3_4 : w1.cell? ⟨w.heap.size + 1, 4, none⟩ = some (.slice Ab1 nb1 cb1) := OB3.2.cell 4
  have y3_5 : w1.cell? ⟨w.heap.size + 1, 5, none⟩ = some (.slice Bb1 mb1 ob1) := OB3.2.cell 5
  have y3_f0 := OB3.2.frozen 0
  have y3_f1 := OB3.2.frozen 1
  have y3_f2 := OB3.2.frozen 2
  have y3_f3 := OB3.2.frozen 3
  have y3_f4 := OB3.2.frozen 4
  have y3_f5 := OB3.2.frozen 5
  go_wp2_with fail
  clear y2_0 y2_f0 y2_1 y2_f1 y2_2 y2_f2 y2_3 y2_f3 y2_4 y2_f4 y2_5 y2_f5
  clear y3_0 y3_f0 y3_1 y3_f1 y3_2 y3_f2 y3_3 y3_f3 y3_4 y3_f4 y3_5 y3_f5
  have B1 := (On.refl w1).alloc (.cells #[.bool ba0, .slice Aa0 na0 ca0, .slice Ba0 ma0 oa0, .bool bb0, .slice Ab0 nb0 cb0, .slice Bb0 mb0 ob0, .bool ba1, .slice Aa1 na1 ca1, .slice Ba1 ma1 oa1, .bool bb1, .slice Ab1 nb1 cb1, .slice Bb1 mb1 ob1] 38)
  replace OB2 := And.intro OB2.1 (OB2.2.on B1)
  replace OB3 := And.intro OB3.1 (OB3.2.on B1)
  replace B := B.trans B1
  have hlens := slens2 ba0 Aa0 na0 ca0 Ba0 ma0 oa0 bb0 Ab0 nb0 cb0 Bb0 mb0 ob0 xs0 ys0 us0 vs0 (R0.on B) (S0.on B) (U0.on B) (V0.on B) ba1 Aa1 na1 ca1 Ba1 ma1 oa1 bb1 Ab1 nb1 cb1 Bb1 mb1 ob1 xs1 ys1 us1 vs1 (R1.on B) (S1.on B) (U1.on B) (V1.on B) (Own.new w1 38 #[.bool ba0, .slice Aa0 na0 ca0, .slice Ba0 ma0 oa0, .bool bb0, .slice Ab0 nb0 cb0, .slice Bb0 mb0 ob0, .bool ba1, .slice Aa1 na1 ca1, .slice Ba1 ma1 oa1, .bool bb1, .slice Ab1 nb1 cb1, .slice Bb1 mb1 ob1])
  refine (slarge_no _ _ 2 2 _ hlens rfl (by decide) (by decide) (by decide) HSM.out).mono ?_
  rintro e w2 ⟨rfl, P2⟩
  clear hlens B1 P1
  replace OB2 := And.intro OB2.1 (OB2.2.on P2)
  replace OB3 := And.intro OB3.1 (OB3.2.on P2)
  replace B := B.trans P2
  clear P2
  have y2_0 : w2.cell? ⟨w.heap.size, 0, none⟩ = some (.bool ba0) := OB2.2.cell 0
  have y2_1 : w2.cell? ⟨w.heap.size, 1, none⟩ = some (.slice Aa0 na0 ca0) := OB2.2.cell 1
  have y2_2 : w2.cell? ⟨w.heap.size, 2, none⟩ = some (.slice Ba0 ma0 oa0) := OB2.2.cell 2
  have y2_3 : w2.cell? ⟨w.heap.size, 3, none⟩ = some (.bool bb0) := OB2.2.cell 3
  have y2_4 : w2.cell? ⟨w.heap.size, 4, none⟩ = some (.slice Ab0 nb0 cb0) := OB2.2.cell 4
  have y2_5 : w2.cell? ⟨w.heap.size, 5, none⟩ = some (.slice Bb0 mb0 ob0) := OB2.2.cell 5
  have y2_f0 := OB2.2.frozen 0
  have y2_f1 := OB2.2.frozen 1
  have y2_f2 := OB2.2.frozen 2
  have y2_f3 := OB2.2.frozen 3
  have y2_f4 := OB2.2.frozen 4
  have y2_f5 := OB2.2.frozen 5
  go_wp2_with fail
  refine (svalid_any _ _ _ _ _ _ (Q0.on B) (by decide)).mono ?_
  rintro e wv0 ⟨rfl, PV⟩
  clear y2_0 y2_f0 y2_1 y2_f1 y2_2 y2_f2 y2_3 y2_f3 y2_4 y2_f4 y2_5 y2_f5
  replace OB2 := And.intro OB2.1 (OB2.2.on PV)
  replace OB3 := And.intro OB3.1 (OB3.2.on PV)
  replace B := B.trans PV
  clear PV
  have y3_0 : wv0.cell? ⟨w.heap.size + 1, 0, none⟩ = some (.bool ba1) := OB3.2.cell 0
  have y3_1 : wv0.cell? ⟨w.heap.size + 1, 1, none⟩ = some (.slice Aa1 na1 ca1) := OB3.2.cell 1
  have y3_2 : wv0.cell? ⟨w.heap.size + 1, 2, none⟩ = some (.slice Ba1 ma1 oa1) := OB3.2.cell 2
  have y3_3 : wv0.cell? ⟨w.heap.size + 1, 3, none⟩ = some (.bool bb1) := OB3.2.cell 3
  have y3_4 : wv0.cell? ⟨w.heap.size + 1, 4, none⟩ = some (.slice Ab1 nb1 cb1) := OB3.2.cell 4
  have y3_5 : wv0.cell? ⟨w.heap.size + 1, 5, none⟩ = some (.slice Bb1 mb1 ob1) := OB3.2.cell 5
  have y3_f0 := OB3.2.frozen 0
  have y3_f1 := OB3.2.frozen 1
  have y3_f2 := OB3.2.frozen 2
  have y3_f3 := OB3.2.frozen 3
  have y3_f4 := OB3.2.frozen 4
  have y3_f5 := OB3.2.frozen 5
  go_wp2_with fail
  refine (svalid_any _ _ _ _ _ _ (Q1.on B) (by decide)).mono ?_
  rintro e wv1 ⟨rfl, PV⟩
  clear y3_0 y3_f0 y3_1 y3_f1 y3_2 y3_f2 y3_3 y3_f3 y3_4 y3_f4 y3_5 y3_f5
  replace OB2 := And.intro OB2.1 (OB2.2.on PV)
  replace OB3 := And.intro OB3.1 (OB3.2.on PV)
  replace B := B.trans PV
  clear PV
  clear HSM
  go_wp2
  refine wp_region_facts (by kernel_rfl) w [Fact.eq (.agg #[.bool ba0, .slice Aa0 na0 ca0, .slice Ba0 ma0 oa0, .bool bb0, .slice Ab0 nb0 cb0, .slice Bb0 mb0 ob0]), Fact.sp (-hi0) (-lo0) (6), Fact.sp (lo0) (hi0) (6), Fact.eq (.agg #[.bool ba0, .slice Aa0 na0 ca0, .slice Ba0 ma0 oa0, .bool bb0, .slice Ab0 nb0 cb0, .slice Bb0 mb0 ob0]), Fact.eq (.bool true), Fact.eq (.bool false), Fact.eq (.bool false), Fact.eq (.agg #[.bool ba0, .slice Aa0 na0 ca0, .slice Ba0 ma0 oa0, .bool bb0, .slice Ab0 nb0 cb0, .slice Bb0 mb0 ob0]), Fact.sp (1 - hi0) (1 - lo0) (13), Fact.sp (lo0) (hi0) (27), Fact.eq (.agg #[.bool ba0, .slice Aa0 na0 ca0, .slice Ba0 ma0 oa0, .bool bb0, .slice Ab0 nb0 cb0, .slice Bb0 mb0 ob0]), Fact.eq (.bool true), Fact.eq (.bool false), Fact.eq (.bool false), Fact.eq (.bool false), Fact.eq (.agg #[.bool ba0, .slice Aa0 na0 ca0, .slice Ba0 ma0 oa0, .bool bb0, .slice Ab0 nb0 cb0, .slice Bb0 mb0 ob0]), Fact.eq (.agg #[.bool ba1, .slice Aa1 na1 ca1, .slice Ba1 ma1 oa1, .bool bb1, .slice Ab1 nb1 cb1, .slice Bb1 mb1 ob1]), Fact.sp (lo0 - hi1) (hi0 - lo1) (13), Fact.eq (.agg #[.bool ba0, .slice Aa0 na0 ca0, .slice Ba0 ma0 oa0, .bool bb0, .slice Ab0 nb0 cb0, .slice Bb0 mb0 ob0]), Fact.eq (.agg #[.bool ba1, .slice Aa1 na1 ca1, .slice Ba1 ma1 oa1, .bool bb1, .slice Ab1 nb1 cb1, .slice Bb1 mb1 ob1]), Fact.sp (-hi1) (-lo1) (6), Fact.sp (lo0 - hi1) (hi0 - lo1) (13), Fact.eq (.bool true), Fact.eq (.bool false), Fact.eq (.bool false)] [Fact.any, Fact.any] [⟨25, 2, 38, 25, #[.bool ba0, .slice Aa0 na0 ca0, .slice Ba0 ma0 oa0, .bool bb0, .slice Ab0 nb0 cb0, .slice Bb0 mb0 ob0]⟩, ⟨25, 3, 38, 25, #[.bool ba1, .slice Aa1 na1 ca1, .slice Ba1 ma1 oa1, .bool bb1, .slice Ab1 nb1 cb1, .slice Bb1 mb1 ob1]⟩] [w.heap.size, w.heap.size + 1] [none, none, none, none, none, none, none, none, none, none, none, none, none, none, none, none, none, none, none, none, none, none, none, none, some 24, some 25, some 26, some 27, some 28, some 29, some 30, some 31, some 32, some 33, some 34, some 35, some 36, some 37, some 38, some 39, some 40, some 41, some 42, some 43, some 44, some 45, some 46, some 47, some 48, none, none, none, none, none, none, none, none, none, none, none, none, none, none, none, none, none, none, none, none] (by kernel_rfl) (by kernel_rfl) (by kernel_rfl) rfl B ?_ ?_ ?_ ?_ ?_
  · exact ⟨fun _ => ⟨by simp, rfl, OB2⟩, fun _ => ⟨by simp, rfl, OB3⟩, trivial⟩
  · exact .inl ⟨Nat.le_refl _, Nat.le_refl _, trivial⟩
  · exact ⟨⟨noWords_S _ _ _ _ _ _ _ _ _ _ _ _ _ _, (.inl (Nat.le_refl _)), (.inl (Nat.le_refl _))⟩, ⟨noWords_S _ _ _ _ _ _ _ _ _ _ _ _ _ _, (.inl (Nat.le_refl _)), (.inl (Nat.le_refl _))⟩, trivial⟩
  · refine ⟨?_, ?_, ?_, ?_, ?_, ?_, ?_, ?_, ?_, ?_, ?_, ?_, ?_, ?_, ?_, ?_, ?_, ?_, ?_, ?_, ?_, ?_, ?_, ?_, ?_, trivial⟩
    · exact .inr fun a w hp => ob_yes rfl (ob_loadSp (hp.box (k := 0) rfl (Nat.le_refl _) (.inl (Nat.le_refl _)) (by kernel_rfl) rfl).1 (hp.box (k := 0) rfl (Nat.le_refl _) (.inl (Nat.le_refl _)) (by kernel_rfl) rfl).2 rfl)
    · refine .inr fun a w hp => ob_yes rfl ?_
      have h24 : a.tmps.getD 24 undef = .agg #[.bool ba0, .slice Aa0 na0 ca0, .slice Ba0 ma0 oa0, .bool bb0, .slice Ab0 nb0 cb0, .slice Bb0 mb0 ob0] := (hp.fact 0 24 (by kernel_rfl) rfl)
      unfold Does
      go_simp
      refine (spneg_any _ _ lo0 hi0 6 (T0.on hp.on) (by decide) (by decide)).mono ?_
      rintro e w' ⟨u, rfl, I8, P8⟩
      exact ⟨_, rfl, P8, I8⟩
    · refine .inr fun a w hp => ob_yes rfl ?_
      have h25 : IsS w (a.tmps.getD 25 undef) (-hi0) (-lo0) (6) := (hp.fact 1 25 (by kernel_rfl) rfl)
      obtain ⟨v25, e25⟩ : ∃ v, a.tmps.getD 25 undef = v := ⟨_, rfl⟩
      rw [e25] at h25
      unfold Does
      go_simp
      refine (spneg_any _ _ (-hi0) (-lo0) 6 (h25.sp (neg_le le0)) (by decide) (by decide)).mono ?_
      rintro e w' ⟨u, rfl, I8, P8⟩
      rw [Rat.neg_neg, Rat.neg_neg] at I8
      exact ⟨_, rfl, P8, I8⟩
    · exact .inr fun a w hp => ob_yes rfl (ob_loadSp (hp.box (k := 0) rfl (Nat.le_refl _) (.inl (Nat.le_refl _)) (by kernel_rfl) rfl).1 (hp.box (k := 0) rfl (Nat.le_refl _) (.inl (Nat.le_refl _)) (by kernel_rfl) rfl).2 rfl)
    · refine .inr fun a w hp => ob_yes rfl ?_
      have h26 : IsS w (a.tmps.getD 26 undef) (lo0) (hi0) (6) := (hp.fact 2 26 (by kernel_rfl) rfl)
      obtain ⟨v26, e26⟩ : ∃ v, a.tmps.getD 26 undef = v := ⟨_, rfl⟩
      rw [e26] at h26
      have h27 : a.tmps.getD 27 undef = .agg #[.bool ba0, .slice Aa0 na0 ca0, .slice Ba0 ma0 oa0, .bool bb0, .slice Ab0 nb0 cb0, .slice Bb0 mb0 ob0] := (hp.fact 3 27 (by kernel_rfl) rfl)
      unfold Does
      go_simp
      refine (ssame_any _ _ _ _ _ _ _ h26 (I0.on hp.on)).mono ?_
      rintro e w' ⟨rfl, P8⟩
      exact ⟨_, rfl, P8, rfl⟩
    · refine .inr fun a w hp => ob_yes rfl ?_
      have h28 : a.tmps.getD 28 undef = .bool true := (hp.fact 4 28 (by kernel_rfl) rfl)
      unfold Does
      go_simp
      exact ⟨_, rfl, On.refl _, by show Value.bool _ = Value.bool _; first | rfl | (simp; done)⟩
    · exact .inr fun a w hp => ob_yes rfl (ob_move (hp.fact 5 29 (by kernel_rfl) rfl))
    · exact .inr fun a w hp => ob_yes (wanted_yes (P := Try.prog) (j := 6) (d := 30) (b := false) rfl rfl (hp.fact 6 30 (by kernel_rfl) rfl)) (ob_loadSp (hp.box (k := 0) rfl (Nat.le_refl _) (.inl (Nat.le_refl _)) (by kernel_rfl) rfl).1 (hp.box (k := 0) rfl (Nat.le_refl _) (.inl (Nat.le_refl _)) (by kernel_rfl) rfl).2 rfl)
    · refine .inr fun a w hp => ob_yes (wanted_yes (P := Try.prog) (j := 6) (d := 30) (b := false) rfl rfl (hp.fact 6 30 (by kernel_rfl) rfl)) ?_
      have h31 : a.tmps.getD 31 undef = .agg #[.bool ba0, .slice Aa0 na0 ca0, .slice Ba0 ma0 oa0, .bool bb0, .slice Ab0 nb0 cb0, .slice Bb0 mb0 ob0] := (hp.fact 7 31 (by kernel_rfl) rfl)
      unfold Does
      go_simp
      refine (spnot_any _ _ lo0 hi0 6 (T0.on hp.on) (by decide) (by decide)).mono ?_
      rintro e w' ⟨u, rfl, I8, P8⟩
      exact ⟨_, rfl, P8, I8⟩
    · refine .inr fun a w hp => ob_yes (wanted_yes (P := Try.prog) (j := 6) (d := 30) (b := false) rfl rfl (hp.fact 6 30 (by kernel_rfl) rfl)) ?_
      have h32 : IsS w (a.tmps.getD 32 undef) (1 - hi0) (1 - lo0) (13) := (hp.fact 8 32 (by kernel_rfl) rfl)
      obtain ⟨v32, e32⟩ : ∃ v, a.tmps.getD 32 undef = v := ⟨_, rfl⟩
      rw [e32] at h32
      unfold Does
      go_simp
      refine (spnot_any _ _ (1 - hi0) (1 - lo0) 13 (h32.sp (not_le' le0)) (by decide) (by decide)).mono ?_
      rintro e w' ⟨u, rfl, I8, P8⟩
      rw [one_sub, one_sub] at I8
      exact ⟨_, rfl, P8, I8⟩
    · exact .inr fun a w hp => ob_yes (wanted_yes (P := Try.prog) (j := 6) (d := 30) (b := false) rfl rfl (hp.fact 6 30 (by kernel_rfl) rfl)) (ob_loadSp (hp.box (k := 0) rfl (Nat.le_refl _) (.inl (Nat.le_refl _)) (by kernel_rfl) rfl).1 (hp.box (k := 0) rfl (Nat.le_refl _) (.inl (Nat.le_refl _)) (by kernel_rfl) rfl).2 rfl)
    · refine .inr fun a w hp => ob_yes (wanted_yes (P := Try.prog) (j := 6) (d := 30) (b := false) rfl rfl (hp.fact 6 30 (by kernel_rfl) rfl)) ?_
      have h33 : IsS w (a.tmps.getD 33 undef) (lo0) (hi0) (27) := (hp.fact 9 33 (by kernel_rfl) rfl)
      obtain ⟨v33, e33⟩ : ∃ v, a.tmps.getD 33 undef = v := ⟨_, rfl⟩
      rw [e33] at h33
      have h34 : a.tmps.getD 34 undef = .agg #[.bool ba0, .slice Aa0 na0 ca0, .slice Ba0 ma0 oa0, .bool bb0, .slice Ab0 nb0 cb0, .slice Bb0 mb0 ob0] := (hp.fact 10 34 (by kernel_rfl) rfl)
      unfold Does
      go_simp
      refine (ssame_any _ _ _ _ _ _ _ h33 (I0.on hp.on)).mono ?_
      rintro e w' ⟨rfl, P8⟩
      exact ⟨_, rfl, P8, rfl⟩
    · refine .inr fun a w hp => ob_yes (wanted_yes (P := Try.prog) (j := 6) (d := 30) (b := false) rfl rfl (hp.fact 6 30 (by kernel_rfl) rfl)) ?_
      have h35 : a.tmps.getD 35 undef = .bool true := (hp.fact 11 35 (by kernel_rfl) rfl)
      unfold Does
      go_simp
      exact ⟨_, rfl, On.refl _, by show Value.bool _ = Value.bool _; first | rfl | (simp; done)⟩
    · refine .inr fun a w hp => ob_yes rfl ?_
      have h30 : a.tmps.getD 30 undef = .bool false := (hp.fact 6 30 (by kernel_rfl) rfl)
      have h36 : a.tmps.getD 36 undef = .bool false := (hp.fact 12 36 (by kernel_rfl) rfl)
      unfold Does
      go_simp
      exact ⟨_, rfl, On.refl _, rfl⟩
    · exact .inr fun a w hp => ob_yes rfl (ob_move (hp.fact 13 37 (by kernel_rfl) rfl))
    · exact .inr fun a w hp => ob_yes (wanted_yes (P := Try.prog) (j := 14) (d := 38) (b := false) rfl rfl (hp.fact 14 38 (by kernel_rfl) rfl)) (ob_loadSp (hp.box (k := 0) rfl (Nat.le_refl _) (.inl (Nat.le_refl _)) (by kernel_rfl) rfl).1 (hp.box (k := 0) rfl (Nat.le_refl _) (.inl (Nat.le_refl _)) (by kernel_rfl) rfl).2 rfl)
    · exact .inr fun a w hp => ob_yes (wanted_yes (P := Try.prog) (j := 14) (d := 38) (b := false) rfl rfl (hp.fact 14 38 (by kernel_rfl) rfl)) (ob_loadSp (hp.box (k := 1) rfl (Nat.le_refl _) (.inl (Nat.le_refl _)) (by kernel_rfl) rfl).1 (hp.box (k := 1) rfl (Nat.le_refl _) (.inl (Nat.le_refl _)) (by kernel_rfl) rfl).2 rfl)
    · refine .inr fun a w hp => ob_yes (wanted_yes (P := Try.prog) (j := 14) (d := 38) (b := false) rfl rfl (hp.fact 14 38 (by kernel_rfl) rfl)) ?_
      have h39 : a.tmps.getD 39 undef = .agg #[.bool ba0, .slice Aa0 na0 ca0, .slice Ba0 ma0 oa0, .bool bb0, .slice Ab0 nb0 cb0, .slice Bb0 mb0 ob0] := (hp.fact 15 39 (by kernel_rfl) rfl)
      have h40 : a.tmps.getD 40 undef = .agg #[.bool ba1, .slice Aa1 na1 ca1, .slice Ba1 ma1 oa1, .bool bb1, .slice Ab1 nb1 cb1, .slice Bb1 mb1 ob1] := (hp.fact 16 40 (by kernel_rfl) rfl)
      unfold Does
      go_simp
      refine (spsub_any _ _ _ lo0 hi0 lo1 hi1 6 (T0.on hp.on) (T1.on hp.on) (by decide) (by decide)).mono ?_
      rintro e w' ⟨u, rfl, I8, P8⟩
      exact ⟨_, rfl, P8, I8⟩
    · exact .inr fun a w hp => ob_yes (wanted_yes (P := Try.prog) (j := 14) (d := 38) (b := false) rfl rfl (hp.fact 14 38 (by kernel_rfl) rfl)) (ob_loadSp (hp.box (k := 0) rfl (Nat.le_refl _) (.inl (Nat.le_refl _)) (by kernel_rfl) rfl).1 (hp.box (k := 0) rfl (Nat.le_refl _) (.inl (Nat.le_refl _)) (by kernel_rfl) rfl).2 rfl)
    · exact .inr fun a w hp => ob_yes (wanted_yes (P := Try.prog) (j := 14) (d := 38) (b := false) rfl rfl (hp.fact 14 38 (by kernel_rfl) rfl)) (ob_loadSp (hp.box (k := 1) rfl (Nat.le_refl _) (.inl (Nat.le_refl _)) (by kernel_rfl) rfl).1 (hp.box (k := 1) rfl (Nat.le_refl _) (.inl (Nat.le_refl _)) (by kernel_rfl) rfl).2 rfl)
    · refine .inr fun a w hp => ob_yes (wanted_yes (P := Try.prog) (j := 14) (d := 38) (b := false) rfl rfl (hp.fact 14 38 (by kernel_rfl) rfl)) ?_
      have h43 : a.tmps.getD 43 undef = .agg #[.bool ba1, .slice Aa1 na1 ca1, .slice Ba1 ma1 oa1, .bool bb1, .slice Ab1 nb1 cb1, .slice Bb1 mb1 ob1] := (hp.fact 19 43 (by kernel_rfl) rfl)
      unfold Does
      go_simp
      refine (spneg_any _ _ lo1 hi1 6 (T1.on hp.on) (by decide) (by decide)).mono ?_
      rintro e w' ⟨u, rfl, I8, P8⟩
      exact ⟨_, rfl, P8, I8⟩
    · refine .inr fun a w hp => ob_yes (wanted_yes (P := Try.prog) (j := 14) (d := 38) (b := false) rfl rfl (hp.fact 14 38 (by kernel_rfl) rfl)) ?_
      have h42 : a.tmps.getD 42 undef = .agg #[.bool ba0, .slice Aa0 na0 ca0, .slice Ba0 ma0 oa0, .bool bb0, .slice Ab0 nb0 cb0, .slice Bb0 mb0 ob0] := (hp.fact 18 42 (by kernel_rfl) rfl)
      have h44 : IsS w (a.tmps.getD 44 undef) (-hi1) (-lo1) (6) := (hp.fact 20 44 (by kernel_rfl) rfl)
      obtain ⟨v44, e44⟩ : ∃ v, a.tmps.getD 44 undef = v := ⟨_, rfl⟩
      rw [e44] at h44
      unfold Does
      go_simp
      refine (spadd_any _ _ _ lo0 hi0 (-hi1) (-lo1) 6 (T0.on hp.on) (h44.sp (neg_le le1)) (by decide) (by decide)).mono ?_
      rintro e w' ⟨u, rfl, I8, P8⟩
      rw [turn_sub, turn_sub] at I8
      exact ⟨_, rfl, P8, I8⟩
    · refine .inr fun a w hp => ob_yes (wanted_yes (P := Try.prog) (j := 14) (d := 38) (b := false) rfl rfl (hp.fact 14 38 (by kernel_rfl) rfl)) ?_
      have h41 : IsS w (a.tmps.getD 41 undef) (lo0 - hi1) (hi0 - lo1) (13) := (hp.fact 17 41 (by kernel_rfl) rfl)
      obtain ⟨v41, e41⟩ : ∃ v, a.tmps.getD 41 undef = v := ⟨_, rfl⟩
      rw [e41] at h41
      have h45 : IsS w (a.tmps.getD 45 undef) (lo0 - hi1) (hi0 - lo1) (13) := (hp.fact 21 45 (by kernel_rfl) rfl)
      obtain ⟨v45, e45⟩ : ∃ v, a.tmps.getD 45 undef = v := ⟨_, rfl⟩
      rw [e45] at h45
      unfold Does
      go_simp
      refine (ssame_any _ _ _ _ _ _ _ h41 h45).mono ?_
      rintro e w' ⟨rfl, P8⟩
      exact ⟨_, rfl, P8, rfl⟩
    · refine .inr fun a w hp => ob_yes (wanted_yes (P := Try.prog) (j := 14) (d := 38) (b := false) rfl rfl (hp.fact 14 38 (by kernel_rfl) rfl)) ?_
      have h46 : a.tmps.getD 46 undef = .bool true := (hp.fact 22 46 (by kernel_rfl) rfl)
      unfold Does
      go_simp
      exact ⟨_, rfl, On.refl _, by show Value.bool _ = Value.bool _; first | rfl | (simp; done)⟩
    · refine .inr fun a w hp => ob_yes rfl ?_
      have h38 : a.tmps.getD 38 undef = .bool false := (hp.fact 14 38 (by kernel_rfl) rfl)
      have h47 : a.tmps.getD 47 undef = .bool false := (hp.fact 23 47 (by kernel_rfl) rfl)
      unfold Does
      go_simp
      exact ⟨_, rfl, On.refl _, rfl⟩
  · intro f wr hon hk hf hb hap
    obtain ⟨q0, q1, qz⟩ := hb
    clear qz
    have O2 : Own wr (w.heap.size) 38 #[.bool ba0, .slice Aa0 na0 ca0, .slice Ba0 ma0 oa0, .bool bb0, .slice Ab0 nb0 cb0, .slice Bb0 mb0 ob0] := q0
    have c2_0 : wr.cell? ⟨w.heap.size, 0, none⟩ = some (.bool ba0) := O2.cell 0
    have z2_0 := O2.frozen 0
    have c2_1 : wr.cell? ⟨w.heap.size, 1, none⟩ = some (.slice Aa0 na0 ca0) := O2.cell 1
    have z2_1 := O2.frozen 1
    have c2_2 : wr.cell? ⟨w.heap.size, 2, none⟩ = some (.slice Ba0 ma0 oa0) := O2.cell 2
    have z2_2 := O2.frozen 2
    have c2_3 : wr.cell? ⟨w.heap.size, 3, none⟩ = some (.bool bb0) := O2.cell 3
    have z2_3 := O2.frozen 3
    have c2_4 : wr.cell? ⟨w.heap.size, 4, none⟩ = some (.slice Ab0 nb0 cb0) := O2.cell 4
    have z2_4 := O2.frozen 4
    have c2_5 : wr.cell? ⟨w.heap.size, 5, none⟩ = some (.slice Bb0 mb0 ob0) := O2.cell 5
    have z2_5 := O2.frozen 5
    clear q0
    have O3 : Own wr (w.heap.size + 1) 38 #[.bool ba1, .slice Aa1 na1 ca1, .slice Ba1 ma1 oa1, .bool bb1, .slice Ab1 nb1 cb1, .slice Bb1 mb1 ob1] := q1
    have c3_0 : wr.cell? ⟨w.heap.size + 1, 0, none⟩ = some (.bool ba1) := O3.cell 0
    have z3_0 := O3.frozen 0
    have c3_1 : wr.cell? ⟨w.heap.size + 1, 1, none⟩ = some (.slice Aa1 na1 ca1) := O3.cell 1
    have z3_1 := O3.frozen 1
    have c3_2 : wr.cell? ⟨w.heap.size + 1, 2, none⟩ = some (.slice Ba1 ma1 oa1) := O3.cell 2
    have z3_2 := O3.frozen 2
    have c3_3 : wr.cell? ⟨w.heap.size + 1, 3, none⟩ = some (.bool bb1) := O3.cell 3
    have z3_3 := O3.frozen 3
    have c3_4 : wr.cell? ⟨w.heap.size + 1, 4, none⟩ = some (.slice Ab1 nb1 cb1) := O3.cell 4
    have z3_4 := O3.frozen 4
    have c3_5 : wr.cell? ⟨w.heap.size + 1, 5, none⟩ = some (.slice Bb1 mb1 ob1) := O3.cell 5
    have z3_5 := O3.frozen 5
    clear q1
    have e48 : f 48 = .bool false := hf 24 48 rfl
    clear hf hap
    simp only [fillL, e48]
    clear e48
    have OB2 : w.heap.size ≤ w.heap.size ∧ Own wr (w.heap.size) 38 #[.bool ba0, .slice Aa0 na0 ca0, .slice Ba0 ma0 oa0, .bool bb0, .slice Ab0 nb0 cb0, .slice Bb0 mb0 ob0] := ⟨by omega, O2⟩
    clear c2_0 z2_0 c2_1 z2_1 c2_2 z2_2 c2_3 z2_3 c2_4 z2_4 c2_5 z2_5 O2
    have OB3 : w.heap.size ≤ w.heap.size + 1 ∧ Own wr (w.heap.size + 1) 38 #[.bool ba1, .slice Aa1 na1 ca1, .slice Ba1 ma1 oa1, .bool bb1, .slice Ab1 nb1 cb1, .slice Bb1 mb1 ob1] := ⟨by omega, O3⟩
    clear c3_0 z3_0 c3_1 z3_1 c3_2 z3_2 c3_3 z3_3 c3_4 z3_4 c3_5 z3_5 O3
    clear B
    have B := hon
    clear hon hk
    go_wp2
    refine wp_region_facts (by kernel_rfl) w [Fact.eq (.agg #[.bool ba0, .slice Aa0 na0 ca0, .slice Ba0 ma0 oa0, .bool bb0, .slice Ab0 nb0 cb0, .slice Bb0 mb0 ob0]), Fact.eq (.agg #[.bool ba1, .slice Aa1 na1 ca1, .slice Ba1 ma1 oa1, .bool bb1, .slice Ab1 nb1 cb1, .slice Bb1 mb1 ob1]), Fact.sp (lo0 + lo1) (hi0 + hi1) (13), Fact.rat (hi0 - lo0 + (hi1 - lo1)) (27), Fact.eq (.agg #[.bool ba0, .slice Aa0 na0 ca0, .slice Ba0 ma0 oa0, .bool bb0, .slice Ab0 nb0 cb0, .slice Bb0 mb0 ob0]), Fact.rat (hi0 - lo0) (13), Fact.eq (.agg #[.bool ba1, .slice Aa1 na1 ca1, .slice Ba1 ma1 oa1, .bool bb1, .slice Ab1 nb1 cb1, .slice Bb1 mb1 ob1]), Fact.rat (hi1 - lo1) (13), Fact.rat (hi0 - lo0 + (hi1 - lo1)) (27), Fact.eq (.int .i64 0), Fact.eq (.bool true), Fact.eq (.bool true), Fact.eq (.agg #[.bool ba0, .slice Aa0 na0 ca0, .slice Ba0 ma0 oa0, .bool bb0, .slice Ab0 nb0 cb0, .slice Bb0 mb0 ob0]), Fact.sp (1 - hi0) (1 - lo0) (13), Fact.rat (hi0 - lo0) (27), Fact.eq (.agg #[.bool ba0, .slice Aa0 na0 ca0, .slice Ba0 ma0 oa0, .bool bb0, .slice Ab0 nb0 cb0, .slice Bb0 mb0 ob0]), Fact.rat (hi0 - lo0) (13), Fact.eq (.int .i64 0), Fact.eq (.bool true), Fact.eq (.bool true), Fact.eq (.bool true)] [Fact.any, Fact.any] [⟨21, 2, 38, 21, #[.bool ba0, .slice Aa0 na0 ca0, .slice Ba0 ma0 oa0, .bool bb0, .slice Ab0 nb0 cb0, .slice Bb0 mb0 ob0]⟩, ⟨21, 3, 38, 21, #[.bool ba1, .slice Aa1 na1 ca1, .slice Ba1 ma1 oa1, .bool bb1, .slice Ab1 nb1 cb1, .slice Bb1 mb1 ob1]⟩] [w.heap.size, w.heap.size + 1] [none, none, none, none, some 4, none, none, none, none, none, none, none, none, none, none, none, none, none, none, none, none, none, none, none, none, none, none, none, none, none, none, none, none, none, none, none, none, none, none, none, none, none, none, none, none, none, none, none, none, some 49, some 50, some 51, some 52, some 53, some 54, some 55, some 56, some 57, some 58, some 59, some 60, some 61, some 62, some 63, some 64, some 65, some 66, some 67, some 68] (by kernel_rfl) (by kernel_rfl) (by kernel_rfl) rfl B ?_ ?_ ?_ ?_ ?_
    · exact ⟨fun _ => ⟨by simp, rfl, OB2⟩, fun _ => ⟨by simp, rfl, OB3⟩, trivial⟩
    · exact .inl ⟨Nat.le_refl _, Nat.le_refl _, trivial⟩
    · exact ⟨⟨noWords_S _ _ _ _ _ _ _ _ _ _ _ _ _ _, (.inl (Nat.le_refl _)), (.inl (Nat.le_refl _))⟩, ⟨noWords_S _ _ _ _ _ _ _ _ _ _ _ _ _ _, (.inl (Nat.le_refl _)), (.inl (Nat.le_refl _))⟩, trivial⟩
    · refine ⟨?_, ?_, ?_, ?_, ?_, ?_, ?_, ?_, ?_, ?_, ?_, ?_, ?_, ?_, ?_, ?_, ?_, ?_, ?_, ?_, ?_, trivial⟩
      · exact .inr fun a w hp => ob_yes rfl (ob_loadSp (hp.box (k := 0) rfl (Nat.le_refl _) (.inl (Nat.le_refl _)) (by kernel_rfl) rfl).1 (hp.box (k := 0) rfl (Nat.le_refl _) (.inl (Nat.le_refl _)) (by kernel_rfl) rfl).2 rfl)
      · exact .inr fun a w hp => ob_yes rfl (ob_loadSp (hp.box (k := 1) rfl (Nat.le_refl _) (.inl (Nat.le_refl _)) (by kernel_rfl) rfl).1 (hp.box (k := 1) rfl (Nat.le_refl _) (.inl (Nat.le_refl _)) (by kernel_rfl) rfl).2 rfl)
      · refine .inr fun a w hp => ob_yes rfl ?_
        have h49 : a.tmps.getD 49 undef = .agg #[.bool ba0, .slice Aa0 na0 ca0, .slice Ba0 ma0 oa0, .bool bb0, .slice Ab0 nb0 cb0, .slice Bb0 mb0 ob0] := (hp.fact 0 49 (by kernel_rfl) rfl)
        have h50 : a.tmps.getD 50 undef = .agg #[.bool ba1, .slice Aa1 na1 ca1, .slice Ba1 ma1 oa1, .bool bb1, .slice Ab1 nb1 cb1, .slice Bb1 mb1 ob1] := (hp.fact 1 50 (by kernel_rfl) rfl)
        unfold Does
        go_simp
        refine (spadd_any _ _ _ lo0 hi0 lo1 hi1 6 (T0.on hp.on) (T1.on hp.on) (by decide) (by decide)).mono ?_
        rintro e w' ⟨u, rfl, I8, P8⟩
        exact ⟨_, rfl, P8, I8⟩
      · refine .inr fun a w hp => ob_yes rfl ?_
        have h51 : IsS w (a.tmps.getD 51 undef) (lo0 + lo1) (hi0 + hi1) (13) := (hp.fact 2 51 (by kernel_rfl) rfl)
        obtain ⟨v51, e51⟩ : ∃ v, a.tmps.getD 51 undef = v := ⟨_, rfl⟩
        rw [e51] at h51
        unfold Does
        go_simp
        refine (spwidth_any _ _ (lo0 + lo1) (hi0 + hi1) 13 (h51.sp (add_le' le0 le1)) (by decide) (by decide)).mono ?_
        rintro e w' ⟨u, rfl, I8, P8⟩
        rw [turn_width] at I8
        exact ⟨_, rfl, P8, I8⟩
      · exact .inr fun a w hp => ob_yes rfl (ob_loadSp (hp.box (k := 0) rfl (Nat.le_refl _) (.inl (Nat.le_refl _)) (by kernel_rfl) rfl).1 (hp.box (k := 0) rfl (Nat.le_refl _) (.inl (Nat.le_refl _)) (by kernel_rfl) rfl).2 rfl)
      · refine .inr fun a w hp => ob_yes rfl ?_
        have h53 : a.tmps.getD 53 undef = .agg #[.bool ba0, .slice Aa0 na0 ca0, .slice Ba0 ma0 oa0, .bool bb0, .slice Ab0 nb0 cb0, .slice Bb0 mb0 ob0] := (hp.fact 4 53 (by kernel_rfl) rfl)
        unfold Does
        go_simp
        refine (spwidth_any _ _ lo0 hi0 6 (T0.on hp.on) (by decide) (by decide)).mono ?_
        rintro e w' ⟨u, rfl, I8, P8⟩
        exact ⟨_, rfl, P8, I8⟩
      · exact .inr fun a w hp => ob_yes rfl (ob_loadSp (hp.box (k := 1) rfl (Nat.le_refl _) (.inl (Nat.le_refl _)) (by kernel_rfl) rfl).1 (hp.box (k := 1) rfl (Nat.le_refl _) (.inl (Nat.le_refl _)) (by kernel_rfl) rfl).2 rfl)
      · refine .inr fun a w hp => ob_yes rfl ?_
        have h55 : a.tmps.getD 55 undef = .agg #[.bool ba1, .slice Aa1 na1 ca1, .slice Ba1 ma1 oa1, .bool bb1, .slice Ab1 nb1 cb1, .slice Bb1 mb1 ob1] := (hp.fact 6 55 (by kernel_rfl) rfl)
        unfold Does
        go_simp
        refine (spwidth_any _ _ lo1 hi1 6 (T1.on hp.on) (by decide) (by decide)).mono ?_
        rintro e w' ⟨u, rfl, I8, P8⟩
        exact ⟨_, rfl, P8, I8⟩
      · refine .inr fun a w hp => ob_yes rfl ?_
        have h54 : IsR w (a.tmps.getD 54 undef) (hi0 - lo0) (13) := (hp.fact 5 54 (by kernel_rfl) rfl)
        obtain ⟨v54, e54⟩ : ∃ v, a.tmps.getD 54 undef = v := ⟨_, rfl⟩
        rw [e54] at h54
        have h56 : IsR w (a.tmps.getD 56 undef) (hi1 - lo1) (13) := (hp.fact 7 56 (by kernel_rfl) rfl)
        obtain ⟨v56, e56⟩ : ∃ v, a.tmps.getD 56 undef = v := ⟨_, rfl⟩
        rw [e56] at h56
        unfold Does
        go_simp
        refine (addr_any _ _ _ _ _ 13 (IsR.fld h54) (IsR.fld h56) (by decide) (by decide)).mono ?_
        rintro e w' ⟨u, rfl, I8, P8⟩
        exact ⟨_, rfl, P8, I8⟩
      · refine .inr fun a w hp => ob_yes rfl ?_
        have h52 : IsR w (a.tmps.getD 52 undef) (hi0 - lo0 + (hi1 - lo1)) (27) := (hp.fact 3 52 (by kernel_rfl) rfl)
        obtain ⟨v52, e52⟩ : ∃ v, a.tmps.getD 52 undef = v := ⟨_, rfl⟩
        rw [e52] at h52
        have h57 : IsR w (a.tmps.getD 57 undef) (hi0 - lo0 + (hi1 - lo1)) (27) := (hp.fact 8 57 (by kernel_rfl) rfl)
        obtain ⟨v57, e57⟩ : ∃ v, a.tmps.getD 57 undef = v := ⟨_, rfl⟩
        rw [e57] at h57
        unfold Does
        go_simp
        refine (cmpr_any _ _ _ _ _ 30 (ratL h52 (by decide)) (ratL h57 (by decide)) (by decide)).mono ?_
        rintro e w' ⟨rfl, P8⟩
        rw [rsg_eq rfl]
        exact ⟨_, rfl, P8, rfl⟩
      · refine .inr fun a w hp => ob_yes rfl ?_
        have h58 : a.tmps.getD 58 undef = .int .i64 0 := (hp.fact 9 58 (by kernel_rfl) rfl)
        unfold Does
        go_simp
        exact ⟨_, rfl, On.refl _, by show Value.bool _ = Value.bool _; first | rfl | (simp; done)⟩
      · exact .inr fun a w hp => ob_yes rfl (ob_move (hp.fact 10 59 (by kernel_rfl) rfl))
      · exact .inr fun a w hp => ob_yes (wanted_yes (P := Try.prog) (j := 11) (d := 60) (b := true) rfl rfl (hp.fact 11 60 (by kernel_rfl) rfl)) (ob_loadSp (hp.box (k := 0) rfl (Nat.le_refl _) (.inl (Nat.le_refl _)) (by kernel_rfl) rfl).1 (hp.box (k := 0) rfl (Nat.le_refl _) (.inl (Nat.le_refl _)) (by kernel_rfl) rfl).2 rfl)
      · refine .inr fun a w hp => ob_yes (wanted_yes (P := Try.prog) (j := 11) (d := 60) (b := true) rfl rfl (hp.fact 11 60 (by kernel_rfl) rfl)) ?_
        have h61 : a.tmps.getD 61 undef = .agg #[.bool ba0, .slice Aa0 na0 ca0, .slice Ba0 ma0 oa0, .bool bb0, .slice Ab0 nb0 cb0, .slice Bb0 mb0 ob0] := (hp.fact 12 61 (by kernel_rfl) rfl)
        unfold Does
        go_simp
        refine (spnot_any _ _ lo0 hi0 6 (T0.on hp.on) (by decide) (by decide)).mono ?_
        rintro e w' ⟨u, rfl, I8, P8⟩
        exact ⟨_, rfl, P8, I8⟩
      · refine .inr fun a w hp => ob_yes (wanted_yes (P := Try.prog) (j := 11) (d := 60) (b := true) rfl rfl (hp.fact 11 60 (by kernel_rfl) rfl)) ?_
        have h62 : IsS w (a.tmps.getD 62 undef) (1 - hi0) (1 - lo0) (13) := (hp.fact 13 62 (by kernel_rfl) rfl)
        obtain ⟨v62, e62⟩ : ∃ v, a.tmps.getD 62 undef = v := ⟨_, rfl⟩
        rw [e62] at h62
        unfold Does
        go_simp
        refine (spwidth_any _ _ (1 - hi0) (1 - lo0) 13 (h62.sp (not_le' le0)) (by decide) (by decide)).mono ?_
        rintro e w' ⟨u, rfl, I8, P8⟩
        rw [turn_not] at I8
        exact ⟨_, rfl, P8, I8⟩
      · exact .inr fun a w hp => ob_yes (wanted_yes (P := Try.prog) (j := 11) (d := 60) (b := true) rfl rfl (hp.fact 11 60 (by kernel_rfl) rfl)) (ob_loadSp (hp.box (k := 0) rfl (Nat.le_refl _) (.inl (Nat.le_refl _)) (by kernel_rfl) rfl).1 (hp.box (k := 0) rfl (Nat.le_refl _) (.inl (Nat.le_refl _)) (by kernel_rfl) rfl).2 rfl)
      · refine .inr fun a w hp => ob_yes (wanted_yes (P := Try.prog) (j := 11) (d := 60) (b := true) rfl rfl (hp.fact 11 60 (by kernel_rfl) rfl)) ?_
        have h64 : a.tmps.getD 64 undef = .agg #[.bool ba0, .slice Aa0 na0 ca0, .slice Ba0 ma0 oa0, .bool bb0, .slice Ab0 nb0 cb0, .slice Bb0 mb0 ob0] := (hp.fact 15 64 (by kernel_rfl) rfl)
        unfold Does
        go_simp
        refine (spwidth_any _ _ lo0 hi0 6 (T0.on hp.on) (by decide) (by decide)).mono ?_
        rintro e w' ⟨u, rfl, I8, P8⟩
        exact ⟨_, rfl, P8, I8⟩
      · refine .inr fun a w hp => ob_yes (wanted_yes (P := Try.prog) (j := 11) (d := 60) (b := true) rfl rfl (hp.fact 11 60 (by kernel_rfl) rfl)) ?_
        have h63 : IsR w (a.tmps.getD 63 undef) (hi0 - lo0) (27) := (hp.fact 14 63 (by kernel_rfl) rfl)
        obtain ⟨v63, e63⟩ : ∃ v, a.tmps.getD 63 undef = v := ⟨_, rfl⟩
        rw [e63] at h63
        have h65 : IsR w (a.tmps.getD 65 undef) (hi0 - lo0) (13) := (hp.fact 16 65 (by kernel_rfl) rfl)
        obtain ⟨v65, e65⟩ : ∃ v, a.tmps.getD 65 undef = v := ⟨_, rfl⟩
        rw [e65] at h65
        unfold Does
        go_simp
        refine (cmpr_any _ _ _ _ _ 30 (ratL h63 (by decide)) (ratL h65 (by decide)) (by decide)).mono ?_
        rintro e w' ⟨rfl, P8⟩
        rw [rsg_eq rfl]
        exact ⟨_, rfl, P8, rfl⟩
      · refine .inr fun a w hp => ob_yes (wanted_yes (P := Try.prog) (j := 11) (d := 60) (b := true) rfl rfl (hp.fact 11 60 (by kernel_rfl) rfl)) ?_
        have h66 : a.tmps.getD 66 undef = .int .i64 0 := (hp.fact 17 66 (by kernel_rfl) rfl)
        unfold Does
        go_simp
        exact ⟨_, rfl, On.refl _, by show Value.bool _ = Value.bool _; first | rfl | (simp; done)⟩
      · refine .inr fun a w hp => ob_yes rfl ?_
        have h60 : a.tmps.getD 60 undef = .bool true := (hp.fact 11 60 (by kernel_rfl) rfl)
        have h67 : a.tmps.getD 67 undef = .bool true := (hp.fact 18 67 (by kernel_rfl) rfl)
        unfold Does
        go_simp
        exact ⟨_, rfl, On.refl _, rfl⟩
      · exact .inr fun a w hp => ob_yes rfl (ob_assign (hp.fact 19 68 (by kernel_rfl) rfl))
    · intro f wd hon hk hf hb hap
      obtain ⟨q0, q1, qz⟩ := hb
      clear qz
      have O2 : Own wd (w.heap.size) 38 #[.bool ba0, .slice Aa0 na0 ca0, .slice Ba0 ma0 oa0, .bool bb0, .slice Ab0 nb0 cb0, .slice Bb0 mb0 ob0] := q0
      have c2_0 : wd.cell? ⟨w.heap.size, 0, none⟩ = some (.bool ba0) := O2.cell 0
      have z2_0 := O2.frozen 0
      have c2_1 : wd.cell? ⟨w.heap.size, 1, none⟩ = some (.slice Aa0 na0 ca0) := O2.cell 1
      have z2_1 := O2.frozen 1
      have c2_2 : wd.cell? ⟨w.heap.size, 2, none⟩ = some (.slice Ba0 ma0 oa0) := O2.cell 2
      have z2_2 := O2.frozen 2
      have c2_3 : wd.cell? ⟨w.heap.size, 3, none⟩ = some (.bool bb0) := O2.cell 3
      have z2_3 := O2.frozen 3
      have c2_4 : wd.cell? ⟨w.heap.size, 4, none⟩ = some (.slice Ab0 nb0 cb0) := O2.cell 4
      have z2_4 := O2.frozen 4
      have c2_5 : wd.cell? ⟨w.heap.size, 5, none⟩ = some (.slice Bb0 mb0 ob0) := O2.cell 5
      have z2_5 := O2.frozen 5
      clear q0
      have O3 : Own wd (w.heap.size + 1) 38 #[.bool ba1, .slice Aa1 na1 ca1, .slice Ba1 ma1 oa1, .bool bb1, .slice Ab1 nb1 cb1, .slice Bb1 mb1 ob1] := q1
      have c3_0 : wd.cell? ⟨w.heap.size + 1, 0, none⟩ = some (.bool ba1) := O3.cell 0
      have z3_0 := O3.frozen 0
      have c3_1 : wd.cell? ⟨w.heap.size + 1, 1, none⟩ = some (.slice Aa1 na1 ca1) := O3.cell 1
      have z3_1 := O3.frozen 1
      have c3_2 : wd.cell? ⟨w.heap.size + 1, 2, none⟩ = some (.slice Ba1 ma1 oa1) := O3.cell 2
      have z3_2 := O3.frozen 2
      have c3_3 : wd.cell? ⟨w.heap.size + 1, 3, none⟩ = some (.bool bb1) := O3.cell 3
      have z3_3 := O3.frozen 3
      have c3_4 : wd.cell? ⟨w.heap.size + 1, 4, none⟩ = some (.slice Ab1 nb1 cb1) := O3.cell 4
      have z3_4 := O3.frozen 4
      have c3_5 : wd.cell? ⟨w.heap.size + 1, 5, none⟩ = some (.slice Bb1 mb1 ob1) := O3.cell 5
      have z3_5 := O3.frozen 5
      clear q1
      have e4 : f 4 = .bool true := hf 20 4 rfl
      clear hf hap
      simp only [fillL, e4]
      clear e4
      go_wp2
      go_ret
      exact ⟨rfl, hon⟩
theorem turns_any (w : World) (ba0 : Bool) (Aa0 : Option Addr) (na0 ca0 : Nat) (Ba0 : Option Addr) (ma0 oa0 : Nat) (bb0 : Bool) (Ab0 : Option Addr) (nb0 cb0 : Nat) (Bb0 : Option Addr) (mb0 ob0 : Nat) (xs0 ys0 us0 vs0 : List Nat) (R0 : Rd w Aa0 na0 ca0 xs0) (S0 : Rd w Ba0 ma0 oa0 ys0) (U0 : Rd w Ab0 nb0 cb0 us0) (V0 : Rd w Bb0 mb0 ob0 vs0) (ba1 : Bool) (Aa1 : Option Addr) (na1 ca1 : Nat) (Ba1 : Option Addr) (ma1 oa1 : Nat) (bb1 : Bool) (Ab1 : Option Addr) (nb1 cb1 : Nat) (Bb1 : Option Addr) (mb1 ob1 : Nat) (xs1 ys1 us1 vs1 : List Nat) (R1 : Rd w Aa1 na1 ca1 xs1) (S1 : Rd w Ba1 ma1 oa1 ys1) (U1 : Rd w Ab1 nb1 cb1 us1) (V1 : Rd w Bb1 mb1 ob1 vs1)  :
    Calls Try.prog 7 #[.agg #[.bool ba0, .slice Aa0 na0 ca0, .slice Ba0 ma0 oa0, .bool bb0, .slice Ab0 nb0 cb0, .slice Bb0 mb0 ob0], .agg #[.bool ba1, .slice Aa1 na1 ca1, .slice Ba1 ma1 oa1, .bool bb1, .slice Ab1 nb1 cb1, .slice Bb1 mb1 ob1]] w fun e w' => e = .returned (.bool true) ∧ On w w' := by
  by_cases hs : na0 ≤ 6 ∧ ma0 ≤ 6 ∧ nb0 ≤ 6 ∧ mb0 ≤ 6 ∧ na1 ≤ 6 ∧ ma1 ≤ 6 ∧ nb1 ≤ 6 ∧ mb1 ≤ 6
  · obtain ⟨lo0, hi0, f0, Q0⟩ : ∃ lo hi f, SRaw w (.agg #[.bool ba0, .slice Aa0 na0 ca0, .slice Ba0 ma0 oa0, .bool bb0, .slice Ab0 nb0 cb0, .slice Bb0 mb0 ob0]) lo hi f 6 := ⟨_, _, _, ba0, Aa0, na0, ca0, Ba0, ma0, oa0, bb0, Ab0, nb0, cb0, Bb0, mb0, ob0, xs0, ys0, us0, vs0, rfl, R0, S0, U0, V0, by omega, by omega, by omega, by omega, rfl, rfl, rfl⟩
    obtain ⟨lo1, hi1, f1, Q1⟩ : ∃ lo hi f, SRaw w (.agg #[.bool ba1, .slice Aa1 na1 ca1, .slice Ba1 ma1 oa1, .bool bb1, .slice Ab1 nb1 cb1, .slice Bb1 mb1 ob1]) lo hi f 6 := ⟨_, _, _, ba1, Aa1, na1, ca1, Ba1, ma1, oa1, bb1, Ab1, nb1, cb1, Bb1, mb1, ob1, xs1, ys1, us1, vs1, rfl, R1, S1, U1, V1, by omega, by omega, by omega, by omega, rfl, rfl, rfl⟩
    cases f0
    · exact turns_inv0 w ba0 Aa0 na0 ca0 Ba0 ma0 oa0 bb0 Ab0 nb0 cb0 Bb0 mb0 ob0 xs0 ys0 us0 vs0 R0 S0 U0 V0 ba1 Aa1 na1 ca1 Ba1 ma1 oa1 bb1 Ab1 nb1 cb1 Bb1 mb1 ob1 xs1 ys1 us1 vs1 R1 S1 U1 V1  hs _ _ Q0
    cases f1
    · exact turns_inv1 w ba0 Aa0 na0 ca0 Ba0 ma0 oa0 bb0 Ab0 nb0 cb0 Bb0 mb0 ob0 xs0 ys0 us0 vs0 R0 S0 U0 V0 ba1 Aa1 na1 ca1 Ba1 ma1 oa1 bb1 Ab1 nb1 cb1 Bb1 mb1 ob1 xs1 ys1 us1 vs1 R1 S1 U1 V1  hs _ _ Q0 _ _ Q1
    exact turns_main w ba0 Aa0 na0 ca0 Ba0 ma0 oa0 bb0 Ab0 nb0 cb0 Bb0 mb0 ob0 xs0 ys0 us0 vs0 R0 S0 U0 V0 ba1 Aa1 na1 ca1 Ba1 ma1 oa1 bb1 Ab1 nb1 cb1 Bb1 mb1 ob1 xs1 ys1 us1 vs1 R1 S1 U1 V1  hs _ _ Q0 _ _ Q1
  · have : ∃ (mi : Nat) (qi : Nat × Nat × Nat × Nat), [(na0, ma0, nb0, mb0), (na1, ma1, nb1, mb1)][mi]? = some qi ∧ Big qi := by
      by_cases h0 : Big (na0, ma0, nb0, mb0)
      · exact ⟨0, _, rfl, h0⟩
      by_cases h1 : Big (na1, ma1, nb1, mb1)
      · exact ⟨1, _, rfl, h1⟩
      exfalso
      apply hs
      simp only [Big] at h0 h1
      omega
    obtain ⟨mi, qi, h1, h2⟩ := this
    exact turns_large w ba0 Aa0 na0 ca0 Ba0 ma0 oa0 bb0 Ab0 nb0 cb0 Bb0 mb0 ob0 xs0 ys0 us0 vs0 R0 S0 U0 V0 ba1 Aa1 na1 ca1 Ba1 ma1 oa1 bb1 Ab1 nb1 cb1 Bb1 mb1 ob1 xs1 ys1 us1 vs1 R1 S1 U1 V1  mi qi h1 h2
end Num
end Go.Proofs.Ytkchpagjkgmpmaa
