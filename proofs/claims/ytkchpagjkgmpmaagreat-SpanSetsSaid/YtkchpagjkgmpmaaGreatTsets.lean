/-
  SpanSets, walked.
-/
import Derived.Test.YtkchpagjkgmpmaaGreatSrh
import Derived.Test.YtkchpagjkgmpmaaGreatSrj
namespace Go.Proofs.YtkchpagjkgmpmaaGreat
open Go.RowKit
set_option linter.unusedVariables false
namespace Num
theorem SpPost2.wide {w : World} {lo hi : Rat} {L M : Nat} {er : Value} {e : Ending} {w' : World} (h : SpPost2 w lo hi L er e w') (k : L ≤ M) : SpPost2 w lo hi M er e w' := by
  obtain ⟨v, h1, h2, h3⟩ := h
  exact ⟨v, h1, h2.wide k, h3⟩
theorem meet_twin (p q r s : Rat) : ∃ (lo hi : Rat) (er : Value) (z : Int), (∀ w v v', Sp w v p q 6 → Sp w v' r s 6 → Calls Tryz.prog 36 #[v, v'] w (SpPost2 w lo hi 6 er)) ∧ (∀ w v v', Sp w v p q 6 → Sp w v' r s 6 → Calls Tryz.prog 37 #[v, v'] w (SpPost2 w lo hi 6 (.int .i64 z))) ∧ ∀ w, Calls Tryz.prog 14 #[er] w fun e w' => e = .returned (.int .i64 z) ∧ w = w' := by
  by_cases hq : rmin q s < rmax p r
  · exact ⟨0, 0, _, 17, fun w v v' h k => (spmeet_no w v v' p q r s 6 h k (by decide) (by decide) hq).mono fun e w' h => h.wide (by decide), fun w v v' h k => (rmeet3_no w v v' p q r s 6 h k (by decide) (by decide) hq).mono fun e w' h => h.wide (by decide), fun w => num_err w 17⟩
  · exact ⟨_, _, _, 0, fun w v v' h k => spmeet_ok w v v' p q r s 6 h k (by decide) (by decide) (Rat.not_lt.1 hq), fun w v v' h k => rmeet3_ok w v v' p q r s 6 h k (by decide) (by decide) (Rat.not_lt.1 hq), fun w => num_nil w⟩
set_option maxRecDepth 100000 in
set_option maxHeartbeats 1600000 in
theorem sets_large (w : World) (ba0 : Bool) (Aa0 : Option Addr) (na0 ca0 : Nat) (Ba0 : Option Addr) (ma0 oa0 : Nat) (bb0 : Bool) (Ab0 : Option Addr) (nb0 cb0 : Nat) (Bb0 : Option Addr) (mb0 ob0 : Nat) (xs0 ys0 us0 vs0 : List Nat) (R0 : Rd w Aa0 na0 ca0 xs0) (S0 : Rd w Ba0 ma0 oa0 ys0) (U0 : Rd w Ab0 nb0 cb0 us0) (V0 : Rd w Bb0 mb0 ob0 vs0) (ba1 : Bool) (Aa1 : Option Addr) (na1 ca1 : Nat) (Ba1 : Option Addr) (ma1 oa1 : Nat) (bb1 : Bool) (Ab1 : Option Addr) (nb1 cb1 : Nat) (Bb1 : Option Addr) (mb1 ob1 : Nat) (xs1 ys1 us1 vs1 : List Nat) (R1 : Rd w Aa1 na1 ca1 xs1) (S1 : Rd w Ba1 ma1 oa1 ys1) (U1 : Rd w Ab1 nb1 cb1 us1) (V1 : Rd w Bb1 mb1 ob1 vs1) (b2 : Bool) (A2 D2 : Option Addr) (n2 c2 m2 e2 : Nat) (xs2 ys2 : List Nat) (R2 : Rd w A2 n2 c2 xs2) (S2 : Rd w D2 m2 e2 ys2) (mi : Nat) (qi : Nat × Nat × Nat × Nat) (hmi : [(na0, ma0, nb0, mb0), (na1, ma1, nb1, mb1)][mi]? = some qi) (hyi : Big qi) :
    Calls Tryz.prog 6 #[.agg #[.bool ba0, .slice Aa0 na0 ca0, .slice Ba0 ma0 oa0, .bool bb0, .slice Ab0 nb0 cb0, .slice Bb0 mb0 ob0], .agg #[.bool ba1, .slice Aa1 na1 ca1, .slice Ba1 ma1 oa1, .bool bb1, .slice Ab1 nb1 cb1, .slice Bb1 mb1 ob1], .agg #[.bool b2, .slice A2 n2 c2, .slice D2 m2 e2]] w fun e w' => e = .returned (.bool true) ∧ On w w' := by
  have HMI := Lib.hid hmi
  have HYI := Lib.hid hyi
  clear hmi hyi
  have B : On w (((w.alloc (.cells #[.bool ba0, .slice Aa0 na0 ca0, .slice Ba0 ma0 oa0, .bool bb0, .slice Ab0 nb0 cb0, .slice Bb0 mb0 ob0] 26)).alloc (.cells #[.bool ba1, .slice Aa1 na1 ca1, .slice Ba1 ma1 oa1, .bool bb1, .slice Ab1 nb1 cb1, .slice Bb1 mb1 ob1] 26)).alloc (.cells #[.bool b2, .slice A2 n2 c2, .slice D2 m2 e2] 24)) := On.alloc (On.alloc (On.alloc (On.refl w) _) _) _
  have OB3 : w.heap.size ≤ w.heap.size ∧ Own (((w.alloc (.cells #[.bool ba0, .slice Aa0 na0 ca0, .slice Ba0 ma0 oa0, .bool bb0, .slice Ab0 nb0 cb0, .slice Bb0 mb0 ob0] 26)).alloc (.cells #[.bool ba1, .slice Aa1 na1 ca1, .slice Ba1 ma1 oa1, .bool bb1, .slice Ab1 nb1 cb1, .slice Bb1 mb1 ob1] 26)).alloc (.cells #[.bool b2, .slice A2 n2 c2, .slice D2 m2 e2] 24)) (w.heap.size) 26 #[.bool ba0, .slice Aa0 na0 ca0, .slice Ba0 ma0 oa0, .bool bb0, .slice Ab0 nb0 cb0, .slice Bb0 mb0 ob0] := ⟨by omega, (((Own.at_ w (w.heap.size) (by simp) 26 #[.bool ba0, .slice Aa0 na0 ca0, .slice Ba0 ma0 oa0, .bool bb0, .slice Ab0 nb0 cb0, .slice Bb0 mb0 ob0]).alloc (.cells #[.bool ba1, .slice Aa1 na1 ca1, .slice Ba1 ma1 oa1, .bool bb1, .slice Ab1 nb1 cb1, .slice Bb1 mb1 ob1] 26)).alloc (.cells #[.bool b2, .slice A2 n2 c2, .slice D2 m2 e2] 24))⟩
  have OB4 : w.heap.size ≤ w.heap.size + 1 ∧ Own (((w.alloc (.cells #[.bool ba0, .slice Aa0 na0 ca0, .slice Ba0 ma0 oa0, .bool bb0, .slice Ab0 nb0 cb0, .slice Bb0 mb0 ob0] 26)).alloc (.cells #[.bool ba1, .slice Aa1 na1 ca1, .slice Ba1 ma1 oa1, .bool bb1, .slice Ab1 nb1 cb1, .slice Bb1 mb1 ob1] 26)).alloc (.cells #[.bool b2, .slice A2 n2 c2, .slice D2 m2 e2] 24)) (w.heap.size + 1) 26 #[.bool ba1, .slice Aa1 na1 ca1, .slice Ba1 ma1 oa1, .bool bb1, .slice Ab1 nb1 cb1, .slice Bb1 mb1 ob1] := ⟨by omega, ((Own.at_ (w.alloc (.cells #[.bool ba0, .slice Aa0 na0 ca0, .slice Ba0 ma0 oa0, .bool bb0, .slice Ab0 nb0 cb0, .slice Bb0 mb0 ob0] 26)) (w.heap.size + 1) (by simp) 26 #[.bool ba1, .slice Aa1 na1 ca1, .slice Ba1 ma1 oa1, .bool bb1, .slice Ab1 nb1 cb1, .slice Bb1 mb1 ob1]).alloc (.cells #[.bool b2, .slice A2 n2 c2, .slice D2 m2 e2] 24))⟩
  have OB5 : w.heap.size ≤ w.heap.size + 2 ∧ Own (((w.alloc (.cells #[.bool ba0, .slice Aa0 na0 ca0, .slice Ba0 ma0 oa0, .bool bb0, .slice Ab0 nb0 cb0, .slice Bb0 mb0 ob0] 26)).alloc (.cells #[.bool ba1, .slice Aa1 na1 ca1, .slice Ba1 ma1 oa1, .bool bb1, .slice Ab1 nb1 cb1, .slice Bb1 mb1 ob1] 26)).alloc (.cells #[.bool b2, .slice A2 n2 c2, .slice D2 m2 e2] 24)) (w.heap.size + 2) 24 #[.bool b2, .slice A2 n2 c2, .slice D2 m2 e2] := ⟨by omega, (Own.at_ ((w.alloc (.cells #[.bool ba0, .slice Aa0 na0 ca0, .slice Ba0 ma0 oa0, .bool bb0, .slice Ab0 nb0 cb0, .slice Bb0 mb0 ob0] 26)).alloc (.cells #[.bool ba1, .slice Aa1 na1 ca1, .slice Ba1 ma1 oa1, .bool bb1, .slice Ab1 nb1 cb1, .slice Bb1 mb1 ob1] 26)) (w.heap.size + 2) (by simp) 24 #[.bool b2, .slice A2 n2 c2, .slice D2 m2 e2])⟩
  go_enter Tryz.func6, Tryz.ntmps6
  go_wp2_with fail
  refine (awake03 _).mono ?_
  rintro e w1 ⟨rfl, P1⟩
  replace OB3 := And.intro OB3.1 (OB3.2.on P1)
  replace OB4 := And.intro OB4.1 (OB4.2.on P1)
  replace OB5 := And.intro OB5.1 (OB5.2.on P1)
  replace B := B.trans P1
  have y3_0 : w1.cell? ⟨w.heap.size, 0, none⟩ = some (.bool ba0) := OB3.2.cell 0
  have y3_1 : w1.cell? ⟨w.heap.size, 1, none⟩ = some (.slice Aa0 na0 ca0) := OB3.2.cell 1
  have y3_2 : w1.cell? ⟨w.heap.size, 2, none⟩ = some (.slice Ba0 ma0 oa0) := OB3.2.cell 2
  have y3_3 : w1.cell? ⟨w.heap.size, 3, none⟩ = some (.bool bb0) := OB3.2.cell 3
  have y3_4 : w1.cell? ⟨w.heap.size, 4, none⟩ = some (.slice Ab0 nb0 cb0) := OB3.2.cell 4
  have y3_5 : w1.cell? ⟨w.heap.size, 5, none⟩ = some (.slice Bb0 mb0 ob0) := OB3.2.cell 5
  have y3_f0 := OB3.2.frozen 0
  have y3_f1 := OB3.2.frozen 1
  have y3_f2 := OB3.2.frozen 2
  have y3_f3 := OB3.2.frozen 3
  have y3_f4 := OB3.2.frozen 4
  have y3_f5 := OB3.2.frozen 5
  have y4_0 : w1.cell? ⟨w.heap.size + 1, 0, none⟩ = some (.bool ba1) := OB4.2.cell 0
  have y4_1 : w1.cell? ⟨w.heap.size + 1, 1, none⟩ = some (.slice Aa1 na1 ca1) := OB4.2.cell 1
  have y4_2 : w1.cell? ⟨w.heap.size + 1, 2, none⟩ = some (.slice Ba1 ma1 oa1) := OB4.2.cell 2
  have y4_3 : w1.cell? ⟨w.heap.size + 1, 3, none⟩ = some (.bool bb1) := OB4.2.cell 3
  have y4_4 : w1.cell? ⟨w.heap.size + 1, 4, none⟩ = some (.slice Ab1 nb1 cb1) := OB4.2.cell 4
  have y4_5 : w1.cell? ⟨w.heap.size + 1, 5, none⟩ = some (.slice Bb1 mb1 ob1) := OB4.2.cell 5
  have y4_f0 := OB4.2.frozen 0
  have y4_f1 := OB4.2.frozen 1
  have y4_f2 := OB4.2.frozen 2
  have y4_f3 := OB4.2.frozen 3
  have y4_f4 := OB4.2.frozen 4
  have y4_f5 := OB4.2.frozen 5
  have y5_0 : w1.cell? ⟨w.heap.size + 2, 0, none⟩ = some (.bool b2) := OB5.2.cell 0
  have y5_1 : w1.cell? ⟨w.heap.size + 2, 1, none⟩ = some (.slice A2 n2 c2) := OB5.2.cell 1
  have y5_2 : w1.cell? ⟨w.heap.size + 2, 2, none⟩ = some (.slice D2 m2 e2) := OB5.2.cell 2
  have y5_f0 := OB5.2.frozen 0
  have y5_f1 := OB5.2.frozen 1
  have y5_f2 := OB5.2.frozen 2
  go_wp2_with fail
  clear y3_0 y3_f0 y3_1 y3_f1 y3_2 y3_f2 y3_3 y3_f3 y3_4 y3_f4 y3_5 y3_f5
  clear y4_0 y4_f0 y4_1 y4_f1 y4_2 y4_f2 y4_3 y4_f3 y4_4 y4_f4 y4_5 y4_f5
  clear y5_0 y5_f0 y5_1 y5_f1 y5_2 y5_f2
  have B1 := (On.refl w1).alloc (.cells #[.bool ba0, .slice Aa0 na0 ca0, .slice Ba0 ma0 oa0, .bool bb0, .slice Ab0 nb0 cb0, .slice Bb0 mb0 ob0, .bool ba1, .slice Aa1 na1 ca1, .slice Ba1 ma1 oa1, .bool bb1, .slice Ab1 nb1 cb1, .slice Bb1 mb1 ob1] 26)
  replace OB3 := And.intro OB3.1 (OB3.2.on B1)
  replace OB4 := And.intro OB4.1 (OB4.2.on B1)
  replace OB5 := And.intro OB5.1 (OB5.2.on B1)
  replace B := B.trans B1
  have hlens := slens2 ba0 Aa0 na0 ca0 Ba0 ma0 oa0 bb0 Ab0 nb0 cb0 Bb0 mb0 ob0 xs0 ys0 us0 vs0 (R0.on B) (S0.on B) (U0.on B) (V0.on B) ba1 Aa1 na1 ca1 Ba1 ma1 oa1 bb1 Ab1 nb1 cb1 Bb1 mb1 ob1 xs1 ys1 us1 vs1 (R1.on B) (S1.on B) (U1.on B) (V1.on B) (Own.new w1 26 #[.bool ba0, .slice Aa0 na0 ca0, .slice Ba0 ma0 oa0, .bool bb0, .slice Ab0 nb0 cb0, .slice Bb0 mb0 ob0, .bool ba1, .slice Aa1 na1 ca1, .slice Ba1 ma1 oa1, .bool bb1, .slice Ab1 nb1 cb1, .slice Bb1 mb1 ob1])
  refine (slarge_yes _ _ 2 2 _ hlens rfl (by decide) (by decide) (by decide) mi qi HMI.out HYI.out).mono ?_
  rintro e w2 ⟨rfl, P2⟩
  clear hlens B1 P1
  replace OB3 := And.intro OB3.1 (OB3.2.on P2)
  replace OB4 := And.intro OB4.1 (OB4.2.on P2)
  replace OB5 := And.intro OB5.1 (OB5.2.on P2)
  replace B := B.trans P2
  clear P2
  go_wp2_with fail
  refine (awake03 _).mono ?_
  rintro e w3 ⟨rfl, P3⟩
  go_wp2
  go_ret
  exact ⟨rfl, B.trans P3⟩
set_option maxRecDepth 100000 in
set_option maxHeartbeats 1600000 in
theorem sets_num (w : World) (ba0 : Bool) (Aa0 : Option Addr) (na0 ca0 : Nat) (Ba0 : Option Addr) (ma0 oa0 : Nat) (bb0 : Bool) (Ab0 : Option Addr) (nb0 cb0 : Nat) (Bb0 : Option Addr) (mb0 ob0 : Nat) (xs0 ys0 us0 vs0 : List Nat) (R0 : Rd w Aa0 na0 ca0 xs0) (S0 : Rd w Ba0 ma0 oa0 ys0) (U0 : Rd w Ab0 nb0 cb0 us0) (V0 : Rd w Bb0 mb0 ob0 vs0) (ba1 : Bool) (Aa1 : Option Addr) (na1 ca1 : Nat) (Ba1 : Option Addr) (ma1 oa1 : Nat) (bb1 : Bool) (Ab1 : Option Addr) (nb1 cb1 : Nat) (Bb1 : Option Addr) (mb1 ob1 : Nat) (xs1 ys1 us1 vs1 : List Nat) (R1 : Rd w Aa1 na1 ca1 xs1) (S1 : Rd w Ba1 ma1 oa1 ys1) (U1 : Rd w Ab1 nb1 cb1 us1) (V1 : Rd w Bb1 mb1 ob1 vs1) (b2 : Bool) (A2 D2 : Option Addr) (n2 c2 m2 e2 : Nat) (xs2 ys2 : List Nat) (R2 : Rd w A2 n2 c2 xs2) (S2 : Rd w D2 m2 e2 ys2) (hs : na0 ≤ 6 ∧ ma0 ≤ 6 ∧ nb0 ≤ 6 ∧ mb0 ≤ 6 ∧ na1 ≤ 6 ∧ ma1 ≤ 6 ∧ nb1 ≤ 6 ∧ mb1 ≤ 6) (hn : 6 < n2) :
    Calls Tryz.prog 6 #[.agg #[.bool ba0, .slice Aa0 na0 ca0, .slice Ba0 ma0 oa0, .bool bb0, .slice Ab0 nb0 cb0, .slice Bb0 mb0 ob0], .agg #[.bool ba1, .slice Aa1 na1 ca1, .slice Ba1 ma1 oa1, .bool bb1, .slice Ab1 nb1 cb1, .slice Bb1 mb1 ob1], .agg #[.bool b2, .slice A2 n2 c2, .slice D2 m2 e2]] w fun e w' => e = .returned (.bool true) ∧ On w w' := by
  have hn' : 6 < (n2 : Int) := by omega
  have HSM : Hid (∀ p ∈ [(na0, ma0, nb0, mb0), (na1, ma1, nb1, mb1)], ¬ Big p) := Lib.hid (by intro p hp; simp at hp; rcases hp with rfl | rfl <;> (unfold Big; simp only; omega))
  have B : On w (((w.alloc (.cells #[.bool ba0, .slice Aa0 na0 ca0, .slice Ba0 ma0 oa0, .bool bb0, .slice Ab0 nb0 cb0, .slice Bb0 mb0 ob0] 26)).alloc (.cells #[.bool ba1, .slice Aa1 na1 ca1, .slice Ba1 ma1 oa1, .bool bb1, .slice Ab1 nb1 cb1, .slice Bb1 mb1 ob1] 26)).alloc (.cells #[.bool b2, .slice A2 n2 c2, .slice D2 m2 e2] 24)) := On.alloc (On.alloc (On.alloc (On.refl w) _) _) _
  have OB3 : w.heap.size ≤ w.heap.size ∧ Own (((w.alloc (.cells #[.bool ba0, .slice Aa0 na0 ca0, .slice Ba0 ma0 oa0, .bool bb0, .slice Ab0 nb0 cb0, .slice Bb0 mb0 ob0] 26)).alloc (.cells #[.bool ba1, .slice Aa1 na1 ca1, .slice Ba1 ma1 oa1, .bool bb1, .slice Ab1 nb1 cb1, .slice Bb1 mb1 ob1] 26)).alloc (.cells #[.bool b2, .slice A2 n2 c2, .slice D2 m2 e2] 24)) (w.heap.size) 26 #[.bool ba0, .slice Aa0 na0 ca0, .slice Ba0 ma0 oa0, .bool bb0, .slice Ab0 nb0 cb0, .slice Bb0 mb0 ob0] := ⟨by omega, (((Own.at_ w (w.heap.size) (by simp) 26 #[.bool ba0, .slice Aa0 na0 ca0, .slice Ba0 ma0 oa0, .bool bb0, .slice Ab0 nb0 cb0, .slice Bb0 mb0 ob0]).alloc (.cells #[.bool ba1, .slice Aa1 na1 ca1, .slice Ba1 ma1 oa1, .bool bb1, .slice Ab1 nb1 cb1, .slice Bb1 mb1 ob1] 26)).alloc (.cells #[.bool b2, .slice A2 n2 c2, .slice D2 m2 e2] 24))⟩
  have OB4 : w.heap.size ≤ w.heap.size + 1 ∧ Own (((w.alloc (.cells #[.bool ba0, .slice Aa0 na0 ca0, .slice Ba0 ma0 oa0, .bool bb0, .slice Ab0 nb0 cb0, .slice Bb0 mb0 ob0] 26)).alloc (.cells #[.bool ba1, .slice Aa1 na1 ca1, .slice Ba1 ma1 oa1, .bool bb1, .slice Ab1 nb1 cb1, .slice Bb1 mb1 ob1] 26)).alloc (.cells #[.bool b2, .slice A2 n2 c2, .slice D2 m2 e2] 24)) (w.heap.size + 1) 26 #[.bool ba1, .slice Aa1 na1 ca1, .slice Ba1 ma1 oa1, .bool bb1, .slice Ab1 nb1 cb1, .slice Bb1 mb1 ob1] := ⟨by omega, ((Own.at_ (w.alloc (.cells #[.bool ba0, .slice Aa0 na0 ca0, .slice Ba0 ma0 oa0, .bool bb0, .slice Ab0 nb0 cb0, .slice Bb0 mb0 ob0] 26)) (w.heap.size + 1) (by simp) 26 #[.bool ba1, .slice Aa1 na1 ca1, .slice Ba1 ma1 oa1, .bool bb1, .slice Ab1 nb1 cb1, .slice Bb1 mb1 ob1]).alloc (.cells #[.bool b2, .slice A2 n2 c2, .slice D2 m2 e2] 24))⟩
  have OB5 : w.heap.size ≤ w.heap.size + 2 ∧ Own (((w.alloc (.cells #[.bool ba0, .slice Aa0 na0 ca0, .slice Ba0 ma0 oa0, .bool bb0, .slice Ab0 nb0 cb0, .slice Bb0 mb0 ob0] 26)).alloc (.cells #[.bool ba1, .slice Aa1 na1 ca1, .slice Ba1 ma1 oa1, .bool bb1, .slice Ab1 nb1 cb1, .slice Bb1 mb1 ob1] 26)).alloc (.cells #[.bool b2, .slice A2 n2 c2, .slice D2 m2 e2] 24)) (w.heap.size + 2) 24 #[.bool b2, .slice A2 n2 c2, .slice D2 m2 e2] := ⟨by omega, (Own.at_ ((w.alloc (.cells #[.bool ba0, .slice Aa0 na0 ca0, .slice Ba0 ma0 oa0, .bool bb0, .slice Ab0 nb0 cb0, .slice Bb0 mb0 ob0] 26)).alloc (.cells #[.bool ba1, .slice Aa1 na1 ca1, .slice Ba1 ma1 oa1, .bool bb1, .slice Ab1 nb1 cb1, .slice Bb1 mb1 ob1] 26)) (w.heap.size + 2) (by simp) 24 #[.bool b2, .slice A2 n2 c2, .slice D2 m2 e2])⟩
  go_enter Tryz.func6, Tryz.ntmps6
  go_wp2_with fail
  refine (awake03 _).mono ?_
  rintro e w1 ⟨rfl, P1⟩
  replace OB3 := And.intro OB3.1 (OB3.2.on P1)
  replace OB4 := And.intro OB4.1 (OB4.2.on P1)
  replace OB5 := And.intro OB5.1 (OB5.2.on P1)
  replace B := B.trans P1
  have y3_0 : w1.cell? ⟨w.heap.size, 0, none⟩ = some (.bool ba0) := OB3.2.cell 0
  have y3_1 : w1.cell? ⟨w.heap.size, 1, none⟩ = some (.slice Aa0 na0 ca0) := OB3.2.cell 1
  have y3_2 : w1.cell? ⟨w.heap.size, 2, none⟩ = some (.slice Ba0 ma0 oa0) := OB3.2.cell 2
  have y3_3 : w1.cell? ⟨w.heap.size, 3, none⟩ = some (.bool bb0) := OB3.2.cell 3
  have y3_4 : w1.cell? ⟨w.heap.size, 4, none⟩ = some (.slice Ab0 nb0 cb0) := OB3.2.cell 4
  have y3_5 : w1.cell? ⟨w.heap.size, 5, none⟩ = some (.slice Bb0 mb0 ob0) := OB3.2.cell 5
  have y3_f0 := OB3.2.frozen 0
  have y3_f1 := OB3.2.frozen 1
  have y3_f2 := OB3.2.frozen 2
  have y3_f3 := OB3.2.frozen 3
  have y3_f4 := OB3.2.frozen 4
  have y3_f5 := OB3.2.frozen 5
  have y4_0 : w1.cell? ⟨w.heap.size + 1, 0, none⟩ = some (.bool ba1) := OB4.2.cell 0
  have y4_1 : w1.cell? ⟨w.heap.size + 1, 1, none⟩ = some (.slice Aa1 na1 ca1) := OB4.2.cell 1
  have y4_2 : w1.cell? ⟨w.heap.size + 1, 2, none⟩ = some (.slice Ba1 ma1 oa1) := OB4.2.cell 2
  have y4_3 : w1.cell? ⟨w.heap.size + 1, 3, none⟩ = some (.bool bb1) := OB4.2.cell 3
  have y4_4 : w1.cell? ⟨w.heap.size + 1, 4, none⟩ = some (.slice Ab1 nb1 cb1) := OB4.2.cell 4
  have y4_5 : w1.cell? ⟨w.heap.size + 1, 5, none⟩ = some (.slice Bb1 mb1 ob1) := OB4.2.cell 5
  have y4_f0 := OB4.2.frozen 0
  have y4_f1 := OB4.2.frozen 1
  have y4_f2 := OB4.2.frozen 2
  have y4_f3 := OB4.2.frozen 3
  have y4_f4 := OB4.2.frozen 4
  have y4_f5 := OB4.2.frozen 5
  have y5_0 : w1.cell? ⟨w.heap.size + 2, 0, none⟩ = some (.bool b2) := OB5.2.cell 0
  have y5_1 : w1.cell? ⟨w.heap.size + 2, 1, none⟩ = some (.slice A2 n2 c2) := OB5.2.cell 1
  have y5_2 : w1.cell? ⟨w.heap.size + 2, 2, none⟩ = some (.slice D2 m2 e2) := OB5.2.cell 2
  have y5_f0 := OB5.2.frozen 0
  have y5_f1 := OB5.2.frozen 1
  have y5_f2 := OB5.2.frozen 2
  go_wp2_with fail
  clear y3_0 y3_f0 y3_1 y3_f1 y3_2 y3_f2 y3_3 y3_f3 y3_4 y3_f4 y3_5 y3_f5
  clear y4_0 y4_f0 y4_1 y4_f1 y4_2 y4_f2 y4_3 y4_f3 y4_4 y4_f4 y4_5 y4_f5
  clear y5_0 y5_f0 y5_1 y5_f1 y5_2 y5_f2
  have B1 := (On.refl w1).alloc (.cells #[.bool ba0, .slice Aa0 na0 ca0, .slice Ba0 ma0 oa0, .bool bb0, .slice Ab0 nb0 cb0, .slice Bb0 mb0 ob0, .bool ba1, .slice Aa1 na1 ca1, .slice Ba1 ma1 oa1, .bool bb1, .slice Ab1 nb1 cb1, .slice Bb1 mb1 ob1] 26)
  replace OB3 := And.intro OB3.1 (OB3.2.on B1)
  replace OB4 := And.intro OB4.1 (OB4.2.on B1)
  replace OB5 := And.intro OB5.1 (OB5.2.on B1)
  replace B := B.trans B1
  have hlens := slens2 ba0 Aa0 na0 ca0 Ba0 ma0 oa0 bb0 Ab0 nb0 cb0 Bb0 mb0 ob0 xs0 ys0 us0 vs0 (R0.on B) (S0.on B) (U0.on B) (V0.on B) ba1 Aa1 na1 ca1 Ba1 ma1 oa1 bb1 Ab1 nb1 cb1 Bb1 mb1 ob1 xs1 ys1 us1 vs1 (R1.on B) (S1.on B) (U1.on B) (V1.on B) (Own.new w1 26 #[.bool ba0, .slice Aa0 na0 ca0, .slice Ba0 ma0 oa0, .bool bb0, .slice Ab0 nb0 cb0, .slice Bb0 mb0 ob0, .bool ba1, .slice Aa1 na1 ca1, .slice Ba1 ma1 oa1, .bool bb1, .slice Ab1 nb1 cb1, .slice Bb1 mb1 ob1])
  refine (slarge_no _ _ 2 2 _ hlens rfl (by decide) (by decide) (by decide) HSM.out).mono ?_
  rintro e w2 ⟨rfl, P2⟩
  clear hlens B1 P1
  replace OB3 := And.intro OB3.1 (OB3.2.on P2)
  replace OB4 := And.intro OB4.1 (OB4.2.on P2)
  replace OB5 := And.intro OB5.1 (OB5.2.on P2)
  replace B := B.trans P2
  clear P2
  have y5_0 : w2.cell? ⟨w.heap.size + 2, 0, none⟩ = some (.bool b2) := OB5.2.cell 0
  have y5_1 : w2.cell? ⟨w.heap.size + 2, 1, none⟩ = some (.slice A2 n2 c2) := OB5.2.cell 1
  have y5_2 : w2.cell? ⟨w.heap.size + 2, 2, none⟩ = some (.slice D2 m2 e2) := OB5.2.cell 2
  have y5_f0 := OB5.2.frozen 0
  have y5_f1 := OB5.2.frozen 1
  have y5_f2 := OB5.2.frozen 2
  go_wp2_with fail
  refine (awake03 _).mono ?_
  rintro e w3 ⟨rfl, P3⟩
  go_wp2
  go_ret
  exact ⟨rfl, B.trans P3⟩
set_option maxRecDepth 100000 in
set_option maxHeartbeats 1600000 in
theorem sets_den (w : World) (ba0 : Bool) (Aa0 : Option Addr) (na0 ca0 : Nat) (Ba0 : Option Addr) (ma0 oa0 : Nat) (bb0 : Bool) (Ab0 : Option Addr) (nb0 cb0 : Nat) (Bb0 : Option Addr) (mb0 ob0 : Nat) (xs0 ys0 us0 vs0 : List Nat) (R0 : Rd w Aa0 na0 ca0 xs0) (S0 : Rd w Ba0 ma0 oa0 ys0) (U0 : Rd w Ab0 nb0 cb0 us0) (V0 : Rd w Bb0 mb0 ob0 vs0) (ba1 : Bool) (Aa1 : Option Addr) (na1 ca1 : Nat) (Ba1 : Option Addr) (ma1 oa1 : Nat) (bb1 : Bool) (Ab1 : Option Addr) (nb1 cb1 : Nat) (Bb1 : Option Addr) (mb1 ob1 : Nat) (xs1 ys1 us1 vs1 : List Nat) (R1 : Rd w Aa1 na1 ca1 xs1) (S1 : Rd w Ba1 ma1 oa1 ys1) (U1 : Rd w Ab1 nb1 cb1 us1) (V1 : Rd w Bb1 mb1 ob1 vs1) (b2 : Bool) (A2 D2 : Option Addr) (n2 c2 m2 e2 : Nat) (xs2 ys2 : List Nat) (R2 : Rd w A2 n2 c2 xs2) (S2 : Rd w D2 m2 e2 ys2) (hs : na0 ≤ 6 ∧ ma0 ≤ 6 ∧ nb0 ≤ 6 ∧ mb0 ≤ 6 ∧ na1 ≤ 6 ∧ ma1 ≤ 6 ∧ nb1 ≤ 6 ∧ mb1 ≤ 6) (hn : n2 ≤ 6) (hm : 6 < m2) :
    Calls Tryz.prog 6 #[.agg #[.bool ba0, .slice Aa0 na0 ca0, .slice Ba0 ma0 oa0, .bool bb0, .slice Ab0 nb0 cb0, .slice Bb0 mb0 ob0], .agg #[.bool ba1, .slice Aa1 na1 ca1, .slice Ba1 ma1 oa1, .bool bb1, .slice Ab1 nb1 cb1, .slice Bb1 mb1 ob1], .agg #[.bool b2, .slice A2 n2 c2, .slice D2 m2 e2]] w fun e w' => e = .returned (.bool true) ∧ On w w' := by
  have hn' : ¬ 6 < (n2 : Int) := by omega
  have hm' : 6 < (m2 : Int) := by omega
  have HSM : Hid (∀ p ∈ [(na0, ma0, nb0, mb0), (na1, ma1, nb1, mb1)], ¬ Big p) := Lib.hid (by intro p hp; simp at hp; rcases hp with rfl | rfl <;> (unfold Big; simp only; omega))
  have B : On w (((w.alloc (.cells #[.bool ba0, .slice Aa0 na0 ca0, .slice Ba0 ma0 oa0, .bool bb0, .slice Ab0 nb0 cb0, .slice Bb0 mb0 ob0] 26)).alloc (.cells #[.bool ba1, .slice Aa1 na1 ca1, .slice Ba1 ma1 oa1, .bool bb1, .slice Ab1 nb1 cb1, .slice Bb1 mb1 ob1] 26)).alloc (.cells #[.bool b2, .slice A2 n2 c2, .slice D2 m2 e2] 24)) := On.alloc (On.alloc (On.alloc (On.refl w) _) _) _
  have OB3 : w.heap.size ≤ w.heap.size ∧ Own (((w.alloc (.cells #[.bool ba0, .slice Aa0 na0 ca0, .slice Ba0 ma0 oa0, .bool bb0, .slice Ab0 nb0 cb0, .slice Bb0 mb0 ob0] 26)).alloc (.cells #[.bool ba1, .slice Aa1 na1 ca1, .slice Ba1 ma1 oa1, .bool bb1, .slice Ab1 nb1 cb1, .slice Bb1 mb1 ob1] 26)).alloc (.cells #[.bool b2, .slice A2 n2 c2, .slice D2 m2 e2] 24)) (w.heap.size) 26 #[.bool ba0, .slice Aa0 na0 ca0, .slice Ba0 ma0 oa0, .bool bb0, .slice Ab0 nb0 cb0, .slice Bb0 mb0 ob0] := ⟨by omega, (((Own.at_ w (w.heap.size) (by simp) 26 #[.bool ba0, .slice Aa0 na0 ca0, .slice Ba0 ma0 oa0, .bool bb0, .slice Ab0 nb0 cb0, .slice Bb0 mb0 ob0]).alloc (.cells #[.bool ba1, .slice Aa1 na1 ca1, .slice Ba1 ma1 oa1, .bool bb1, .slice Ab1 nb1 cb1, .slice Bb1 mb1 ob1] 26)).alloc (.cells #[.bool b2, .slice A2 n2 c2, .slice D2 m2 e2] 24))⟩
  have OB4 : w.heap.size ≤ w.heap.size + 1 ∧ Own (((w.alloc (.cells #[.bool ba0, .slice Aa0 na0 ca0, .slice Ba0 ma0 oa0, .bool bb0, .slice Ab0 nb0 cb0, .slice Bb0 mb0 ob0] 26)).alloc (.cells #[.bool ba1, .slice Aa1 na1 ca1, .slice Ba1 ma1 oa1, .bool bb1, .slice Ab1 nb1 cb1, .slice Bb1 mb1 ob1] 26)).alloc (.cells #[.bool b2, .slice A2 n2 c2, .slice D2 m2 e2] 24)) (w.heap.size + 1) 26 #[.bool ba1, .slice Aa1 na1 ca1, .slice Ba1 ma1 oa1, .bool bb1, .slice Ab1 nb1 cb1, .slice Bb1 mb1 ob1] := ⟨by omega, ((Own.at_ (w.alloc (.cells #[.bool ba0, .slice Aa0 na0 ca0, .slice Ba0 ma0 oa0, .bool bb0, .slice Ab0 nb0 cb0, .slice Bb0 mb0 ob0] 26)) (w.heap.size + 1) (by simp) 26 #[.bool ba1, .slice Aa1 na1 ca1, .slice Ba1 ma1 oa1, .bool bb1, .slice Ab1 nb1 cb1, .slice Bb1 mb1 ob1]).alloc (.cells #[.bool b2, .slice A2 n2 c2, .slice D2 m2 e2] 24))⟩
  have OB5 : w.heap.size ≤ w.heap.size + 2 ∧ Own (((w.alloc (.cells #[.bool ba0, .slice Aa0 na0 ca0, .slice Ba0 ma0 oa0, .bool bb0, .slice Ab0 nb0 cb0, .slice Bb0 mb0 ob0] 26)).alloc (.cells #[.bool ba1, .slice Aa1 na1 ca1, .slice Ba1 ma1 oa1, .bool bb1, .slice Ab1 nb1 cb1, .slice Bb1 mb1 ob1] 26)).alloc (.cells #[.bool b2, .slice A2 n2 c2, .slice D2 m2 e2] 24)) (w.heap.size + 2) 24 #[.bool b2, .slice A2 n2 c2, .slice D2 m2 e2] := ⟨by omega, (Own.at_ ((w.alloc (.cells #[.bool ba0, .slice Aa0 na0 ca0, .slice Ba0 ma0 oa0, .bool bb0, .slice Ab0 nb0 cb0, .slice Bb0 mb0 ob0] 26)).alloc (.cells #[.bool ba1, .slice Aa1 na1 ca1, .slice Ba1 ma1 oa1, .bool bb1, .slice Ab1 nb1 cb1, .slice Bb1 mb1 ob1] 26)) (w.heap.size + 2) (by simp) 24 #[.bool b2, .slice A2 n2 c2, .slice D2 m2 e2])⟩
  go_enter Tryz.func6, Tryz.ntmps6
  go_wp2_with fail
  refine (awake03 _).mono ?_
  rintro e w1 ⟨rfl, P1⟩
  replace OB3 := And.intro OB3.1 (OB3.2.on P1)
  replace OB4 := And.intro OB4.1 (OB4.2.on P1)
  replace OB5 := And.intro OB5.1 (OB5.2.on P1)
  replace B := B.trans P1
  have y3_0 : w1.cell? ⟨w.heap.size, 0, none⟩ = some (.bool ba0) := OB3.2.cell 0
  have y3_1 : w1.cell? ⟨w.heap.size, 1, none⟩ = some (.slice Aa0 na0 ca0) := OB3.2.cell 1
  have y3_2 : w1.cell? ⟨w.heap.size, 2, none⟩ = some (.slice Ba0 ma0 oa0) := OB3.2.cell 2
  have y3_3 : w1.cell? ⟨w.heap.size, 3, none⟩ = some (.bool bb0) := OB3.2.cell 3
  have y3_4 : w1.cell? ⟨w.heap.size, 4, none⟩ = some (.slice Ab0 nb0 cb0) := OB3.2.cell 4
  have y3_5 : w1.cell? ⟨w.heap.size, 5, none⟩ = some (.slice Bb0 mb0 ob0) := OB3.2.cell 5
  have y3_f0 := OB3.2.frozen 0
  have y3_f1 := OB3.2.frozen 1
  have y3_f2 := OB3.2.frozen 2
  have y3_f3 := OB3.2.frozen 3
  have y3_f4 := OB3.2.frozen 4
  have y3_f5 := OB3.2.frozen 5
  have y4_0 : w1.cell? ⟨w.heap.size + 1, 0, none⟩ = some (.bool ba1) := OB4.2.cell 0
  have y4_1 : w1.cell? ⟨w.heap.size + 1, 1, none⟩ = some (.slice Aa1 na1 ca1) := OB4.2.cell 1
  have y4_2 : w1.cell? ⟨w.heap.size + 1, 2, none⟩ = some (.slice Ba1 ma1 oa1) := OB4.2.cell 2
  have y4_3 : w1.cell? ⟨w.heap.size + 1, 3, none⟩ = some (.bool bb1) := OB4.2.cell 3
  have y4_4 : w1.cell? ⟨w.heap.size + 1, 4, none⟩ = some (.slice Ab1 nb1 cb1) := OB4.2.cell 4
  have y4_5 : w1.cell? ⟨w.heap.size + 1, 5, none⟩ = some (.slice Bb1 mb1 ob1) := OB4.2.cell 5
  have y4_f0 := OB4.2.frozen 0
  have y4_f1 := OB4.2.frozen 1
  have y4_f2 := OB4.2.frozen 2
  have y4_f3 := OB4.2.frozen 3
  have y4_f4 := OB4.2.frozen 4
  have y4_f5 := OB4.2.frozen 5
  have y5_0 : w1.cell? ⟨w.heap.size + 2, 0, none⟩ = some (.bool b2) := OB5.2.cell 0
  have y5_1 : w1.cell? ⟨w.heap.size + 2, 1, none⟩ = some (.slice A2 n2 c2) := OB5.2.cell 1
  have y5_2 : w1.cell? ⟨w.heap.size + 2, 2, none⟩ = some (.slice D2 m2 e2) := OB5.2.cell 2
  have y5_f0 := OB5.2.frozen 0
  have y5_f1 := OB5.2.frozen 1
  have y5_f2 := OB5.2.frozen 2
  go_wp2_with fail
  clear y3_0 y3_f0 y3_1 y3_f1 y3_2 y3_f2 y3_3 y3_f3 y3_4 y3_f4 y3_5 y3_f5
  clear y4_0 y4_f0 y4_1 y4_f1 y4_2 y4_f2 y4_3 y4_f3 y4_4 y4_f4 y4_5 y4_f5
  clear y5_0 y5_f0 y5_1 y5_f1 y5_2 y5_f2
  have B1 := (On.refl w1).alloc (.cells #[.bool ba0, .slice Aa0 na0 ca0, .slice Ba0 ma0 oa0, .bool bb0, .slice Ab0 nb0 cb0, .slice Bb0 mb0 ob0, .bool ba1, .slice Aa1 na1 ca1, .slice Ba1 ma1 oa1, .bool bb1, .slice Ab1 nb1 cb1, .slice Bb1 mb1 ob1] 26)
  replace OB3 := And.intro OB3.1 (OB3.2.on B1)
  replace OB4 := And.intro OB4.1 (OB4.2.on B1)
  replace OB5 := And.intro OB5.1 (OB5.2.on B1)
  replace B := B.trans B1
  have hlens := slens2 ba0 Aa0 na0 ca0 Ba0 ma0 oa0 bb0 Ab0 nb0 cb0 Bb0 mb0 ob0 xs0 ys0 us0 vs0 (R0.on B) (S0.on B) (U0.on B) (V0.on B) ba1 Aa1 na1 ca1 Ba1 ma1 oa1 bb1 Ab1 nb1 cb1 Bb1 mb1 ob1 xs1 ys1 us1 vs1 (R1.on B) (S1.on B) (U1.on B) (V1.on B) (Own.new w1 26 #[.bool ba0, .slice Aa0 na0 ca0, .slice Ba0 ma0 oa0, .bool bb0, .slice Ab0 nb0 cb0, .slice Bb0 mb0 ob0, .bool ba1, .slice Aa1 na1 ca1, .slice Ba1 ma1 oa1, .bool bb1, .slice Ab1 nb1 cb1, .slice Bb1 mb1 ob1])
  refine (slarge_no _ _ 2 2 _ hlens rfl (by decide) (by decide) (by decide) HSM.out).mono ?_
  rintro e w2 ⟨rfl, P2⟩
  clear hlens B1 P1
  replace OB3 := And.intro OB3.1 (OB3.2.on P2)
  replace OB4 := And.intro OB4.1 (OB4.2.on P2)
  replace OB5 := And.intro OB5.1 (OB5.2.on P2)
  replace B := B.trans P2
  clear P2
  have y5_0 : w2.cell? ⟨w.heap.size + 2, 0, none⟩ = some (.bool b2) := OB5.2.cell 0
  have y5_1 : w2.cell? ⟨w.heap.size + 2, 1, none⟩ = some (.slice A2 n2 c2) := OB5.2.cell 1
  have y5_2 : w2.cell? ⟨w.heap.size + 2, 2, none⟩ = some (.slice D2 m2 e2) := OB5.2.cell 2
  have y5_f0 := OB5.2.frozen 0
  have y5_f1 := OB5.2.frozen 1
  have y5_f2 := OB5.2.frozen 2
  go_wp2_with fail
  refine (awake03 _).mono ?_
  rintro e w3 ⟨rfl, P3⟩
  go_wp2
  go_ret
  exact ⟨rfl, B.trans P3⟩
set_option maxRecDepth 100000 in
set_option maxHeartbeats 1600000 in
theorem sets_main (w : World) (ba0 : Bool) (Aa0 : Option Addr) (na0 ca0 : Nat) (Ba0 : Option Addr) (ma0 oa0 : Nat) (bb0 : Bool) (Ab0 : Option Addr) (nb0 cb0 : Nat) (Bb0 : Option Addr) (mb0 ob0 : Nat) (xs0 ys0 us0 vs0 : List Nat) (R0 : Rd w Aa0 na0 ca0 xs0) (S0 : Rd w Ba0 ma0 oa0 ys0) (U0 : Rd w Ab0 nb0 cb0 us0) (V0 : Rd w Bb0 mb0 ob0 vs0) (ba1 : Bool) (Aa1 : Option Addr) (na1 ca1 : Nat) (Ba1 : Option Addr) (ma1 oa1 : Nat) (bb1 : Bool) (Ab1 : Option Addr) (nb1 cb1 : Nat) (Bb1 : Option Addr) (mb1 ob1 : Nat) (xs1 ys1 us1 vs1 : List Nat) (R1 : Rd w Aa1 na1 ca1 xs1) (S1 : Rd w Ba1 ma1 oa1 ys1) (U1 : Rd w Ab1 nb1 cb1 us1) (V1 : Rd w Bb1 mb1 ob1 vs1) (b2 : Bool) (A2 D2 : Option Addr) (n2 c2 m2 e2 : Nat) (xs2 ys2 : List Nat) (R2 : Rd w A2 n2 c2 xs2) (S2 : Rd w D2 m2 e2 ys2) (hs : na0 ≤ 6 ∧ ma0 ≤ 6 ∧ nb0 ≤ 6 ∧ mb0 ≤ 6 ∧ na1 ≤ 6 ∧ ma1 ≤ 6 ∧ nb1 ≤ 6 ∧ mb1 ≤ 6) (hn : n2 ≤ 6) (hm : m2 ≤ 6) :
    Calls Tryz.prog 6 #[.agg #[.bool ba0, .slice Aa0 na0 ca0, .slice Ba0 ma0 oa0, .bool bb0, .slice Ab0 nb0 cb0, .slice Bb0 mb0 ob0], .agg #[.bool ba1, .slice Aa1 na1 ca1, .slice Ba1 ma1 oa1, .bool bb1, .slice Ab1 nb1 cb1, .slice Bb1 mb1 ob1], .agg #[.bool b2, .slice A2 n2 c2, .slice D2 m2 e2]] w fun e w' => e = .returned (.bool true) ∧ On w w' := by
  have hn' : ¬ 6 < (n2 : Int) := by omega
  have hm' : ¬ 6 < (m2 : Int) := by omega
  obtain ⟨lo0, hi0, f0, Q0⟩ : ∃ lo hi f, SRaw w (.agg #[.bool ba0, .slice Aa0 na0 ca0, .slice Ba0 ma0 oa0, .bool bb0, .slice Ab0 nb0 cb0, .slice Bb0 mb0 ob0]) lo hi f 6 := ⟨_, _, _, ba0, Aa0, na0, ca0, Ba0, ma0, oa0, bb0, Ab0, nb0, cb0, Bb0, mb0, ob0, xs0, ys0, us0, vs0, rfl, R0, S0, U0, V0, by omega, by omega, by omega, by omega, rfl, rfl, rfl⟩
  obtain ⟨lo1, hi1, f1, Q1⟩ : ∃ lo hi f, SRaw w (.agg #[.bool ba1, .slice Aa1 na1 ca1, .slice Ba1 ma1 oa1, .bool bb1, .slice Ab1 nb1 cb1, .slice Bb1 mb1 ob1]) lo hi f 6 := ⟨_, _, _, ba1, Aa1, na1, ca1, Ba1, ma1, oa1, bb1, Ab1, nb1, cb1, Bb1, mb1, ob1, xs1, ys1, us1, vs1, rfl, R1, S1, U1, V1, by omega, by omega, by omega, by omega, rfl, rfl, rfl⟩
  obtain ⟨p0, q0, T0⟩ : ∃ p q, Sp w (.agg #[.bool ba0, .slice Aa0 na0 ca0, .slice Ba0 ma0 oa0, .bool bb0, .slice Ab0 nb0 cb0, .slice Bb0 mb0 ob0]) p q 6 := ⟨_, _, _, _, _, Q0, rfl, rfl⟩
  obtain ⟨p1, q1, T1⟩ : ∃ p q, Sp w (.agg #[.bool ba1, .slice Aa1 na1 ca1, .slice Ba1 ma1 oa1, .bool bb1, .slice Ab1 nb1 cb1, .slice Bb1 mb1 ob1]) p q 6 := ⟨_, _, _, _, _, Q1, rfl, rfl⟩
  obtain ⟨x, F⟩ : ∃ x, Fld w (.agg #[.bool b2, .slice A2 n2 c2, .slice D2 m2 e2]) x 6 := ⟨_, Fld.mk3 R2 S2 hn hm rfl⟩
  obtain ⟨ml, mh, me, mz, TA, TB, TC⟩ := meet_twin p0 q0 p1 q1
  have HTA := Lib.hid TA
  have HTB := Lib.hid TB
  have HTC := Lib.hid TC
  clear TA TB TC Q0 Q1
  obtain ⟨bc, hbc⟩ : ∃ z, (decide (p0 ≤ x) && decide (x ≤ q0)) = z := ⟨_, rfl⟩
  obtain ⟨bi, hbi⟩ : ∃ z, (decide (p1 ≤ p0) && decide (q0 ≤ q1)) = z := ⟨_, rfl⟩
  have HBC := Lib.hid hbc
  have HBI := Lib.hid hbi
  clear hbc hbi
  have HSM : Hid (∀ p ∈ [(na0, ma0, nb0, mb0), (na1, ma1, nb1, mb1)], ¬ Big p) := Lib.hid (by intro p hp; simp at hp; rcases hp with rfl | rfl <;> (unfold Big; simp only; omega))
  have B : On w (((w.alloc (.cells #[.bool ba0, .slice Aa0 na0 ca0, .slice Ba0 ma0 oa0, .bool bb0, .slice Ab0 nb0 cb0, .slice Bb0 mb0 ob0] 26)).alloc (.cells #[.bool ba1, .slice Aa1 na1 ca1, .slice Ba1 ma1 oa1, .bool bb1, .slice Ab1 nb1 cb1, .slice Bb1 mb1 ob1] 26)).alloc (.cells #[.bool b2, .slice A2 n2 c2, .slice D2 m2 e2] 24)) := On.alloc (On.alloc (On.alloc (On.refl w) _) _) _
  have OB3 : w.heap.size ≤ w.heap.size ∧ Own (((w.alloc (.cells #[.bool ba0, .slice Aa0 na0 ca0, .slice Ba0 ma0 oa0, .bool bb0, .slice Ab0 nb0 cb0, .slice Bb0 mb0 ob0] 26)).alloc (.cells #[.bool ba1, .slice Aa1 na1 ca1, .slice Ba1 ma1 oa1, .bool bb1, .slice Ab1 nb1 cb1, .slice Bb1 mb1 ob1] 26)).alloc (.cells #[.bool b2, .slice A2 n2 c2, .slice D2 m2 e2] 24)) (w.heap.size) 26 #[.bool ba0, .slice Aa0 na0 ca0, .slice Ba0 ma0 oa0, .bool bb0, .slice Ab0 nb0 cb0, .slice Bb0 mb0 ob0] := ⟨by omega, (((Own.at_ w (w.heap.size) (by simp) 26 #[.bool ba0, .slice Aa0 na0 ca0, .slice Ba0 ma0 oa0, .bool bb0, .slice Ab0 nb0 cb0, .slice Bb0 mb0 ob0]).alloc (.cells #[.bool ba1, .slice Aa1 na1 ca1, .slice Ba1 ma1 oa1, .bool bb1, .slice Ab1 nb1 cb1, .slice Bb1 mb1 ob1] 26)).alloc (.cells #[.bool b2, .slice A2 n2 c2, .slice D2 m2 e2] 24))⟩
  have OB4 : w.heap.size ≤ w.heap.size + 1 ∧ Own (((w.alloc (.cells #[.bool ba0, .slice Aa0 na0 ca0, .slice Ba0 ma0 oa0, .bool bb0, .slice Ab0 nb0 cb0, .slice Bb0 mb0 ob0] 26)).alloc (.cells #[.bool ba1, .slice Aa1 na1 ca1, .slice Ba1 ma1 oa1, .bool bb1, .slice Ab1 nb1 cb1, .slice Bb1 mb1 ob1] 26)).alloc (.cells #[.bool b2, .slice A2 n2 c2, .slice D2 m2 e2] 24)) (w.heap.size + 1) 26 #[.bool ba1, .slice Aa1 na1 ca1, .slice Ba1 ma1 oa1, .bool bb1, .slice Ab1 nb1 cb1, .slice Bb1 mb1 ob1] := ⟨by omega, ((Own.at_ (w.alloc (.cells #[.bool ba0, .slice Aa0 na0 ca0, .slice Ba0 ma0 oa0, .bool bb0, .slice Ab0 nb0 cb0, .slice Bb0 mb0 ob0] 26)) (w.heap.size + 1) (by simp) 26 #[.bool ba1, .slice Aa1 na1 ca1, .slice Ba1 ma1 oa1, .bool bb1, .slice Ab1 nb1 cb1, .slice Bb1 mb1 ob1]).alloc (.cells #[.bool b2, .slice A2 n2 c2, .slice D2 m2 e2] 24))⟩
  have OB5 : w.heap.size ≤ w.heap.size + 2 ∧ Own (((w.alloc (.cells #[.bool ba0, .slice Aa0 na0 ca0, .slice Ba0 ma0 oa0, .bool bb0, .slice Ab0 nb0 cb0, .slice Bb0 mb0 ob0] 26)).alloc (.cells #[.bool ba1, .slice Aa1 na1 ca1, .slice Ba1 ma1 oa1, .bool bb1, .slice Ab1 nb1 cb1, .slice Bb1 mb1 ob1] 26)).alloc (.cells #[.bool b2, .slice A2 n2 c2, .slice D2 m2 e2] 24)) (w.heap.size + 2) 24 #[.bool b2, .slice A2 n2 c2, .slice D2 m2 e2] := ⟨by omega, (Own.at_ ((w.alloc (.cells #[.bool ba0, .slice Aa0 na0 ca0, .slice Ba0 ma0 oa0, .bool bb0, .slice Ab0 nb0 cb0, .slice Bb0 mb0 ob0] 26)).alloc (.cells #[.bool ba1, .slice Aa1 na1 ca1, .slice Ba1 ma1 oa1, .bool bb1, .slice Ab1 nb1 cb1, .slice Bb1 mb1 ob1] 26)) (w.heap.size + 2) (by simp) 24 #[.bool b2, .slice A2 n2 c2, .slice D2 m2 e2])⟩
  go_enter Tryz.func6, Tryz.ntmps6
  go_wp2_with fail
  refine (awake03 _).mono ?_
  rintro e w1 ⟨rfl, P1⟩
  replace OB3 := And.intro OB3.1 (OB3.2.on P1)
  replace OB4 := And.intro OB4.1 (OB4.2.on P1)
  replace OB5 := And.intro OB5.1 (OB5.2.on P1)
  replace B := B.trans P1
  have y3_0 : w1.cell? ⟨w.heap.size, 0, none⟩ = some (.bool ba0) := OB3.2.cell 0
  have y3_1 : w1.cell? ⟨w.heap.size, 1, none⟩ = some (.slice Aa0 na0 ca0) := OB3.2.cell 1
  have y3_2 : w1.cell? ⟨w.heap.size, 2, none⟩ = some (.slice Ba0 ma0 oa0) := OB3.2.cell 2
  have y3_3 : w1.cell? ⟨w.heap.size, 3, none⟩ = some (.bool bb0) := OB3.2.cell 3
  have y3_4 : w1.cell? ⟨w.heap.size, 4, none⟩ = some (.slice Ab0 nb0 cb0) := OB3.2.cell 4
  have y3_5 : w1.cell? ⟨w.heap.size, 5, none⟩ = some (.slice Bb0 mb0 ob0) := OB3.2.cell 5
  have y3_f0 := OB3.2.frozen 0
  have y3_f1 := OB3.2.frozen 1
  have y3_f2 := OB3.2.frozen 2
  have y3_f3 := OB3.2.frozen 3
  have y3_f4 := OB3.2.frozen 4
  have y3_f5 := OB3.2.frozen 5
  have y4_0 : w1.cell? ⟨w.heap.size + 1, 0, none⟩ = some (.bool ba1) := OB4.2.cell 0
  have y4_1 : w1.cell? ⟨w.heap.size + 1, 1, none⟩ = some (.slice Aa1 na1 ca1) := OB4.2.cell 1
  have y4_2 : w1.cell? ⟨w.heap.size + 1, 2, none⟩ = some (.slice Ba1 ma1 oa1) := OB4.2.cell 2
  have y4_3 : w1.cell? ⟨w.heap.size + 1, 3, none⟩ = some (.bool bb1) := OB4.2.cell 3
  have y4_4 : w1.cell? ⟨w.heap.size + 1, 4, none⟩ = some (.slice Ab1 nb1 cb1) := OB4.2.cell 4
  have y4_5 : w1.cell? ⟨w.heap.size + 1, 5, none⟩ = some (.slice Bb1 mb1 ob1) := OB4.2.cell 5
  have y4_f0 := OB4.2.frozen 0
  have y4_f1 := OB4.2.frozen 1
  have y4_f2 := OB4.2.frozen 2
  have y4_f3 := OB4.2.frozen 3
  have y4_f4 := OB4.2.frozen 4
  have y4_f5 := OB4.2.frozen 5
  have y5_0 : w1.cell? ⟨w.heap.size + 2, 0, none⟩ = some (.bool b2) := OB5.2.cell 0
  have y5_1 : w1.cell? ⟨w.heap.size + 2, 1, none⟩ = some (.slice A2 n2 c2) := OB5.2.cell 1
  have y5_2 : w1.cell? ⟨w.heap.size + 2, 2, none⟩ = some (.slice D2 m2 e2) := OB5.2.cell 2
  have y5_f0 := OB5.2.frozen 0
  have y5_f1 := OB5.2.frozen 1
  have y5_f2 := OB5.2.frozen 2
  go_wp2_with fail
  clear y3_0 y3_f0 y3_1 y3_f1 y3_2 y3_f2 y3_3 y3_f3 y3_4 y3_f4 y3_5 y3_f5
  clear y4_0 y4_f0 y4_1 y4_f1 y4_2 y4_f2 y4_3 y4_f3 y4_4 y4_f4 y4_5 y4_f5
  clear y5_0 y5_f0 y5_1 y5_f1 y5_2 y5_f2
  have B1 := (On.refl w1).alloc (.cells #[.bool ba0, .slice Aa0 na0 ca0, .slice Ba0 ma0 oa0, .bool bb0, .slice Ab0 nb0 cb0, .slice Bb0 mb0 ob0, .bool ba1, .slice Aa1 na1 ca1, .slice Ba1 ma1 oa1, .bool bb1, .slice Ab1 nb1 cb1, .slice Bb1 mb1 ob1] 26)
  replace OB3 := And.intro OB3.1 (OB3.2.on B1)
  replace OB4 := And.intro OB4.1 (OB4.2.on B1)
  replace OB5 := And.intro OB5.1 (OB5.2.on B1)
  replace B := B.trans B1
  have hlens := slens2 ba0 Aa0 na0 ca0 Ba0 ma0 oa0 bb0 Ab0 nb0 cb0 Bb0 mb0 ob0 xs0 ys0 us0 vs0 (R0.on B) (S0.on B) (U0.on B) (V0.on B) ba1 Aa1 na1 ca1 Ba1 ma1 oa1 bb1 Ab1 nb1 cb1 Bb1 mb1 ob1 xs1 ys1 us1 vs1 (R1.on B) (S1.on B) (U1.on B) (V1.on B) (Own.new w1 26 #[.bool ba0, .slice Aa0 na0 ca0, .slice Ba0 ma0 oa0, .bool bb0, .slice Ab0 nb0 cb0, .slice Bb0 mb0 ob0, .bool ba1, .slice Aa1 na1 ca1, .slice Ba1 ma1 oa1, .bool bb1, .slice Ab1 nb1 cb1, .slice Bb1 mb1 ob1])
  refine (slarge_no _ _ 2 2 _ hlens rfl (by decide) (by decide) (by decide) HSM.out).mono ?_
  rintro e w2 ⟨rfl, P2⟩
  clear hlens B1 P1
  replace OB3 := And.intro OB3.1 (OB3.2.on P2)
  replace OB4 := And.intro OB4.1 (OB4.2.on P2)
  replace OB5 := And.intro OB5.1 (OB5.2.on P2)
  replace B := B.trans P2
  clear P2
  clear HSM
  have y5_0 : w2.cell? ⟨w.heap.size + 2, 0, none⟩ = some (.bool b2) := OB5.2.cell 0
  have y5_1 : w2.cell? ⟨w.heap.size + 2, 1, none⟩ = some (.slice A2 n2 c2) := OB5.2.cell 1
  have y5_2 : w2.cell? ⟨w.heap.size + 2, 2, none⟩ = some (.slice D2 m2 e2) := OB5.2.cell 2
  have y5_f0 := OB5.2.frozen 0
  have y5_f1 := OB5.2.frozen 1
  have y5_f2 := OB5.2.frozen 2
  have y3_0 : w2.cell? ⟨w.heap.size, 0, none⟩ = some (.bool ba0) := OB3.2.cell 0
  have y3_1 : w2.cell? ⟨w.heap.size, 1, none⟩ = some (.slice Aa0 na0 ca0) := OB3.2.cell 1
  have y3_2 : w2.cell? ⟨w.heap.size, 2, none⟩ = some (.slice Ba0 ma0 oa0) := OB3.2.cell 2
  have y3_3 : w2.cell? ⟨w.heap.size, 3, none⟩ = some (.bool bb0) := OB3.2.cell 3
  have y3_4 : w2.cell? ⟨w.heap.size, 4, none⟩ = some (.slice Ab0 nb0 cb0) := OB3.2.cell 4
  have y3_5 : w2.cell? ⟨w.heap.size, 5, none⟩ = some (.slice Bb0 mb0 ob0) := OB3.2.cell 5
  have y3_f0 := OB3.2.frozen 0
  have y3_f1 := OB3.2.frozen 1
  have y3_f2 := OB3.2.frozen 2
  have y3_f3 := OB3.2.frozen 3
  have y3_f4 := OB3.2.frozen 4
  have y3_f5 := OB3.2.frozen 5
  have y4_0 : w2.cell? ⟨w.heap.size + 1, 0, none⟩ = some (.bool ba1) := OB4.2.cell 0
  have y4_1 : w2.cell? ⟨w.heap.size + 1, 1, none⟩ = some (.slice Aa1 na1 ca1) := OB4.2.cell 1
  have y4_2 : w2.cell? ⟨w.heap.size + 1, 2, none⟩ = some (.slice Ba1 ma1 oa1) := OB4.2.cell 2
  have y4_3 : w2.cell? ⟨w.heap.size + 1, 3, none⟩ = some (.bool bb1) := OB4.2.cell 3
  have y4_4 : w2.cell? ⟨w.heap.size + 1, 4, none⟩ = some (.slice Ab1 nb1 cb1) := OB4.2.cell 4
  have y4_5 : w2.cell? ⟨w.heap.size + 1, 5, none⟩ = some (.slice Bb1 mb1 ob1) := OB4.2.cell 5
  have y4_f0 := OB4.2.frozen 0
  have y4_f1 := OB4.2.frozen 1
  have y4_f2 := OB4.2.frozen 2
  have y4_f3 := OB4.2.frozen 3
  have y4_f4 := OB4.2.frozen 4
  have y4_f5 := OB4.2.frozen 5
  go_wp2_with fail
  refine (HTA.out _ _ _ (T0.on B) (T1.on B)).mono ?_
  rintro e w3 ⟨v7, rfl, I7, P3⟩
  clear y3_0 y3_f0 y3_1 y3_f1 y3_2 y3_f2 y3_3 y3_f3 y3_4 y3_f4 y3_5 y3_f5
  clear y4_0 y4_f0 y4_1 y4_f1 y4_2 y4_f2 y4_3 y4_f3 y4_4 y4_f4 y4_5 y4_f5
  clear y5_0 y5_f0 y5_1 y5_f1 y5_2 y5_f2
  replace OB3 := And.intro OB3.1 (OB3.2.on P3)
  replace OB4 := And.intro OB4.1 (OB4.2.on P3)
  replace OB5 := And.intro OB5.1 (OB5.2.on P3)
  replace B := B.trans P3
  obtain ⟨ba7, Aa7, na7, ca7, Ba7, ma7, oa7, bb7, Ab7, nb7, cb7, Bb7, mb7, ob7, rfl, IL7, IH7⟩ := id I7
  clear IL7 IH7
  have PA := (On.refl w3).alloc (.cells #[.bool ba7, .slice Aa7 na7 ca7, .slice Ba7 ma7 oa7, .bool bb7, .slice Ab7 nb7 cb7, .slice Bb7 mb7 ob7] 26)
  have B0_7 := B.size
  replace OB3 := And.intro OB3.1 (OB3.2.on PA)
  replace OB4 := And.intro OB4.1 (OB4.2.on PA)
  replace OB5 := And.intro OB5.1 (OB5.2.on PA)
  replace B := B.trans PA
  replace I7 := I7.on PA
  have OB7 : w.heap.size ≤ w3.heap.size ∧ _ := ⟨B0_7, Own.new w3 26 #[.bool ba7, .slice Aa7 na7 ca7, .slice Ba7 ma7 oa7, .bool bb7, .slice Ab7 nb7 cb7, .slice Bb7 mb7 ob7]⟩
  clear PA
  have y3_0 : (w3.alloc (.cells #[.bool ba7, .slice Aa7 na7 ca7, .slice Ba7 ma7 oa7, .bool bb7, .slice Ab7 nb7 cb7, .slice Bb7 mb7 ob7] 26)).cell? ⟨w.heap.size, 0, none⟩ = some (.bool ba0) := OB3.2.cell 0
  have y3_1 : (w3.alloc (.cells #[.bool ba7, .slice Aa7 na7 ca7, .slice Ba7 ma7 oa7, .bool bb7, .slice Ab7 nb7 cb7, .slice Bb7 mb7 ob7] 26)).cell? ⟨w.heap.size, 1, none⟩ = some (.slice Aa0 na0 ca0) := OB3.2.cell 1
  have y3_2 : (w3.alloc (.cells #[.bool ba7, .slice Aa7 na7 ca7, .slice Ba7 ma7 oa7, .bool bb7, .slice Ab7 nb7 cb7, .slice Bb7 mb7 ob7] 26)).cell? ⟨w.heap.size, 2, none⟩ = some (.slice Ba0 ma0 oa0) := OB3.2.cell 2
  have y3_3 : (w3.alloc (.cells #[.bool ba7, .slice Aa7 na7 ca7, .slice Ba7 ma7 oa7, .bool bb7, .slice Ab7 nb7 cb7, .slice Bb7 mb7 ob7] 26)).cell? ⟨w.heap.size, 3, none⟩ = some (.bool bb0) := OB3.2.cell 3
  have y3_4 : (w3.alloc (.cells #[.bool ba7, .slice Aa7 na7 ca7, .slice Ba7 ma7 oa7, .bool bb7, .slice Ab7 nb7 cb7, .slice Bb7 mb7 ob7] 26)).cell? ⟨w.heap.size, 4, none⟩ = some (.slice Ab0 nb0 cb0) := OB3.2.cell 4
  have y3_5 : (w3.alloc (.cells #[.bool ba7, .slice Aa7 na7 ca7, .slice Ba7 ma7 oa7, .bool bb7, .slice Ab7 nb7 cb7, .slice Bb7 mb7 ob7] 26)).cell? ⟨w.heap.size, 5, none⟩ = some (.slice Bb0 mb0 ob0) := OB3.2.cell 5
  have y3_f0 := OB3.2.frozen 0
  have y3_f1 := OB3.2.frozen 1
  have y3_f2 := OB3.2.frozen 2
  have y3_f3 := OB3.2.frozen 3
  have y3_f4 := OB3.2.frozen 4
  have y3_f5 := OB3.2.frozen 5
  have y4_0 : (w3.alloc (.cells #[.bool ba7, .slice Aa7 na7 ca7, .slice Ba7 ma7 oa7, .bool bb7, .slice Ab7 nb7 cb7, .slice Bb7 mb7 ob7] 26)).cell? ⟨w.heap.size + 1, 0, none⟩ = some (.bool ba1) := OB4.2.cell 0
  have y4_1 : (w3.alloc (.cells #[.bool ba7, .slice Aa7 na7 ca7, .slice Ba7 ma7 oa7, .bool bb7, .slice Ab7 nb7 cb7, .slice Bb7 mb7 ob7] 26)).cell? ⟨w.heap.size + 1, 1, none⟩ = some (.slice Aa1 na1 ca1) := OB4.2.cell 1
  have y4_2 : (w3.alloc (.cells #[.bool ba7, .slice Aa7 na7 ca7, .slice Ba7 ma7 oa7, .bool bb7, .slice Ab7 nb7 cb7, .slice Bb7 mb7 ob7] 26)).cell? ⟨w.heap.size + 1, 2, none⟩ = some (.slice Ba1 ma1 oa1) := OB4.2.cell 2
  have y4_3 : (w3.alloc (.cells #[.bool ba7, .slice Aa7 na7 ca7, .slice Ba7 ma7 oa7, .bool bb7, .slice Ab7 nb7 cb7, .slice Bb7 mb7 ob7] 26)).cell? ⟨w.heap.size + 1, 3, none⟩ = some (.bool bb1) := OB4.2.cell 3
  have y4_4 : (w3.alloc (.cells #[.bool ba7, .slice Aa7 na7 ca7, .slice Ba7 ma7 oa7, .bool bb7, .slice Ab7 nb7 cb7, .slice Bb7 mb7 ob7] 26)).cell? ⟨w.heap.size + 1, 4, none⟩ = some (.slice Ab1 nb1 cb1) := OB4.2.cell 4
  have y4_5 : (w3.alloc (.cells #[.bool ba7, .slice Aa7 na7 ca7, .slice Ba7 ma7 oa7, .bool bb7, .slice Ab7 nb7 cb7, .slice Bb7 mb7 ob7] 26)).cell? ⟨w.heap.size + 1, 5, none⟩ = some (.slice Bb1 mb1 ob1) := OB4.2.cell 5
  have y4_f0 := OB4.2.frozen 0
  have y4_f1 := OB4.2.frozen 1
  have y4_f2 := OB4.2.frozen 2
  have y4_f3 := OB4.2.frozen 3
  have y4_f4 := OB4.2.frozen 4
  have y4_f5 := OB4.2.frozen 5
  go_wp2_with fail
  refine (HTB.out _ _ _ (T0.on B) (T1.on B)).mono ?_
  rintro e w4 ⟨v9, rfl, I9, P4⟩
  clear y3_0 y3_f0 y3_1 y3_f1 y3_2 y3_f2 y3_3 y3_f3 y3_4 y3_f4 y3_5 y3_f5
  clear y4_0 y4_f0 y4_1 y4_f1 y4_2 y4_f2 y4_3 y4_f3 y4_4 y4_f4 y4_5 y4_f5
  replace OB3 := And.intro OB3.1 (OB3.2.on P4)
  replace OB4 := And.intro OB4.1 (OB4.2.on P4)
  replace OB5 := And.intro OB5.1 (OB5.2.on P4)
  replace OB7 := And.intro OB7.1 (OB7.2.on P4)
  replace B := B.trans P4
  replace I7 := I7.on P4
  obtain ⟨ba9, Aa9, na9, ca9, Ba9, ma9, oa9, bb9, Ab9, nb9, cb9, Bb9, mb9, ob9, rfl, IL9, IH9⟩ := id I9
  clear IL9 IH9
  have PA := (On.refl w4).alloc (.cells #[.bool ba9, .slice Aa9 na9 ca9, .slice Ba9 ma9 oa9, .bool bb9, .slice Ab9 nb9 cb9, .slice Bb9 mb9 ob9] 26)
  have B0_9 := B.size
  replace OB3 := And.intro OB3.1 (OB3.2.on PA)
  replace OB4 := And.intro OB4.1 (OB4.2.on PA)
  replace OB5 := And.intro OB5.1 (OB5.2.on PA)
  replace OB7 := And.intro OB7.1 (OB7.2.on PA)
  replace B := B.trans PA
  replace I9 := I9.on PA
  have OB9 : w.heap.size ≤ w4.heap.size ∧ _ := ⟨B0_9, Own.new w4 26 #[.bool ba9, .slice Aa9 na9 ca9, .slice Ba9 ma9 oa9, .bool bb9, .slice Ab9 nb9 cb9, .slice Bb9 mb9 ob9]⟩
  clear PA
  replace I7 := I7.on ((On.refl w4).alloc (.cells #[.bool ba9, .slice Aa9 na9 ca9, .slice Ba9 ma9 oa9, .bool bb9, .slice Ab9 nb9 cb9, .slice Bb9 mb9 ob9] 26))
  clear P3 P4
  go_wp2
  refine wp_region_facts (by kernel_rfl) w [Fact.eq (.agg #[.bool ba0, .slice Aa0 na0 ca0, .slice Ba0 ma0 oa0, .bool bb0, .slice Ab0 nb0 cb0, .slice Bb0 mb0 ob0]), Fact.eq (.agg #[.bool ba1, .slice Aa1 na1 ca1, .slice Ba1 ma1 oa1, .bool bb1, .slice Ab1 nb1 cb1, .slice Bb1 mb1 ob1]), Fact.sp (rmin p0 p1) (rmax q0 q1) (6), Fact.eq (.agg #[.bool ba0, .slice Aa0 na0 ca0, .slice Ba0 ma0 oa0, .bool bb0, .slice Ab0 nb0 cb0, .slice Bb0 mb0 ob0]), Fact.eq (.agg #[.bool ba1, .slice Aa1 na1 ca1, .slice Ba1 ma1 oa1, .bool bb1, .slice Ab1 nb1 cb1, .slice Bb1 mb1 ob1]), Fact.sp (rmin p0 p1) (rmax q0 q1) (6), Fact.eq (.bool true), Fact.eq (.bool true), Fact.eq (.agg #[.bool ba7, .slice Aa7 na7 ca7, .slice Ba7 ma7 oa7, .bool bb7, .slice Ab7 nb7 cb7, .slice Bb7 mb7 ob7]), Fact.eq (.agg #[.bool ba9, .slice Aa9 na9 ca9, .slice Ba9 ma9 oa9, .bool bb9, .slice Ab9 nb9 cb9, .slice Bb9 mb9 ob9]), Fact.eq (.bool true), Fact.eq (.bool true), Fact.eq (.bool true), Fact.eq (me), Fact.eq (.int .i64 mz), Fact.eq (.int .i64 mz), Fact.eq (.bool true), Fact.eq (.bool true), Fact.eq (.bool true), Fact.eq (.agg #[.bool ba0, .slice Aa0 na0 ca0, .slice Ba0 ma0 oa0, .bool bb0, .slice Ab0 nb0 cb0, .slice Bb0 mb0 ob0]), Fact.eq (.agg #[.bool b2, .slice A2 n2 c2, .slice D2 m2 e2]), Fact.eq (.bool bc), Fact.eq (.agg #[.bool ba0, .slice Aa0 na0 ca0, .slice Ba0 ma0 oa0, .bool bb0, .slice Ab0 nb0 cb0, .slice Bb0 mb0 ob0]), Fact.eq (.agg #[.bool b2, .slice A2 n2 c2, .slice D2 m2 e2]), Fact.eq (.bool bc), Fact.eq (.bool true), Fact.eq (.bool true), Fact.eq (.bool true), Fact.eq (.agg #[.bool ba0, .slice Aa0 na0 ca0, .slice Ba0 ma0 oa0, .bool bb0, .slice Ab0 nb0 cb0, .slice Bb0 mb0 ob0]), Fact.eq (.agg #[.bool ba1, .slice Aa1 na1 ca1, .slice Ba1 ma1 oa1, .bool bb1, .slice Ab1 nb1 cb1, .slice Bb1 mb1 ob1]), Fact.eq (.bool bi), Fact.eq (.agg #[.bool ba0, .slice Aa0 na0 ca0, .slice Ba0 ma0 oa0, .bool bb0, .slice Ab0 nb0 cb0, .slice Bb0 mb0 ob0]), Fact.eq (.agg #[.bool ba1, .slice Aa1 na1 ca1, .slice Ba1 ma1 oa1, .bool bb1, .slice Ab1 nb1 cb1, .slice Bb1 mb1 ob1]), Fact.eq (.bool bi), Fact.eq (.bool true), Fact.eq (.bool true), Fact.eq (.bool true)] [Fact.any, Fact.any, Fact.any, Fact.any, Fact.any] [⟨37, 3, 26, 37, #[.bool ba0, .slice Aa0 na0 ca0, .slice Ba0 ma0 oa0, .bool bb0, .slice Ab0 nb0 cb0, .slice Bb0 mb0 ob0]⟩, ⟨37, 4, 26, 37, #[.bool ba1, .slice Aa1 na1 ca1, .slice Ba1 ma1 oa1, .bool bb1, .slice Ab1 nb1 cb1, .slice Bb1 mb1 ob1]⟩, ⟨37, 5, 24, 37, #[.bool b2, .slice A2 n2 c2, .slice D2 m2 e2]⟩, ⟨37, 7, 26, 37, #[.bool ba7, .slice Aa7 na7 ca7, .slice Ba7 ma7 oa7, .bool bb7, .slice Ab7 nb7 cb7, .slice Bb7 mb7 ob7]⟩, ⟨37, 9, 26, 37, #[.bool ba9, .slice Aa9 na9 ca9, .slice Ba9 ma9 oa9, .bool bb9, .slice Ab9 nb9 cb9, .slice Bb9 mb9 ob9]⟩] [w.heap.size, w.heap.size + 1, w.heap.size + 2, w3.heap.size, w4.heap.size] [none, none, none, none, none, none, some 6, none, none, none, none, none, none, none, none, none, none, none, none, none, none, none, none, none, none, none, none, none, none, none, none, none, none, none, none, none, none, none, none, none, none, none, none, none, some 44, some 45, some 46, some 47, some 48, some 49, some 50, some 51, some 52, some 53, some 54, some 55, some 56, some 57, some 58, some 59, some 60, some 61, some 62, some 63, some 64, some 65, some 66, some 67, some 68, some 69, some 70, some 71, some 72, some 73, some 74, some 75, some 76, some 77, some 78, some 79] (by kernel_rfl) (by kernel_rfl) (by kernel_rfl) rfl B ?_ ?_ ?_ ?_ ?_
  · exact ⟨fun _ => ⟨by simp, rfl, OB3⟩, fun _ => ⟨by simp, rfl, OB4⟩, fun _ => ⟨by simp, rfl, OB5⟩, fun _ => ⟨by simp, rfl, OB7⟩, fun _ => ⟨by simp, rfl, OB9⟩, trivial⟩
  · exact .inl ⟨Nat.le_refl _, Nat.le_refl _, Nat.le_refl _, Nat.le_refl _, Nat.le_refl _, trivial⟩
  · exact ⟨⟨noWords_S _ _ _ _ _ _ _ _ _ _ _ _ _ _, (.inl (Nat.le_refl _)), (.inl (Nat.le_refl _))⟩, ⟨noWords_S _ _ _ _ _ _ _ _ _ _ _ _ _ _, (.inl (Nat.le_refl _)), (.inl (Nat.le_refl _))⟩, ⟨noWords_R _ _ _ _ _ _ _, (.inl (Nat.le_refl _)), (.inl (Nat.le_refl _))⟩, ⟨noWords_S _ _ _ _ _ _ _ _ _ _ _ _ _ _, (.inl (Nat.le_refl _)), (.inl (Nat.le_refl _))⟩, ⟨noWords_S _ _ _ _ _ _ _ _ _ _ _ _ _ _, (.inl (Nat.le_refl _)), (.inl (Nat.le_refl _))⟩, trivial⟩
  · refine ⟨?_, ?_, ?_, ?_, ?_, ?_, ?_, ?_, ?_, ?_, ?_, ?_, ?_, ?_, ?_, ?_, ?_, ?_, ?_, ?_, ?_, ?_, ?_, ?_, ?_, ?_, ?_, ?_, ?_, ?_, ?_, ?_, ?_, ?_, ?_, ?_, ?_, trivial⟩
    · exact .inr fun a w hp => ob_yes rfl (ob_loadSp (hp.box (k := 0) rfl (Nat.le_refl _) (.inl (Nat.le_refl _)) (by kernel_rfl) rfl).1 (hp.box (k := 0) rfl (Nat.le_refl _) (.inl (Nat.le_refl _)) (by kernel_rfl) rfl).2 rfl)
    · exact .inr fun a w hp => ob_yes rfl (ob_loadSp (hp.box (k := 1) rfl (Nat.le_refl _) (.inl (Nat.le_refl _)) (by kernel_rfl) rfl).1 (hp.box (k := 1) rfl (Nat.le_refl _) (.inl (Nat.le_refl _)) (by kernel_rfl) rfl).2 rfl)
    · refine .inr fun a w hp => ob_yes rfl ?_
      have h44 : a.tmps.getD 44 undef = .agg #[.bool ba0, .slice Aa0 na0 ca0, .slice Ba0 ma0 oa0, .bool bb0, .slice Ab0 nb0 cb0, .slice Bb0 mb0 ob0] := (hp.fact 0 44 (by kernel_rfl) rfl)
      have h45 : a.tmps.getD 45 undef = .agg #[.bool ba1, .slice Aa1 na1 ca1, .slice Ba1 ma1 oa1, .bool bb1, .slice Ab1 nb1 cb1, .slice Bb1 mb1 ob1] := (hp.fact 1 45 (by kernel_rfl) rfl)
      unfold Does
      go_simp
      refine (sphull_any _ _ _ p0 q0 p1 q1 6 (T0.on hp.on) (T1.on hp.on) (by decide) (by decide)).mono ?_
      rintro e w' ⟨u, rfl, I8, P8⟩
      exact ⟨_, rfl, P8, I8⟩
    · exact .inr fun a w hp => ob_yes rfl (ob_loadSp (hp.box (k := 0) rfl (Nat.le_refl _) (.inl (Nat.le_refl _)) (by kernel_rfl) rfl).1 (hp.box (k := 0) rfl (Nat.le_refl _) (.inl (Nat.le_refl _)) (by kernel_rfl) rfl).2 rfl)
    · exact .inr fun a w hp => ob_yes rfl (ob_loadSp (hp.box (k := 1) rfl (Nat.le_refl _) (.inl (Nat.le_refl _)) (by kernel_rfl) rfl).1 (hp.box (k := 1) rfl (Nat.le_refl _) (.inl (Nat.le_refl _)) (by kernel_rfl) rfl).2 rfl)
    · refine .inr fun a w hp => ob_yes rfl ?_
      have h47 : a.tmps.getD 47 undef = .agg #[.bool ba0, .slice Aa0 na0 ca0, .slice Ba0 ma0 oa0, .bool bb0, .slice Ab0 nb0 cb0, .slice Bb0 mb0 ob0] := (hp.fact 3 47 (by kernel_rfl) rfl)
      have h48 : a.tmps.getD 48 undef = .agg #[.bool ba1, .slice Aa1 na1 ca1, .slice Ba1 ma1 oa1, .bool bb1, .slice Ab1 nb1 cb1, .slice Bb1 mb1 ob1] := (hp.fact 4 48 (by kernel_rfl) rfl)
      unfold Does
      go_simp
      refine (rhull3_any _ _ _ p0 q0 p1 q1 6 (T0.on hp.on) (T1.on hp.on) (by decide) (by decide)).mono ?_
      rintro e w' ⟨u, rfl, I8, P8⟩
      exact ⟨_, rfl, P8, I8⟩
    · refine .inr fun a w hp => ob_yes rfl ?_
      have h46 : IsS w (a.tmps.getD 46 undef) (rmin p0 p1) (rmax q0 q1) (6) := (hp.fact 2 46 (by kernel_rfl) rfl)
      obtain ⟨v46, e46⟩ : ∃ v, a.tmps.getD 46 undef = v := ⟨_, rfl⟩
      rw [e46] at h46
      have h49 : IsS w (a.tmps.getD 49 undef) (rmin p0 p1) (rmax q0 q1) (6) := (hp.fact 5 49 (by kernel_rfl) rfl)
      obtain ⟨v49, e49⟩ : ∃ v, a.tmps.getD 49 undef = v := ⟨_, rfl⟩
      rw [e49] at h49
      unfold Does
      go_simp
      refine (ssame_any _ _ _ _ _ _ _ h46 h49).mono ?_
      rintro e w' ⟨rfl, P8⟩
      exact ⟨_, rfl, P8, rfl⟩
    · exact .inr fun a w hp => ob_yes rfl (ob_move (hp.fact 6 50 (by kernel_rfl) rfl))
    · exact .inr fun a w hp => ob_yes (wanted_yes (P := Tryz.prog) (j := 7) (d := 51) (b := true) rfl rfl (hp.fact 7 51 (by kernel_rfl) rfl)) (ob_loadSp (hp.box (k := 3) rfl (Nat.le_refl _) (.inl (Nat.le_refl _)) (by kernel_rfl) rfl).1 (hp.box (k := 3) rfl (Nat.le_refl _) (.inl (Nat.le_refl _)) (by kernel_rfl) rfl).2 rfl)
    · exact .inr fun a w hp => ob_yes (wanted_yes (P := Tryz.prog) (j := 7) (d := 51) (b := true) rfl rfl (hp.fact 7 51 (by kernel_rfl) rfl)) (ob_loadSp (hp.box (k := 4) rfl (Nat.le_refl _) (.inl (Nat.le_refl _)) (by kernel_rfl) rfl).1 (hp.box (k := 4) rfl (Nat.le_refl _) (.inl (Nat.le_refl _)) (by kernel_rfl) rfl).2 rfl)
    · refine .inr fun a w hp => ob_yes (wanted_yes (P := Tryz.prog) (j := 7) (d := 51) (b := true) rfl rfl (hp.fact 7 51 (by kernel_rfl) rfl)) ?_
      have h52 : a.tmps.getD 52 undef = .agg #[.bool ba7, .slice Aa7 na7 ca7, .slice Ba7 ma7 oa7, .bool bb7, .slice Ab7 nb7 cb7, .slice Bb7 mb7 ob7] := (hp.fact 8 52 (by kernel_rfl) rfl)
      have h53 : a.tmps.getD 53 undef = .agg #[.bool ba9, .slice Aa9 na9 ca9, .slice Ba9 ma9 oa9, .bool bb9, .slice Ab9 nb9 cb9, .slice Bb9 mb9 ob9] := (hp.fact 9 53 (by kernel_rfl) rfl)
      unfold Does
      go_simp
      refine (ssame_any _ _ _ _ _ _ _ (I7.kept hp.kept) (I9.kept hp.kept)).mono ?_
      rintro e w' ⟨rfl, P8⟩
      exact ⟨_, rfl, P8, rfl⟩
    · refine .inr fun a w hp => ob_yes rfl ?_
      have h51 : a.tmps.getD 51 undef = .bool true := (hp.fact 7 51 (by kernel_rfl) rfl)
      have h54 : a.tmps.getD 54 undef = .bool true := (hp.fact 10 54 (by kernel_rfl) rfl)
      unfold Does
      go_simp
      exact ⟨_, rfl, On.refl _, rfl⟩
    · exact .inr fun a w hp => ob_yes rfl (ob_move (hp.fact 11 55 (by kernel_rfl) rfl))
    · exact .inr fun a w hp => ob_yes (wanted_yes (P := Tryz.prog) (j := 12) (d := 56) (b := true) rfl rfl (hp.fact 12 56 (by kernel_rfl) rfl)) (ob_move (hp.same 8 (by kernel_rfl)))
    · refine .inr fun a w hp => ob_yes (wanted_yes (P := Tryz.prog) (j := 12) (d := 56) (b := true) rfl rfl (hp.fact 12 56 (by kernel_rfl) rfl)) ?_
      have h57 : a.tmps.getD 57 undef = me := (hp.fact 13 57 (by kernel_rfl) rfl)
      unfold Does
      go_simp
      refine (HTC.out _).mono ?_
      rintro e w' ⟨rfl, rfl⟩
      exact ⟨_, rfl, On.refl _, rfl⟩
    · exact .inr fun a w hp => ob_yes (wanted_yes (P := Tryz.prog) (j := 12) (d := 56) (b := true) rfl rfl (hp.fact 12 56 (by kernel_rfl) rfl)) (ob_move (hp.same 10 (by kernel_rfl)))
    · refine .inr fun a w hp => ob_yes (wanted_yes (P := Tryz.prog) (j := 12) (d := 56) (b := true) rfl rfl (hp.fact 12 56 (by kernel_rfl) rfl)) ?_
      have h58 : a.tmps.getD 58 undef = .int .i64 mz := (hp.fact 14 58 (by kernel_rfl) rfl)
      have h59 : a.tmps.getD 59 undef = .int .i64 mz := (hp.fact 15 59 (by kernel_rfl) rfl)
      unfold Does
      go_simp
      exact ⟨_, rfl, On.refl _, by show Value.bool _ = Value.bool _; first | rfl | (simp; done)⟩
    · refine .inr fun a w hp => ob_yes rfl ?_
      have h56 : a.tmps.getD 56 undef = .bool true := (hp.fact 12 56 (by kernel_rfl) rfl)
      have h60 : a.tmps.getD 60 undef = .bool true := (hp.fact 16 60 (by kernel_rfl) rfl)
      unfold Does
      go_simp
      exact ⟨_, rfl, On.refl _, rfl⟩
    · exact .inr fun a w hp => ob_yes rfl (ob_move (hp.fact 17 61 (by kernel_rfl) rfl))
    · exact .inr fun a w hp => ob_yes (wanted_yes (P := Tryz.prog) (j := 18) (d := 62) (b := true) rfl rfl (hp.fact 18 62 (by kernel_rfl) rfl)) (ob_loadSp (hp.box (k := 0) rfl (Nat.le_refl _) (.inl (Nat.le_refl _)) (by kernel_rfl) rfl).1 (hp.box (k := 0) rfl (Nat.le_refl _) (.inl (Nat.le_refl _)) (by kernel_rfl) rfl).2 rfl)
    · exact .inr fun a w hp => ob_yes (wanted_yes (P := Tryz.prog) (j := 18) (d := 62) (b := true) rfl rfl (hp.fact 18 62 (by kernel_rfl) rfl)) (ob_loadR (hp.box (k := 2) rfl (Nat.le_refl _) (.inl (Nat.le_refl _)) (by kernel_rfl) rfl).1 (hp.box (k := 2) rfl (Nat.le_refl _) (.inl (Nat.le_refl _)) (by kernel_rfl) rfl).2 rfl)
    · refine .inr fun a w hp => ob_yes (wanted_yes (P := Tryz.prog) (j := 18) (d := 62) (b := true) rfl rfl (hp.fact 18 62 (by kernel_rfl) rfl)) ?_
      have h63 : a.tmps.getD 63 undef = .agg #[.bool ba0, .slice Aa0 na0 ca0, .slice Ba0 ma0 oa0, .bool bb0, .slice Ab0 nb0 cb0, .slice Bb0 mb0 ob0] := (hp.fact 19 63 (by kernel_rfl) rfl)
      have h64 : a.tmps.getD 64 undef = .agg #[.bool b2, .slice A2 n2 c2, .slice D2 m2 e2] := (hp.fact 20 64 (by kernel_rfl) rfl)
      unfold Does
      go_simp
      refine (spcont_any _ _ _ p0 q0 x 6 (T0.on hp.on) (F.on hp.on) (by decide) (by decide)).mono ?_
      rintro e w' ⟨rfl, P8⟩
      exact ⟨_, rfl, P8, congrArg Value.bool HBC.out⟩
    · exact .inr fun a w hp => ob_yes (wanted_yes (P := Tryz.prog) (j := 18) (d := 62) (b := true) rfl rfl (hp.fact 18 62 (by kernel_rfl) rfl)) (ob_loadSp (hp.box (k := 0) rfl (Nat.le_refl _) (.inl (Nat.le_refl _)) (by kernel_rfl) rfl).1 (hp.box (k := 0) rfl (Nat.le_refl _) (.inl (Nat.le_refl _)) (by kernel_rfl) rfl).2 rfl)
    · exact .inr fun a w hp => ob_yes (wanted_yes (P := Tryz.prog) (j := 18) (d := 62) (b := true) rfl rfl (hp.fact 18 62 (by kernel_rfl) rfl)) (ob_loadR (hp.box (k := 2) rfl (Nat.le_refl _) (.inl (Nat.le_refl _)) (by kernel_rfl) rfl).1 (hp.box (k := 2) rfl (Nat.le_refl _) (.inl (Nat.le_refl _)) (by kernel_rfl) rfl).2 rfl)
    · refine .inr fun a w hp => ob_yes (wanted_yes (P := Tryz.prog) (j := 18) (d := 62) (b := true) rfl rfl (hp.fact 18 62 (by kernel_rfl) rfl)) ?_
      have h66 : a.tmps.getD 66 undef = .agg #[.bool ba0, .slice Aa0 na0 ca0, .slice Ba0 ma0 oa0, .bool bb0, .slice Ab0 nb0 cb0, .slice Bb0 mb0 ob0] := (hp.fact 22 66 (by kernel_rfl) rfl)
      have h67 : a.tmps.getD 67 undef = .agg #[.bool b2, .slice A2 n2 c2, .slice D2 m2 e2] := (hp.fact 23 67 (by kernel_rfl) rfl)
      unfold Does
      go_simp
      refine (rcont3_any _ _ _ p0 q0 x 6 (T0.on hp.on) (F.on hp.on) (by decide) (by decide)).mono ?_
      rintro e w' ⟨rfl, P8⟩
      exact ⟨_, rfl, P8, congrArg Value.bool HBC.out⟩
    · refine .inr fun a w hp => ob_yes (wanted_yes (P := Tryz.prog) (j := 18) (d := 62) (b := true) rfl rfl (hp.fact 18 62 (by kernel_rfl) rfl)) ?_
      have h65 : a.tmps.getD 65 undef = .bool bc := (hp.fact 21 65 (by kernel_rfl) rfl)
      have h68 : a.tmps.getD 68 undef = .bool bc := (hp.fact 24 68 (by kernel_rfl) rfl)
      unfold Does
      go_simp
      exact ⟨_, rfl, On.refl _, by show Value.bool _ = Value.bool _; first | rfl | (simp; done)⟩
    · refine .inr fun a w hp => ob_yes rfl ?_
      have h62 : a.tmps.getD 62 undef = .bool true := (hp.fact 18 62 (by kernel_rfl) rfl)
      have h69 : a.tmps.getD 69 undef = .bool true := (hp.fact 25 69 (by kernel_rfl) rfl)
      unfold Does
      go_simp
      exact ⟨_, rfl, On.refl _, rfl⟩
    · exact .inr fun a w hp => ob_yes rfl (ob_move (hp.fact 26 70 (by kernel_rfl) rfl))
    · exact .inr fun a w hp => ob_yes (wanted_yes (P := Tryz.prog) (j := 27) (d := 71) (b := true) rfl rfl (hp.fact 27 71 (by kernel_rfl) rfl)) (ob_loadSp (hp.box (k := 0) rfl (Nat.le_refl _) (.inl (Nat.le_refl _)) (by kernel_rfl) rfl).1 (hp.box (k := 0) rfl (Nat.le_refl _) (.inl (Nat.le_refl _)) (by kernel_rfl) rfl).2 rfl)
    · exact .inr fun a w hp => ob_yes (wanted_yes (P := Tryz.prog) (j := 27) (d := 71) (b := true) rfl rfl (hp.fact 27 71 (by kernel_rfl) rfl)) (ob_loadSp (hp.box (k := 1) rfl (Nat.le_refl _) (.inl (Nat.le_refl _)) (by kernel_rfl) rfl).1 (hp.box (k := 1) rfl (Nat.le_refl _) (.inl (Nat.le_refl _)) (by kernel_rfl) rfl).2 rfl)
    · refine .inr fun a w hp => ob_yes (wanted_yes (P := Tryz.prog) (j := 27) (d := 71) (b := true) rfl rfl (hp.fact 27 71 (by kernel_rfl) rfl)) ?_
      have h72 : a.tmps.getD 72 undef = .agg #[.bool ba0, .slice Aa0 na0 ca0, .slice Ba0 ma0 oa0, .bool bb0, .slice Ab0 nb0 cb0, .slice Bb0 mb0 ob0] := (hp.fact 28 72 (by kernel_rfl) rfl)
      have h73 : a.tmps.getD 73 undef = .agg #[.bool ba1, .slice Aa1 na1 ca1, .slice Ba1 ma1 oa1, .bool bb1, .slice Ab1 nb1 cb1, .slice Bb1 mb1 ob1] := (hp.fact 29 73 (by kernel_rfl) rfl)
      unfold Does
      go_simp
      refine (spins_any _ _ _ p0 q0 p1 q1 6 (T0.on hp.on) (T1.on hp.on) (by decide) (by decide)).mono ?_
      rintro e w' ⟨rfl, P8⟩
      exact ⟨_, rfl, P8, congrArg Value.bool HBI.out⟩
    · exact .inr fun a w hp => ob_yes (wanted_yes (P := Tryz.prog) (j := 27) (d := 71) (b := true) rfl rfl (hp.fact 27 71 (by kernel_rfl) rfl)) (ob_loadSp (hp.box (k := 0) rfl (Nat.le_refl _) (.inl (Nat.le_refl _)) (by kernel_rfl) rfl).1 (hp.box (k := 0) rfl (Nat.le_refl _) (.inl (Nat.le_refl _)) (by kernel_rfl) rfl).2 rfl)
    · exact .inr fun a w hp => ob_yes (wanted_yes (P := Tryz.prog) (j := 27) (d := 71) (b := true) rfl rfl (hp.fact 27 71 (by kernel_rfl) rfl)) (ob_loadSp (hp.box (k := 1) rfl (Nat.le_refl _) (.inl (Nat.le_refl _)) (by kernel_rfl) rfl).1 (hp.box (k := 1) rfl (Nat.le_refl _) (.inl (Nat.le_refl _)) (by kernel_rfl) rfl).2 rfl)
    · refine .inr fun a w hp => ob_yes (wanted_yes (P := Tryz.prog) (j := 27) (d := 71) (b := true) rfl rfl (hp.fact 27 71 (by kernel_rfl) rfl)) ?_
      have h75 : a.tmps.getD 75 undef = .agg #[.bool ba0, .slice Aa0 na0 ca0, .slice Ba0 ma0 oa0, .bool bb0, .slice Ab0 nb0 cb0, .slice Bb0 mb0 ob0] := (hp.fact 31 75 (by kernel_rfl) rfl)
      have h76 : a.tmps.getD 76 undef = .agg #[.bool ba1, .slice Aa1 na1 ca1, .slice Ba1 ma1 oa1, .bool bb1, .slice Ab1 nb1 cb1, .slice Bb1 mb1 ob1] := (hp.fact 32 76 (by kernel_rfl) rfl)
      unfold Does
      go_simp
      refine (rins3_any _ _ _ p0 q0 p1 q1 6 (T0.on hp.on) (T1.on hp.on) (by decide) (by decide)).mono ?_
      rintro e w' ⟨rfl, P8⟩
      exact ⟨_, rfl, P8, congrArg Value.bool HBI.out⟩
    · refine .inr fun a w hp => ob_yes (wanted_yes (P := Tryz.prog) (j := 27) (d := 71) (b := true) rfl rfl (hp.fact 27 71 (by kernel_rfl) rfl)) ?_
      have h74 : a.tmps.getD 74 undef = .bool bi := (hp.fact 30 74 (by kernel_rfl) rfl)
      have h77 : a.tmps.getD 77 undef = .bool bi := (hp.fact 33 77 (by kernel_rfl) rfl)
      unfold Does
      go_simp
      exact ⟨_, rfl, On.refl _, by show Value.bool _ = Value.bool _; first | rfl | (simp; done)⟩
    · refine .inr fun a w hp => ob_yes rfl ?_
      have h71 : a.tmps.getD 71 undef = .bool true := (hp.fact 27 71 (by kernel_rfl) rfl)
      have h78 : a.tmps.getD 78 undef = .bool true := (hp.fact 34 78 (by kernel_rfl) rfl)
      unfold Does
      go_simp
      exact ⟨_, rfl, On.refl _, rfl⟩
    · exact .inr fun a w hp => ob_yes rfl (ob_assign (hp.fact 35 79 (by kernel_rfl) rfl))
  · intro f wr hon hk hf hb hap
    obtain ⟨q0, q1, q2, q3, q4, qz⟩ := hb
    clear qz
    have O3 : Own wr (w.heap.size) 26 #[.bool ba0, .slice Aa0 na0 ca0, .slice Ba0 ma0 oa0, .bool bb0, .slice Ab0 nb0 cb0, .slice Bb0 mb0 ob0] := q0
    have c3_0 : wr.cell? ⟨w.heap.size, 0, none⟩ = some (.bool ba0) := O3.cell 0
    have z3_0 := O3.frozen 0
    have c3_1 : wr.cell? ⟨w.heap.size, 1, none⟩ = some (.slice Aa0 na0 ca0) := O3.cell 1
    have z3_1 := O3.frozen 1
    have c3_2 : wr.cell? ⟨w.heap.size, 2, none⟩ = some (.slice Ba0 ma0 oa0) := O3.cell 2
    have z3_2 := O3.frozen 2
    have c3_3 : wr.cell? ⟨w.heap.size, 3, none⟩ = some (.bool bb0) := O3.cell 3
    have z3_3 := O3.frozen 3
    have c3_4 : wr.cell? ⟨w.heap.size, 4, none⟩ = some (.slice Ab0 nb0 cb0) := O3.cell 4
    have z3_4 := O3.frozen 4
    have c3_5 : wr.cell? ⟨w.heap.size, 5, none⟩ = some (.slice Bb0 mb0 ob0) := O3.cell 5
    have z3_5 := O3.frozen 5
    clear q0
    have O4 : Own wr (w.heap.size + 1) 26 #[.bool ba1, .slice Aa1 na1 ca1, .slice Ba1 ma1 oa1, .bool bb1, .slice Ab1 nb1 cb1, .slice Bb1 mb1 ob1] := q1
    have c4_0 : wr.cell? ⟨w.heap.size + 1, 0, none⟩ = some (.bool ba1) := O4.cell 0
    have z4_0 := O4.frozen 0
    have c4_1 : wr.cell? ⟨w.heap.size + 1, 1, none⟩ = some (.slice Aa1 na1 ca1) := O4.cell 1
    have z4_1 := O4.frozen 1
    have c4_2 : wr.cell? ⟨w.heap.size + 1, 2, none⟩ = some (.slice Ba1 ma1 oa1) := O4.cell 2
    have z4_2 := O4.frozen 2
    have c4_3 : wr.cell? ⟨w.heap.size + 1, 3, none⟩ = some (.bool bb1) := O4.cell 3
    have z4_3 := O4.frozen 3
    have c4_4 : wr.cell? ⟨w.heap.size + 1, 4, none⟩ = some (.slice Ab1 nb1 cb1) := O4.cell 4
    have z4_4 := O4.frozen 4
    have c4_5 : wr.cell? ⟨w.heap.size + 1, 5, none⟩ = some (.slice Bb1 mb1 ob1) := O4.cell 5
    have z4_5 := O4.frozen 5
    clear q1
    have O5 : Own wr (w.heap.size + 2) 24 #[.bool b2, .slice A2 n2 c2, .slice D2 m2 e2] := q2
    have c5_0 : wr.cell? ⟨w.heap.size + 2, 0, none⟩ = some (.bool b2) := O5.cell 0
    have z5_0 := O5.frozen 0
    have c5_1 : wr.cell? ⟨w.heap.size + 2, 1, none⟩ = some (.slice A2 n2 c2) := O5.cell 1
    have z5_1 := O5.frozen 1
    have c5_2 : wr.cell? ⟨w.heap.size + 2, 2, none⟩ = some (.slice D2 m2 e2) := O5.cell 2
    have z5_2 := O5.frozen 2
    clear q2
    have O7 : Own wr (w3.heap.size) 26 #[.bool ba7, .slice Aa7 na7 ca7, .slice Ba7 ma7 oa7, .bool bb7, .slice Ab7 nb7 cb7, .slice Bb7 mb7 ob7] := q3
    have c7_0 : wr.cell? ⟨w3.heap.size, 0, none⟩ = some (.bool ba7) := O7.cell 0
    have z7_0 := O7.frozen 0
    have c7_1 : wr.cell? ⟨w3.heap.size, 1, none⟩ = some (.slice Aa7 na7 ca7) := O7.cell 1
    have z7_1 := O7.frozen 1
    have c7_2 : wr.cell? ⟨w3.heap.size, 2, none⟩ = some (.slice Ba7 ma7 oa7) := O7.cell 2
    have z7_2 := O7.frozen 2
    have c7_3 : wr.cell? ⟨w3.heap.size, 3, none⟩ = some (.bool bb7) := O7.cell 3
    have z7_3 := O7.frozen 3
    have c7_4 : wr.cell? ⟨w3.heap.size, 4, none⟩ = some (.slice Ab7 nb7 cb7) := O7.cell 4
    have z7_4 := O7.frozen 4
    have c7_5 : wr.cell? ⟨w3.heap.size, 5, none⟩ = some (.slice Bb7 mb7 ob7) := O7.cell 5
    have z7_5 := O7.frozen 5
    clear q3
    have O9 : Own wr (w4.heap.size) 26 #[.bool ba9, .slice Aa9 na9 ca9, .slice Ba9 ma9 oa9, .bool bb9, .slice Ab9 nb9 cb9, .slice Bb9 mb9 ob9] := q4
    have c9_0 : wr.cell? ⟨w4.heap.size, 0, none⟩ = some (.bool ba9) := O9.cell 0
    have z9_0 := O9.frozen 0
    have c9_1 : wr.cell? ⟨w4.heap.size, 1, none⟩ = some (.slice Aa9 na9 ca9) := O9.cell 1
    have z9_1 := O9.frozen 1
    have c9_2 : wr.cell? ⟨w4.heap.size, 2, none⟩ = some (.slice Ba9 ma9 oa9) := O9.cell 2
    have z9_2 := O9.frozen 2
    have c9_3 : wr.cell? ⟨w4.heap.size, 3, none⟩ = some (.bool bb9) := O9.cell 3
    have z9_3 := O9.frozen 3
    have c9_4 : wr.cell? ⟨w4.heap.size, 4, none⟩ = some (.slice Ab9 nb9 cb9) := O9.cell 4
    have z9_4 := O9.frozen 4
    have c9_5 : wr.cell? ⟨w4.heap.size, 5, none⟩ = some (.slice Bb9 mb9 ob9) := O9.cell 5
    have z9_5 := O9.frozen 5
    clear q4
    have e6 : f 6 = .bool true := hf 36 6 rfl
    clear hf hap
    simp only [fillL, e6]
    clear e6
    go_wp2
    go_ret
    exact ⟨rfl, hon⟩
theorem sets_any (w : World) (ba0 : Bool) (Aa0 : Option Addr) (na0 ca0 : Nat) (Ba0 : Option Addr) (ma0 oa0 : Nat) (bb0 : Bool) (Ab0 : Option Addr) (nb0 cb0 : Nat) (Bb0 : Option Addr) (mb0 ob0 : Nat) (xs0 ys0 us0 vs0 : List Nat) (R0 : Rd w Aa0 na0 ca0 xs0) (S0 : Rd w Ba0 ma0 oa0 ys0) (U0 : Rd w Ab0 nb0 cb0 us0) (V0 : Rd w Bb0 mb0 ob0 vs0) (ba1 : Bool) (Aa1 : Option Addr) (na1 ca1 : Nat) (Ba1 : Option Addr) (ma1 oa1 : Nat) (bb1 : Bool) (Ab1 : Option Addr) (nb1 cb1 : Nat) (Bb1 : Option Addr) (mb1 ob1 : Nat) (xs1 ys1 us1 vs1 : List Nat) (R1 : Rd w Aa1 na1 ca1 xs1) (S1 : Rd w Ba1 ma1 oa1 ys1) (U1 : Rd w Ab1 nb1 cb1 us1) (V1 : Rd w Bb1 mb1 ob1 vs1) (b2 : Bool) (A2 D2 : Option Addr) (n2 c2 m2 e2 : Nat) (xs2 ys2 : List Nat) (R2 : Rd w A2 n2 c2 xs2) (S2 : Rd w D2 m2 e2 ys2) :
    Calls Tryz.prog 6 #[.agg #[.bool ba0, .slice Aa0 na0 ca0, .slice Ba0 ma0 oa0, .bool bb0, .slice Ab0 nb0 cb0, .slice Bb0 mb0 ob0], .agg #[.bool ba1, .slice Aa1 na1 ca1, .slice Ba1 ma1 oa1, .bool bb1, .slice Ab1 nb1 cb1, .slice Bb1 mb1 ob1], .agg #[.bool b2, .slice A2 n2 c2, .slice D2 m2 e2]] w fun e w' => e = .returned (.bool true) ∧ On w w' := by
  by_cases hs : na0 ≤ 6 ∧ ma0 ≤ 6 ∧ nb0 ≤ 6 ∧ mb0 ≤ 6 ∧ na1 ≤ 6 ∧ ma1 ≤ 6 ∧ nb1 ≤ 6 ∧ mb1 ≤ 6
  · by_cases hn : n2 ≤ 6
    · by_cases hm : m2 ≤ 6
      · exact sets_main w ba0 Aa0 na0 ca0 Ba0 ma0 oa0 bb0 Ab0 nb0 cb0 Bb0 mb0 ob0 xs0 ys0 us0 vs0 R0 S0 U0 V0 ba1 Aa1 na1 ca1 Ba1 ma1 oa1 bb1 Ab1 nb1 cb1 Bb1 mb1 ob1 xs1 ys1 us1 vs1 R1 S1 U1 V1 b2 A2 D2 n2 c2 m2 e2 xs2 ys2 R2 S2 hs hn hm
      · exact sets_den w ba0 Aa0 na0 ca0 Ba0 ma0 oa0 bb0 Ab0 nb0 cb0 Bb0 mb0 ob0 xs0 ys0 us0 vs0 R0 S0 U0 V0 ba1 Aa1 na1 ca1 Ba1 ma1 oa1 bb1 Ab1 nb1 cb1 Bb1 mb1 ob1 xs1 ys1 us1 vs1 R1 S1 U1 V1 b2 A2 D2 n2 c2 m2 e2 xs2 ys2 R2 S2 hs hn (by omega)
    · exact sets_num w ba0 Aa0 na0 ca0 Ba0 ma0 oa0 bb0 Ab0 nb0 cb0 Bb0 mb0 ob0 xs0 ys0 us0 vs0 R0 S0 U0 V0 ba1 Aa1 na1 ca1 Ba1 ma1 oa1 bb1 Ab1 nb1 cb1 Bb1 mb1 ob1 xs1 ys1 us1 vs1 R1 S1 U1 V1 b2 A2 D2 n2 c2 m2 e2 xs2 ys2 R2 S2 hs (by omega)
  · have : ∃ (mi : Nat) (qi : Nat × Nat × Nat × Nat), [(na0, ma0, nb0, mb0), (na1, ma1, nb1, mb1)][mi]? = some qi ∧ Big qi := by
      by_cases h0 : Big (na0, ma0, nb0, mb0)
      · exact ⟨0, _, rfl, h0⟩
      by_cases h1 : Big (na1, ma1, nb1, mb1)
      · exact ⟨1, _, rfl, h1⟩
      exfalso
      apply hs
      simp only [Big] at h0 h1
      omega
    obtain ⟨mi, qi, h1, h2⟩ := this
    exact sets_large w ba0 Aa0 na0 ca0 Ba0 ma0 oa0 bb0 Ab0 nb0 cb0 Bb0 mb0 ob0 xs0 ys0 us0 vs0 R0 S0 U0 V0 ba1 Aa1 na1 ca1 Ba1 ma1 oa1 bb1 Ab1 nb1 cb1 Bb1 mb1 ob1 xs1 ys1 us1 vs1 R1 S1 U1 V1 b2 A2 D2 n2 c2 m2 e2 xs2 ys2 R2 S2 mi qi h1 h2
end Num
end Go.Proofs.YtkchpagjkgmpmaaGreat
