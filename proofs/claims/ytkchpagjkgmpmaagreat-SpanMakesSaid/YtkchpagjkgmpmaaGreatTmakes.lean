/-
  SpanMakes, walked.
-/
import Derived.Test.YtkchpagjkgmpmaaGreatSrq
import Derived.Test.YtkchpagjkgmpmaaGreatSrft
namespace Go.Proofs.YtkchpagjkgmpmaaGreat
open Go.RowKit
set_option linter.unusedVariables false
namespace Num
theorem SpPost2.wide {w : World} {lo hi : Rat} {L M : Nat} {er : Value} {e : Ending} {w' : World} (h : SpPost2 w lo hi L er e w') (k : L ≤ M) : SpPost2 w lo hi M er e w' := by
  obtain ⟨v, h1, h2, h3⟩ := h
  exact ⟨v, h1, h2.wide k, h3⟩
theorem smk_twin (r q : Rat) : ∃ (lo hi : Rat) (er : Value) (z : Int), (∀ w v v', Fld w v r 6 → Fld w v' q 6 → Calls Tryz.prog 9 #[v, v'] w (SpPost2 w lo hi 13 er)) ∧ (∀ w v v', Fld w v r 6 → Fld w v' q 6 → Calls Tryz.prog 10 #[v, v'] w (SpPost2 w lo hi 13 (.int .i64 z))) ∧ ∀ w, Calls Tryz.prog 14 #[er] w fun e w' => e = .returned (.int .i64 z) ∧ w = w' := by
  by_cases hq : q < r
  · exact ⟨0, 0, _, 3, fun w v v' h k => (smake_gt w v v' r q 6 h k (by decide) (by decide) hq).mono fun e w' h => h.wide (by decide), fun w v v' h k => (rmake3_gt w v v' r q 6 h k (by decide) (by decide) hq).mono fun e w' h => h.wide (by decide), fun w => num_err w 3⟩
  · exact ⟨_, _, _, 0, fun w v v' h k => smake_ok w v v' r q 6 h k (by decide) (by decide) (Rat.not_lt.1 hq), fun w v v' h k => (rmake3_ok w v v' r q 6 h k (by decide) (by decide) (Rat.not_lt.1 hq)).mono fun e w' h => h.wide (by decide), fun w => num_nil w⟩
set_option maxRecDepth 100000 in
set_option maxHeartbeats 1600000 in
theorem smakes_large (w : World) (ba0 : Bool) (Aa0 : Option Addr) (na0 ca0 : Nat) (Ba0 : Option Addr) (ma0 oa0 : Nat) (bb0 : Bool) (Ab0 : Option Addr) (nb0 cb0 : Nat) (Bb0 : Option Addr) (mb0 ob0 : Nat) (xs0 ys0 us0 vs0 : List Nat) (R0 : Rd w Aa0 na0 ca0 xs0) (S0 : Rd w Ba0 ma0 oa0 ys0) (U0 : Rd w Ab0 nb0 cb0 us0) (V0 : Rd w Bb0 mb0 ob0 vs0)  (mi : Nat) (qi : Nat × Nat × Nat × Nat) (hmi : [(na0, ma0, nb0, mb0)][mi]? = some qi) (hyi : Big qi) :
    Calls Tryz.prog 3 #[.agg #[.bool ba0, .slice Aa0 na0 ca0, .slice Ba0 ma0 oa0, .bool bb0, .slice Ab0 nb0 cb0, .slice Bb0 mb0 ob0]] w fun e w' => e = .returned (.bool true) ∧ On w w' := by
  have HMI := Lib.hid hmi
  have HYI := Lib.hid hyi
  clear hmi hyi
  have B : On w (w.alloc (.cells #[.bool ba0, .slice Aa0 na0 ca0, .slice Ba0 ma0 oa0, .bool bb0, .slice Ab0 nb0 cb0, .slice Bb0 mb0 ob0] 26)) := On.alloc (On.refl w) _
  have OB1 : w.heap.size ≤ w.heap.size ∧ Own (w.alloc (.cells #[.bool ba0, .slice Aa0 na0 ca0, .slice Ba0 ma0 oa0, .bool bb0, .slice Ab0 nb0 cb0, .slice Bb0 mb0 ob0] 26)) (w.heap.size) 26 #[.bool ba0, .slice Aa0 na0 ca0, .slice Ba0 ma0 oa0, .bool bb0, .slice Ab0 nb0 cb0, .slice Bb0 mb0 ob0] := ⟨by omega, (Own.at_ w (w.heap.size) (by simp) 26 #[.bool ba0, .slice Aa0 na0 ca0, .slice Ba0 ma0 oa0, .bool bb0, .slice Ab0 nb0 cb0, .slice Bb0 mb0 ob0])⟩
  go_enter Tryz.func3, Tryz.ntmps3
  go_wp2_with fail
  refine (awake03 _).mono ?_
  rintro e w1 ⟨rfl, P1⟩
  replace OB1 := And.intro OB1.1 (OB1.2.on P1)
  replace B := B.trans P1
  have y1_0 : w1.cell? ⟨w.heap.size, 0, none⟩ = some (.bool ba0) := OB1.2.cell 0
  have y1_1 : w1.cell? ⟨w.heap.size, 1, none⟩ = some (.slice Aa0 na0 ca0) := OB1.2.cell 1
  have y1_2 : w1.cell? ⟨w.heap.size, 2, none⟩ = some (.slice Ba0 ma0 oa0) := OB1.2.cell 2
  have y1_3 : w1.cell? ⟨w.heap.size, 3, none⟩ = some (.bool bb0) := OB1.2.cell 3
  have y1_4 : w1.cell? ⟨w.heap.size, 4, none⟩ = some (.slice Ab0 nb0 cb0) := OB1.2.cell 4
  have y1_5 : w1.cell? ⟨w.heap.size, 5, none⟩ = some (.slice Bb0 mb0 ob0) := OB1.2.cell 5
  have y1_f0 := OB1.2.frozen 0
  have y1_f1 := OB1.2.frozen 1
  have y1_f2 := OB1.2.frozen 2
  have y1_f3 := OB1.2.frozen 3
  have y1_f4 := OB1.2.frozen 4
  have y1_f5 := OB1.2.frozen 5
  go_wp2_with fail
  clear y1_0 y1_f0 y1_1 y1_f1 y1_2 y1_f2 y1_3 y1_f3 y1_4 y1_f4 y1_5 y1_f5
  have B1 := (On.refl w1).alloc (.cells #[.bool ba0, .slice Aa0 na0 ca0, .slice Ba0 ma0 oa0, .bool bb0, .slice Ab0 nb0 cb0, .slice Bb0 mb0 ob0] 26)
  replace OB1 := And.intro OB1.1 (OB1.2.on B1)
  replace B := B.trans B1
  have hlens := slens1 ba0 Aa0 na0 ca0 Ba0 ma0 oa0 bb0 Ab0 nb0 cb0 Bb0 mb0 ob0 xs0 ys0 us0 vs0 (R0.on B) (S0.on B) (U0.on B) (V0.on B) (Own.new w1 26 #[.bool ba0, .slice Aa0 na0 ca0, .slice Ba0 ma0 oa0, .bool bb0, .slice Ab0 nb0 cb0, .slice Bb0 mb0 ob0])
  refine (slarge_yes _ _ 1 1 _ hlens rfl (by decide) (by decide) (by decide) mi qi HMI.out HYI.out).mono ?_
  rintro e w2 ⟨rfl, P2⟩
  clear hlens B1 P1
  replace OB1 := And.intro OB1.1 (OB1.2.on P2)
  replace B := B.trans P2
  clear P2
  go_wp2_with fail
  refine (awake03 _).mono ?_
  rintro e w3 ⟨rfl, P3⟩
  go_wp2
  go_ret
  exact ⟨rfl, B.trans P3⟩
set_option maxRecDepth 100000 in
set_option maxHeartbeats 1600000 in
theorem smakes_main (w : World) (ba0 : Bool) (Aa0 : Option Addr) (na0 ca0 : Nat) (Ba0 : Option Addr) (ma0 oa0 : Nat) (bb0 : Bool) (Ab0 : Option Addr) (nb0 cb0 : Nat) (Bb0 : Option Addr) (mb0 ob0 : Nat) (xs0 ys0 us0 vs0 : List Nat) (R0 : Rd w Aa0 na0 ca0 xs0) (S0 : Rd w Ba0 ma0 oa0 ys0) (U0 : Rd w Ab0 nb0 cb0 us0) (V0 : Rd w Bb0 mb0 ob0 vs0)  (hs : na0 ≤ 6 ∧ ma0 ≤ 6 ∧ nb0 ≤ 6 ∧ mb0 ≤ 6)  :
    Calls Tryz.prog 3 #[.agg #[.bool ba0, .slice Aa0 na0 ca0, .slice Ba0 ma0 oa0, .bool bb0, .slice Ab0 nb0 cb0, .slice Bb0 mb0 ob0]] w fun e w' => e = .returned (.bool true) ∧ On w w' := by
  obtain ⟨lo0, hi0, f0, Q0⟩ : ∃ lo hi f, SRaw w (.agg #[.bool ba0, .slice Aa0 na0 ca0, .slice Ba0 ma0 oa0, .bool bb0, .slice Ab0 nb0 cb0, .slice Bb0 mb0 ob0]) lo hi f 6 := ⟨_, _, _, ba0, Aa0, na0, ca0, Ba0, ma0, oa0, bb0, Ab0, nb0, cb0, Bb0, mb0, ob0, xs0, ys0, us0, vs0, rfl, R0, S0, U0, V0, by omega, by omega, by omega, by omega, rfl, rfl, rfl⟩
  obtain ⟨p0, q0, T0⟩ : ∃ p q, Sp w (.agg #[.bool ba0, .slice Aa0 na0 ca0, .slice Ba0 ma0 oa0, .bool bb0, .slice Ab0 nb0 cb0, .slice Bb0 mb0 ob0]) p q 6 := ⟨_, _, _, _, _, Q0, rfl, rfl⟩
  obtain ⟨r, hr⟩ : ∃ x, raw ba0 xs0 ys0 = x := ⟨_, rfl⟩
  obtain ⟨q, hq⟩ : ∃ x, raw bb0 us0 vs0 = x := ⟨_, rfl⟩
  have F0 : Fld w (.agg #[.bool ba0, .slice Aa0 na0 ca0, .slice Ba0 ma0 oa0]) r 6 := Fld.mk3 R0 S0 (by omega) (by omega) hr
  have F1 : Fld w (.agg #[.bool bb0, .slice Ab0 nb0 cb0, .slice Bb0 mb0 ob0]) q 6 := Fld.mk3 U0 V0 (by omega) (by omega) hq
  clear hr hq
  obtain ⟨ml, mh, me, mz, TA, TB, TC⟩ := smk_twin r q
  have HTA := Lib.hid TA
  have HTB := Lib.hid TB
  have HTC := Lib.hid TC
  clear TA TB TC
  have HSM : Hid (∀ p ∈ [(na0, ma0, nb0, mb0)], ¬ Big p) := Lib.hid (by intro p hp; simp at hp; subst hp; unfold Big; simp only; omega)
  have B : On w (w.alloc (.cells #[.bool ba0, .slice Aa0 na0 ca0, .slice Ba0 ma0 oa0, .bool bb0, .slice Ab0 nb0 cb0, .slice Bb0 mb0 ob0] 26)) := On.alloc (On.refl w) _
  have OB1 : w.heap.size ≤ w.heap.size ∧ Own (w.alloc (.cells #[.bool ba0, .slice Aa0 na0 ca0, .slice Ba0 ma0 oa0, .bool bb0, .slice Ab0 nb0 cb0, .slice Bb0 mb0 ob0] 26)) (w.heap.size) 26 #[.bool ba0, .slice Aa0 na0 ca0, .slice Ba0 ma0 oa0, .bool bb0, .slice Ab0 nb0 cb0, .slice Bb0 mb0 ob0] := ⟨by omega, (Own.at_ w (w.heap.size) (by simp) 26 #[.bool ba0, .slice Aa0 na0 ca0, .slice Ba0 ma0 oa0, .bool bb0, .slice Ab0 nb0 cb0, .slice Bb0 mb0 ob0])⟩
  go_enter Tryz.func3, Tryz.ntmps3
  go_wp2_with fail
  refine (awake03 _).mono ?_
  rintro e w1 ⟨rfl, P1⟩
  replace OB1 := And.intro OB1.1 (OB1.2.on P1)
  replace B := B.trans P1
  have y1_0 : w1.cell? ⟨w.heap.size, 0, none⟩ = some (.bool ba0) := OB1.2.cell 0
  have y1_1 : w1.cell? ⟨w.heap.size, 1, none⟩ = some (.slice Aa0 na0 ca0) := OB1.2.cell 1
  have y1_2 : w1.cell? ⟨w.heap.size, 2, none⟩ = some (.slice Ba0 ma0 oa0) := OB1.2.cell 2
  have y1_3 : w1.cell? ⟨w.heap.size, 3, none⟩ = some (.bool bb0) := OB1.2.cell 3
  have y1_4 : w1.cell? ⟨w.heap.size, 4, none⟩ = some (.slice Ab0 nb0 cb0) := OB1.2.cell 4
  have y1_5 : w1.cell? ⟨w.heap.size, 5, none⟩ = some (.slice Bb0 mb0 ob0) := OB1.2.cell 5
  have y1_f0 := OB1.2.frozen 0
  have y1_f1 := OB1.2.frozen 1
  have y1_f2 := OB1.2.frozen 2
  have y1_f3 := OB1.2.frozen 3
  have y1_f4 := OB1.2.frozen 4
  have y1_f5 := OB1.2.frozen 5
  go_wp2_with fail
  clear y1_0 y1_f0 y1_1 y1_f1 y1_2 y1_f2 y1_3 y1_f3 y1_4 y1_f4 y1_5 y1_f5
  have B1 := (On.refl w1).alloc (.cells #[.bool ba0, .slice Aa0 na0 ca0, .slice Ba0 ma0 oa0, .bool bb0, .slice Ab0 nb0 cb0, .slice Bb0 mb0 ob0] 26)
  replace OB1 := And.intro OB1.1 (OB1.2.on B1)
  replace B := B.trans B1
  have hlens := slens1 ba0 Aa0 na0 ca0 Ba0 ma0 oa0 bb0 Ab0 nb0 cb0 Bb0 mb0 ob0 xs0 ys0 us0 vs0 (R0.on B) (S0.on B) (U0.on B) (V0.on B) (Own.new w1 26 #[.bool ba0, .slice Aa0 na0 ca0, .slice Ba0 ma0 oa0, .bool bb0, .slice Ab0 nb0 cb0, .slice Bb0 mb0 ob0])
  refine (slarge_no _ _ 1 1 _ hlens rfl (by decide) (by decide) (by decide) HSM.out).mono ?_
  rintro e w2 ⟨rfl, P2⟩
  clear hlens B1 P1
  replace OB1 := And.intro OB1.1 (OB1.2.on P2)
  replace B := B.trans P2
  clear P2
  clear HSM
  have y1_0 : w2.cell? ⟨w.heap.size, 0, none⟩ = some (.bool ba0) := OB1.2.cell 0
  have y1_1 : w2.cell? ⟨w.heap.size, 1, none⟩ = some (.slice Aa0 na0 ca0) := OB1.2.cell 1
  have y1_2 : w2.cell? ⟨w.heap.size, 2, none⟩ = some (.slice Ba0 ma0 oa0) := OB1.2.cell 2
  have y1_3 : w2.cell? ⟨w.heap.size, 3, none⟩ = some (.bool bb0) := OB1.2.cell 3
  have y1_4 : w2.cell? ⟨w.heap.size, 4, none⟩ = some (.slice Ab0 nb0 cb0) := OB1.2.cell 4
  have y1_5 : w2.cell? ⟨w.heap.size, 5, none⟩ = some (.slice Bb0 mb0 ob0) := OB1.2.cell 5
  have y1_f0 := OB1.2.frozen 0
  have y1_f1 := OB1.2.frozen 1
  have y1_f2 := OB1.2.frozen 2
  have y1_f3 := OB1.2.frozen 3
  have y1_f4 := OB1.2.frozen 4
  have y1_f5 := OB1.2.frozen 5
  go_wp2_with fail
  refine (HTA.out _ _ _ (F0.on B) (F1.on B)).mono ?_
  rintro e w3 ⟨v3, rfl, I3, P3⟩
  clear y1_0 y1_f0 y1_1 y1_f1 y1_2 y1_f2 y1_3 y1_f3 y1_4 y1_f4 y1_5 y1_f5
  replace OB1 := And.intro OB1.1 (OB1.2.on P3)
  replace B := B.trans P3
  obtain ⟨ba3, Aa3, na3, ca3, Ba3, ma3, oa3, bb3, Ab3, nb3, cb3, Bb3, mb3, ob3, rfl, IL3, IH3⟩ := id I3
  clear IL3 IH3
  have PA := (On.refl w3).alloc (.cells #[.bool ba3, .slice Aa3 na3 ca3, .slice Ba3 ma3 oa3, .bool bb3, .slice Ab3 nb3 cb3, .slice Bb3 mb3 ob3] 26)
  have B0_3 := B.size
  replace OB1 := And.intro OB1.1 (OB1.2.on PA)
  replace B := B.trans PA
  replace I3 := I3.on PA
  have OB3 : w.heap.size ≤ w3.heap.size ∧ _ := ⟨B0_3, Own.new w3 26 #[.bool ba3, .slice Aa3 na3 ca3, .slice Ba3 ma3 oa3, .bool bb3, .slice Ab3 nb3 cb3, .slice Bb3 mb3 ob3]⟩
  clear PA
  have y1_0 : (w3.alloc (.cells #[.bool ba3, .slice Aa3 na3 ca3, .slice Ba3 ma3 oa3, .bool bb3, .slice Ab3 nb3 cb3, .slice Bb3 mb3 ob3] 26)).cell? ⟨w.heap.size, 0, none⟩ = some (.bool ba0) := OB1.2.cell 0
  have y1_1 : (w3.alloc (.cells #[.bool ba3, .slice Aa3 na3 ca3, .slice Ba3 ma3 oa3, .bool bb3, .slice Ab3 nb3 cb3, .slice Bb3 mb3 ob3] 26)).cell? ⟨w.heap.size, 1, none⟩ = some (.slice Aa0 na0 ca0) := OB1.2.cell 1
  have y1_2 : (w3.alloc (.cells #[.bool ba3, .slice Aa3 na3 ca3, .slice Ba3 ma3 oa3, .bool bb3, .slice Ab3 nb3 cb3, .slice Bb3 mb3 ob3] 26)).cell? ⟨w.heap.size, 2, none⟩ = some (.slice Ba0 ma0 oa0) := OB1.2.cell 2
  have y1_3 : (w3.alloc (.cells #[.bool ba3, .slice Aa3 na3 ca3, .slice Ba3 ma3 oa3, .bool bb3, .slice Ab3 nb3 cb3, .slice Bb3 mb3 ob3] 26)).cell? ⟨w.heap.size, 3, none⟩ = some (.bool bb0) := OB1.2.cell 3
  have y1_4 : (w3.alloc (.cells #[.bool ba3, .slice Aa3 na3 ca3, .slice Ba3 ma3 oa3, .bool bb3, .slice Ab3 nb3 cb3, .slice Bb3 mb3 ob3] 26)).cell? ⟨w.heap.size, 4, none⟩ = some (.slice Ab0 nb0 cb0) := OB1.2.cell 4
  have y1_5 : (w3.alloc (.cells #[.bool ba3, .slice Aa3 na3 ca3, .slice Ba3 ma3 oa3, .bool bb3, .slice Ab3 nb3 cb3, .slice Bb3 mb3 ob3] 26)).cell? ⟨w.heap.size, 5, none⟩ = some (.slice Bb0 mb0 ob0) := OB1.2.cell 5
  have y1_f0 := OB1.2.frozen 0
  have y1_f1 := OB1.2.frozen 1
  have y1_f2 := OB1.2.frozen 2
  have y1_f3 := OB1.2.frozen 3
  have y1_f4 := OB1.2.frozen 4
  have y1_f5 := OB1.2.frozen 5
  go_wp2_with fail
  refine (HTB.out _ _ _ (F0.on B) (F1.on B)).mono ?_
  rintro e w4 ⟨v5, rfl, I5, P4⟩
  clear y1_0 y1_f0 y1_1 y1_f1 y1_2 y1_f2 y1_3 y1_f3 y1_4 y1_f4 y1_5 y1_f5
  replace OB1 := And.intro OB1.1 (OB1.2.on P4)
  replace OB3 := And.intro OB3.1 (OB3.2.on P4)
  replace B := B.trans P4
  replace I3 := I3.on P4
  obtain ⟨ba5, Aa5, na5, ca5, Ba5, ma5, oa5, bb5, Ab5, nb5, cb5, Bb5, mb5, ob5, rfl, IL5, IH5⟩ := id I5
  clear IL5 IH5
  have PA := (On.refl w4).alloc (.cells #[.bool ba5, .slice Aa5 na5 ca5, .slice Ba5 ma5 oa5, .bool bb5, .slice Ab5 nb5 cb5, .slice Bb5 mb5 ob5] 26)
  have B0_5 := B.size
  replace OB1 := And.intro OB1.1 (OB1.2.on PA)
  replace OB3 := And.intro OB3.1 (OB3.2.on PA)
  replace B := B.trans PA
  replace I5 := I5.on PA
  have OB5 : w.heap.size ≤ w4.heap.size ∧ _ := ⟨B0_5, Own.new w4 26 #[.bool ba5, .slice Aa5 na5 ca5, .slice Ba5 ma5 oa5, .bool bb5, .slice Ab5 nb5 cb5, .slice Bb5 mb5 ob5]⟩
  clear PA
  replace I3 := I3.on ((On.refl w4).alloc (.cells #[.bool ba5, .slice Aa5 na5 ca5, .slice Ba5 ma5 oa5, .bool bb5, .slice Ab5 nb5 cb5, .slice Bb5 mb5 ob5] 26))
  clear P3 P4
  go_wp2
  refine wp_region_facts (by kernel_rfl) w [Fact.eq (.agg #[.bool ba0, .slice Aa0 na0 ca0, .slice Ba0 ma0 oa0, .bool bb0, .slice Ab0 nb0 cb0, .slice Bb0 mb0 ob0]), Fact.eq (.bool f0), Fact.eq (.agg #[.bool ba0, .slice Aa0 na0 ca0, .slice Ba0 ma0 oa0, .bool bb0, .slice Ab0 nb0 cb0, .slice Bb0 mb0 ob0]), Fact.eq (.bool f0), Fact.eq (.bool true), Fact.eq (.bool true), Fact.eq (.agg #[.bool ba3, .slice Aa3 na3 ca3, .slice Ba3 ma3 oa3, .bool bb3, .slice Ab3 nb3 cb3, .slice Bb3 mb3 ob3]), Fact.eq (.agg #[.bool ba5, .slice Aa5 na5 ca5, .slice Ba5 ma5 oa5, .bool bb5, .slice Ab5 nb5 cb5, .slice Bb5 mb5 ob5]), Fact.eq (.bool true), Fact.eq (.bool true), Fact.eq (.bool true), Fact.eq (me), Fact.eq (.int .i64 mz), Fact.eq (.int .i64 mz), Fact.eq (.bool true), Fact.eq (.bool true), Fact.eq (.bool true), Fact.eq (.pointer (some ⟨w.heap.size, 0, none⟩)), Fact.eq (.agg #[.bool ba0, .slice Aa0 na0 ca0, .slice Ba0 ma0 oa0]), Fact.sp (r) (r) (13), Fact.eq (.pointer (some ⟨w.heap.size, 0, none⟩)), Fact.eq (.agg #[.bool ba0, .slice Aa0 na0 ca0, .slice Ba0 ma0 oa0]), Fact.sp (r) (r) (6), Fact.eq (.bool true), Fact.eq (.bool true), Fact.eq (.bool true), Fact.eq (.agg #[.bool ba0, .slice Aa0 na0 ca0, .slice Ba0 ma0 oa0, .bool bb0, .slice Ab0 nb0 cb0, .slice Bb0 mb0 ob0]), Fact.rat (q0 - p0) (13), Fact.eq (.agg #[.bool ba0, .slice Aa0 na0 ca0, .slice Ba0 ma0 oa0, .bool bb0, .slice Ab0 nb0 cb0, .slice Bb0 mb0 ob0]), Fact.rat (q0 - p0) (13), Fact.eq (.bool true), Fact.eq (.bool true), Fact.eq (.bool true), Fact.eq (.agg #[.bool ba0, .slice Aa0 na0 ca0, .slice Ba0 ma0 oa0, .bool bb0, .slice Ab0 nb0 cb0, .slice Bb0 mb0 ob0]), Fact.strP (fun BS => STx p0 q0 BS), Fact.eq (.agg #[.bool ba0, .slice Aa0 na0 ca0, .slice Ba0 ma0 oa0, .bool bb0, .slice Ab0 nb0 cb0, .slice Bb0 mb0 ob0]), Fact.strP (fun BS => STx p0 q0 BS), Fact.eq (.bool true), Fact.eq (.bool true), Fact.eq (.bool true)] [Fact.any, Fact.any, Fact.any] [⟨40, 1, 26, 40, #[.bool ba0, .slice Aa0 na0 ca0, .slice Ba0 ma0 oa0, .bool bb0, .slice Ab0 nb0 cb0, .slice Bb0 mb0 ob0]⟩, ⟨40, 3, 26, 40, #[.bool ba3, .slice Aa3 na3 ca3, .slice Ba3 ma3 oa3, .bool bb3, .slice Ab3 nb3 cb3, .slice Bb3 mb3 ob3]⟩, ⟨40, 5, 26, 40, #[.bool ba5, .slice Aa5 na5 ca5, .slice Ba5 ma5 oa5, .bool bb5, .slice Ab5 nb5 cb5, .slice Bb5 mb5 ob5]⟩] [w.heap.size, w3.heap.size, w4.heap.size] [none, none, some 2, none, none, none, none, none, none, none, none, none, none, none, none, none, none, none, none, none, none, none, none, none, none, none, none, none, none, none, none, some 31, some 32, some 33, some 34, some 35, some 36, some 37, some 38, some 39, some 40, some 41, some 42, some 43, some 44, some 45, some 46, some 47, some 48, some 49, some 50, some 51, some 52, some 53, some 54, some 55, some 56, some 57, some 58, some 59, some 60, some 61, some 62, some 63, some 64, some 65, some 66, some 67, some 68, some 69] (by kernel_rfl) (by kernel_rfl) (by kernel_rfl) rfl B ?_ ?_ ?_ ?_ ?_
  · exact ⟨fun _ => ⟨by simp, rfl, OB1⟩, fun _ => ⟨by simp, rfl, OB3⟩, fun _ => ⟨by simp, rfl, OB5⟩, trivial⟩
  · exact .inl ⟨Nat.le_refl _, Nat.le_refl _, Nat.le_refl _, trivial⟩
  · exact ⟨⟨noWords_S _ _ _ _ _ _ _ _ _ _ _ _ _ _, (.inl (Nat.le_refl _)), (.inl (Nat.le_refl _))⟩, ⟨noWords_S _ _ _ _ _ _ _ _ _ _ _ _ _ _, (.inl (Nat.le_refl _)), (.inl (Nat.le_refl _))⟩, ⟨noWords_S _ _ _ _ _ _ _ _ _ _ _ _ _ _, (.inl (Nat.le_refl _)), (.inl (Nat.le_refl _))⟩, trivial⟩
  · refine ⟨?_, ?_, ?_, ?_, ?_, ?_, ?_, ?_, ?_, ?_, ?_, ?_, ?_, ?_, ?_, ?_, ?_, ?_, ?_, ?_, ?_, ?_, ?_, ?_, ?_, ?_, ?_, ?_, ?_, ?_, ?_, ?_, ?_, ?_, ?_, ?_, ?_, ?_, ?_, ?_, trivial⟩
    · exact .inr fun a w hp => ob_yes rfl (ob_loadSp (hp.box (k := 0) rfl (Nat.le_refl _) (.inl (Nat.le_refl _)) (by kernel_rfl) rfl).1 (hp.box (k := 0) rfl (Nat.le_refl _) (.inl (Nat.le_refl _)) (by kernel_rfl) rfl).2 rfl)
    · refine .inr fun a w hp => ob_yes rfl ?_
      have h31 : a.tmps.getD 31 undef = .agg #[.bool ba0, .slice Aa0 na0 ca0, .slice Ba0 ma0 oa0, .bool bb0, .slice Ab0 nb0 cb0, .slice Bb0 mb0 ob0] := (hp.fact 0 31 (by kernel_rfl) rfl)
      unfold Does
      go_simp
      refine (svalid_any _ _ _ _ _ 6 (Q0.on hp.on) (by decide)).mono ?_
      rintro e w' ⟨rfl, P8⟩
      exact ⟨_, rfl, P8, rfl⟩
    · exact .inr fun a w hp => ob_yes rfl (ob_loadSp (hp.box (k := 0) rfl (Nat.le_refl _) (.inl (Nat.le_refl _)) (by kernel_rfl) rfl).1 (hp.box (k := 0) rfl (Nat.le_refl _) (.inl (Nat.le_refl _)) (by kernel_rfl) rfl).2 rfl)
    · refine .inr fun a w hp => ob_yes rfl ?_
      have h33 : a.tmps.getD 33 undef = .agg #[.bool ba0, .slice Aa0 na0 ca0, .slice Ba0 ma0 oa0, .bool bb0, .slice Ab0 nb0 cb0, .slice Bb0 mb0 ob0] := (hp.fact 2 33 (by kernel_rfl) rfl)
      unfold Does
      go_simp
      refine (rvalid3_any _ _ _ _ _ 6 (Q0.on hp.on) (by decide) (by decide)).mono ?_
      rintro e w' ⟨rfl, P8⟩
      exact ⟨_, rfl, P8, rfl⟩
    · refine .inr fun a w hp => ob_yes rfl ?_
      have h32 : a.tmps.getD 32 undef = .bool f0 := (hp.fact 1 32 (by kernel_rfl) rfl)
      have h34 : a.tmps.getD 34 undef = .bool f0 := (hp.fact 3 34 (by kernel_rfl) rfl)
      unfold Does
      go_simp
      exact ⟨_, rfl, On.refl _, by show Value.bool _ = Value.bool _; first | rfl | (simp; done)⟩
    · exact .inr fun a w hp => ob_yes rfl (ob_move (hp.fact 4 35 (by kernel_rfl) rfl))
    · exact .inr fun a w hp => ob_yes (wanted_yes (P := Tryz.prog) (j := 5) (d := 36) (b := true) rfl rfl (hp.fact 5 36 (by kernel_rfl) rfl)) (ob_loadSp (hp.box (k := 1) rfl (Nat.le_refl _) (.inl (Nat.le_refl _)) (by kernel_rfl) rfl).1 (hp.box (k := 1) rfl (Nat.le_refl _) (.inl (Nat.le_refl _)) (by kernel_rfl) rfl).2 rfl)
    · exact .inr fun a w hp => ob_yes (wanted_yes (P := Tryz.prog) (j := 5) (d := 36) (b := true) rfl rfl (hp.fact 5 36 (by kernel_rfl) rfl)) (ob_loadSp (hp.box (k := 2) rfl (Nat.le_refl _) (.inl (Nat.le_refl _)) (by kernel_rfl) rfl).1 (hp.box (k := 2) rfl (Nat.le_refl _) (.inl (Nat.le_refl _)) (by kernel_rfl) rfl).2 rfl)
    · refine .inr fun a w hp => ob_yes (wanted_yes (P := Tryz.prog) (j := 5) (d := 36) (b := true) rfl rfl (hp.fact 5 36 (by kernel_rfl) rfl)) ?_
      have h37 : a.tmps.getD 37 undef = .agg #[.bool ba3, .slice Aa3 na3 ca3, .slice Ba3 ma3 oa3, .bool bb3, .slice Ab3 nb3 cb3, .slice Bb3 mb3 ob3] := (hp.fact 6 37 (by kernel_rfl) rfl)
      have h38 : a.tmps.getD 38 undef = .agg #[.bool ba5, .slice Aa5 na5 ca5, .slice Ba5 ma5 oa5, .bool bb5, .slice Ab5 nb5 cb5, .slice Bb5 mb5 ob5] := (hp.fact 7 38 (by kernel_rfl) rfl)
      unfold Does
      go_simp
      refine (ssame_any _ _ _ _ _ _ _ (I3.kept hp.kept) (I5.kept hp.kept)).mono ?_
      rintro e w' ⟨rfl, P8⟩
      exact ⟨_, rfl, P8, rfl⟩
    · refine .inr fun a w hp => ob_yes rfl ?_
      have h36 : a.tmps.getD 36 undef = .bool true := (hp.fact 5 36 (by kernel_rfl) rfl)
      have h39 : a.tmps.getD 39 undef = .bool true := (hp.fact 8 39 (by kernel_rfl) rfl)
      unfold Does
      go_simp
      exact ⟨_, rfl, On.refl _, rfl⟩
    · exact .inr fun a w hp => ob_yes rfl (ob_move (hp.fact 9 40 (by kernel_rfl) rfl))
    · exact .inr fun a w hp => ob_yes (wanted_yes (P := Tryz.prog) (j := 10) (d := 41) (b := true) rfl rfl (hp.fact 10 41 (by kernel_rfl) rfl)) (ob_move (hp.same 4 (by kernel_rfl)))
    · refine .inr fun a w hp => ob_yes (wanted_yes (P := Tryz.prog) (j := 10) (d := 41) (b := true) rfl rfl (hp.fact 10 41 (by kernel_rfl) rfl)) ?_
      have h42 : a.tmps.getD 42 undef = me := (hp.fact 11 42 (by kernel_rfl) rfl)
      unfold Does
      go_simp
      refine (HTC.out _).mono ?_
      rintro e w' ⟨rfl, rfl⟩
      exact ⟨_, rfl, On.refl _, rfl⟩
    · exact .inr fun a w hp => ob_yes (wanted_yes (P := Tryz.prog) (j := 10) (d := 41) (b := true) rfl rfl (hp.fact 10 41 (by kernel_rfl) rfl)) (ob_move (hp.same 6 (by kernel_rfl)))
    · refine .inr fun a w hp => ob_yes (wanted_yes (P := Tryz.prog) (j := 10) (d := 41) (b := true) rfl rfl (hp.fact 10 41 (by kernel_rfl) rfl)) ?_
      have h43 : a.tmps.getD 43 undef = .int .i64 mz := (hp.fact 12 43 (by kernel_rfl) rfl)
      have h44 : a.tmps.getD 44 undef = .int .i64 mz := (hp.fact 13 44 (by kernel_rfl) rfl)
      unfold Does
      go_simp
      exact ⟨_, rfl, On.refl _, by show Value.bool _ = Value.bool _; first | rfl | (simp; done)⟩
    · refine .inr fun a w hp => ob_yes rfl ?_
      have h41 : a.tmps.getD 41 undef = .bool true := (hp.fact 10 41 (by kernel_rfl) rfl)
      have h45 : a.tmps.getD 45 undef = .bool true := (hp.fact 14 45 (by kernel_rfl) rfl)
      unfold Does
      go_simp
      exact ⟨_, rfl, On.refl _, rfl⟩
    · exact .inr fun a w hp => ob_yes rfl (ob_move (hp.fact 15 46 (by kernel_rfl) rfl))
    · exact .inr fun a w hp => ob_yes (wanted_yes (P := Tryz.prog) (j := 16) (d := 47) (b := true) rfl rfl (hp.fact 16 47 (by kernel_rfl) rfl)) (ob_fieldS0 (hp.box (k := 0) rfl (Nat.le_refl _) (.inl (Nat.le_refl _)) (by kernel_rfl) rfl).1 rfl)
    · exact .inr fun a w hp => ob_yes (wanted_yes (P := Tryz.prog) (j := 16) (d := 47) (b := true) rfl rfl (hp.fact 16 47 (by kernel_rfl) rfl)) (ob_loadLo (hp.fact 17 48 (by kernel_rfl) rfl) (hp.box (k := 0) rfl (Nat.le_refl _) (.inl (Nat.le_refl _)) (by kernel_rfl) rfl).2 rfl)
    · refine .inr fun a w hp => ob_yes (wanted_yes (P := Tryz.prog) (j := 16) (d := 47) (b := true) rfl rfl (hp.fact 16 47 (by kernel_rfl) rfl)) ?_
      have h49 : a.tmps.getD 49 undef = .agg #[.bool ba0, .slice Aa0 na0 ca0, .slice Ba0 ma0 oa0] := (hp.fact 18 49 (by kernel_rfl) rfl)
      unfold Does
      go_simp
      refine (spoint_any _ _ r 6 (F0.on hp.on) (by decide) (by decide)).mono ?_
      rintro e w' ⟨u, rfl, I8, P8⟩
      exact ⟨_, rfl, P8, I8⟩
    · exact .inr fun a w hp => ob_yes (wanted_yes (P := Tryz.prog) (j := 16) (d := 47) (b := true) rfl rfl (hp.fact 16 47 (by kernel_rfl) rfl)) (ob_fieldS0 (hp.box (k := 0) rfl (Nat.le_refl _) (.inl (Nat.le_refl _)) (by kernel_rfl) rfl).1 rfl)
    · exact .inr fun a w hp => ob_yes (wanted_yes (P := Tryz.prog) (j := 16) (d := 47) (b := true) rfl rfl (hp.fact 16 47 (by kernel_rfl) rfl)) (ob_loadLo (hp.fact 20 51 (by kernel_rfl) rfl) (hp.box (k := 0) rfl (Nat.le_refl _) (.inl (Nat.le_refl _)) (by kernel_rfl) rfl).2 rfl)
    · refine .inr fun a w hp => ob_yes (wanted_yes (P := Tryz.prog) (j := 16) (d := 47) (b := true) rfl rfl (hp.fact 16 47 (by kernel_rfl) rfl)) ?_
      have h52 : a.tmps.getD 52 undef = .agg #[.bool ba0, .slice Aa0 na0 ca0, .slice Ba0 ma0 oa0] := (hp.fact 21 52 (by kernel_rfl) rfl)
      unfold Does
      go_simp
      refine (rpoint3_any _ _ r 6 (F0.on hp.on) (by decide) (by decide)).mono ?_
      rintro e w' ⟨u, rfl, I8, P8⟩
      exact ⟨_, rfl, P8, I8⟩
    · refine .inr fun a w hp => ob_yes (wanted_yes (P := Tryz.prog) (j := 16) (d := 47) (b := true) rfl rfl (hp.fact 16 47 (by kernel_rfl) rfl)) ?_
      have h50 : IsS w (a.tmps.getD 50 undef) (r) (r) (13) := (hp.fact 19 50 (by kernel_rfl) rfl)
      obtain ⟨v50, e50⟩ : ∃ v, a.tmps.getD 50 undef = v := ⟨_, rfl⟩
      rw [e50] at h50
      have h53 : IsS w (a.tmps.getD 53 undef) (r) (r) (6) := (hp.fact 22 53 (by kernel_rfl) rfl)
      obtain ⟨v53, e53⟩ : ∃ v, a.tmps.getD 53 undef = v := ⟨_, rfl⟩
      rw [e53] at h53
      unfold Does
      go_simp
      refine (ssame_any _ _ _ _ _ _ _ h50 h53).mono ?_
      rintro e w' ⟨rfl, P8⟩
      exact ⟨_, rfl, P8, rfl⟩
    · refine .inr fun a w hp => ob_yes rfl ?_
      have h47 : a.tmps.getD 47 undef = .bool true := (hp.fact 16 47 (by kernel_rfl) rfl)
      have h54 : a.tmps.getD 54 undef = .bool true := (hp.fact 23 54 (by kernel_rfl) rfl)
      unfold Does
      go_simp
      exact ⟨_, rfl, On.refl _, rfl⟩
    · exact .inr fun a w hp => ob_yes rfl (ob_move (hp.fact 24 55 (by kernel_rfl) rfl))
    · exact .inr fun a w hp => ob_yes (wanted_yes (P := Tryz.prog) (j := 25) (d := 56) (b := true) rfl rfl (hp.fact 25 56 (by kernel_rfl) rfl)) (ob_loadSp (hp.box (k := 0) rfl (Nat.le_refl _) (.inl (Nat.le_refl _)) (by kernel_rfl) rfl).1 (hp.box (k := 0) rfl (Nat.le_refl _) (.inl (Nat.le_refl _)) (by kernel_rfl) rfl).2 rfl)
    · refine .inr fun a w hp => ob_yes (wanted_yes (P := Tryz.prog) (j := 25) (d := 56) (b := true) rfl rfl (hp.fact 25 56 (by kernel_rfl) rfl)) ?_
      have h57 : a.tmps.getD 57 undef = .agg #[.bool ba0, .slice Aa0 na0 ca0, .slice Ba0 ma0 oa0, .bool bb0, .slice Ab0 nb0 cb0, .slice Bb0 mb0 ob0] := (hp.fact 26 57 (by kernel_rfl) rfl)
      unfold Does
      go_simp
      refine (spwidth_any _ _ p0 q0 6 (T0.on hp.on) (by decide) (by decide)).mono ?_
      rintro e w' ⟨u, rfl, I8, P8⟩
      exact ⟨_, rfl, P8, I8⟩
    · exact .inr fun a w hp => ob_yes (wanted_yes (P := Tryz.prog) (j := 25) (d := 56) (b := true) rfl rfl (hp.fact 25 56 (by kernel_rfl) rfl)) (ob_loadSp (hp.box (k := 0) rfl (Nat.le_refl _) (.inl (Nat.le_refl _)) (by kernel_rfl) rfl).1 (hp.box (k := 0) rfl (Nat.le_refl _) (.inl (Nat.le_refl _)) (by kernel_rfl) rfl).2 rfl)
    · refine .inr fun a w hp => ob_yes (wanted_yes (P := Tryz.prog) (j := 25) (d := 56) (b := true) rfl rfl (hp.fact 25 56 (by kernel_rfl) rfl)) ?_
      have h59 : a.tmps.getD 59 undef = .agg #[.bool ba0, .slice Aa0 na0 ca0, .slice Ba0 ma0 oa0, .bool bb0, .slice Ab0 nb0 cb0, .slice Bb0 mb0 ob0] := (hp.fact 28 59 (by kernel_rfl) rfl)
      unfold Does
      go_simp
      refine (rwidth3_any _ _ p0 q0 6 (T0.on hp.on) (by decide) (by decide)).mono ?_
      rintro e w' ⟨u, rfl, I8, P8⟩
      exact ⟨_, rfl, P8, I8⟩
    · refine .inr fun a w hp => ob_yes (wanted_yes (P := Tryz.prog) (j := 25) (d := 56) (b := true) rfl rfl (hp.fact 25 56 (by kernel_rfl) rfl)) ?_
      have h58 : IsR w (a.tmps.getD 58 undef) (q0 - p0) (13) := (hp.fact 27 58 (by kernel_rfl) rfl)
      obtain ⟨v58, e58⟩ : ∃ v, a.tmps.getD 58 undef = v := ⟨_, rfl⟩
      rw [e58] at h58
      have h60 : IsR w (a.tmps.getD 60 undef) (q0 - p0) (13) := (hp.fact 29 60 (by kernel_rfl) rfl)
      obtain ⟨v60, e60⟩ : ∃ v, a.tmps.getD 60 undef = v := ⟨_, rfl⟩
      rw [e60] at h60
      unfold Does
      go_simp
      refine (rat_same _ _ _ _ _ _ h58 h60).mono ?_
      rintro e w' ⟨rfl, P8⟩
      exact ⟨_, rfl, P8, rfl⟩
    · refine .inr fun a w hp => ob_yes rfl ?_
      have h56 : a.tmps.getD 56 undef = .bool true := (hp.fact 25 56 (by kernel_rfl) rfl)
      have h61 : a.tmps.getD 61 undef = .bool true := (hp.fact 30 61 (by kernel_rfl) rfl)
      unfold Does
      go_simp
      exact ⟨_, rfl, On.refl _, rfl⟩
    · exact .inr fun a w hp => ob_yes rfl (ob_move (hp.fact 31 62 (by kernel_rfl) rfl))
    · exact .inr fun a w hp => ob_yes (wanted_yes (P := Tryz.prog) (j := 32) (d := 63) (b := true) rfl rfl (hp.fact 32 63 (by kernel_rfl) rfl)) (ob_loadSp (hp.box (k := 0) rfl (Nat.le_refl _) (.inl (Nat.le_refl _)) (by kernel_rfl) rfl).1 (hp.box (k := 0) rfl (Nat.le_refl _) (.inl (Nat.le_refl _)) (by kernel_rfl) rfl).2 rfl)
    · refine .inr fun a w hp => ob_yes (wanted_yes (P := Tryz.prog) (j := 32) (d := 63) (b := true) rfl rfl (hp.fact 32 63 (by kernel_rfl) rfl)) ?_
      have h64 : a.tmps.getD 64 undef = .agg #[.bool ba0, .slice Aa0 na0 ca0, .slice Ba0 ma0 oa0, .bool bb0, .slice Ab0 nb0 cb0, .slice Bb0 mb0 ob0] := (hp.fact 33 64 (by kernel_rfl) rfl)
      unfold Does
      go_simp
      refine (sptext_any _ _ p0 q0 6 (T0.on hp.on) (by decide) (by decide)).mono ?_
      rintro e w' ⟨bs, rfl, hx, P8⟩
      exact ⟨_, rfl, P8, bs, rfl, hx⟩
    · exact .inr fun a w hp => ob_yes (wanted_yes (P := Tryz.prog) (j := 32) (d := 63) (b := true) rfl rfl (hp.fact 32 63 (by kernel_rfl) rfl)) (ob_loadSp (hp.box (k := 0) rfl (Nat.le_refl _) (.inl (Nat.le_refl _)) (by kernel_rfl) rfl).1 (hp.box (k := 0) rfl (Nat.le_refl _) (.inl (Nat.le_refl _)) (by kernel_rfl) rfl).2 rfl)
    · refine .inr fun a w hp => ob_yes (wanted_yes (P := Tryz.prog) (j := 32) (d := 63) (b := true) rfl rfl (hp.fact 32 63 (by kernel_rfl) rfl)) ?_
      have h66 : a.tmps.getD 66 undef = .agg #[.bool ba0, .slice Aa0 na0 ca0, .slice Ba0 ma0 oa0, .bool bb0, .slice Ab0 nb0 cb0, .slice Bb0 mb0 ob0] := (hp.fact 35 66 (by kernel_rfl) rfl)
      unfold Does
      go_simp
      refine (rtext3_any _ _ p0 q0 6 (T0.on hp.on) (by decide) (by decide)).mono ?_
      rintro e w' ⟨bs, rfl, hx, P8⟩
      exact ⟨_, rfl, P8, bs, rfl, hx⟩
    · refine .inr fun a w hp => ob_yes (wanted_yes (P := Tryz.prog) (j := 32) (d := 63) (b := true) rfl rfl (hp.fact 32 63 (by kernel_rfl) rfl)) ?_
      obtain ⟨bs65, e65, h65⟩ : ∃ bs, a.tmps.getD 65 undef = .string (str bs) ∧ STx p0 q0 bs := (hp.fact 34 65 (by kernel_rfl) rfl)
      obtain ⟨bs67, e67, h67⟩ : ∃ bs, a.tmps.getD 67 undef = .string (str bs) ∧ STx p0 q0 bs := (hp.fact 36 67 (by kernel_rfl) rfl)
      obtain rfl := STx.unique h65 h67
      unfold Does
      go_simp
      exact ⟨_, rfl, On.refl _, by show Value.bool _ = Value.bool _; first | rfl | (simp; done)⟩
    · refine .inr fun a w hp => ob_yes rfl ?_
      have h63 : a.tmps.getD 63 undef = .bool true := (hp.fact 32 63 (by kernel_rfl) rfl)
      have h68 : a.tmps.getD 68 undef = .bool true := (hp.fact 37 68 (by kernel_rfl) rfl)
      unfold Does
      go_simp
      exact ⟨_, rfl, On.refl _, rfl⟩
    · exact .inr fun a w hp => ob_yes rfl (ob_assign (hp.fact 38 69 (by kernel_rfl) rfl))
  · intro f wr hon hk hf hb hap
    obtain ⟨q0, q1, q2, qz⟩ := hb
    clear qz
    have O1 : Own wr (w.heap.size) 26 #[.bool ba0, .slice Aa0 na0 ca0, .slice Ba0 ma0 oa0, .bool bb0, .slice Ab0 nb0 cb0, .slice Bb0 mb0 ob0] := q0
    have c1_0 : wr.cell? ⟨w.heap.size, 0, none⟩ = some (.bool ba0) := O1.cell 0
    have z1_0 := O1.frozen 0
    have c1_1 : wr.cell? ⟨w.heap.size, 1, none⟩ = some (.slice Aa0 na0 ca0) := O1.cell 1
    have z1_1 := O1.frozen 1
    have c1_2 : wr.cell? ⟨w.heap.size, 2, none⟩ = some (.slice Ba0 ma0 oa0) := O1.cell 2
    have z1_2 := O1.frozen 2
    have c1_3 : wr.cell? ⟨w.heap.size, 3, none⟩ = some (.bool bb0) := O1.cell 3
    have z1_3 := O1.frozen 3
    have c1_4 : wr.cell? ⟨w.heap.size, 4, none⟩ = some (.slice Ab0 nb0 cb0) := O1.cell 4
    have z1_4 := O1.frozen 4
    have c1_5 : wr.cell? ⟨w.heap.size, 5, none⟩ = some (.slice Bb0 mb0 ob0) := O1.cell 5
    have z1_5 := O1.frozen 5
    clear q0
    have O3 : Own wr (w3.heap.size) 26 #[.bool ba3, .slice Aa3 na3 ca3, .slice Ba3 ma3 oa3, .bool bb3, .slice Ab3 nb3 cb3, .slice Bb3 mb3 ob3] := q1
    have c3_0 : wr.cell? ⟨w3.heap.size, 0, none⟩ = some (.bool ba3) := O3.cell 0
    have z3_0 := O3.frozen 0
    have c3_1 : wr.cell? ⟨w3.heap.size, 1, none⟩ = some (.slice Aa3 na3 ca3) := O3.cell 1
    have z3_1 := O3.frozen 1
    have c3_2 : wr.cell? ⟨w3.heap.size, 2, none⟩ = some (.slice Ba3 ma3 oa3) := O3.cell 2
    have z3_2 := O3.frozen 2
    have c3_3 : wr.cell? ⟨w3.heap.size, 3, none⟩ = some (.bool bb3) := O3.cell 3
    have z3_3 := O3.frozen 3
    have c3_4 : wr.cell? ⟨w3.heap.size, 4, none⟩ = some (.slice Ab3 nb3 cb3) := O3.cell 4
    have z3_4 := O3.frozen 4
    have c3_5 : wr.cell? ⟨w3.heap.size, 5, none⟩ = some (.slice Bb3 mb3 ob3) := O3.cell 5
    have z3_5 := O3.frozen 5
    clear q1
    have O5 : Own wr (w4.heap.size) 26 #[.bool ba5, .slice Aa5 na5 ca5, .slice Ba5 ma5 oa5, .bool bb5, .slice Ab5 nb5 cb5, .slice Bb5 mb5 ob5] := q2
    have c5_0 : wr.cell? ⟨w4.heap.size, 0, none⟩ = some (.bool ba5) := O5.cell 0
    have z5_0 := O5.frozen 0
    have c5_1 : wr.cell? ⟨w4.heap.size, 1, none⟩ = some (.slice Aa5 na5 ca5) := O5.cell 1
    have z5_1 := O5.frozen 1
    have c5_2 : wr.cell? ⟨w4.heap.size, 2, none⟩ = some (.slice Ba5 ma5 oa5) := O5.cell 2
    have z5_2 := O5.frozen 2
    have c5_3 : wr.cell? ⟨w4.heap.size, 3, none⟩ = some (.bool bb5) := O5.cell 3
    have z5_3 := O5.frozen 3
    have c5_4 : wr.cell? ⟨w4.heap.size, 4, none⟩ = some (.slice Ab5 nb5 cb5) := O5.cell 4
    have z5_4 := O5.frozen 4
    have c5_5 : wr.cell? ⟨w4.heap.size, 5, none⟩ = some (.slice Bb5 mb5 ob5) := O5.cell 5
    have z5_5 := O5.frozen 5
    clear q2
    have e2 : f 2 = .bool true := hf 39 2 rfl
    clear hf hap
    simp only [fillL, e2]
    clear e2
    go_wp2
    go_ret
    exact ⟨rfl, hon⟩
theorem smakes_any (w : World) (ba0 : Bool) (Aa0 : Option Addr) (na0 ca0 : Nat) (Ba0 : Option Addr) (ma0 oa0 : Nat) (bb0 : Bool) (Ab0 : Option Addr) (nb0 cb0 : Nat) (Bb0 : Option Addr) (mb0 ob0 : Nat) (xs0 ys0 us0 vs0 : List Nat) (R0 : Rd w Aa0 na0 ca0 xs0) (S0 : Rd w Ba0 ma0 oa0 ys0) (U0 : Rd w Ab0 nb0 cb0 us0) (V0 : Rd w Bb0 mb0 ob0 vs0)  :
    Calls Tryz.prog 3 #[.agg #[.bool ba0, .slice Aa0 na0 ca0, .slice Ba0 ma0 oa0, .bool bb0, .slice Ab0 nb0 cb0, .slice Bb0 mb0 ob0]] w fun e w' => e = .returned (.bool true) ∧ On w w' := by
  by_cases hs : na0 ≤ 6 ∧ ma0 ≤ 6 ∧ nb0 ≤ 6 ∧ mb0 ≤ 6
  · exact smakes_main w ba0 Aa0 na0 ca0 Ba0 ma0 oa0 bb0 Ab0 nb0 cb0 Bb0 mb0 ob0 xs0 ys0 us0 vs0 R0 S0 U0 V0  hs
  · have : ∃ (mi : Nat) (qi : Nat × Nat × Nat × Nat), [(na0, ma0, nb0, mb0)][mi]? = some qi ∧ Big qi := by
      by_cases h0 : Big (na0, ma0, nb0, mb0)
      · exact ⟨0, _, rfl, h0⟩
      exfalso
      apply hs
      simp only [Big] at h0
      omega
    obtain ⟨mi, qi, h1, h2⟩ := this
    exact smakes_large w ba0 Aa0 na0 ca0 Ba0 ma0 oa0 bb0 Ab0 nb0 cb0 Bb0 mb0 ob0 xs0 ys0 us0 vs0 R0 S0 U0 V0  mi qi h1 h2
end Num
end Go.Proofs.YtkchpagjkgmpmaaGreat
