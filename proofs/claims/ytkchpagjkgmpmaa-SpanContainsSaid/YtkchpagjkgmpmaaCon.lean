/-
  SpanContains, walked.
-/
import Derived.Test.YtkchpagjkgmpmaaCin
namespace Go.Proofs.Ytkchpagjkgmpmaa
open Go.RowKit
set_option linter.unusedVariables false
namespace Num
theorem both_true {a b c d : Rat} (h : a ≤ b) (k : c ≤ d) : (decide (a ≤ b) && decide (c ≤ d)) = true := by rw [decide_eq_true h, decide_eq_true k]; rfl
theorem both_false {a b c d : Rat} (h : ¬ (a ≤ b ∧ c ≤ d)) : (decide (a ≤ b) && decide (c ≤ d)) = false := by
  cases e : (decide (a ≤ b) && decide (c ≤ d)) with
  | false => rfl
  | true => simp at e; exact absurd e h
theorem sub_le' {x y a b : Rat} (h : x ≤ y) (k : a ≤ b) : x - b ≤ y - a := by grind
theorem not_zero {c d y : Rat} (z : ¬ (c ≤ 0 ∧ 0 ≤ d)) (h : c ≤ y) (k : y ≤ d) : y ≠ 0 := by
  intro e; subst e; exact z ⟨h, k⟩
theorem divr_some (w : World) (v v' : Value) (r q : Rat) (L : Nat) (h : Fld w v r L) (k : Fld w v' q L) (hL2 : 2 ≤ L) (hL : L ≤ 4000) :
    Calls Try.prog 30 #[v, v'] w fun e w' => ∃ u er z, e = .returned (.tuple #[u, er]) ∧ IsR w' u z (L + L) ∧ On w w' := by
  by_cases hq : q = 0
  · refine (divr_zero w v v' r q L h k hL2 hL hq).mono ?_
    rintro e w' ⟨u, rfl, I, P⟩
    exact ⟨u, _, _, rfl, I, P⟩
  · refine (divr_ok w v v' r q L h k hL2 hL hq).mono ?_
    rintro e w' ⟨u, rfl, I, P⟩
    exact ⟨u, _, _, rfl, I, P⟩
theorem in_range {lo hi x : Rat} {z : Int} (le : lo ≤ hi) (h0 : 0 ≤ z) (h1 : z ≤ 255) (e : part lo hi ((z : Rat) * (255 : Rat)⁻¹) = x) : lo ≤ x ∧ x ≤ hi := by
  subst e
  exact ⟨part_lo le (part_f0 h0), part_hi le (part_f1 h1)⟩
set_option maxRecDepth 100000 in
set_option maxHeartbeats 1600000 in
theorem contains_large (w : World) (ba0 : Bool) (Aa0 : Option Addr) (na0 ca0 : Nat) (Ba0 : Option Addr) (ma0 oa0 : Nat) (bb0 : Bool) (Ab0 : Option Addr) (nb0 cb0 : Nat) (Bb0 : Option Addr) (mb0 ob0 : Nat) (xs0 ys0 us0 vs0 : List Nat) (R0 : Rd w Aa0 na0 ca0 xs0) (S0 : Rd w Ba0 ma0 oa0 ys0) (U0 : Rd w Ab0 nb0 cb0 us0) (V0 : Rd w Bb0 mb0 ob0 vs0) (ba1 : Bool) (Aa1 : Option Addr) (na1 ca1 : Nat) (Ba1 : Option Addr) (ma1 oa1 : Nat) (bb1 : Bool) (Ab1 : Option Addr) (nb1 cb1 : Nat) (Bb1 : Option Addr) (mb1 ob1 : Nat) (xs1 ys1 us1 vs1 : List Nat) (R1 : Rd w Aa1 na1 ca1 xs1) (S1 : Rd w Ba1 ma1 oa1 ys1) (U1 : Rd w Ab1 nb1 cb1 us1) (V1 : Rd w Bb1 mb1 ob1 vs1) (z0 z1 : Int) (hz : 0 ≤ z0 ∧ z0 ≤ 255 ∧ 0 ≤ z1 ∧ z1 ≤ 255) (mi : Nat) (qi : Nat × Nat × Nat × Nat) (hmi : [(na0, ma0, nb0, mb0), (na1, ma1, nb1, mb1)][mi]? = some qi) (hyi : Big qi) :
    Calls Try.prog 4 #[.agg #[.bool ba0, .slice Aa0 na0 ca0, .slice Ba0 ma0 oa0, .bool bb0, .slice Ab0 nb0 cb0, .slice Bb0 mb0 ob0], .agg #[.bool ba1, .slice Aa1 na1 ca1, .slice Ba1 ma1 oa1, .bool bb1, .slice Ab1 nb1 cb1, .slice Bb1 mb1 ob1], .agg #[.int .u8 z0, .int .u8 z1]] w fun e w' => e = .returned (.bool true) ∧ On w w' := by
  have HMI := Lib.hid hmi
  have HYI := Lib.hid hyi
  clear hmi hyi
  have B : On w (((w.alloc (.cells #[.bool ba0, .slice Aa0 na0 ca0, .slice Ba0 ma0 oa0, .bool bb0, .slice Ab0 nb0 cb0, .slice Bb0 mb0 ob0] 38)).alloc (.cells #[.bool ba1, .slice Aa1 na1 ca1, .slice Ba1 ma1 oa1, .bool bb1, .slice Ab1 nb1 cb1, .slice Bb1 mb1 ob1] 38)).alloc (.cells #[.int .u8 z0, .int .u8 z1] 39)) := On.alloc (On.alloc (On.alloc (On.refl w) _) _) _
  have OB3 : w.heap.size ≤ w.heap.size ∧ Own (((w.alloc (.cells #[.bool ba0, .slice Aa0 na0 ca0, .slice Ba0 ma0 oa0, .bool bb0, .slice Ab0 nb0 cb0, .slice Bb0 mb0 ob0] 38)).alloc (.cells #[.bool ba1, .slice Aa1 na1 ca1, .slice Ba1 ma1 oa1, .bool bb1, .slice Ab1 nb1 cb1, .slice Bb1 mb1 ob1] 38)).alloc (.cells #[.int .u8 z0, .int .u8 z1] 39)) (w.heap.size) 38 #[.bool ba0, .slice Aa0 na0 ca0, .slice Ba0 ma0 oa0, .bool bb0, .slice Ab0 nb0 cb0, .slice Bb0 mb0 ob0] := ⟨by omega, (((Own.at_ w (w.heap.size) (by simp) 38 #[.bool ba0, .slice Aa0 na0 ca0, .slice Ba0 ma0 oa0, .bool bb0, .slice Ab0 nb0 cb0, .slice Bb0 mb0 ob0]).alloc (.cells #[.bool ba1, .slice Aa1 na1 ca1, .slice Ba1 ma1 oa1, .bool bb1, .slice Ab1 nb1 cb1, .slice Bb1 mb1 ob1] 38)).alloc (.cells #[.int .u8 z0, .int .u8 z1] 39))⟩
  have OB4 : w.heap.size ≤ w.heap.size + 1 ∧ Own (((w.alloc (.cells #[.bool ba0, .slice Aa0 na0 ca0, .slice Ba0 ma0 oa0, .bool bb0, .slice Ab0 nb0 cb0, .slice Bb0 mb0 ob0] 38)).alloc (.cells #[.bool ba1, .slice Aa1 na1 ca1, .slice Ba1 ma1 oa1, .bool bb1, .slice Ab1 nb1 cb1, .slice Bb1 mb1 ob1] 38)).alloc (.cells #[.int .u8 z0, .int .u8 z1] 39)) (w.heap.size + 1) 38 #[.bool ba1, .slice Aa1 na1 ca1, .slice Ba1 ma1 oa1, .bool bb1, .slice Ab1 nb1 cb1, .slice Bb1 mb1 ob1] := ⟨by omega, ((Own.at_ (w.alloc (.cells #[.bool ba0, .slice Aa0 na0 ca0, .slice Ba0 ma0 oa0, .bool bb0, .slice Ab0 nb0 cb0, .slice Bb0 mb0 ob0] 38)) (w.heap.size + 1) (by simp) 38 #[.bool ba1, .slice Aa1 na1 ca1, .slice Ba1 ma1 oa1, .bool bb1, .slice Ab1 nb1 cb1, .slice Bb1 mb1 ob1]).alloc (.cells #[.int .u8 z0, .int .u8 z1] 39))⟩
  have OB5 : w.heap.size ≤ w.heap.size + 2 ∧ Own (((w.alloc (.cells #[.bool ba0, .slice Aa0 na0 ca0, .slice Ba0 ma0 oa0, .bool bb0, .slice Ab0 nb0 cb0, .slice Bb0 mb0 ob0] 38)).alloc (.cells #[.bool ba1, .slice Aa1 na1 ca1, .slice Ba1 ma1 oa1, .bool bb1, .slice Ab1 nb1 cb1, .slice Bb1 mb1 ob1] 38)).alloc (.cells #[.int .u8 z0, .int .u8 z1] 39)) (w.heap.size + 2) 39 #[.int .u8 z0, .int .u8 z1] := ⟨by omega, (Own.at_ ((w.alloc (.cells #[.bool ba0, .slice Aa0 na0 ca0, .slice Ba0 ma0 oa0, .bool bb0, .slice Ab0 nb0 cb0, .slice Bb0 mb0 ob0] 38)).alloc (.cells #[.bool ba1, .slice Aa1 na1 ca1, .slice Ba1 ma1 oa1, .bool bb1, .slice Ab1 nb1 cb1, .slice Bb1 mb1 ob1] 38)) (w.heap.size + 2) (by simp) 39 #[.int .u8 z0, .int .u8 z1])⟩
  go_enter Try.func4, Try.ntmps4
  go_wp2_with fail
  refine (awake03 _).mono ?_
  rintro e w1 ⟨rfl, P1⟩
  replace OB3 := And.intro OB3.1 (OB3.2.on P1)
  replace OB4 := And.intro OB4.1 (OB4.2.on P1)
  replace OB5 := And.intro OB5.1 (OB5.2.on P1)
  replace B := B.trans P1
  have y3_0 : w1.cell? ⟨w.heap.size, 0, none⟩ = some (.bool ba0) := OB3.2.cell 0
  have y3_1 : w1.cell? ⟨w.heap.size, 1, none⟩ = some (.slice Aa0 na0 ca0) := OB3.2.cell 1
  have y3_2 : w1.cell? ⟨w.heap.size, 2, none⟩ = some (.slice Ba0 ma0 oa0) := OB3.2.cell 2
  have y3_3 : w1.cell? ⟨w.heap.size, 3, none⟩ = some (.bool bb0) := OB3.2.cell 3
  have y3_4 : w1.cell? ⟨w.heap.size, 4, none⟩ = some (.slice Ab0 nb0 cb0) := OB3.2.cell 4
  have y3_5 : w1.cell? ⟨w.heap.size, 5, none⟩ = some (.slice Bb0 mb0 ob0) := OB3.2.cell 5
  have y3_f0 := OB3.2.frozen 0
  have y3_f1 := OB3.2.frozen 1
  have y3_f2 := OB3.2.frozen 2
  have y3_f3 := OB3.2.frozen 3
  have y3_f4 := OB3.2.frozen 4
  have y3_f5 := OB3.2.frozen 5
  have y4_0 : w1.cell? ⟨w.heap.size + 1, 0, none⟩ = some (.bool ba1) := OB4.2.cell 0
  have y4_1 : w1.cell? ⟨w.heap.size + 1, 1, none⟩ = some (.slice Aa1 na1 ca1) := OB4.2.cell 1
  have y4_2 : w1.cell? ⟨w.heap.size + 1, 2, none⟩ = some (.slice Ba1 ma1 oa1) := OB4.2.cell 2
  have y4_3 : w1.cell? ⟨w.heap.size + 1, 3, none⟩ = some (.bool bb1) := OB4.2.cell 3
  have y4_4 : w1.cell? ⟨w.heap.size + 1, 4, none⟩ = some (.slice Ab1 nb1 cb1) := OB4.2.cell 4
  have y4_5 : w1.cell? ⟨w.heap.size + 1, 5, none⟩ = some (.slice Bb1 mb1 ob1) := OB4.2.cell 5
  have y4_f0 := OB4.2.frozen 0
  have y4_f1 := OB4.2.frozen 1
  have y4_f2 := OB4.2.frozen 2
  have y4_f3 := OB4.2.frozen 3
  have y4_f4 := OB4.2.frozen 4
  have y4_f5 := OB4.2.frozen 5
  have y5_0 : w1.cell? ⟨w.heap.size + 2, 0, none⟩ = some (.int .u8 z0) := OB5.2.cell 0
  have y5_1 : w1.cell? ⟨w.heap.size + 2, 1, none⟩ = some (.int .u8 z1) := OB5.2.cell 1
  have y5_f0 := OB5.2.frozen 0
  have y5_f1 := OB5.2.frozen 1
  go_wp2_with fail
  clear y3_0 y3_f0 y3_1 y3_f1 y3_2 y3_f2 y3_3 y3_f3 y3_4 y3_f4 y3_5 y3_f5
  clear y4_0 y4_f0 y4_1 y4_f1 y4_2 y4_f2 y4_3 y4_f3 y4_4 y4_f4 y4_5 y4_f5
  clear y5_0 y5_f0 y5_1 y5_f1
  have B1 := (On.refl w1).alloc (.cells #[.bool ba0, .slice Aa0 na0 ca0, .slice Ba0 ma0 oa0, .bool bb0, .slice Ab0 nb0 cb0, .slice Bb0 mb0 ob0, .bool ba1, .slice Aa1 na1 ca1, .slice Ba1 ma1 oa1, .bool bb1, .slice Ab1 nb1 cb1, .slice Bb1 mb1 ob1] 38)
  replace OB3 := And.intro OB3.1 (OB3.2.on B1)
  replace OB4 := And.intro OB4.1 (OB4.2.on B1)
  replace OB5 := And.intro OB5.1 (OB5.2.on B1)
  replace B := B.trans B1
  have hlens := slens2 ba0 Aa0 na0 ca0 Ba0 ma0 oa0 bb0 Ab0 nb0 cb0 Bb0 mb0 ob0 xs0 ys0 us0 vs0 (R0.on B) (S0.on B) (U0.on B) (V0.on B) ba1 Aa1 na1 ca1 Ba1 ma1 oa1 bb1 Ab1 nb1 cb1 Bb1 mb1 ob1 xs1 ys1 us1 vs1 (R1.on B) (S1.on B) (U1.on B) (V1.on B) (Own.new w1 38 #[.bool ba0, .slice Aa0 na0 ca0, .slice Ba0 ma0 oa0, .bool bb0, .slice Ab0 nb0 cb0, .slice Bb0 mb0 ob0, .bool ba1, .slice Aa1 na1 ca1, .slice Ba1 ma1 oa1, .bool bb1, .slice Ab1 nb1 cb1, .slice Bb1 mb1 ob1])
  refine (slarge_yes _ _ 2 2 _ hlens rfl (by decide) (by decide) (by decide) mi qi HMI.out HYI.out).mono ?_
  rintro e w2 ⟨rfl, P2⟩
  clear hlens B1 P1
  replace OB3 := And.intro OB3.1 (OB3.2.on P2)
  replace OB4 := And.intro OB4.1 (OB4.2.on P2)
  replace OB5 := And.intro OB5.1 (OB5.2.on P2)
  replace B := B.trans P2
  clear P2
  go_wp2_with fail
  refine (awake03 _).mono ?_
  rintro e w3 ⟨rfl, P3⟩
  go_wp2
  go_ret
  exact ⟨rfl, B.trans P3⟩
set_option maxRecDepth 100000 in
set_option maxHeartbeats 1600000 in
theorem contains_inv0 (w : World) (ba0 : Bool) (Aa0 : Option Addr) (na0 ca0 : Nat) (Ba0 : Option Addr) (ma0 oa0 : Nat) (bb0 : Bool) (Ab0 : Option Addr) (nb0 cb0 : Nat) (Bb0 : Option Addr) (mb0 ob0 : Nat) (xs0 ys0 us0 vs0 : List Nat) (R0 : Rd w Aa0 na0 ca0 xs0) (S0 : Rd w Ba0 ma0 oa0 ys0) (U0 : Rd w Ab0 nb0 cb0 us0) (V0 : Rd w Bb0 mb0 ob0 vs0) (ba1 : Bool) (Aa1 : Option Addr) (na1 ca1 : Nat) (Ba1 : Option Addr) (ma1 oa1 : Nat) (bb1 : Bool) (Ab1 : Option Addr) (nb1 cb1 : Nat) (Bb1 : Option Addr) (mb1 ob1 : Nat) (xs1 ys1 us1 vs1 : List Nat) (R1 : Rd w Aa1 na1 ca1 xs1) (S1 : Rd w Ba1 ma1 oa1 ys1) (U1 : Rd w Ab1 nb1 cb1 us1) (V1 : Rd w Bb1 mb1 ob1 vs1) (z0 z1 : Int) (hz : 0 ≤ z0 ∧ z0 ≤ 255 ∧ 0 ≤ z1 ∧ z1 ≤ 255) (hs : na0 ≤ 6 ∧ ma0 ≤ 6 ∧ nb0 ≤ 6 ∧ mb0 ≤ 6 ∧ na1 ≤ 6 ∧ ma1 ≤ 6 ∧ nb1 ≤ 6 ∧ mb1 ≤ 6) (lo0 hi0 : Rat) (Q0 : SRaw w (.agg #[.bool ba0, .slice Aa0 na0 ca0, .slice Ba0 ma0 oa0, .bool bb0, .slice Ab0 nb0 cb0, .slice Bb0 mb0 ob0]) lo0 hi0 false 6) :
    Calls Try.prog 4 #[.agg #[.bool ba0, .slice Aa0 na0 ca0, .slice Ba0 ma0 oa0, .bool bb0, .slice Ab0 nb0 cb0, .slice Bb0 mb0 ob0], .agg #[.bool ba1, .slice Aa1 na1 ca1, .slice Ba1 ma1 oa1, .bool bb1, .slice Ab1 nb1 cb1, .slice Bb1 mb1 ob1], .agg #[.int .u8 z0, .int .u8 z1]] w fun e w' => e = .returned (.bool true) ∧ On w w' := by
  have HSM : Hid (∀ p ∈ [(na0, ma0, nb0, mb0), (na1, ma1, nb1, mb1)], ¬ Big p) := Lib.hid (by intro p hp; simp at hp; rcases hp with rfl | rfl <;> (unfold Big; simp only; omega))
  have B : On w (((w.alloc (.cells #[.bool ba0, .slice Aa0 na0 ca0, .slice Ba0 ma0 oa0, .bool bb0, .slice Ab0 nb0 cb0, .slice Bb0 mb0 ob0] 38)).alloc (.cells #[.bool ba1, .slice Aa1 na1 ca1, .slice Ba1 ma1 oa1, .bool bb1, .slice Ab1 nb1 cb1, .slice Bb1 mb1 ob1] 38)).alloc (.cells #[.int .u8 z0, .int .u8 z1] 39)) := On.alloc (On.alloc (On.alloc (On.refl w) _) _) _
  have OB3 : w.heap.size ≤ w.heap.size ∧ Own (((w.alloc (.cells #[.bool ba0, .slice Aa0 na0 ca0, .slice Ba0 ma0 oa0, .bool bb0, .slice Ab0 nb0 cb0, .slice Bb0 mb0 ob0] 38)).alloc (.cells #[.bool ba1, .slice Aa1 na1 ca1, .slice Ba1 ma1 oa1, .bool bb1, .slice Ab1 nb1 cb1, .slice Bb1 mb1 ob1] 38)).alloc (.cells #[.int .u8 z0, .int .u8 z1] 39)) (w.heap.size) 38 #[.bool ba0, .slice Aa0 na0 ca0, .slice Ba0 ma0 oa0, .bool bb0, .slice Ab0 nb0 cb0, .slice Bb0 mb0 ob0] := ⟨by omega, (((Own.at_ w (w.heap.size) (by simp) 38 #[.bool ba0, .slice Aa0 na0 ca0, .slice Ba0 ma0 oa0, .bool bb0, .slice Ab0 nb0 cb0, .slice Bb0 mb0 ob0]).alloc (.cells #[.bool ba1, .slice Aa1 na1 ca1, .slice Ba1 ma1 oa1, .bool bb1, .slice Ab1 nb1 cb1, .slice Bb1 mb1 ob1] 38)).alloc (.cells #[.int .u8 z0, .int .u8 z1] 39))⟩
  have OB4 : w.heap.size ≤ w.heap.size + 1 ∧ Own (((w.alloc (.cells #[.bool ba0, .slice Aa0 na0 ca0, .slice Ba0 ma0 oa0, .bool bb0, .slice Ab0 nb0 cb0, .slice Bb0 mb0 ob0] 38)).alloc (.cells #[.bool ba1, .slice Aa1 na1 ca1, .slice Ba1 ma1 oa1, .bool bb1, .slice Ab1 nb1 cb1, .slice Bb1 mb1 ob1] 38)).alloc (.cells #[.int .u8 z0, .int .u8 z1] 39)) (w.heap.size + 1) 38 #[.bool ba1, .slice Aa1 na1 ca1, .slice Ba1 ma1 oa1, .bool bb1, .slice Ab1 nb1 cb1, .slice Bb1 mb1 ob1] := ⟨by omega, ((Own.at_ (w.alloc (.cells #[.bool ba0, .slice Aa0 na0 ca0, .slice Ba0 ma0 oa0, .bool bb0, .slice Ab0 nb0 cb0, .slice Bb0 mb0 ob0] 38)) (w.heap.size + 1) (by simp) 38 #[.bool ba1, .slice Aa1 na1 ca1, .slice Ba1 ma1 oa1, .bool bb1, .slice Ab1 nb1 cb1, .slice Bb1 mb1 ob1]).alloc (.cells #[.int .u8 z0, .int .u8 z1] 39))⟩
  have OB5 : w.heap.size ≤ w.heap.size + 2 ∧ Own (((w.alloc (.cells #[.bool ba0, .slice Aa0 na0 ca0, .slice Ba0 ma0 oa0, .bool bb0, .slice Ab0 nb0 cb0, .slice Bb0 mb0 ob0] 38)).alloc (.cells #[.bool ba1, .slice Aa1 na1 ca1, .slice Ba1 ma1 oa1, .bool bb1, .slice Ab1 nb1 cb1, .slice Bb1 mb1 ob1] 38)).alloc (.cells #[.int .u8 z0, .int .u8 z1] 39)) (w.heap.size + 2) 39 #[.int .u8 z0, .int .u8 z1] := ⟨by omega, (Own.at_ ((w.alloc (.cells #[.bool ba0, .slice Aa0 na0 ca0, .slice Ba0 ma0 oa0, .bool bb0, .slice Ab0 nb0 cb0, .slice Bb0 mb0 ob0] 38)).alloc (.cells #[.bool ba1, .slice Aa1 na1 ca1, .slice Ba1 ma1 oa1, .bool bb1, .slice Ab1 nb1 cb1, .slice Bb1 mb1 ob1] 38)) (w.heap.size + 2) (by simp) 39 #[.int .u8 z0, .int .u8 z1])⟩
  go_enter Try.func4, Try.ntmps4
  go_wp2_with fail
  refine (awake03 _).mono ?_
  rintro e w1 ⟨rfl, P1⟩
  replace OB3 := And.intro OB3.1 (OB3.2.on P1)
  replace OB4 := And.intro OB4.1 (OB4.2.on P1)
  replace OB5 := And.intro OB5.1 (OB5.2.on P1)
  replace B := B.trans P1
  have y3_0 : w1.cell? ⟨w.heap.size, 0, none⟩ = some (.bool ba0) := OB3.2.cell 0
  have y3_1 : w1.cell? ⟨w.heap.size, 1, none⟩ = some (.slice Aa0 na0 ca0) := OB3.2.cell 1
  have y3_2 : w1.cell? ⟨w.heap.size, 2, none⟩ = some (.slice Ba0 ma0 oa0) := OB3.2.cell 2
  have y3_3 : w1.cell? ⟨w.heap.size, 3, none⟩ = some (.bool bb0) := OB3.2.cell 3
  have y3_4 : w1.cell? ⟨w.heap.size, 4, none⟩ = some (.slice Ab0 nb0 cb0) := OB3.2.cell 4
  have y3_5 : w1.cell? ⟨w.heap.size, 5, none⟩ = some (.slice Bb0 mb0 ob0) := OB3.2.cell 5
  have y3_f0 := OB3.2.frozen 0
  have y3_f1 := OB3.2.frozen 1
  have y3_f2 := OB3.2.frozen 2
  have y3_f3 := OB3.2.frozen 3
  have y3_f4 := OB3.2.frozen 4
  have y3_f5 := OB3.2.frozen 5
  have y4_0 : w1.cell? ⟨w.heap.size + 1, 0, none⟩ = some (.bool ba1) := OB4.2.cell 0
  have y4_1 : w1.cell? ⟨w.heap.size + 1, 1, none⟩ = some (.slice Aa1 na1 ca1) := OB4.2.cell 1
  have y4_2 : w1.cell? ⟨w.heap.size + 1, 2, none⟩ = some (.slice Ba1 ma1 oa1) := OB4.2.cell 2
  have y4_3 : w1.cell? ⟨w.heap.size + 1, 3, none⟩ = some (.bool bb1) := OB4.2.cell 3
  have y4_4 : w1.cell? ⟨w.heap.size + 1, 4, none⟩ = some (.slice Ab1 nb1 cb1) := OB4.2.cell 4
  have y4_5 : w1.cell? ⟨w.heap.size + 1, 5, none⟩ = some (.slice Bb1 mb1 ob1) := OB4.2.cell 5
  have y4_f0 := OB4.2.frozen 0
  have y4_f1 := OB4.2.frozen 1
  have y4_f2 := OB4.2.frozen 2
  have y4_f3 := OB4.2.frozen 3
  have y4_f4 := OB4.2.frozen 4
  have y4_f5 := OB4.2.frozen 5
  have y5_0 : w1.cell? ⟨w.heap.size + 2, 0, none⟩ = some (.int .u8 z0) := OB5.2.cell 0
  have y5_1 : w1.cell? ⟨w.heap.size + 2, 1, none⟩ = some (.int .u8 z1) := OB5.2.cell 1
  have y5_f0 := OB5.2.frozen 0
  have y5_f1 := OB5.2.frozen 1
  go_wp2_with fail
  clear y3_0 y3_f0 y3_1 y3_f1 y3_2 y3_f2 y3_3 y3_f3 y3_4 y3_f4 y3_5 y3_f5
  clear y4_0 y4_f0 y4_1 y4_f1 y4_2 y4_f2 y4_3 y4_f3 y4_4 y4_f4 y4_5 y4_f5
  clear y5_0 y5_f0 y5_1 y5_f1
  have B1 := (On.refl w1).alloc (.cells #[.bool ba0, .slice Aa0 na0 ca0, .slice Ba0 ma0 oa0, .bool bb0, .slice Ab0 nb0 cb0, .slice Bb0 mb0 ob0, .bool ba1, .slice Aa1 na1 ca1, .slice Ba1 ma1 oa1, .bool bb1, .slice Ab1 nb1 cb1, .slice Bb1 mb1 ob1] 38)
  replace OB3 := And.intro OB3.1 (OB3.2.on B1)
  replace OB4 := And.intro OB4.1 (OB4.2.on B1)
  replace OB5 := And.intro OB5.1 (OB5.2.on B1)
  replace B := B.trans B1
  have hlens := slens2 ba0 Aa0 na0 ca0 Ba0 ma0 oa0 bb0 Ab0 nb0 cb0 Bb0 mb0 ob0 xs0 ys0 us0 vs0 (R0.on B) (S0.on B) (U0.on B) (V0.on B) ba1 Aa1 na1 ca1 Ba1 ma1 oa1 bb1 Ab1 nb1 cb1 Bb1 mb1 ob1 xs1 ys1 us1 vs1 (R1.on B) (S1.on B) (U1.on B) (V1.on B) (Own.new w1 38 #[.bool ba0, .slice Aa0 na0 ca0, .slice Ba0 ma0 oa0, .bool bb0, .slice Ab0 nb0 cb0, .slice Bb0 mb0 ob0, .bool ba1, .slice Aa1 na1 ca1, .slice Ba1 ma1 oa1, .bool bb1, .slice Ab1 nb1 cb1, .slice Bb1 mb1 ob1])
  refine (slarge_no _ _ 2 2 _ hlens rfl (by decide) (by decide) (by decide) HSM.out).mono ?_
  rintro e w2 ⟨rfl, P2⟩
  clear hlens B1 P1
  replace OB3 := And.intro OB3.1 (OB3.2.on P2)
  replace OB4 := And.intro OB4.1 (OB4.2.on P2)
  replace OB5 := And.intro OB5.1 (OB5.2.on P2)
  replace B := B.trans P2
  clear P2
  have y3_0 : w2.cell? ⟨w.heap.size, 0, none⟩ = some (.bool ba0) := OB3.2.cell 0
  have y3_1 : w2.cell? ⟨w.heap.size, 1, none⟩ = some (.slice Aa0 na0 ca0) := OB3.2.cell 1
  have y3_2 : w2.cell? ⟨w.heap.size, 2, none⟩ = some (.slice Ba0 ma0 oa0) := OB3.2.cell 2
  have y3_3 : w2.cell? ⟨w.heap.size, 3, none⟩ = some (.bool bb0) := OB3.2.cell 3
  have y3_4 : w2.cell? ⟨w.heap.size, 4, none⟩ = some (.slice Ab0 nb0 cb0) := OB3.2.cell 4
  have y3_5 : w2.cell? ⟨w.heap.size, 5, none⟩ = some (.slice Bb0 mb0 ob0) := OB3.2.cell 5
  have y3_f0 := OB3.2.frozen 0
  have y3_f1 := OB3.2.frozen 1
  have y3_f2 := OB3.2.frozen 2
  have y3_f3 := OB3.2.frozen 3
  have y3_f4 := OB3.2.frozen 4
  have y3_f5 := OB3.2.frozen 5
  go_wp2_with fail
  refine (svalid_any _ _ _ _ _ _ (Q0.on B) (by decide)).mono ?_
  rintro e wv0 ⟨rfl, PV⟩
  clear y3_0 y3_f0 y3_1 y3_f1 y3_2 y3_f2 y3_3 y3_f3 y3_4 y3_f4 y3_5 y3_f5
  replace OB3 := And.intro OB3.1 (OB3.2.on PV)
  replace OB4 := And.intro OB4.1 (OB4.2.on PV)
  replace OB5 := And.intro OB5.1 (OB5.2.on PV)
  replace B := B.trans PV
  clear PV
  go_wp2_with fail
  refine (awake03 _).mono ?_
  rintro e w3 ⟨rfl, P3⟩
  go_wp2
  go_ret
  exact ⟨rfl, B.trans P3⟩
set_option maxRecDepth 100000 in
set_option maxHeartbeats 1600000 in
theorem contains_inv1 (w : World) (ba0 : Bool) (Aa0 : Option Addr) (na0 ca0 : Nat) (Ba0 : Option Addr) (ma0 oa0 : Nat) (bb0 : Bool) (Ab0 : Option Addr) (nb0 cb0 : Nat) (Bb0 : Option Addr) (mb0 ob0 : Nat) (xs0 ys0 us0 vs0 : List Nat) (R0 : Rd w Aa0 na0 ca0 xs0) (S0 : Rd w Ba0 ma0 oa0 ys0) (U0 : Rd w Ab0 nb0 cb0 us0) (V0 : Rd w Bb0 mb0 ob0 vs0) (ba1 : Bool) (Aa1 : Option Addr) (na1 ca1 : Nat) (Ba1 : Option Addr) (ma1 oa1 : Nat) (bb1 : Bool) (Ab1 : Option Addr) (nb1 cb1 : Nat) (Bb1 : Option Addr) (mb1 ob1 : Nat) (xs1 ys1 us1 vs1 : List Nat) (R1 : Rd w Aa1 na1 ca1 xs1) (S1 : Rd w Ba1 ma1 oa1 ys1) (U1 : Rd w Ab1 nb1 cb1 us1) (V1 : Rd w Bb1 mb1 ob1 vs1) (z0 z1 : Int) (hz : 0 ≤ z0 ∧ z0 ≤ 255 ∧ 0 ≤ z1 ∧ z1 ≤ 255) (hs : na0 ≤ 6 ∧ ma0 ≤ 6 ∧ nb0 ≤ 6 ∧ mb0 ≤ 6 ∧ na1 ≤ 6 ∧ ma1 ≤ 6 ∧ nb1 ≤ 6 ∧ mb1 ≤ 6) (lo0 hi0 : Rat) (Q0 : SRaw w (.agg #[.bool ba0, .slice Aa0 na0 ca0, .slice Ba0 ma0 oa0, .bool bb0, .slice Ab0 nb0 cb0, .slice Bb0 mb0 ob0]) lo0 hi0 true 6) (lo1 hi1 : Rat) (Q1 : SRaw w (.agg #[.bool ba1, .slice Aa1 na1 ca1, .slice Ba1 ma1 oa1, .bool bb1, .slice Ab1 nb1 cb1, .slice Bb1 mb1 ob1]) lo1 hi1 false 6) :
    Calls Try.prog 4 #[.agg #[.bool ba0, .slice Aa0 na0 ca0, .slice Ba0 ma0 oa0, .bool bb0, .slice Ab0 nb0 cb0, .slice Bb0 mb0 ob0], .agg #[.bool ba1, .slice Aa1 na1 ca1, .slice Ba1 ma1 oa1, .bool bb1, .slice Ab1 nb1 cb1, .slice Bb1 mb1 ob1], .agg #[.int .u8 z0, .int .u8 z1]] w fun e w' => e = .returned (.bool true) ∧ On w w' := by
  have HSM : Hid (∀ p ∈ [(na0, ma0, nb0, mb0), (na1, ma1, nb1, mb1)], ¬ Big p) := Lib.hid (by intro p hp; simp at hp; rcases hp with rfl | rfl <;> (unfold Big; simp only; omega))
  have B : On w (((w.alloc (.cells #[.bool ba0, .slice Aa0 na0 ca0, .slice Ba0 ma0 oa0, .bool bb0, .slice Ab0 nb0 cb0, .slice Bb0 mb0 ob0] 38)).alloc (.cells #[.bool ba1, .slice Aa1 na1 ca1, .slice Ba1 ma1 oa1, .bool bb1, .slice Ab1 nb1 cb1, .slice Bb1 mb1 ob1] 38)).alloc (.cells #[.int .u8 z0, .int .u8 z1] 39)) := On.alloc (On.alloc (On.alloc (On.refl w) _) _) _
  have OB3 : w.heap.size ≤ w.heap.size ∧ Own (((w.alloc (.cells #[.bool ba0, .slice Aa0 na0 ca0, .slice Ba0 ma0 oa0, .bool bb0, .slice Ab0 nb0 cb0, .slice Bb0 mb0 ob0] 38)).alloc (.cells #[.bool ba1, .slice Aa1 na1 ca1, .slice Ba1 ma1 oa1, .bool bb1, .slice Ab1 nb1 cb1, .slice Bb1 mb1 ob1] 38)).alloc (.cells #[.int .u8 z0, .int .u8 z1] 39)) (w.heap.size) 38 #[.bool ba0, .slice Aa0 na0 ca0, .slice Ba0 ma0 oa0, .bool bb0, .slice Ab0 nb0 cb0, .slice Bb0 mb0 ob0] := ⟨by omega, (((Own.at_ w (w.heap.size) (by simp) 38 #[.bool ba0, .slice Aa0 na0 ca0, .slice Ba0 ma0 oa0, .bool bb0, .slice Ab0 nb0 cb0, .slice Bb0 mb0 ob0]).alloc (.cells #[.bool ba1, .slice Aa1 na1 ca1, .slice Ba1 ma1 oa1, .bool bb1, .slice Ab1 nb1 cb1, .slice Bb1 mb1 ob1] 38)).alloc (.cells #[.int .u8 z0, .int .u8 z1] 39))⟩
  have OB4 : w.heap.size ≤ w.heap.size + 1 ∧ Own (((w.alloc (.cells #[.bool ba0, .slice Aa0 na0 ca0, .slice Ba0 ma0 oa0, .bool bb0, .slice Ab0 nb0 cb0, .slice Bb0 mb0 ob0] 38)).alloc (.cells #[.bool ba1, .slice Aa1 na1 ca1, .slice Ba1 ma1 oa1, .bool bb1, .slice Ab1 nb1 cb1, .slice Bb1 mb1 ob1] 38)).alloc (.cells #[.int .u8 z0, .int .u8 z1] 39)) (w.heap.size + 1) 38 #[.bool ba1, .slice Aa1 na1 ca1, .slice Ba1 ma1 oa1, .bool bb1, .slice Ab1 nb1 cb1, .slice Bb1 mb1 ob1] := ⟨by omega, ((Own.at_ (w.alloc (.cells #[.bool ba0, .slice Aa0 na0 ca0, .slice Ba0 ma0 oa0, .bool bb0, .slice Ab0 nb0 cb0, .slice Bb0 mb0 ob0] 38)) (w.heap.size + 1) (by simp) 38 #[.bool ba1, .slice Aa1 na1 ca1, .slice Ba1 ma1 oa1, .bool bb1, .slice Ab1 nb1 cb1, .slice Bb1 mb1 ob1]).alloc (.cells #[.int .u8 z0, .int .u8 z1] 39))⟩
  have OB5 : w.heap.size ≤ w.heap.size + 2 ∧ Own (((w.alloc (.cells #[.bool ba0, .slice Aa0 na0 ca0, .slice Ba0 ma0 oa0, .bool bb0, .slice Ab0 nb0 cb0, .slice Bb0 mb0 ob0] 38)).alloc (.cells #[.bool ba1, .slice Aa1 na1 ca1, .slice Ba1 ma1 oa1, .bool bb1, .slice Ab1 nb1 cb1, .slice Bb1 mb1 ob1] 38)).alloc (.cells #[.int .u8 z0, .int .u8 z1] 39)) (w.heap.size + 2) 39 #[.int .u8 z0, .int .u8 z1] := ⟨by omega, (Own.at_ ((w.alloc (.cells #[.bool ba0, .slice Aa0 na0 ca0, .slice Ba0 ma0 oa0, .bool bb0, .slice Ab0 nb0 cb0, .slice Bb0 mb0 ob0] 38)).alloc (.cells #[.bool ba1, .slice Aa1 na1 ca1, .slice Ba1 ma1 oa1, .bool bb1, .slice Ab1 nb1 cb1, .slice Bb1 mb1 ob1] 38)) (w.heap.size + 2) (by simp) 39 #[.int .u8 z0, .int .u8 z1])⟩
  go_enter Try.func4, Try.ntmps4
  go_wp2_with fail
  refine (awake03 _).mono ?_
  rintro e w1 ⟨rfl, P1⟩
  replace OB3 := And.intro OB3.1 (OB3.2.on P1)
  replace OB4 := And.intro OB4.1 (OB4.2.on P1)
  replace OB5 := And.intro OB5.1 (OB5.2.on P1)
  replace B := B.trans P1
  have y3_0 : w1.cell? ⟨w.heap.size, 0, none⟩ = some (.bool ba0) := OB3.2.cell 0
  have y3_1 : w1.cell? ⟨w.heap.size, 1, none⟩ = some (.slice Aa0 na0 ca0) := OB3.2.cell 1
  have y3_2 : w1.cell? ⟨w.heap.size, 2, none⟩ = some (.slice Ba0 ma0 oa0) := OB3.2.cell 2
  have y3_3 : w1.cell? ⟨w.heap.size, 3, none⟩ = some (.bool bb0) := OB3.2.cell 3
  have y3_4 : w1.cell? ⟨w.heap.size, 4, none⟩ = some (.slice Ab0 nb0 cb0) := OB3.2.cell 4
  have y3_5 : w1.cell? ⟨w.heap.size, 5, none⟩ = some (.slice Bb0 mb0 ob0) := OB3.2.cell 5
  have y3_f0 := OB3.2.frozen 0
  have y3_f1 := OB3.2.frozen 1
  have y3_f2 := OB3.2.frozen 2
  have y3_f3 := OB3.2.frozen 3
  have y3_f4 := OB3.2.frozen 4
  have y3_f5 := OB3.2.frozen 5
  have y4_0 : w1.cell? ⟨w.heap.size + 1, 0, none⟩ = some (.bool ba1) := OB4.2.cell 0
  have y4_1 : w1.cell? ⟨w.heap.size + 1, 1, none⟩ = some (.slice Aa1 na1 ca1) := OB4.2.cell 1
  have y4_2 : w1.cell? ⟨w.heap.size + 1, 2, none⟩ = some (.slice Ba1 ma1 oa1) := OB4.2.cell 2
  have y4_3 : w1.cell? ⟨w.heap.size + 1, 3, none⟩ = some (.bool bb1) := OB4.2.cell 3
  have y4_4 : w1.cell? ⟨w.heap.size + 1, 4, none⟩ = some (.slice Ab1 nb1 cb1) := OB4.2.cell 4
  have y4_5 : w1.cell? ⟨w.heap.size + 1, 5, none⟩ = some (.slice Bb1 mb1 ob1) := OB4.2.cell 5
  have y4_f0 := OB4.2.frozen 0
  have y4_f1 := OB4.2.frozen 1
  have y4_f2 := OB4.2.frozen 2
  have y4_f3 := OB4.2.frozen 3
  have y4_f4 := OB4.2.frozen 4
  have y4_f5 := OB4.2.frozen 5
  have y5_0 : w1.cell? ⟨w.heap.size + 2, 0, none⟩ = some (.int .u8 z0) := OB5.2.cell 0
  have y5_1 : w1.cell? ⟨w.heap.size + 2, 1, none⟩ = some (.int .u8 z1) := OB5.2.cell 1
  have y5_f0 := OB5.2.frozen 0
  have y5_f1 := OB5.2.frozen 1
  go_wp2_with fail
  clear y3_0 y3_f0 y3_1 y3_f1 y3_2 y3_f2 y3_3 y3_f3 y3_4 y3_f4 y3_5 y3_f5
  clear y4_0 y4_f0 y4_1 y4_f1 y4_2 y4_f2 y4_3 y4_f3 y4_4 y4_f4 y4_5 y4_f5
  clear y5_0 y5_f0 y5_1 y5_f1
  have B1 := (On.refl w1).alloc (.cells #[.bool ba0, .slice Aa0 na0 ca0, .slice Ba0 ma0 oa0, .bool bb0, .slice Ab0 nb0 cb0, .slice Bb0 mb0 ob0, .bool ba1, .slice Aa1 na1 ca1, .slice Ba1 ma1 oa1, .bool bb1, .slice Ab1 nb1 cb1, .slice Bb1 mb1 ob1] 38)
  replace OB3 := And.intro OB3.1 (OB3.2.on B1)
  replace OB4 := And.intro OB4.1 (OB4.2.on B1)
  replace OB5 := And.intro OB5.1 (OB5.2.on B1)
  replace B := B.trans B1
  have hlens := slens2 ba0 Aa0 na0 ca0 Ba0 ma0 oa0 bb0 Ab0 nb0 cb0 Bb0 mb0 ob0 xs0 ys0 us0 vs0 (R0.on B) (S0.on B) (U0.on B) (V0.on B) ba1 Aa1 na1 ca1 Ba1 ma1 oa1 bb1 Ab1 nb1 cb1 Bb1 mb1 ob1 xs1 ys1 us1 vs1 (R1.on B) (S1.on B) (U1.on B) (V1.on B) (Own.new w1 38 #[.bool ba0, .slice Aa0 na0 ca0, .slice Ba0 ma0 oa0, .bool bb0, .slice Ab0 nb0 cb0, .slice Bb0 mb0 ob0, .bool ba1, .slice Aa1 na1 ca1, .slice Ba1 ma1 oa1, .bool bb1, .slice Ab1 nb1 cb1, .slice Bb1 mb1 ob1])
  refine (slarge_no _ _ 2 2 _ hlens rfl (by decide) (by decide) (by decide) HSM.out).mono ?_
  rintro e w2 ⟨rfl, P2⟩
  clear hlens B1 P1
  replace OB3 := And.intro OB3.1 (OB3.2.on P2)
  replace OB4 := And.intro OB4.1 (OB4.2.on P2)
  replace OB5 := And.intro OB5.1 (OB5.2.on P2)
  replace B := B.trans P2
  clear P2
  have y3_0 : w2.cell? ⟨w.heap.size, 0, none⟩ = some (.bool ba0) := OB3.2.cell 0
  have y3_1 : w2.cell? ⟨w.heap.size, 1, none⟩ = some (.slice Aa0 na0 ca0) := OB3.2.cell 1
  have y3_2 : w2.cell? ⟨w.heap.size, 2, none⟩ = some (.slice Ba0 ma0 oa0) := OB3.2.cell 2
  have y3_3 : w2.cell? ⟨w.heap.size, 3, none⟩ = some (.bool bb0) := OB3.2.cell 3
  have y3_4 : w2.cell? ⟨w.heap.size, 4, none⟩ = some (.slice Ab0 nb0 cb0) := OB3.2.cell 4
  have y3_5 : w2.cell? ⟨w.heap.size, 5, none⟩ = some (.slice Bb0 mb0 ob0) := OB3.2.cell 5
  have y3_f0 := OB3.2.frozen 0
  have y3_f1 := OB3.2.frozen 1
  have y3_f2 := OB3.2.frozen 2
  have y3_f3 := OB3.2.frozen 3
  have y3_f4 := OB3.2.frozen 4
  have y3_f5 := OB3.2.frozen 5
  go_wp2_with fail
  refine (svalid_any _ _ _ _ _ _ (Q0.on B) (by decide)).mono ?_
  rintro e wv0 ⟨rfl, PV⟩
  clear y3_0 y3_f0 y3_1 y3_f1 y3_2 y3_f2 y3_3 y3_f3 y3_4 y3_f4 y3_5 y3_f5
  replace OB3 := And.intro OB3.1 (OB3.2.on PV)
  replace OB4 := And.intro OB4.1 (OB4.2.on PV)
  replace OB5 := And.intro OB5.1 (OB5.2.on PV)
  replace B := B.trans PV
  clear PV
  have y4_0 : wv0.cell? ⟨w.heap.size + 1, 0, none⟩ = some (.bool ba1) := OB4.2.cell 0
  have y4_1 : wv0.cell? ⟨w.heap.size + 1, 1, none⟩ = some (.slice Aa1 na1 ca1) := OB4.2.cell 1
  have y4_2 : wv0.cell? ⟨w.heap.size + 1, 2, none⟩ = some (.slice Ba1 ma1 oa1) := OB4.2.cell 2
  have y4_3 : wv0.cell? ⟨w.heap.size + 1, 3, none⟩ = some (.bool bb1) := OB4.2.cell 3
  have y4_4 : wv0.cell? ⟨w.heap.size + 1, 4, none⟩ = some (.slice Ab1 nb1 cb1) := OB4.2.cell 4
  have y4_5 : wv0.cell? ⟨w.heap.size + 1, 5, none⟩ = some (.slice Bb1 mb1 ob1) := OB4.2.cell 5
  have y4_f0 := OB4.2.frozen 0
  have y4_f1 := OB4.2.frozen 1
  have y4_f2 := OB4.2.frozen 2
  have y4_f3 := OB4.2.frozen 3
  have y4_f4 := OB4.2.frozen 4
  have y4_f5 := OB4.2.frozen 5
  go_wp2_with fail
  refine (svalid_any _ _ _ _ _ _ (Q1.on B) (by decide)).mono ?_
  rintro e wv1 ⟨rfl, PV⟩
  clear y4_0 y4_f0 y4_1 y4_f1 y4_2 y4_f2 y4_3 y4_f3 y4_4 y4_f4 y4_5 y4_f5
  replace OB3 := And.intro OB3.1 (OB3.2.on PV)
  replace OB4 := And.intro OB4.1 (OB4.2.on PV)
  replace OB5 := And.intro OB5.1 (OB5.2.on PV)
  replace B := B.trans PV
  clear PV
  go_wp2_with fail
  refine (awake03 _).mono ?_
  rintro e w3 ⟨rfl, P3⟩
  go_wp2
  go_ret
  exact ⟨rfl, B.trans P3⟩
set_option maxRecDepth 100000 in
set_option maxHeartbeats 1600000 in
theorem contains_zero (w : World) (ba0 : Bool) (Aa0 : Option Addr) (na0 ca0 : Nat) (Ba0 : Option Addr) (ma0 oa0 : Nat) (bb0 : Bool) (Ab0 : Option Addr) (nb0 cb0 : Nat) (Bb0 : Option Addr) (mb0 ob0 : Nat) (xs0 ys0 us0 vs0 : List Nat) (R0 : Rd w Aa0 na0 ca0 xs0) (S0 : Rd w Ba0 ma0 oa0 ys0) (U0 : Rd w Ab0 nb0 cb0 us0) (V0 : Rd w Bb0 mb0 ob0 vs0) (ba1 : Bool) (Aa1 : Option Addr) (na1 ca1 : Nat) (Ba1 : Option Addr) (ma1 oa1 : Nat) (bb1 : Bool) (Ab1 : Option Addr) (nb1 cb1 : Nat) (Bb1 : Option Addr) (mb1 ob1 : Nat) (xs1 ys1 us1 vs1 : List Nat) (R1 : Rd w Aa1 na1 ca1 xs1) (S1 : Rd w Ba1 ma1 oa1 ys1) (U1 : Rd w Ab1 nb1 cb1 us1) (V1 : Rd w Bb1 mb1 ob1 vs1) (z0 z1 : Int) (hz : 0 ≤ z0 ∧ z0 ≤ 255 ∧ 0 ≤ z1 ∧ z1 ≤ 255) (hs : na0 ≤ 6 ∧ ma0 ≤ 6 ∧ nb0 ≤ 6 ∧ mb0 ≤ 6 ∧ na1 ≤ 6 ∧ ma1 ≤ 6 ∧ nb1 ≤ 6 ∧ mb1 ≤ 6) (lo0 hi0 : Rat) (Q0 : SRaw w (.agg #[.bool ba0, .slice Aa0 na0 ca0, .slice Ba0 ma0 oa0, .bool bb0, .slice Ab0 nb0 cb0, .slice Bb0 mb0 ob0]) lo0 hi0 true 6) (lo1 hi1 : Rat) (Q1 : SRaw w (.agg #[.bool ba1, .slice Aa1 na1 ca1, .slice Ba1 ma1 oa1, .bool bb1, .slice Ab1 nb1 cb1, .slice Bb1 mb1 ob1]) lo1 hi1 true 6) (hc : (lo1 ≤ 0 ∧ 0 ≤ hi1)) :
    Calls Try.prog 4 #[.agg #[.bool ba0, .slice Aa0 na0 ca0, .slice Ba0 ma0 oa0, .bool bb0, .slice Ab0 nb0 cb0, .slice Bb0 mb0 ob0], .agg #[.bool ba1, .slice Aa1 na1 ca1, .slice Ba1 ma1 oa1, .bool bb1, .slice Ab1 nb1 cb1, .slice Bb1 mb1 ob1], .agg #[.int .u8 z0, .int .u8 z1]] w fun e w' => e = .returned (.bool true) ∧ On w w' := by
  obtain ⟨I0, le0⟩ := raw_isS Q0
  have T0 := I0.sp le0
  obtain ⟨I1, le1⟩ := raw_isS Q1
  have T1 := I1.sp le1
  have HC := Lib.hid hc
  clear hc
  have HZ := Lib.hid hz
  clear hz
  obtain ⟨x, ex⟩ : ∃ x, part lo0 hi0 ((z0 : Rat) * (255 : Rat)⁻¹) = x := ⟨_, rfl⟩
  obtain ⟨y, ey⟩ : ∃ x, part lo1 hi1 ((z1 : Rat) * (255 : Rat)⁻¹) = x := ⟨_, rfl⟩
  have HR0 := Lib.hid (in_range le0 HZ.out.1 HZ.out.2.1 ex)
  have HR1 := Lib.hid (in_range le1 HZ.out.2.2.1 HZ.out.2.2.2 ey)
  have HX := Lib.hid ex
  have HY := Lib.hid ey
  clear ex ey
  have HSM : Hid (∀ p ∈ [(na0, ma0, nb0, mb0), (na1, ma1, nb1, mb1)], ¬ Big p) := Lib.hid (by intro p hp; simp at hp; rcases hp with rfl | rfl <;> (unfold Big; simp only; omega))
  have B : On w (((w.alloc (.cells #[.bool ba0, .slice Aa0 na0 ca0, .slice Ba0 ma0 oa0, .bool bb0, .slice Ab0 nb0 cb0, .slice Bb0 mb0 ob0] 38)).alloc (.cells #[.bool ba1, .slice Aa1 na1 ca1, .slice Ba1 ma1 oa1, .bool bb1, .slice Ab1 nb1 cb1, .slice Bb1 mb1 ob1] 38)).alloc (.cells #[.int .u8 z0, .int .u8 z1] 39)) := On.alloc (On.alloc (On.alloc (On.refl w) _) _) _
  have OB3 : w.heap.size ≤ w.heap.size ∧ Own (((w.alloc (.cells #[.bool ba0, .slice Aa0 na0 ca0, .slice Ba0 ma0 oa0, .bool bb0, .slice Ab0 nb0 cb0, .slice Bb0 mb0 ob0] 38)).alloc (.cells #[.bool ba1, .slice Aa1 na1 ca1, .slice Ba1 ma1 oa1, .bool bb1, .slice Ab1 nb1 cb1, .slice Bb1 mb1 ob1] 38)).alloc (.cells #[.int .u8 z0, .int .u8 z1] 39)) (w.heap.size) 38 #[.bool ba0, .slice Aa0 na0 ca0, .slice Ba0 ma0 oa0, .bool bb0, .slice Ab0 nb0 cb0, .slice Bb0 mb0 ob0] := ⟨by omega, (((Own.at_ w (w.heap.size) (by simp) 38 #[.bool ba0, .slice Aa0 na0 ca0, .slice Ba0 ma0 oa0, .bool bb0, .slice Ab0 nb0 cb0, .slice Bb0 mb0 ob0]).alloc (.cells #[.bool ba1, .slice Aa1 na1 ca1, .slice Ba1 ma1 oa1, .bool bb1, .slice Ab1 nb1 cb1, .slice Bb1 mb1 ob1] 38)).alloc (.cells #[.int .u8 z0, .int .u8 z1] 39))⟩
  have OB4 : w.heap.size ≤ w.heap.size + 1 ∧ Own (((w.alloc (.cells #[.bool ba0, .slice Aa0 na0 ca0, .slice Ba0 ma0 oa0, .bool bb0, .slice Ab0 nb0 cb0, .slice Bb0 mb0 ob0] 38)).alloc (.cells #[.bool ba1, .slice Aa1 na1 ca1, .slice Ba1 ma1 oa1, .bool bb1, .slice Ab1 nb1 cb1, .slice Bb1 mb1 ob1] 38)).alloc (.cells #[.int .u8 z0, .int .u8 z1] 39)) (w.heap.size + 1) 38 #[.bool ba1, .slice Aa1 na1 ca1, .slice Ba1 ma1 oa1, .bool bb1, .slice Ab1 nb1 cb1, .slice Bb1 mb1 ob1] := ⟨by omega, ((Own.at_ (w.alloc (.cells #[.bool ba0, .slice Aa0 na0 ca0, .slice Ba0 ma0 oa0, .bool bb0, .slice Ab0 nb0 cb0, .slice Bb0 mb0 ob0] 38)) (w.heap.size + 1) (by simp) 38 #[.bool ba1, .slice Aa1 na1 ca1, .slice Ba1 ma1 oa1, .bool bb1, .slice Ab1 nb1 cb1, .slice Bb1 mb1 ob1]).alloc (.cells #[.int .u8 z0, .int .u8 z1] 39))⟩
  have OB5 : w.heap.size ≤ w.heap.size + 2 ∧ Own (((w.alloc (.cells #[.bool ba0, .slice Aa0 na0 ca0, .slice Ba0 ma0 oa0, .bool bb0, .slice Ab0 nb0 cb0, .slice Bb0 mb0 ob0] 38)).alloc (.cells #[.bool ba1, .slice Aa1 na1 ca1, .slice Ba1 ma1 oa1, .bool bb1, .slice Ab1 nb1 cb1, .slice Bb1 mb1 ob1] 38)).alloc (.cells #[.int .u8 z0, .int .u8 z1] 39)) (w.heap.size + 2) 39 #[.int .u8 z0, .int .u8 z1] := ⟨by omega, (Own.at_ ((w.alloc (.cells #[.bool ba0, .slice Aa0 na0 ca0, .slice Ba0 ma0 oa0, .bool bb0, .slice Ab0 nb0 cb0, .slice Bb0 mb0 ob0] 38)).alloc (.cells #[.bool ba1, .slice Aa1 na1 ca1, .slice Ba1 ma1 oa1, .bool bb1, .slice Ab1 nb1 cb1, .slice Bb1 mb1 ob1] 38)) (w.heap.size + 2) (by simp) 39 #[.int .u8 z0, .int .u8 z1])⟩
  go_enter Try.func4, Try.ntmps4
  go_wp2_with fail
  refine (awake03 _).mono ?_
  rintro e w1 ⟨rfl, P1⟩
  replace OB3 := And.intro OB3.1 (OB3.2.on P1)
  replace OB4 := And.intro OB4.1 (OB4.2.on P1)
  replace OB5 := And.intro OB5.1 (OB5.2.on P1)
  replace B := B.trans P1
  have y3_0 : w1.cell? ⟨w.heap.size, 0, none⟩ = some (.bool ba0) := OB3.2.cell 0
  have y3_1 : w1.cell? ⟨w.heap.size, 1, none⟩ = some (.slice Aa0 na0 ca0) := OB3.2.cell 1
  have y3_2 : w1.cell? ⟨w.heap.size, 2, none⟩ = some (.slice Ba0 ma0 oa0) := OB3.2.cell 2
  have y3_3 : w1.cell? ⟨w.heap.size, 3, none⟩ = some (.bool bb0) := OB3.2.cell 3
  have y3_4 : w1.cell? ⟨w.heap.size, 4, none⟩ = some (.slice Ab0 nb0 cb0) := OB3.2.cell 4
  have y3_5 : w1.cell? ⟨w.heap.size, 5, none⟩ = some (.slice Bb0 mb0 ob0) := OB3.2.cell 5
  have y3_f0 := OB3.2.frozen 0
  have y3_f1 := OB3.2.frozen 1
  have y3_f2 := OB3.2.frozen 2
  have y3_f3 := OB3.2.frozen 3
  have y3_f4 := OB3.2.frozen 4
  have y3_f5 := OB3.2.frozen 5
  have y4_0 : w1.cell? ⟨w.heap.size + 1, 0, none⟩ = some (.bool ba1) := OB4.2.cell 0
  have y4_1 : w1.cell? ⟨w.heap.size + 1, 1, none⟩ = some (.slice Aa1 na1 ca1) := OB4.2.cell 1
  have y4_2 : w1.cell? ⟨w.heap.size + 1, 2, none⟩ = some (.slice Ba1 ma1 oa1) := OB4.2.cell 2
  have y4_3 : w1.cell? ⟨w.heap.size + 1, 3, none⟩ = some (.bool bb1) := OB4.2.cell 3
  have y4_4 : w1.cell? ⟨w.heap.size + 1, 4, none⟩ = some (.slice Ab1 nb1 cb1) := OB4.2.cell 4
  have y4_5 : w1.cell? ⟨w.heap.size + 1, 5, none⟩ = some (.slice Bb1 mb1 ob1) := OB4.2.cell 5
  have y4_f0 := OB4.2.frozen 0
  have y4_f1 := OB4.2.frozen 1
  have y4_f2 := OB4.2.frozen 2
  have y4_f3 := OB4.2.frozen 3
  have y4_f4 := OB4.2.frozen 4
  have y4_f5 := OB4.2.frozen 5
  have y5_0 : w1.cell? ⟨w.heap.size + 2, 0, none⟩ = some (.int .u8 z0) := OB5.2.cell 0
  have y5_1 : w1.cell? ⟨w.heap.size + 2, 1, none⟩ = some (.int .u8 z1) := OB5.2.cell 1
  have y5_f0 := OB5.2.frozen 0
  have y5_f1 := OB5.2.frozen 1
  go_wp2_with fail
  clear y3_0 y3_f0 y3_1 y3_f1 y3_2 y3_f2 y3_3 y3_f3 y3_4 y3_f4 y3_5 y3_f5
  clear y4_0 y4_f0 y4_1 y4_f1 y4_2 y4_f2 y4_3 y4_f3 y4_4 y4_f4 y4_5 y4_f5
  clear y5_0 y5_f0 y5_1 y5_f1
  have B1 := (On.refl w1).alloc (.cells #[.bool ba0, .slice Aa0 na0 ca0, .slice Ba0 ma0 oa0, .bool bb0, .slice Ab0 nb0 cb0, .slice Bb0 mb0 ob0, .bool ba1, .slice Aa1 na1 ca1, .slice Ba1 ma1 oa1, .bool bb1, .slice Ab1 nb1 cb1, .slice Bb1 mb1 ob1] 38)
  replace OB3 := And.intro OB3.1 (OB3.2.on B1)
  replace OB4 := And.intro OB4.1 (OB4.2.on B1)
  replace OB5 := And.intro OB5.1 (OB5.2.on B1)
  replace B := B.trans B1
  have hlens := slens2 ba0 Aa0 na0 ca0 Ba0 ma0 oa0 bb0 Ab0 nb0 cb0 Bb0 mb0 ob0 xs0 ys0 us0 vs0 (R0.on B) (S0.on B) (U0.on B) (V0.on B) ba1 Aa1 na1 ca1 Ba1 ma1 oa1 bb1 Ab1 nb1 cb1 Bb1 mb1 ob1 xs1 ys1 us1 vs1 (R1.on B) (S1.on B) (U1.on B) (V1.on B) (Own.new w1 38 #[.bool ba0, .slice Aa0 na0 ca0, .slice Ba0 ma0 oa0, .bool bb0, .slice Ab0 nb0 cb0, .slice Bb0 mb0 ob0, .bool ba1, .slice Aa1 na1 ca1, .slice Ba1 ma1 oa1, .bool bb1, .slice Ab1 nb1 cb1, .slice Bb1 mb1 ob1])
  refine (slarge_no _ _ 2 2 _ hlens rfl (by decide) (by decide) (by decide) HSM.out).mono ?_
  rintro e w2 ⟨rfl, P2⟩
  clear hlens B1 P1
  replace OB3 := And.intro OB3.1 (OB3.2.on P2)
  replace OB4 := And.intro OB4.1 (OB4.2.on P2)
  replace OB5 := And.intro OB5.1 (OB5.2.on P2)
  replace B := B.trans P2
  clear P2
  have y3_0 : w2.cell? ⟨w.heap.size, 0, none⟩ = some (.bool ba0) := OB3.2.cell 0
  have y3_1 : w2.cell? ⟨w.heap.size, 1, none⟩ = some (.slice Aa0 na0 ca0) := OB3.2.cell 1
  have y3_2 : w2.cell? ⟨w.heap.size, 2, none⟩ = some (.slice Ba0 ma0 oa0) := OB3.2.cell 2
  have y3_3 : w2.cell? ⟨w.heap.size, 3, none⟩ = some (.bool bb0) := OB3.2.cell 3
  have y3_4 : w2.cell? ⟨w.heap.size, 4, none⟩ = some (.slice Ab0 nb0 cb0) := OB3.2.cell 4
  have y3_5 : w2.cell? ⟨w.heap.size, 5, none⟩ = some (.slice Bb0 mb0 ob0) := OB3.2.cell 5
  have y3_f0 := OB3.2.frozen 0
  have y3_f1 := OB3.2.frozen 1
  have y3_f2 := OB3.2.frozen 2
  have y3_f3 := OB3.2.frozen 3
  have y3_f4 := OB3.2.frozen 4
  have y3_f5 := OB3.2.frozen 5
  go_wp2_with fail
  refine (svalid_any _ _ _ _ _ _ (Q0.on B) (by decide)).mono ?_
  rintro e wv0 ⟨rfl, PV⟩
  clear y3_0 y3_f0 y3_1 y3_f1 y3_2 y3_f2 y3_3 y3_f3 y3_4 y3_f4 y3_5 y3_f5
  replace OB3 := And.intro OB3.1 (OB3.2.on PV)
  replace OB4 := And.intro OB4.1 (OB4.2.on PV)
  replace OB5 := And.intro OB5.1 (OB5.2.on PV)
  replace B := B.trans PV
  clear PV
  have y4_0 : wv0.cell? ⟨w.heap.size + 1, 0, none⟩ = some (.bool ba1) := OB4.2.cell 0
  have y4_1 : wv0.cell? ⟨w.heap.size + 1, 1, none⟩ = some (.slice Aa1 na1 ca1) := OB4.2.cell 1
  have y4_2 : wv0.cell? ⟨w.heap.size + 1, 2, none⟩ = some (.slice Ba1 ma1 oa1) := OB4.2.cell 2
  have y4_3 : wv0.cell? ⟨w.heap.size + 1, 3, none⟩ = some (.bool bb1) := OB4.2.cell 3
  have y4_4 : wv0.cell? ⟨w.heap.size + 1, 4, none⟩ = some (.slice Ab1 nb1 cb1) := OB4.2.cell 4
  have y4_5 : wv0.cell? ⟨w.heap.size + 1, 5, none⟩ = some (.slice Bb1 mb1 ob1) := OB4.2.cell 5
  have y4_f0 := OB4.2.frozen 0
  have y4_f1 := OB4.2.frozen 1
  have y4_f2 := OB4.2.frozen 2
  have y4_f3 := OB4.2.frozen 3
  have y4_f4 := OB4.2.frozen 4
  have y4_f5 := OB4.2.frozen 5
  go_wp2_with fail
  refine (svalid_any _ _ _ _ _ _ (Q1.on B) (by decide)).mono ?_
  rintro e wv1 ⟨rfl, PV⟩
  clear y4_0 y4_f0 y4_1 y4_f1 y4_2 y4_f2 y4_3 y4_f3 y4_4 y4_f4 y4_5 y4_f5
  replace OB3 := And.intro OB3.1 (OB3.2.on PV)
  replace OB4 := And.intro OB4.1 (OB4.2.on PV)
  replace OB5 := And.intro OB5.1 (OB5.2.on PV)
  replace B := B.trans PV
  clear PV
  clear HSM
  go_wp2
  refine wp_region_facts (by kernel_rfl) w [Fact.eq (.agg #[.bool ba0, .slice Aa0 na0 ca0, .slice Ba0 ma0 oa0, .bool bb0, .slice Ab0 nb0 cb0, .slice Bb0 mb0 ob0]), Fact.eq (.pointer (some ⟨w.heap.size + 2, 0, none⟩)), Fact.eq (.int .u8 z0), Fact.rat (x) (53), Fact.eq (.agg #[.bool ba1, .slice Aa1 na1 ca1, .slice Ba1 ma1 oa1, .bool bb1, .slice Ab1 nb1 cb1, .slice Bb1 mb1 ob1]), Fact.eq (.pointer (some ⟨w.heap.size + 2, 1, none⟩)), Fact.eq (.int .u8 z1), Fact.rat (y) (53), Fact.any, Fact.any, Fact.any, Fact.any] [Fact.any, Fact.any, Fact.any, Fact.rat (x) (53), Fact.rat (y) (53)] [⟨12, 3, 38, 12, #[.bool ba0, .slice Aa0 na0 ca0, .slice Ba0 ma0 oa0, .bool bb0, .slice Ab0 nb0 cb0, .slice Bb0 mb0 ob0]⟩, ⟨12, 4, 38, 12, #[.bool ba1, .slice Aa1 na1 ca1, .slice Ba1 ma1 oa1, .bool bb1, .slice Ab1 nb1 cb1, .slice Bb1 mb1 ob1]⟩, ⟨12, 5, 39, 12, #[.int .u8 z0, .int .u8 z1]⟩, ⟨8, 7, 24, 10, #[.bool false, .slice none 0 0, .slice none 0 0]⟩, ⟨9, 8, 24, 11, #[.bool false, .slice none 0 0, .slice none 0 0]⟩] [w.heap.size, w.heap.size + 1, w.heap.size + 2] [none, none, none, none, none, none, none, some 7, some 8, none, none, none, none, none, none, none, none, none, none, none, none, none, none, none, none, none, none, none, none, none, none, none, some 32, some 33, some 34, some 35, some 36, some 37, some 38, some 39, none, none, none, none, none, none, none, none, none, none, none, none, none, none, none, none, none, none, none, none, none, none, none, none, none, none, none, none, none, none, none, none, none, none, none, none, none, none, none, none, none, none, none, none, none, none, none, none, none, none, none, none, none, none, none, none, none, none, none, none, none, none, none, none, none, none, none, none, none, none, none, none, none, none, none, none, none, none, none, none, none, none, none] (by kernel_rfl) (by kernel_rfl) (by kernel_rfl) rfl B ?_ ?_ ?_ ?_ ?_
  · exact ⟨fun _ => ⟨by simp, rfl, OB3⟩, fun _ => ⟨by simp, rfl, OB4⟩, fun _ => ⟨by simp, rfl, OB5⟩, fun h => absurd h (by decide), fun h => absurd h (by decide), trivial⟩
  · exact .inr (by simp <;> omega)
  · exact ⟨⟨noWords_S _ _ _ _ _ _ _ _ _ _ _ _ _ _, (.inl (Nat.le_refl _)), (.inl (Nat.le_refl _))⟩, ⟨noWords_S _ _ _ _ _ _ _ _ _ _ _ _ _ _, (.inl (Nat.le_refl _)), (.inl (Nat.le_refl _))⟩, ⟨noWords_2 _ _, (.inl (Nat.le_refl _)), (.inl (Nat.le_refl _))⟩, ⟨noWords_R _ _ _ _ _ _ _, (.inr ⟨fun _ _ => trivial, _, rfl, fun a w => ⟨rfl, do_value run_allocR⟩⟩), (.inr (store_ob (j := 3) (noWords_R _ _ _ _ _ _ _) rfl rfl rfl (by kernel_rfl) rfl rfl rfl))⟩, ⟨noWords_R _ _ _ _ _ _ _, (.inr ⟨fun _ _ => trivial, _, rfl, fun a w => ⟨rfl, do_value run_allocR⟩⟩), (.inr (store_ob (j := 7) (noWords_R _ _ _ _ _ _ _) rfl rfl rfl (by kernel_rfl) rfl rfl rfl))⟩, trivial⟩
  · refine ⟨?_, ?_, ?_, ?_, ?_, ?_, ?_, ?_, ?_, ?_, ?_, ?_, trivial⟩
    · exact .inr fun a w hp => ob_yes rfl (ob_loadSp (hp.box (k := 0) rfl (Nat.le_refl _) (.inl (Nat.le_refl _)) (by kernel_rfl) rfl).1 (hp.box (k := 0) rfl (Nat.le_refl _) (.inl (Nat.le_refl _)) (by kernel_rfl) rfl).2 rfl)
    · exact .inr fun a w hp => ob_yes rfl (ob_index2 (j := 0) (hp.box (k := 2) rfl (Nat.le_refl _) (.inl (Nat.le_refl _)) (by kernel_rfl) rfl).1 (by decide) rfl)
    · exact .inr fun a w hp => ob_yes rfl (ob_loadY (hp.fact 1 33 (by kernel_rfl) rfl) (hp.box (k := 2) rfl (Nat.le_refl _) (.inl (Nat.le_refl _)) (by kernel_rfl) rfl).2 rfl rfl)
    · refine .inr fun a w hp => ob_yes rfl ?_
      have h32 : a.tmps.getD 32 undef = .agg #[.bool ba0, .slice Aa0 na0 ca0, .slice Ba0 ma0 oa0, .bool bb0, .slice Ab0 nb0 cb0, .slice Bb0 mb0 ob0] := (hp.fact 0 32 (by kernel_rfl) rfl)
      have h34 : a.tmps.getD 34 undef = .int .u8 z0 := (hp.fact 2 34 (by kernel_rfl) rfl)
      unfold Does
      go_simp
      refine (in_any _ _ lo0 hi0 z0 (I0.on hp.on) HZ.out.1 HZ.out.2.1).mono ?_
      rintro e w' ⟨u, rfl, I9, P9⟩
      rw [HX.out] at I9
      exact ⟨_, rfl, P9, I9⟩
    · exact .inr fun a w hp => ob_yes rfl (ob_loadSp (hp.box (k := 1) rfl (Nat.le_refl _) (.inl (Nat.le_refl _)) (by kernel_rfl) rfl).1 (hp.box (k := 1) rfl (Nat.le_refl _) (.inl (Nat.le_refl _)) (by kernel_rfl) rfl).2 rfl)
    · exact .inr fun a w hp => ob_yes rfl (ob_index2 (j := 1) (hp.box (k := 2) rfl (Nat.le_refl _) (.inl (Nat.le_refl _)) (by kernel_rfl) rfl).1 (by decide) rfl)
    · exact .inr fun a w hp => ob_yes rfl (ob_loadY (hp.fact 5 37 (by kernel_rfl) rfl) (hp.box (k := 2) rfl (Nat.le_refl _) (.inl (Nat.le_refl _)) (by kernel_rfl) rfl).2 rfl rfl)
    · refine .inr fun a w hp => ob_yes rfl ?_
      have h36 : a.tmps.getD 36 undef = .agg #[.bool ba1, .slice Aa1 na1 ca1, .slice Ba1 ma1 oa1, .bool bb1, .slice Ab1 nb1 cb1, .slice Bb1 mb1 ob1] := (hp.fact 4 36 (by kernel_rfl) rfl)
      have h38 : a.tmps.getD 38 undef = .int .u8 z1 := (hp.fact 6 38 (by kernel_rfl) rfl)
      unfold Does
      go_simp
      refine (in_any _ _ lo1 hi1 z1 (I1.on hp.on) HZ.out.2.2.1 HZ.out.2.2.2).mono ?_
      rintro e w' ⟨u, rfl, I9, P9⟩
      rw [HY.out] at I9
      exact ⟨_, rfl, P9, I9⟩
    · exact .inl rfl
    · exact .inl rfl
    · exact .inl rfl
    · exact .inl rfl
  · intro f wr hon hk hf hb hap
    obtain ⟨q0, q1, q2, q3, q4, qz⟩ := hb
    clear qz
    have O3 : Own wr (w.heap.size) 38 #[.bool ba0, .slice Aa0 na0 ca0, .slice Ba0 ma0 oa0, .bool bb0, .slice Ab0 nb0 cb0, .slice Bb0 mb0 ob0] := q0
    have c3_0 : wr.cell? ⟨w.heap.size, 0, none⟩ = some (.bool ba0) := O3.cell 0
    have z3_0 := O3.frozen 0
    have c3_1 : wr.cell? ⟨w.heap.size, 1, none⟩ = some (.slice Aa0 na0 ca0) := O3.cell 1
    have z3_1 := O3.frozen 1
    have c3_2 : wr.cell? ⟨w.heap.size, 2, none⟩ = some (.slice Ba0 ma0 oa0) := O3.cell 2
    have z3_2 := O3.frozen 2
    have c3_3 : wr.cell? ⟨w.heap.size, 3, none⟩ = some (.bool bb0) := O3.cell 3
    have z3_3 := O3.frozen 3
    have c3_4 : wr.cell? ⟨w.heap.size, 4, none⟩ = some (.slice Ab0 nb0 cb0) := O3.cell 4
    have z3_4 := O3.frozen 4
    have c3_5 : wr.cell? ⟨w.heap.size, 5, none⟩ = some (.slice Bb0 mb0 ob0) := O3.cell 5
    have z3_5 := O3.frozen 5
    clear q0
    have O4 : Own wr (w.heap.size + 1) 38 #[.bool ba1, .slice Aa1 na1 ca1, .slice Ba1 ma1 oa1, .bool bb1, .slice Ab1 nb1 cb1, .slice Bb1 mb1 ob1] := q1
    have c4_0 : wr.cell? ⟨w.heap.size + 1, 0, none⟩ = some (.bool ba1) := O4.cell 0
    have z4_0 := O4.frozen 0
    have c4_1 : wr.cell? ⟨w.heap.size + 1, 1, none⟩ = some (.slice Aa1 na1 ca1) := O4.cell 1
    have z4_1 := O4.frozen 1
    have c4_2 : wr.cell? ⟨w.heap.size + 1, 2, none⟩ = some (.slice Ba1 ma1 oa1) := O4.cell 2
    have z4_2 := O4.frozen 2
    have c4_3 : wr.cell? ⟨w.heap.size + 1, 3, none⟩ = some (.bool bb1) := O4.cell 3
    have z4_3 := O4.frozen 3
    have c4_4 : wr.cell? ⟨w.heap.size + 1, 4, none⟩ = some (.slice Ab1 nb1 cb1) := O4.cell 4
    have z4_4 := O4.frozen 4
    have c4_5 : wr.cell? ⟨w.heap.size + 1, 5, none⟩ = some (.slice Bb1 mb1 ob1) := O4.cell 5
    have z4_5 := O4.frozen 5
    clear q1
    have O5 : Own wr (w.heap.size + 2) 39 #[.int .u8 z0, .int .u8 z1] := q2
    have c5_0 : wr.cell? ⟨w.heap.size + 2, 0, none⟩ = some (.int .u8 z0) := O5.cell 0
    have z5_0 := O5.frozen 0
    have c5_1 : wr.cell? ⟨w.heap.size + 2, 1, none⟩ = some (.int .u8 z1) := O5.cell 1
    have z5_1 := O5.frozen 1
    clear q2
    obtain ⟨g7, e7, G7, q3⟩ := q3
    change f 7 = _ at e7
    obtain ⟨cur7, O7, I7⟩ : ∃ cur, Own wr (g7) 24 cur ∧ IsR wr (.agg cur) (x) (53) := q3
    obtain ⟨sl7, P7, Pn7, Pc7, R7, Rn7, Rc7, hz7⟩ := isR_form I7
    injection hz7 with hz7
    subst hz7
    have c7_0 : wr.cell? ⟨g7, 0, none⟩ = some (.bool sl7) := O7.cell 0
    have z7_0 := O7.frozen 0
    have c7_1 : wr.cell? ⟨g7, 1, none⟩ = some (.slice P7 Pn7 Pc7) := O7.cell 1
    have z7_1 := O7.frozen 1
    have c7_2 : wr.cell? ⟨g7, 2, none⟩ = some (.slice R7 Rn7 Rc7) := O7.cell 2
    have z7_2 := O7.frozen 2
    obtain ⟨g8, e8, G8, q4⟩ := q4
    change f 8 = _ at e8
    obtain ⟨cur8, O8, I8⟩ : ∃ cur, Own wr (g8) 24 cur ∧ IsR wr (.agg cur) (y) (53) := q4
    obtain ⟨sl8, P8, Pn8, Pc8, R8, Rn8, Rc8, hz8⟩ := isR_form I8
    injection hz8 with hz8
    subst hz8
    have c8_0 : wr.cell? ⟨g8, 0, none⟩ = some (.bool sl8) := O8.cell 0
    have z8_0 := O8.frozen 0
    have c8_1 : wr.cell? ⟨g8, 1, none⟩ = some (.slice P8 Pn8 Pc8) := O8.cell 1
    have z8_1 := O8.frozen 1
    have c8_2 : wr.cell? ⟨g8, 2, none⟩ = some (.slice R8 Rn8 Rc8) := O8.cell 2
    have z8_2 := O8.frozen 2
    clear hf hap
    simp only [fillL]; simp only [e7, e8]
    clear e7 e8
    have OB3 : w.heap.size ≤ w.heap.size ∧ Own wr (w.heap.size) 38 #[.bool ba0, .slice Aa0 na0 ca0, .slice Ba0 ma0 oa0, .bool bb0, .slice Ab0 nb0 cb0, .slice Bb0 mb0 ob0] := ⟨by omega, O3⟩
    clear c3_0 z3_0 c3_1 z3_1 c3_2 z3_2 c3_3 z3_3 c3_4 z3_4 c3_5 z3_5 O3
    have OB4 : w.heap.size ≤ w.heap.size + 1 ∧ Own wr (w.heap.size + 1) 38 #[.bool ba1, .slice Aa1 na1 ca1, .slice Ba1 ma1 oa1, .bool bb1, .slice Ab1 nb1 cb1, .slice Bb1 mb1 ob1] := ⟨by omega, O4⟩
    clear c4_0 z4_0 c4_1 z4_1 c4_2 z4_2 c4_3 z4_3 c4_4 z4_4 c4_5 z4_5 O4
    have OB5 : w.heap.size ≤ w.heap.size + 2 ∧ Own wr (w.heap.size + 2) 39 #[.int .u8 z0, .int .u8 z1] := ⟨by omega, O5⟩
    clear c5_0 z5_0 c5_1 z5_1 O5
    have OB7 : w.heap.size ≤ g7 ∧ Own wr g7 24 #[.bool sl7, .slice P7 Pn7 Pc7, .slice R7 Rn7 Rc7] := ⟨G7, O7⟩
    clear c7_0 z7_0 c7_1 z7_1 c7_2 z7_2 O7
    have OB8 : w.heap.size ≤ g8 ∧ Own wr g8 24 #[.bool sl8, .slice P8 Pn8 Pc8, .slice R8 Rn8 Rc8] := ⟨G8, O8⟩
    clear c8_0 z8_0 c8_1 z8_1 c8_2 z8_2 O8
    clear B OB5
    have B := hon
    clear hon hk
    go_wp2
    refine wp_region_facts (by kernel_rfl) w [Fact.eq (.agg #[.bool ba0, .slice Aa0 na0 ca0, .slice Ba0 ma0 oa0, .bool bb0, .slice Ab0 nb0 cb0, .slice Bb0 mb0 ob0]), Fact.eq (.agg #[.bool sl7, .slice P7 Pn7 Pc7, .slice R7 Rn7 Rc7]), Fact.eq (.bool true), Fact.eq (.bool false), Fact.eq (.bool false), Fact.eq (.agg #[.bool ba1, .slice Aa1 na1 ca1, .slice Ba1 ma1 oa1, .bool bb1, .slice Ab1 nb1 cb1, .slice Bb1 mb1 ob1]), Fact.eq (.agg #[.bool sl8, .slice P8 Pn8 Pc8, .slice R8 Rn8 Rc8]), Fact.eq (.bool true), Fact.eq (.bool false), Fact.eq (.bool false), Fact.eq (.bool false), Fact.eq (.agg #[.bool ba0, .slice Aa0 na0 ca0, .slice Ba0 ma0 oa0, .bool bb0, .slice Ab0 nb0 cb0, .slice Bb0 mb0 ob0]), Fact.eq (.agg #[.bool ba1, .slice Aa1 na1 ca1, .slice Ba1 ma1 oa1, .bool bb1, .slice Ab1 nb1 cb1, .slice Bb1 mb1 ob1]), Fact.sp (lo0 + lo1) (hi0 + hi1) (13), Fact.eq (.agg #[.bool sl7, .slice P7 Pn7 Pc7, .slice R7 Rn7 Rc7]), Fact.eq (.agg #[.bool sl8, .slice P8 Pn8 Pc8, .slice R8 Rn8 Rc8]), Fact.rat (x + y) (107), Fact.eq (.bool true), Fact.eq (.bool false), Fact.eq (.bool false), Fact.eq (.bool false), Fact.eq (.agg #[.bool ba0, .slice Aa0 na0 ca0, .slice Ba0 ma0 oa0, .bool bb0, .slice Ab0 nb0 cb0, .slice Bb0 mb0 ob0]), Fact.eq (.agg #[.bool ba1, .slice Aa1 na1 ca1, .slice Ba1 ma1 oa1, .bool bb1, .slice Ab1 nb1 cb1, .slice Bb1 mb1 ob1]), Fact.sp (lo0 - hi1) (hi0 - lo1) (13), Fact.eq (.agg #[.bool sl7, .slice P7 Pn7 Pc7, .slice R7 Rn7 Rc7]), Fact.eq (.agg #[.bool sl8, .slice P8 Pn8 Pc8, .slice R8 Rn8 Rc8]), Fact.rat (x - y) (107), Fact.eq (.bool true), Fact.eq (.bool false), Fact.eq (.bool false), Fact.eq (.bool false), Fact.eq (.agg #[.bool ba0, .slice Aa0 na0 ca0, .slice Ba0 ma0 oa0, .bool bb0, .slice Ab0 nb0 cb0, .slice Bb0 mb0 ob0]), Fact.eq (.agg #[.bool ba1, .slice Aa1 na1 ca1, .slice Ba1 ma1 oa1, .bool bb1, .slice Ab1 nb1 cb1, .slice Bb1 mb1 ob1]), Fact.sp (prodLo lo0 hi0 lo1 hi1) (prodHi lo0 hi0 lo1 hi1) (25), Fact.eq (.agg #[.bool sl7, .slice P7 Pn7 Pc7, .slice R7 Rn7 Rc7]), Fact.eq (.agg #[.bool sl8, .slice P8 Pn8 Pc8, .slice R8 Rn8 Rc8]), Fact.rat (x * y) (106), Fact.eq (.bool true), Fact.eq (.bool false), Fact.eq (.bool false), Fact.eq (.bool false), Fact.eq (.agg #[.bool ba0, .slice Aa0 na0 ca0, .slice Ba0 ma0 oa0, .bool bb0, .slice Ab0 nb0 cb0, .slice Bb0 mb0 ob0]), Fact.sp (1 - hi0) (1 - lo0) (13), Fact.rat (1) (2), Fact.eq (.agg #[.bool sl7, .slice P7 Pn7 Pc7, .slice R7 Rn7 Rc7]), Fact.rat (1 - x) (107), Fact.eq (.bool true), Fact.eq (.bool false), Fact.eq (.bool false)] [Fact.any, Fact.any, Fact.any, Fact.any] [⟨49, 3, 38, 49, #[.bool ba0, .slice Aa0 na0 ca0, .slice Ba0 ma0 oa0, .bool bb0, .slice Ab0 nb0 cb0, .slice Bb0 mb0 ob0]⟩, ⟨49, 4, 38, 49, #[.bool ba1, .slice Aa1 na1 ca1, .slice Ba1 ma1 oa1, .bool bb1, .slice Ab1 nb1 cb1, .slice Bb1 mb1 ob1]⟩, ⟨49, 7, 24, 49, #[.bool sl7, .slice P7 Pn7 Pc7, .slice R7 Rn7 Rc7]⟩, ⟨49, 8, 24, 49, #[.bool sl8, .slice P8 Pn8 Pc8, .slice R8 Rn8 Rc8]⟩] [w.heap.size, w.heap.size + 1, g7, g8] [none, none, none, none, none, none, none, none, none, none, none, none, none, none, none, none, none, none, none, none, none, none, none, none, none, none, none, none, none, none, none, none, none, none, none, none, none, none, none, none, some 40, some 41, some 42, some 43, some 44, some 45, some 46, some 47, some 48, some 49, some 50, some 51, some 52, some 53, some 54, some 55, some 56, some 57, some 58, some 59, some 60, some 61, some 62, some 63, some 64, some 65, some 66, some 67, some 68, some 69, some 70, some 71, some 72, some 73, some 74, some 75, some 76, some 77, some 78, some 79, some 80, some 81, some 82, some 83, some 84, some 85, some 86, some 87, some 88, none, none, none, none, none, none, none, none, none, none, none, none, none, none, none, none, none, none, none, none, none, none, none, none, none, none, none, none, none, none, none, none, none, none] (by kernel_rfl) (by kernel_rfl) (by kernel_rfl) rfl B ?_ ?_ ?_ ?_ ?_
    · exact ⟨fun _ => ⟨by simp, rfl, OB3⟩, fun _ => ⟨by simp, rfl, OB4⟩, fun _ => ⟨by simp, rfl, OB7⟩, fun _ => ⟨by simp, rfl, OB8⟩, trivial⟩
    · exact .inl ⟨Nat.le_refl _, Nat.le_refl _, Nat.le_refl _, Nat.le_refl _, trivial⟩
    · exact ⟨⟨noWords_S _ _ _ _ _ _ _ _ _ _ _ _ _ _, (.inl (Nat.le_refl _)), (.inl (Nat.le_refl _))⟩, ⟨noWords_S _ _ _ _ _ _ _ _ _ _ _ _ _ _, (.inl (Nat.le_refl _)), (.inl (Nat.le_refl _))⟩, ⟨noWords_R _ _ _ _ _ _ _, (.inl (Nat.le_refl _)), (.inl (Nat.le_refl _))⟩, ⟨noWords_R _ _ _ _ _ _ _, (.inl (Nat.le_refl _)), (.inl (Nat.le_refl _))⟩, trivial⟩
    · refine ⟨?_, ?_, ?_, ?_, ?_, ?_, ?_, ?_, ?_, ?_, ?_, ?_, ?_, ?_, ?_, ?_, ?_, ?_, ?_, ?_, ?_, ?_, ?_, ?_, ?_, ?_, ?_, ?_, ?_, ?_, ?_, ?_, ?_, ?_, ?_, ?_, ?_, ?_, ?_, ?_, ?_, ?_, ?_, ?_, ?_, ?_, ?_, ?_, ?_, trivial⟩
      · exact .inr fun a w hp => ob_yes rfl (ob_loadSp (hp.box (k := 0) rfl (Nat.le_refl _) (.inl (Nat.le_refl _)) (by kernel_rfl) rfl).1 (hp.box (k := 0) rfl (Nat.le_refl _) (.inl (Nat.le_refl _)) (by kernel_rfl) rfl).2 rfl)
      · exact .inr fun a w hp => ob_yes rfl (ob_loadR (hp.box (k := 2) rfl (Nat.le_refl _) (.inl (Nat.le_refl _)) (by kernel_rfl) rfl).1 (hp.box (k := 2) rfl (Nat.le_refl _) (.inl (Nat.le_refl _)) (by kernel_rfl) rfl).2 rfl)
      · refine .inr fun a w hp => ob_yes rfl ?_
        have h40 : a.tmps.getD 40 undef = .agg #[.bool ba0, .slice Aa0 na0 ca0, .slice Ba0 ma0 oa0, .bool bb0, .slice Ab0 nb0 cb0, .slice Bb0 mb0 ob0] := (hp.fact 0 40 (by kernel_rfl) rfl)
        have h41 : a.tmps.getD 41 undef = .agg #[.bool sl7, .slice P7 Pn7 Pc7, .slice R7 Rn7 Rc7] := (hp.fact 1 41 (by kernel_rfl) rfl)
        unfold Does
        go_simp
        refine (spcont_any _ _ _ lo0 hi0 x 53 ((T0.on hp.on).wide (by decide)) (IsR.fld (I7.kept hp.kept)) (by decide) (by decide)).mono ?_
        rintro e w' ⟨rfl, P9⟩
        exact ⟨_, rfl, P9, congrArg Value.bool (both_true HR0.out.1 HR0.out.2)⟩
      · refine .inr fun a w hp => ob_yes rfl ?_
        have h42 : a.tmps.getD 42 undef = .bool true := (hp.fact 2 42 (by kernel_rfl) rfl)
        unfold Does
        go_simp
        exact ⟨_, rfl, On.refl _, by show Value.bool _ = Value.bool _; first | rfl | (simp; done)⟩
      · exact .inr fun a w hp => ob_yes rfl (ob_move (hp.fact 3 43 (by kernel_rfl) rfl))
      · exact .inr fun a w hp => ob_yes (wanted_yes (P := Try.prog) (j := 4) (d := 44) (b := false) rfl rfl (hp.fact 4 44 (by kernel_rfl) rfl)) (ob_loadSp (hp.box (k := 1) rfl (Nat.le_refl _) (.inl (Nat.le_refl _)) (by kernel_rfl) rfl).1 (hp.box (k := 1) rfl (Nat.le_refl _) (.inl (Nat.le_refl _)) (by kernel_rfl) rfl).2 rfl)
      · exact .inr fun a w hp => ob_yes (wanted_yes (P := Try.prog) (j := 4) (d := 44) (b := false) rfl rfl (hp.fact 4 44 (by kernel_rfl) rfl)) (ob_loadR (hp.box (k := 3) rfl (Nat.le_refl _) (.inl (Nat.le_refl _)) (by kernel_rfl) rfl).1 (hp.box (k := 3) rfl (Nat.le_refl _) (.inl (Nat.le_refl _)) (by kernel_rfl) rfl).2 rfl)
      · refine .inr fun a w hp => ob_yes (wanted_yes (P := Try.prog) (j := 4) (d := 44) (b := false) rfl rfl (hp.fact 4 44 (by kernel_rfl) rfl)) ?_
        have h45 : a.tmps.getD 45 undef = .agg #[.bool ba1, .slice Aa1 na1 ca1, .slice Ba1 ma1 oa1, .bool bb1, .slice Ab1 nb1 cb1, .slice Bb1 mb1 ob1] := (hp.fact 5 45 (by kernel_rfl) rfl)
        have h46 : a.tmps.getD 46 undef = .agg #[.bool sl8, .slice P8 Pn8 Pc8, .slice R8 Rn8 Rc8] := (hp.fact 6 46 (by kernel_rfl) rfl)
        unfold Does
        go_simp
        refine (spcont_any _ _ _ lo1 hi1 y 53 ((T1.on hp.on).wide (by decide)) (IsR.fld (I8.kept hp.kept)) (by decide) (by decide)).mono ?_
        rintro e w' ⟨rfl, P9⟩
        exact ⟨_, rfl, P9, congrArg Value.bool (both_true HR1.out.1 HR1.out.2)⟩
      · refine .inr fun a w hp => ob_yes (wanted_yes (P := Try.prog) (j := 4) (d := 44) (b := false) rfl rfl (hp.fact 4 44 (by kernel_rfl) rfl)) ?_
        have h47 : a.tmps.getD 47 undef = .bool true := (hp.fact 7 47 (by kernel_rfl) rfl)
        unfold Does
        go_simp
        exact ⟨_, rfl, On.refl _, by show Value.bool _ = Value.bool _; first | rfl | (simp; done)⟩
      · refine .inr fun a w hp => ob_yes rfl ?_
        have h44 : a.tmps.getD 44 undef = .bool false := (hp.fact 4 44 (by kernel_rfl) rfl)
        have h48 : a.tmps.getD 48 undef = .bool false := (hp.fact 8 48 (by kernel_rfl) rfl)
        unfold Does
        go_simp
        exact ⟨_, rfl, On.refl _, rfl⟩
      · exact .inr fun a w hp => ob_yes rfl (ob_move (hp.fact 9 49 (by kernel_rfl) rfl))
      · exact .inr fun a w hp => ob_yes (wanted_yes (P := Try.prog) (j := 10) (d := 50) (b := false) rfl rfl (hp.fact 10 50 (by kernel_rfl) rfl)) (ob_loadSp (hp.box (k := 0) rfl (Nat.le_refl _) (.inl (Nat.le_refl _)) (by kernel_rfl) rfl).1 (hp.box (k := 0) rfl (Nat.le_refl _) (.inl (Nat.le_refl _)) (by kernel_rfl) rfl).2 rfl)
      · exact .inr fun a w hp => ob_yes (wanted_yes (P := Try.prog) (j := 10) (d := 50) (b := false) rfl rfl (hp.fact 10 50 (by kernel_rfl) rfl)) (ob_loadSp (hp.box (k := 1) rfl (Nat.le_refl _) (.inl (Nat.le_refl _)) (by kernel_rfl) rfl).1 (hp.box (k := 1) rfl (Nat.le_refl _) (.inl (Nat.le_refl _)) (by kernel_rfl) rfl).2 rfl)
      · refine .inr fun a w hp => ob_yes (wanted_yes (P := Try.prog) (j := 10) (d := 50) (b := false) rfl rfl (hp.fact 10 50 (by kernel_rfl) rfl)) ?_
        have h51 : a.tmps.getD 51 undef = .agg #[.bool ba0, .slice Aa0 na0 ca0, .slice Ba0 ma0 oa0, .bool bb0, .slice Ab0 nb0 cb0, .slice Bb0 mb0 ob0] := (hp.fact 11 51 (by kernel_rfl) rfl)
        have h52 : a.tmps.getD 52 undef = .agg #[.bool ba1, .slice Aa1 na1 ca1, .slice Ba1 ma1 oa1, .bool bb1, .slice Ab1 nb1 cb1, .slice Bb1 mb1 ob1] := (hp.fact 12 52 (by kernel_rfl) rfl)
        unfold Does
        go_simp
        refine (spadd_any _ _ _ lo0 hi0 lo1 hi1 6 (T0.on hp.on) (T1.on hp.on) (by decide) (by decide)).mono ?_
        rintro e w' ⟨u, rfl, I9, P9⟩
        exact ⟨_, rfl, P9, I9⟩
      · exact .inr fun a w hp => ob_yes (wanted_yes (P := Try.prog) (j := 10) (d := 50) (b := false) rfl rfl (hp.fact 10 50 (by kernel_rfl) rfl)) (ob_loadR (hp.box (k := 2) rfl (Nat.le_refl _) (.inl (Nat.le_refl _)) (by kernel_rfl) rfl).1 (hp.box (k := 2) rfl (Nat.le_refl _) (.inl (Nat.le_refl _)) (by kernel_rfl) rfl).2 rfl)
      · exact .inr fun a w hp => ob_yes (wanted_yes (P := Try.prog) (j := 10) (d := 50) (b := false) rfl rfl (hp.fact 10 50 (by kernel_rfl) rfl)) (ob_loadR (hp.box (k := 3) rfl (Nat.le_refl _) (.inl (Nat.le_refl _)) (by kernel_rfl) rfl).1 (hp.box (k := 3) rfl (Nat.le_refl _) (.inl (Nat.le_refl _)) (by kernel_rfl) rfl).2 rfl)
      · refine .inr fun a w hp => ob_yes (wanted_yes (P := Try.prog) (j := 10) (d := 50) (b := false) rfl rfl (hp.fact 10 50 (by kernel_rfl) rfl)) ?_
        have h54 : a.tmps.getD 54 undef = .agg #[.bool sl7, .slice P7 Pn7 Pc7, .slice R7 Rn7 Rc7] := (hp.fact 14 54 (by kernel_rfl) rfl)
        have h55 : a.tmps.getD 55 undef = .agg #[.bool sl8, .slice P8 Pn8 Pc8, .slice R8 Rn8 Rc8] := (hp.fact 15 55 (by kernel_rfl) rfl)
        unfold Does
        go_simp
        refine (addr_any _ _ _ x y 53 (IsR.fld (I7.kept hp.kept)) (IsR.fld (I8.kept hp.kept)) (by decide) (by decide)).mono ?_
        rintro e w' ⟨u, rfl, I9, P9⟩
        exact ⟨_, rfl, P9, I9⟩
      · refine .inr fun a w hp => ob_yes (wanted_yes (P := Try.prog) (j := 10) (d := 50) (b := false) rfl rfl (hp.fact 10 50 (by kernel_rfl) rfl)) ?_
        have h53 : IsS w (a.tmps.getD 53 undef) (lo0 + lo1) (hi0 + hi1) (13) := (hp.fact 13 53 (by kernel_rfl) rfl)
        obtain ⟨v53, e53⟩ : ∃ v, a.tmps.getD 53 undef = v := ⟨_, rfl⟩
        rw [e53] at h53
        have h56 : IsR w (a.tmps.getD 56 undef) (x + y) (107) := (hp.fact 16 56 (by kernel_rfl) rfl)
        obtain ⟨v56, e56⟩ : ∃ v, a.tmps.getD 56 undef = v := ⟨_, rfl⟩
        rw [e56] at h56
        unfold Does
        go_simp
        refine (spcont_any _ _ _ (lo0 + lo1) (hi0 + hi1) (x + y) 107 ((h53.sp (add_le2 le0 le1)).wide (by decide)) (IsR.fld h56) (by decide) (by decide)).mono ?_
        rintro e w' ⟨rfl, P9⟩
        exact ⟨_, rfl, P9, congrArg Value.bool (both_true (add_le2 HR0.out.1 HR1.out.1) (add_le2 HR0.out.2 HR1.out.2))⟩
      · refine .inr fun a w hp => ob_yes (wanted_yes (P := Try.prog) (j := 10) (d := 50) (b := false) rfl rfl (hp.fact 10 50 (by kernel_rfl) rfl)) ?_
        have h57 : a.tmps.getD 57 undef = .bool true := (hp.fact 17 57 (by kernel_rfl) rfl)
        unfold Does
        go_simp
        exact ⟨_, rfl, On.refl _, by show Value.bool _ = Value.bool _; first | rfl | (simp; done)⟩
      · refine .inr fun a w hp => ob_yes rfl ?_
        have h50 : a.tmps.getD 50 undef = .bool false := (hp.fact 10 50 (by kernel_rfl) rfl)
        have h58 : a.tmps.getD 58 undef = .bool false := (hp.fact 18 58 (by kernel_rfl) rfl)
        unfold Does
        go_simp
        exact ⟨_, rfl, On.refl _, rfl⟩
      · exact .inr fun a w hp => ob_yes rfl (ob_move (hp.fact 19 59 (by kernel_rfl) rfl))
      · exact .inr fun a w hp => ob_yes (wanted_yes (P := Try.prog) (j := 20) (d := 60) (b := false) rfl rfl (hp.fact 20 60 (by kernel_rfl) rfl)) (ob_loadSp (hp.box (k := 0) rfl (Nat.le_refl _) (.inl (Nat.le_refl _)) (by kernel_rfl) rfl).1 (hp.box (k := 0) rfl (Nat.le_refl _) (.inl (Nat.le_refl _)) (by kernel_rfl) rfl).2 rfl)
      · exact .inr fun a w hp => ob_yes (wanted_yes (P := Try.prog) (j := 20) (d := 60) (b := false) rfl rfl (hp.fact 20 60 (by kernel_rfl) rfl)) (ob_loadSp (hp.box (k := 1) rfl (Nat.le_refl _) (.inl (Nat.le_refl _)) (by kernel_rfl) rfl).1 (hp.box (k := 1) rfl (Nat.le_refl _) (.inl (Nat.le_refl _)) (by kernel_rfl) rfl).2 rfl)
      · refine .inr fun a w hp => ob_yes (wanted_yes (P := Try.prog) (j := 20) (d := 60) (b := false) rfl rfl (hp.fact 20 60 (by kernel_rfl) rfl)) ?_
        have h61 : a.tmps.getD 61 undef = .agg #[.bool ba0, .slice Aa0 na0 ca0, .slice Ba0 ma0 oa0, .bool bb0, .slice Ab0 nb0 cb0, .slice Bb0 mb0 ob0] := (hp.fact 21 61 (by kernel_rfl) rfl)
        have h62 : a.tmps.getD 62 undef = .agg #[.bool ba1, .slice Aa1 na1 ca1, .slice Ba1 ma1 oa1, .bool bb1, .slice Ab1 nb1 cb1, .slice Bb1 mb1 ob1] := (hp.fact 22 62 (by kernel_rfl) rfl)
        unfold Does
        go_simp
        refine (spsub_any _ _ _ lo0 hi0 lo1 hi1 6 (T0.on hp.on) (T1.on hp.on) (by decide) (by decide)).mono ?_
        rintro e w' ⟨u, rfl, I9, P9⟩
        exact ⟨_, rfl, P9, I9⟩
      · exact .inr fun a w hp => ob_yes (wanted_yes (P := Try.prog) (j := 20) (d := 60) (b := false) rfl rfl (hp.fact 20 60 (by kernel_rfl) rfl)) (ob_loadR (hp.box (k := 2) rfl (Nat.le_refl _) (.inl (Nat.le_refl _)) (by kernel_rfl) rfl).1 (hp.box (k := 2) rfl (Nat.le_refl _) (.inl (Nat.le_refl _)) (by kernel_rfl) rfl).2 rfl)
      · exact .inr fun a w hp => ob_yes (wanted_yes (P := Try.prog) (j := 20) (d := 60) (b := false) rfl rfl (hp.fact 20 60 (by kernel_rfl) rfl)) (ob_loadR (hp.box (k := 3) rfl (Nat.le_refl _) (.inl (Nat.le_refl _)) (by kernel_rfl) rfl).1 (hp.box (k := 3) rfl (Nat.le_refl _) (.inl (Nat.le_refl _)) (by kernel_rfl) rfl).2 rfl)
      · refine .inr fun a w hp => ob_yes (wanted_yes (P := Try.prog) (j := 20) (d := 60) (b := false) rfl rfl (hp.fact 20 60 (by kernel_rfl) rfl)) ?_
        have h64 : a.tmps.getD 64 undef = .agg #[.bool sl7, .slice P7 Pn7 Pc7, .slice R7 Rn7 Rc7] := (hp.fact 24 64 (by kernel_rfl) rfl)
        have h65 : a.tmps.getD 65 undef = .agg #[.bool sl8, .slice P8 Pn8 Pc8, .slice R8 Rn8 Rc8] := (hp.fact 25 65 (by kernel_rfl) rfl)
        unfold Does
        go_simp
        refine (subr_any _ _ _ x y 53 (IsR.fld (I7.kept hp.kept)) (IsR.fld (I8.kept hp.kept)) (by decide) (by decide)).mono ?_
        rintro e w' ⟨u, rfl, I9, P9⟩
        exact ⟨_, rfl, P9, I9⟩
      · refine .inr fun a w hp => ob_yes (wanted_yes (P := Try.prog) (j := 20) (d := 60) (b := false) rfl rfl (hp.fact 20 60 (by kernel_rfl) rfl)) ?_
        have h63 : IsS w (a.tmps.getD 63 undef) (lo0 - hi1) (hi0 - lo1) (13) := (hp.fact 23 63 (by kernel_rfl) rfl)
        obtain ⟨v63, e63⟩ : ∃ v, a.tmps.getD 63 undef = v := ⟨_, rfl⟩
        rw [e63] at h63
        have h66 : IsR w (a.tmps.getD 66 undef) (x - y) (107) := (hp.fact 26 66 (by kernel_rfl) rfl)
        obtain ⟨v66, e66⟩ : ∃ v, a.tmps.getD 66 undef = v := ⟨_, rfl⟩
        rw [e66] at h66
        unfold Does
        go_simp
        refine (spcont_any _ _ _ (lo0 - hi1) (hi0 - lo1) (x - y) 107 ((h63.sp (sub_le' le0 le1)).wide (by decide)) (IsR.fld h66) (by decide) (by decide)).mono ?_
        rintro e w' ⟨rfl, P9⟩
        exact ⟨_, rfl, P9, congrArg Value.bool (both_true (sub_le' HR0.out.1 HR1.out.2) (sub_le' HR0.out.2 HR1.out.1))⟩
      · refine .inr fun a w hp => ob_yes (wanted_yes (P := Try.prog) (j := 20) (d := 60) (b := false) rfl rfl (hp.fact 20 60 (by kernel_rfl) rfl)) ?_
        have h67 : a.tmps.getD 67 undef = .bool true := (hp.fact 27 67 (by kernel_rfl) rfl)
        unfold Does
        go_simp
        exact ⟨_, rfl, On.refl _, by show Value.bool _ = Value.bool _; first | rfl | (simp; done)⟩
      · refine .inr fun a w hp => ob_yes rfl ?_
        have h60 : a.tmps.getD 60 undef = .bool false := (hp.fact 20 60 (by kernel_rfl) rfl)
        have h68 : a.tmps.getD 68 undef = .bool false := (hp.fact 28 68 (by kernel_rfl) rfl)
        unfold Does
        go_simp
        exact ⟨_, rfl, On.refl _, rfl⟩
      · exact .inr fun a w hp => ob_yes rfl (ob_move (hp.fact 29 69 (by kernel_rfl) rfl))
      · exact .inr fun a w hp => ob_yes (wanted_yes (P := Try.prog) (j := 30) (d := 70) (b := false) rfl rfl (hp.fact 30 70 (by kernel_rfl) rfl)) (ob_loadSp (hp.box (k := 0) rfl (Nat.le_refl _) (.inl (Nat.le_refl _)) (by kernel_rfl) rfl).1 (hp.box (k := 0) rfl (Nat.le_refl _) (.inl (Nat.le_refl _)) (by kernel_rfl) rfl).2 rfl)
      · exact .inr fun a w hp => ob_yes (wanted_yes (P := Try.prog) (j := 30) (d := 70) (b := false) rfl rfl (hp.fact 30 70 (by kernel_rfl) rfl)) (ob_loadSp (hp.box (k := 1) rfl (Nat.le_refl _) (.inl (Nat.le_refl _)) (by kernel_rfl) rfl).1 (hp.box (k := 1) rfl (Nat.le_refl _) (.inl (Nat.le_refl _)) (by kernel_rfl) rfl).2 rfl)
      · refine .inr fun a w hp => ob_yes (wanted_yes (P := Try.prog) (j := 30) (d := 70) (b := false) rfl rfl (hp.fact 30 70 (by kernel_rfl) rfl)) ?_
        have h71 : a.tmps.getD 71 undef = .agg #[.bool ba0, .slice Aa0 na0 ca0, .slice Ba0 ma0 oa0, .bool bb0, .slice Ab0 nb0 cb0, .slice Bb0 mb0 ob0] := (hp.fact 31 71 (by kernel_rfl) rfl)
        have h72 : a.tmps.getD 72 undef = .agg #[.bool ba1, .slice Aa1 na1 ca1, .slice Ba1 ma1 oa1, .bool bb1, .slice Ab1 nb1 cb1, .slice Bb1 mb1 ob1] := (hp.fact 32 72 (by kernel_rfl) rfl)
        unfold Does
        go_simp
        refine (spmul_any _ _ _ lo0 hi0 lo1 hi1 6 (T0.on hp.on) (T1.on hp.on) (by decide) (by decide)).mono ?_
        rintro e w' ⟨u, rfl, I9, P9⟩
        exact ⟨_, rfl, P9, I9⟩
      · exact .inr fun a w hp => ob_yes (wanted_yes (P := Try.prog) (j := 30) (d := 70) (b := false) rfl rfl (hp.fact 30 70 (by kernel_rfl) rfl)) (ob_loadR (hp.box (k := 2) rfl (Nat.le_refl _) (.inl (Nat.le_refl _)) (by kernel_rfl) rfl).1 (hp.box (k := 2) rfl (Nat.le_refl _) (.inl (Nat.le_refl _)) (by kernel_rfl) rfl).2 rfl)
      · exact .inr fun a w hp => ob_yes (wanted_yes (P := Try.prog) (j := 30) (d := 70) (b := false) rfl rfl (hp.fact 30 70 (by kernel_rfl) rfl)) (ob_loadR (hp.box (k := 3) rfl (Nat.le_refl _) (.inl (Nat.le_refl _)) (by kernel_rfl) rfl).1 (hp.box (k := 3) rfl (Nat.le_refl _) (.inl (Nat.le_refl _)) (by kernel_rfl) rfl).2 rfl)
      · refine .inr fun a w hp => ob_yes (wanted_yes (P := Try.prog) (j := 30) (d := 70) (b := false) rfl rfl (hp.fact 30 70 (by kernel_rfl) rfl)) ?_
        have h74 : a.tmps.getD 74 undef = .agg #[.bool sl7, .slice P7 Pn7 Pc7, .slice R7 Rn7 Rc7] := (hp.fact 34 74 (by kernel_rfl) rfl)
        have h75 : a.tmps.getD 75 undef = .agg #[.bool sl8, .slice P8 Pn8 Pc8, .slice R8 Rn8 Rc8] := (hp.fact 35 75 (by kernel_rfl) rfl)
        unfold Does
        go_simp
        refine (mulr_any _ _ _ x y 53 (IsR.fld (I7.kept hp.kept)) (IsR.fld (I8.kept hp.kept)) (by decide) (by decide)).mono ?_
        rintro e w' ⟨u, rfl, I9, P9⟩
        exact ⟨_, rfl, P9, I9⟩
      · refine .inr fun a w hp => ob_yes (wanted_yes (P := Try.prog) (j := 30) (d := 70) (b := false) rfl rfl (hp.fact 30 70 (by kernel_rfl) rfl)) ?_
        have h73 : IsS w (a.tmps.getD 73 undef) (prodLo lo0 hi0 lo1 hi1) (prodHi lo0 hi0 lo1 hi1) (25) := (hp.fact 33 73 (by kernel_rfl) rfl)
        obtain ⟨v73, e73⟩ : ∃ v, a.tmps.getD 73 undef = v := ⟨_, rfl⟩
        rw [e73] at h73
        have h76 : IsR w (a.tmps.getD 76 undef) (x * y) (106) := (hp.fact 36 76 (by kernel_rfl) rfl)
        obtain ⟨v76, e76⟩ : ∃ v, a.tmps.getD 76 undef = v := ⟨_, rfl⟩
        rw [e76] at h76
        unfold Does
        go_simp
        refine (spcont_any _ _ _ (prodLo lo0 hi0 lo1 hi1) (prodHi lo0 hi0 lo1 hi1) (x * y) 106 ((h73.sp (prod_le _ _ _ _ le0 le1)).wide (by decide)) (IsR.fld h76) (by decide) (by decide)).mono ?_
        rintro e w' ⟨rfl, P9⟩
        exact ⟨_, rfl, P9, congrArg Value.bool (both_true (prodLo_mul HR0.out.1 HR0.out.2 HR1.out.1 HR1.out.2) (mul_prodHi HR0.out.1 HR0.out.2 HR1.out.1 HR1.out.2))⟩
      · refine .inr fun a w hp => ob_yes (wanted_yes (P := Try.prog) (j := 30) (d := 70) (b := false) rfl rfl (hp.fact 30 70 (by kernel_rfl) rfl)) ?_
        have h77 : a.tmps.getD 77 undef = .bool true := (hp.fact 37 77 (by kernel_rfl) rfl)
        unfold Does
        go_simp
        exact ⟨_, rfl, On.refl _, by show Value.bool _ = Value.bool _; first | rfl | (simp; done)⟩
      · refine .inr fun a w hp => ob_yes rfl ?_
        have h70 : a.tmps.getD 70 undef = .bool false := (hp.fact 30 70 (by kernel_rfl) rfl)
        have h78 : a.tmps.getD 78 undef = .bool false := (hp.fact 38 78 (by kernel_rfl) rfl)
        unfold Does
        go_simp
        exact ⟨_, rfl, On.refl _, rfl⟩
      · exact .inr fun a w hp => ob_yes rfl (ob_move (hp.fact 39 79 (by kernel_rfl) rfl))
      · exact .inr fun a w hp => ob_yes (wanted_yes (P := Try.prog) (j := 40) (d := 80) (b := false) rfl rfl (hp.fact 40 80 (by kernel_rfl) rfl)) (ob_loadSp (hp.box (k := 0) rfl (Nat.le_refl _) (.inl (Nat.le_refl _)) (by kernel_rfl) rfl).1 (hp.box (k := 0) rfl (Nat.le_refl _) (.inl (Nat.le_refl _)) (by kernel_rfl) rfl).2 rfl)
      · refine .inr fun a w hp => ob_yes (wanted_yes (P := Try.prog) (j := 40) (d := 80) (b := false) rfl rfl (hp.fact 40 80 (by kernel_rfl) rfl)) ?_
        have h81 : a.tmps.getD 81 undef = .agg #[.bool ba0, .slice Aa0 na0 ca0, .slice Ba0 ma0 oa0, .bool bb0, .slice Ab0 nb0 cb0, .slice Bb0 mb0 ob0] := (hp.fact 41 81 (by kernel_rfl) rfl)
        unfold Does
        go_simp
        refine (spnot_any _ _ lo0 hi0 6 (T0.on hp.on) (by decide) (by decide)).mono ?_
        rintro e w' ⟨u, rfl, I9, P9⟩
        exact ⟨_, rfl, P9, I9⟩
      · refine .inr fun a w hp => ob_yes (wanted_yes (P := Try.prog) (j := 40) (d := 80) (b := false) rfl rfl (hp.fact 40 80 (by kernel_rfl) rfl)) ?_
        unfold Does
        go_simp
        refine (ofr_any _ 1 (by decide) (by decide)).mono ?_
        rintro e w' ⟨u, rfl, I9, P9⟩
        exact ⟨_, rfl, P9, I9⟩
      · exact .inr fun a w hp => ob_yes (wanted_yes (P := Try.prog) (j := 40) (d := 80) (b := false) rfl rfl (hp.fact 40 80 (by kernel_rfl) rfl)) (ob_loadR (hp.box (k := 2) rfl (Nat.le_refl _) (.inl (Nat.le_refl _)) (by kernel_rfl) rfl).1 (hp.box (k := 2) rfl (Nat.le_refl _) (.inl (Nat.le_refl _)) (by kernel_rfl) rfl).2 rfl)
      · refine .inr fun a w hp => ob_yes (wanted_yes (P := Try.prog) (j := 40) (d := 80) (b := false) rfl rfl (hp.fact 40 80 (by kernel_rfl) rfl)) ?_
        have h83 : IsR w (a.tmps.getD 83 undef) (1) (2) := (hp.fact 43 83 (by kernel_rfl) rfl)
        obtain ⟨v83, e83⟩ : ∃ v, a.tmps.getD 83 undef = v := ⟨_, rfl⟩
        rw [e83] at h83
        have h84 : a.tmps.getD 84 undef = .agg #[.bool sl7, .slice P7 Pn7 Pc7, .slice R7 Rn7 Rc7] := (hp.fact 44 84 (by kernel_rfl) rfl)
        unfold Does
        go_simp
        refine (subr_any _ _ _ 1 x 53 (IsR.fld (h83.wide (by decide))) (IsR.fld (I7.kept hp.kept)) (by decide) (by decide)).mono ?_
        rintro e w' ⟨u, rfl, I9, P9⟩
        exact ⟨_, rfl, P9, I9⟩
      · refine .inr fun a w hp => ob_yes (wanted_yes (P := Try.prog) (j := 40) (d := 80) (b := false) rfl rfl (hp.fact 40 80 (by kernel_rfl) rfl)) ?_
        have h82 : IsS w (a.tmps.getD 82 undef) (1 - hi0) (1 - lo0) (13) := (hp.fact 42 82 (by kernel_rfl) rfl)
        obtain ⟨v82, e82⟩ : ∃ v, a.tmps.getD 82 undef = v := ⟨_, rfl⟩
        rw [e82] at h82
        have h85 : IsR w (a.tmps.getD 85 undef) (1 - x) (107) := (hp.fact 45 85 (by kernel_rfl) rfl)
        obtain ⟨v85, e85⟩ : ∃ v, a.tmps.getD 85 undef = v := ⟨_, rfl⟩
        rw [e85] at h85
        unfold Does
        go_simp
        refine (spcont_any _ _ _ (1 - hi0) (1 - lo0) (1 - x) 107 ((h82.sp (not_le2 le0)).wide (by decide)) (IsR.fld h85) (by decide) (by decide)).mono ?_
        rintro e w' ⟨rfl, P9⟩
        exact ⟨_, rfl, P9, congrArg Value.bool (both_true (not_le2 HR0.out.2) (not_le2 HR0.out.1))⟩
      · refine .inr fun a w hp => ob_yes (wanted_yes (P := Try.prog) (j := 40) (d := 80) (b := false) rfl rfl (hp.fact 40 80 (by kernel_rfl) rfl)) ?_
        have h86 : a.tmps.getD 86 undef = .bool true := (hp.fact 46 86 (by kernel_rfl) rfl)
        unfold Does
        go_simp
        exact ⟨_, rfl, On.refl _, by show Value.bool _ = Value.bool _; first | rfl | (simp; done)⟩
      · refine .inr fun a w hp => ob_yes rfl ?_
        have h80 : a.tmps.getD 80 undef = .bool false := (hp.fact 40 80 (by kernel_rfl) rfl)
        have h87 : a.tmps.getD 87 undef = .bool false := (hp.fact 47 87 (by kernel_rfl) rfl)
        unfold Does
        go_simp
        exact ⟨_, rfl, On.refl _, rfl⟩
    · intro f wd hon hk hf hb hap
      obtain ⟨q0, q1, q2, q3, qz⟩ := hb
      clear qz
      have O3 : Own wd (w.heap.size) 38 #[.bool ba0, .slice Aa0 na0 ca0, .slice Ba0 ma0 oa0, .bool bb0, .slice Ab0 nb0 cb0, .slice Bb0 mb0 ob0] := q0
      have c3_0 : wd.cell? ⟨w.heap.size, 0, none⟩ = some (.bool ba0) := O3.cell 0
      have z3_0 := O3.frozen 0
      have c3_1 : wd.cell? ⟨w.heap.size, 1, none⟩ = some (.slice Aa0 na0 ca0) := O3.cell 1
      have z3_1 := O3.frozen 1
      have c3_2 : wd.cell? ⟨w.heap.size, 2, none⟩ = some (.slice Ba0 ma0 oa0) := O3.cell 2
      have z3_2 := O3.frozen 2
      have c3_3 : wd.cell? ⟨w.heap.size, 3, none⟩ = some (.bool bb0) := O3.cell 3
      have z3_3 := O3.frozen 3
      have c3_4 : wd.cell? ⟨w.heap.size, 4, none⟩ = some (.slice Ab0 nb0 cb0) := O3.cell 4
      have z3_4 := O3.frozen 4
      have c3_5 : wd.cell? ⟨w.heap.size, 5, none⟩ = some (.slice Bb0 mb0 ob0) := O3.cell 5
      have z3_5 := O3.frozen 5
      clear q0
      have O4 : Own wd (w.heap.size + 1) 38 #[.bool ba1, .slice Aa1 na1 ca1, .slice Ba1 ma1 oa1, .bool bb1, .slice Ab1 nb1 cb1, .slice Bb1 mb1 ob1] := q1
      have c4_0 : wd.cell? ⟨w.heap.size + 1, 0, none⟩ = some (.bool ba1) := O4.cell 0
      have z4_0 := O4.frozen 0
      have c4_1 : wd.cell? ⟨w.heap.size + 1, 1, none⟩ = some (.slice Aa1 na1 ca1) := O4.cell 1
      have z4_1 := O4.frozen 1
      have c4_2 : wd.cell? ⟨w.heap.size + 1, 2, none⟩ = some (.slice Ba1 ma1 oa1) := O4.cell 2
      have z4_2 := O4.frozen 2
      have c4_3 : wd.cell? ⟨w.heap.size + 1, 3, none⟩ = some (.bool bb1) := O4.cell 3
      have z4_3 := O4.frozen 3
      have c4_4 : wd.cell? ⟨w.heap.size + 1, 4, none⟩ = some (.slice Ab1 nb1 cb1) := O4.cell 4
      have z4_4 := O4.frozen 4
      have c4_5 : wd.cell? ⟨w.heap.size + 1, 5, none⟩ = some (.slice Bb1 mb1 ob1) := O4.cell 5
      have z4_5 := O4.frozen 5
      clear q1
      have O7 : Own wd (g7) 24 #[.bool sl7, .slice P7 Pn7 Pc7, .slice R7 Rn7 Rc7] := q2
      have c7_0 : wd.cell? ⟨g7, 0, none⟩ = some (.bool sl7) := O7.cell 0
      have z7_0 := O7.frozen 0
      have c7_1 : wd.cell? ⟨g7, 1, none⟩ = some (.slice P7 Pn7 Pc7) := O7.cell 1
      have z7_1 := O7.frozen 1
      have c7_2 : wd.cell? ⟨g7, 2, none⟩ = some (.slice R7 Rn7 Rc7) := O7.cell 2
      have z7_2 := O7.frozen 2
      clear q2
      have O8 : Own wd (g8) 24 #[.bool sl8, .slice P8 Pn8 Pc8, .slice R8 Rn8 Rc8] := q3
      have c8_0 : wd.cell? ⟨g8, 0, none⟩ = some (.bool sl8) := O8.cell 0
      have z8_0 := O8.frozen 0
      have c8_1 : wd.cell? ⟨g8, 1, none⟩ = some (.slice P8 Pn8 Pc8) := O8.cell 1
      have z8_1 := O8.frozen 1
      have c8_2 : wd.cell? ⟨g8, 2, none⟩ = some (.slice R8 Rn8 Rc8) := O8.cell 2
      have z8_2 := O8.frozen 2
      clear q3
      have e88 : f 88 = .bool false := hf 48 88 rfl
      clear hf hap
      simp only [fillL, e88]
      clear e88
      replace I7 := I7.kept hk
      replace I8 := I8.kept hk
      have OB3 : w.heap.size ≤ w.heap.size ∧ Own wd (w.heap.size) 38 #[.bool ba0, .slice Aa0 na0 ca0, .slice Ba0 ma0 oa0, .bool bb0, .slice Ab0 nb0 cb0, .slice Bb0 mb0 ob0] := ⟨by omega, O3⟩
      clear c3_0 z3_0 c3_1 z3_1 c3_2 z3_2 c3_3 z3_3 c3_4 z3_4 c3_5 z3_5 O3
      have OB4 : w.heap.size ≤ w.heap.size + 1 ∧ Own wd (w.heap.size + 1) 38 #[.bool ba1, .slice Aa1 na1 ca1, .slice Ba1 ma1 oa1, .bool bb1, .slice Ab1 nb1 cb1, .slice Bb1 mb1 ob1] := ⟨by omega, O4⟩
      clear c4_0 z4_0 c4_1 z4_1 c4_2 z4_2 c4_3 z4_3 c4_4 z4_4 c4_5 z4_5 O4
      have OB7 : w.heap.size ≤ g7 ∧ Own wd g7 24 #[.bool sl7, .slice P7 Pn7 Pc7, .slice R7 Rn7 Rc7] := ⟨OB7.1, O7⟩
      clear c7_0 z7_0 c7_1 z7_1 c7_2 z7_2 O7
      have OB8 : w.heap.size ≤ g8 ∧ Own wd g8 24 #[.bool sl8, .slice P8 Pn8 Pc8, .slice R8 Rn8 Rc8] := ⟨OB8.1, O8⟩
      clear c8_0 z8_0 c8_1 z8_1 c8_2 z8_2 O8
      clear B
      have B := hon
      clear hon hk
      have y3_0 : wd.cell? ⟨w.heap.size, 0, none⟩ = some (.bool ba0) := OB3.2.cell 0
      have y3_1 : wd.cell? ⟨w.heap.size, 1, none⟩ = some (.slice Aa0 na0 ca0) := OB3.2.cell 1
      have y3_2 : wd.cell? ⟨w.heap.size, 2, none⟩ = some (.slice Ba0 ma0 oa0) := OB3.2.cell 2
      have y3_3 : wd.cell? ⟨w.heap.size, 3, none⟩ = some (.bool bb0) := OB3.2.cell 3
      have y3_4 : wd.cell? ⟨w.heap.size, 4, none⟩ = some (.slice Ab0 nb0 cb0) := OB3.2.cell 4
      have y3_5 : wd.cell? ⟨w.heap.size, 5, none⟩ = some (.slice Bb0 mb0 ob0) := OB3.2.cell 5
      have y3_f0 := OB3.2.frozen 0
      have y3_f1 := OB3.2.frozen 1
      have y3_f2 := OB3.2.frozen 2
      have y3_f3 := OB3.2.frozen 3
      have y3_f4 := OB3.2.frozen 4
      have y3_f5 := OB3.2.frozen 5
      have y4_0 : wd.cell? ⟨w.heap.size + 1, 0, none⟩ = some (.bool ba1) := OB4.2.cell 0
      have y4_1 : wd.cell? ⟨w.heap.size + 1, 1, none⟩ = some (.slice Aa1 na1 ca1) := OB4.2.cell 1
      have y4_2 : wd.cell? ⟨w.heap.size + 1, 2, none⟩ = some (.slice Ba1 ma1 oa1) := OB4.2.cell 2
      have y4_3 : wd.cell? ⟨w.heap.size + 1, 3, none⟩ = some (.bool bb1) := OB4.2.cell 3
      have y4_4 : wd.cell? ⟨w.heap.size + 1, 4, none⟩ = some (.slice Ab1 nb1 cb1) := OB4.2.cell 4
      have y4_5 : wd.cell? ⟨w.heap.size + 1, 5, none⟩ = some (.slice Bb1 mb1 ob1) := OB4.2.cell 5
      have y4_f0 := OB4.2.frozen 0
      have y4_f1 := OB4.2.frozen 1
      have y4_f2 := OB4.2.frozen 2
      have y4_f3 := OB4.2.frozen 3
      have y4_f4 := OB4.2.frozen 4
      have y4_f5 := OB4.2.frozen 5
      go_wp2_with fail
      refine (spdiv_zero _ _ _ lo0 hi0 lo1 hi1 6 (T0.on B) (T1.on B) (by decide) (by decide) HC.out).mono ?_
      rintro e w8 ⟨u8, rfl, I9, P9⟩
      obtain ⟨ba9, Aa9, na9, ca9, Ba9, ma9, oa9, bb9, Ab9, nb9, cb9, Bb9, mb9, ob9, rfl, IL9, IH9⟩ := id I9
      clear y3_0 y3_f0 y3_1 y3_f1 y3_2 y3_f2 y3_3 y3_f3 y3_4 y3_f4 y3_5 y3_f5
      clear y4_0 y4_f0 y4_1 y4_f1 y4_2 y4_f2 y4_3 y4_f3 y4_4 y4_f4 y4_5 y4_f5
      replace OB3 := And.intro OB3.1 (OB3.2.on P9)
      replace OB4 := And.intro OB4.1 (OB4.2.on P9)
      replace OB7 := And.intro OB7.1 (OB7.2.on P9)
      replace OB8 := And.intro OB8.1 (OB8.2.on P9)
      replace B := B.trans P9
      replace I7 := I7.on P9
      replace I8 := I8.on P9
      have PA := (On.refl w8).alloc (.cells #[.bool ba9, .slice Aa9 na9 ca9, .slice Ba9 ma9 oa9, .bool bb9, .slice Ab9 nb9 cb9, .slice Bb9 mb9 ob9] 38)
      have B0_9 := B.size
      replace OB3 := And.intro OB3.1 (OB3.2.on PA)
      replace OB4 := And.intro OB4.1 (OB4.2.on PA)
      replace OB7 := And.intro OB7.1 (OB7.2.on PA)
      replace OB8 := And.intro OB8.1 (OB8.2.on PA)
      replace B := B.trans PA
      replace I7 := I7.on PA
      replace I8 := I8.on PA
      replace I9 := I9.on PA
      have OB9 : w.heap.size ≤ w8.heap.size ∧ _ := ⟨B0_9, Own.new w8 38 #[.bool ba9, .slice Aa9 na9 ca9, .slice Ba9 ma9 oa9, .bool bb9, .slice Ab9 nb9 cb9, .slice Bb9 mb9 ob9]⟩
      clear PA P9 IL9 IH9
      have y7_0 : (w8.alloc (.cells #[.bool ba9, .slice Aa9 na9 ca9, .slice Ba9 ma9 oa9, .bool bb9, .slice Ab9 nb9 cb9, .slice Bb9 mb9 ob9] 38)).cell? ⟨g7, 0, none⟩ = some (.bool sl7) := OB7.2.cell 0
      have y7_1 : (w8.alloc (.cells #[.bool ba9, .slice Aa9 na9 ca9, .slice Ba9 ma9 oa9, .bool bb9, .slice Ab9 nb9 cb9, .slice Bb9 mb9 ob9] 38)).cell? ⟨g7, 1, none⟩ = some (.slice P7 Pn7 Pc7) := OB7.2.cell 1
      have y7_2 : (w8.alloc (.cells #[.bool ba9, .slice Aa9 na9 ca9, .slice Ba9 ma9 oa9, .bool bb9, .slice Ab9 nb9 cb9, .slice Bb9 mb9 ob9] 38)).cell? ⟨g7, 2, none⟩ = some (.slice R7 Rn7 Rc7) := OB7.2.cell 2
      have y7_f0 := OB7.2.frozen 0
      have y7_f1 := OB7.2.frozen 1
      have y7_f2 := OB7.2.frozen 2
      have y8_0 : (w8.alloc (.cells #[.bool ba9, .slice Aa9 na9 ca9, .slice Ba9 ma9 oa9, .bool bb9, .slice Ab9 nb9 cb9, .slice Bb9 mb9 ob9] 38)).cell? ⟨g8, 0, none⟩ = some (.bool sl8) := OB8.2.cell 0
      have y8_1 : (w8.alloc (.cells #[.bool ba9, .slice Aa9 na9 ca9, .slice Ba9 ma9 oa9, .bool bb9, .slice Ab9 nb9 cb9, .slice Bb9 mb9 ob9] 38)).cell? ⟨g8, 1, none⟩ = some (.slice P8 Pn8 Pc8) := OB8.2.cell 1
      have y8_2 : (w8.alloc (.cells #[.bool ba9, .slice Aa9 na9 ca9, .slice Ba9 ma9 oa9, .bool bb9, .slice Ab9 nb9 cb9, .slice Bb9 mb9 ob9] 38)).cell? ⟨g8, 2, none⟩ = some (.slice R8 Rn8 Rc8) := OB8.2.cell 2
      have y8_f0 := OB8.2.frozen 0
      have y8_f1 := OB8.2.frozen 1
      have y8_f2 := OB8.2.frozen 2
      go_wp2_with fail
      refine (divr_some _ _ _ x y 53 (IsR.fld I7) (IsR.fld I8) (by decide) (by decide)).mono ?_
      rintro e w9 ⟨u11, er, z11, rfl, I11, P11⟩
      obtain ⟨s11, P11_, Pn11, Pc11, R11_, Rn11, Rc11, rfl⟩ := isR_form I11
      clear y7_0 y7_f0 y7_1 y7_f1 y7_2 y7_f2
      clear y8_0 y8_f0 y8_1 y8_f1 y8_2 y8_f2
      replace OB3 := And.intro OB3.1 (OB3.2.on P11)
      replace OB4 := And.intro OB4.1 (OB4.2.on P11)
      replace OB9 := And.intro OB9.1 (OB9.2.on P11)
      replace B := B.trans P11
      replace I9 := I9.on P11
      have PA := (On.refl w9).alloc (.cells #[.bool s11, .slice P11_ Pn11 Pc11, .slice R11_ Rn11 Rc11] 24)
      have B0_11 := B.size
      replace OB3 := And.intro OB3.1 (OB3.2.on PA)
      replace OB4 := And.intro OB4.1 (OB4.2.on PA)
      replace OB9 := And.intro OB9.1 (OB9.2.on PA)
      replace B := B.trans PA
      replace I9 := I9.on PA
      replace I11 := I11.on PA
      have OB11 : w.heap.size ≤ w9.heap.size ∧ _ := ⟨B0_11, Own.new w9 24 #[.bool s11, .slice P11_ Pn11 Pc11, .slice R11_ Rn11 Rc11]⟩
      clear PA P11
      have y4_0 : (w9.alloc (.cells #[.bool s11, .slice P11_ Pn11 Pc11, .slice R11_ Rn11 Rc11] 24)).cell? ⟨w.heap.size + 1, 0, none⟩ = some (.bool ba1) := OB4.2.cell 0
      have y4_1 : (w9.alloc (.cells #[.bool s11, .slice P11_ Pn11 Pc11, .slice R11_ Rn11 Rc11] 24)).cell? ⟨w.heap.size + 1, 1, none⟩ = some (.slice Aa1 na1 ca1) := OB4.2.cell 1
      have y4_2 : (w9.alloc (.cells #[.bool s11, .slice P11_ Pn11 Pc11, .slice R11_ Rn11 Rc11] 24)).cell? ⟨w.heap.size + 1, 2, none⟩ = some (.slice Ba1 ma1 oa1) := OB4.2.cell 2
      have y4_3 : (w9.alloc (.cells #[.bool s11, .slice P11_ Pn11 Pc11, .slice R11_ Rn11 Rc11] 24)).cell? ⟨w.heap.size + 1, 3, none⟩ = some (.bool bb1) := OB4.2.cell 3
      have y4_4 : (w9.alloc (.cells #[.bool s11, .slice P11_ Pn11 Pc11, .slice R11_ Rn11 Rc11] 24)).cell? ⟨w.heap.size + 1, 4, none⟩ = some (.slice Ab1 nb1 cb1) := OB4.2.cell 4
      have y4_5 : (w9.alloc (.cells #[.bool s11, .slice P11_ Pn11 Pc11, .slice R11_ Rn11 Rc11] 24)).cell? ⟨w.heap.size + 1, 5, none⟩ = some (.slice Bb1 mb1 ob1) := OB4.2.cell 5
      have y4_f0 := OB4.2.frozen 0
      have y4_f1 := OB4.2.frozen 1
      have y4_f2 := OB4.2.frozen 2
      have y4_f3 := OB4.2.frozen 3
      have y4_f4 := OB4.2.frozen 4
      have y4_f5 := OB4.2.frozen 5
      go_wp2_with fail
      refine (is_err _ 8).mono ?_
      rintro e w10 ⟨rfl, rfl⟩
      go_wp2_with fail
      refine (spcont_any _ _ _ lo1 hi1 0 6 (T1.on B) (IsR.fld (isR_zero _ _)) (by decide) (by decide)).mono ?_
      rintro e w10 ⟨rfl, P10⟩
      rw [both_true HC.out.1 HC.out.2]
      go_wp2
      go_ret
      exact ⟨rfl, B.trans P10⟩
set_option maxRecDepth 100000 in
set_option maxHeartbeats 1600000 in
theorem contains_ok (w : World) (ba0 : Bool) (Aa0 : Option Addr) (na0 ca0 : Nat) (Ba0 : Option Addr) (ma0 oa0 : Nat) (bb0 : Bool) (Ab0 : Option Addr) (nb0 cb0 : Nat) (Bb0 : Option Addr) (mb0 ob0 : Nat) (xs0 ys0 us0 vs0 : List Nat) (R0 : Rd w Aa0 na0 ca0 xs0) (S0 : Rd w Ba0 ma0 oa0 ys0) (U0 : Rd w Ab0 nb0 cb0 us0) (V0 : Rd w Bb0 mb0 ob0 vs0) (ba1 : Bool) (Aa1 : Option Addr) (na1 ca1 : Nat) (Ba1 : Option Addr) (ma1 oa1 : Nat) (bb1 : Bool) (Ab1 : Option Addr) (nb1 cb1 : Nat) (Bb1 : Option Addr) (mb1 ob1 : Nat) (xs1 ys1 us1 vs1 : List Nat) (R1 : Rd w Aa1 na1 ca1 xs1) (S1 : Rd w Ba1 ma1 oa1 ys1) (U1 : Rd w Ab1 nb1 cb1 us1) (V1 : Rd w Bb1 mb1 ob1 vs1) (z0 z1 : Int) (hz : 0 ≤ z0 ∧ z0 ≤ 255 ∧ 0 ≤ z1 ∧ z1 ≤ 255) (hs : na0 ≤ 6 ∧ ma0 ≤ 6 ∧ nb0 ≤ 6 ∧ mb0 ≤ 6 ∧ na1 ≤ 6 ∧ ma1 ≤ 6 ∧ nb1 ≤ 6 ∧ mb1 ≤ 6) (lo0 hi0 : Rat) (Q0 : SRaw w (.agg #[.bool ba0, .slice Aa0 na0 ca0, .slice Ba0 ma0 oa0, .bool bb0, .slice Ab0 nb0 cb0, .slice Bb0 mb0 ob0]) lo0 hi0 true 6) (lo1 hi1 : Rat) (Q1 : SRaw w (.agg #[.bool ba1, .slice Aa1 na1 ca1, .slice Ba1 ma1 oa1, .bool bb1, .slice Ab1 nb1 cb1, .slice Bb1 mb1 ob1]) lo1 hi1 true 6) (hc : ¬ (lo1 ≤ 0 ∧ 0 ≤ hi1)) :
    Calls Try.prog 4 #[.agg #[.bool ba0, .slice Aa0 na0 ca0, .slice Ba0 ma0 oa0, .bool bb0, .slice Ab0 nb0 cb0, .slice Bb0 mb0 ob0], .agg #[.bool ba1, .slice Aa1 na1 ca1, .slice Ba1 ma1 oa1, .bool bb1, .slice Ab1 nb1 cb1, .slice Bb1 mb1 ob1], .agg #[.int .u8 z0, .int .u8 z1]] w fun e w' => e = .returned (.bool true) ∧ On w w' := by
  obtain ⟨I0, le0⟩ := raw_isS Q0
  have T0 := I0.sp le0
  obtain ⟨I1, le1⟩ := raw_isS Q1
  have T1 := I1.sp le1
  have HC := Lib.hid hc
  clear hc
  have HZ := Lib.hid hz
  clear hz
  obtain ⟨x, ex⟩ : ∃ x, part lo0 hi0 ((z0 : Rat) * (255 : Rat)⁻¹) = x := ⟨_, rfl⟩
  obtain ⟨y, ey⟩ : ∃ x, part lo1 hi1 ((z1 : Rat) * (255 : Rat)⁻¹) = x := ⟨_, rfl⟩
  have HR0 := Lib.hid (in_range le0 HZ.out.1 HZ.out.2.1 ex)
  have HR1 := Lib.hid (in_range le1 HZ.out.2.2.1 HZ.out.2.2.2 ey)
  have HX := Lib.hid ex
  have HY := Lib.hid ey
  clear ex ey
  have HN := Lib.hid (not_zero HC.out HR1.out.1 HR1.out.2)
  have HSM : Hid (∀ p ∈ [(na0, ma0, nb0, mb0), (na1, ma1, nb1, mb1)], ¬ Big p) := Lib.hid (by intro p hp; simp at hp; rcases hp with rfl | rfl <;> (unfold Big; simp only; omega))
  have B : On w (((w.alloc (.cells #[.bool ba0, .slice Aa0 na0 ca0, .slice Ba0 ma0 oa0, .bool bb0, .slice Ab0 nb0 cb0, .slice Bb0 mb0 ob0] 38)).alloc (.cells #[.bool ba1, .slice Aa1 na1 ca1, .slice Ba1 ma1 oa1, .bool bb1, .slice Ab1 nb1 cb1, .slice Bb1 mb1 ob1] 38)).alloc (.cells #[.int .u8 z0, .int .u8 z1] 39)) := On.alloc (On.alloc (On.alloc (On.refl w) _) _) _
  have OB3 : w.heap.size ≤ w.heap.size ∧ Own (((w.alloc (.cells #[.bool ba0, .slice Aa0 na0 ca0, .slice Ba0 ma0 oa0, .bool bb0, .slice Ab0 nb0 cb0, .slice Bb0 mb0 ob0] 38)).alloc (.cells #[.bool ba1, .slice Aa1 na1 ca1, .slice Ba1 ma1 oa1, .bool bb1, .slice Ab1 nb1 cb1, .slice Bb1 mb1 ob1] 38)).alloc (.cells #[.int .u8 z0, .int .u8 z1] 39)) (w.heap.size) 38 #[.bool ba0, .slice Aa0 na0 ca0, .slice Ba0 ma0 oa0, .bool bb0, .slice Ab0 nb0 cb0, .slice Bb0 mb0 ob0] := ⟨by omega, (((Own.at_ w (w.heap.size) (by simp) 38 #[.bool ba0, .slice Aa0 na0 ca0, .slice Ba0 ma0 oa0, .bool bb0, .slice Ab0 nb0 cb0, .slice Bb0 mb0 ob0]).alloc (.cells #[.bool ba1, .slice Aa1 na1 ca1, .slice Ba1 ma1 oa1, .bool bb1, .slice Ab1 nb1 cb1, .slice Bb1 mb1 ob1] 38)).alloc (.cells #[.int .u8 z0, .int .u8 z1] 39))⟩
  have OB4 : w.heap.size ≤ w.heap.size + 1 ∧ Own (((w.alloc (.cells #[.bool ba0, .slice Aa0 na0 ca0, .slice Ba0 ma0 oa0, .bool bb0, .slice Ab0 nb0 cb0, .slice Bb0 mb0 ob0] 38)).alloc (.cells #[.bool ba1, .slice Aa1 na1 ca1, .slice Ba1 ma1 oa1, .bool bb1, .slice Ab1 nb1 cb1, .slice Bb1 mb1 ob1] 38)).alloc (.cells #[.int .u8 z0, .int .u8 z1] 39)) (w.heap.size + 1) 38 #[.bool ba1, .slice Aa1 na1 ca1, .slice Ba1 ma1 oa1, .bool bb1, .slice Ab1 nb1 cb1, .slice Bb1 mb1 ob1] := ⟨by omega, ((Own.at_ (w.alloc (.cells #[.bool ba0, .slice Aa0 na0 ca0, .slice Ba0 ma0 oa0, .bool bb0, .slice Ab0 nb0 cb0, .slice Bb0 mb0 ob0] 38)) (w.heap.size + 1) (by simp) 38 #[.bool ba1, .slice Aa1 na1 ca1, .slice Ba1 ma1 oa1, .bool bb1, .slice Ab1 nb1 cb1, .slice Bb1 mb1 ob1]).alloc (.cells #[.int .u8 z0, .int .u8 z1] 39))⟩
  have OB5 : w.heap.size ≤ w.heap.size + 2 ∧ Own (((w.alloc (.cells #[.bool ba0, .slice Aa0 na0 ca0, .slice Ba0 ma0 oa0, .bool bb0, .slice Ab0 nb0 cb0, .slice Bb0 mb0 ob0] 38)).alloc (.cells #[.bool ba1, .slice Aa1 na1 ca1, .slice Ba1 ma1 oa1, .bool bb1, .slice Ab1 nb1 cb1, .slice Bb1 mb1 ob1] 38)).alloc (.cells #[.int .u8 z0, .int .u8 z1] 39)) (w.heap.size + 2) 39 #[.int .u8 z0, .int .u8 z1] := ⟨by omega, (Own.at_ ((w.alloc (.cells #[.bool ba0, .slice Aa0 na0 ca0, .slice Ba0 ma0 oa0, .bool bb0, .slice Ab0 nb0 cb0, .slice Bb0 mb0 ob0] 38)).alloc (.cells #[.bool ba1, .slice Aa1 na1 ca1, .slice Ba1 ma1 oa1, .bool bb1, .slice Ab1 nb1 cb1, .slice Bb1 mb1 ob1] 38)) (w.heap.size + 2) (by simp) 39 #[.int .u8 z0, .int .u8 z1])⟩
  go_enter Try.func4, Try.ntmps4
  go_wp2_with fail
  refine (awake03 _).mono ?_
  rintro e w1 ⟨rfl, P1⟩
  replace OB3 := And.intro OB3.1 (OB3.2.on P1)
  replace OB4 := And.intro OB4.1 (OB4.2.on P1)
  replace OB5 := And.intro OB5.1 (OB5.2.on P1)
  replace B := B.trans P1
  have y3_0 : w1.cell? ⟨w.heap.size, 0, none⟩ = some (.bool ba0) := OB3.2.cell 0
  have y3_1 : w1.cell? ⟨w.heap.size, 1, none⟩ = some (.slice Aa0 na0 ca0) := OB3.2.cell 1
  have y3_2 : w1.cell? ⟨w.heap.size, 2, none⟩ = some (.slice Ba0 ma0 oa0) := OB3.2.cell 2
  have y3_3 : w1.cell? ⟨w.heap.size, 3, none⟩ = some (.bool bb0) := OB3.2.cell 3
  have y3_4 : w1.cell? ⟨w.heap.size, 4, none⟩ = some (.slice Ab0 nb0 cb0) := OB3.2.cell 4
  have y3_5 : w1.cell? ⟨w.heap.size, 5, none⟩ = some (.slice Bb0 mb0 ob0) := OB3.2.cell 5
  have y3_f0 := OB3.2.frozen 0
  have y3_f1 := OB3.2.frozen 1
  have y3_f2 := OB3.2.frozen 2
  have y3_f3 := OB3.2.frozen 3
  have y3_f4 := OB3.2.frozen 4
  have y3_f5 := OB3.2.frozen 5
  have y4_0 : w1.cell? ⟨w.heap.size + 1, 0, none⟩ = some (.bool ba1) := OB4.2.cell 0
  have y4_1 : w1.cell? ⟨w.heap.size + 1, 1, none⟩ = some (.slice Aa1 na1 ca1) := OB4.2.cell 1
  have y4_2 : w1.cell? ⟨w.heap.size + 1, 2, none⟩ = some (.slice Ba1 ma1 oa1) := OB4.2.cell 2
  have y4_3 : w1.cell? ⟨w.heap.size + 1, 3, none⟩ = some (.bool bb1) := OB4.2.cell 3
  have y4_4 : w1.cell? ⟨w.heap.size + 1, 4, none⟩ = some (.slice Ab1 nb1 cb1) := OB4.2.cell 4
  have y4_5 : w1.cell? ⟨w.heap.size + 1, 5, none⟩ = some (.slice Bb1 mb1 ob1) := OB4.2.cell 5
  have y4_f0 := OB4.2.frozen 0
  have y4_f1 := OB4.2.frozen 1
  have y4_f2 := OB4.2.frozen 2
  have y4_f3 := OB4.2.frozen 3
  have y4_f4 := OB4.2.frozen 4
  have y4_f5 := OB4.2.frozen 5
  have y5_0 : w1.cell? ⟨w.heap.size + 2, 0, none⟩ = some (.int .u8 z0) := OB5.2.cell 0
  have y5_1 : w1.cell? ⟨w.heap.size + 2, 1, none⟩ = some (.int .u8 z1) := OB5.2.cell 1
  have y5_f0 := OB5.2.frozen 0
  have y5_f1 := OB5.2.frozen 1
  go_wp2_with fail
  clear y3_0 y3_f0 y3_1 y3_f1 y3_2 y3_f2 y3_3 y3_f3 y3_4 y3_f4 y3_5 y3_f5
  clear y4_0 y4_f0 y4_1 y4_f1 y4_2 y4_f2 y4_3 y4_f3 y4_4 y4_f4 y4_5 y4_f5
  clear y5_0 y5_f0 y5_1 y5_f1
  have B1 := (On.refl w1).alloc (.cells #[.bool ba0, .slice Aa0 na0 ca0, .slice Ba0 ma0 oa0, .bool bb0, .slice Ab0 nb0 cb0, .slice Bb0 mb0 ob0, .bool ba1, .slice Aa1 na1 ca1, .slice Ba1 ma1 oa1, .bool bb1, .slice Ab1 nb1 cb1, .slice Bb1 mb1 ob1] 38)
  replace OB3 := And.intro OB3.1 (OB3.2.on B1)
  replace OB4 := And.intro OB4.1 (OB4.2.on B1)
  replace OB5 := And.intro OB5.1 (OB5.2.on B1)
  replace B := B.trans B1
  have hlens := slens2 ba0 Aa0 na0 ca0 Ba0 ma0 oa0 bb0 Ab0 nb0 cb0 Bb0 mb0 ob0 xs0 ys0 us0 vs0 (R0.on B) (S0.on B) (U0.on B) (V0.on B) ba1 Aa1 na1 ca1 Ba1 ma1 oa1 bb1 Ab1 nb1 cb1 Bb1 mb1 ob1 xs1 ys1 us1 vs1 (R1.on B) (S1.on B) (U1.on B) (V1.on B) (Own.new w1 38 #[.bool ba0, .slice Aa0 na0 ca0, .slice Ba0 ma0 oa0, .bool bb0, .slice Ab0 nb0 cb0, .slice Bb0 mb0 ob0, .bool ba1, .slice Aa1 na1 ca1, .slice Ba1 ma1 oa1, .bool bb1, .slice Ab1 nb1 cb1, .slice Bb1 mb1 ob1])
  refine (slarge_no _ _ 2 2 _ hlens rfl (by decide) (by decide) (by decide) HSM.out).mono ?_
  rintro e w2 ⟨rfl, P2⟩
  clear hlens B1 P1
  replace OB3 := And.intro OB3.1 (OB3.2.on P2)
  replace OB4 := And.intro OB4.1 (OB4.2.on P2)
  replace OB5 := And.intro OB5.1 (OB5.2.on P2)
  replace B := B.trans P2
  clear P2
  have y3_0 : w2.cell? ⟨w.heap.size, 0, none⟩ = some (.bool ba0) := OB3.2.cell 0
  have y3_1 : w2.cell? ⟨w.heap.size, 1, none⟩ = some (.slice Aa0 na0 ca0) := OB3.2.cell 1
  have y3_2 : w2.cell? ⟨w.heap.size, 2, none⟩ = some (.slice Ba0 ma0 oa0) := OB3.2.cell 2
  have y3_3 : w2.cell? ⟨w.heap.size, 3, none⟩ = some (.bool bb0) := OB3.2.cell 3
  have y3_4 : w2.cell? ⟨w.heap.size, 4, none⟩ = some (.slice Ab0 nb0 cb0) := OB3.2.cell 4
  have y3_5 : w2.cell? ⟨w.heap.size, 5, none⟩ = some (.slice Bb0 mb0 ob0) := OB3.2.cell 5
  have y3_f0 := OB3.2.frozen 0
  have y3_f1 := OB3.2.frozen 1
  have y3_f2 := OB3.2.frozen 2
  have y3_f3 := OB3.2.frozen 3
  have y3_f4 := OB3.2.frozen 4
  have y3_f5 := OB3.2.frozen 5
  go_wp2_with fail
  refine (svalid_any _ _ _ _ _ _ (Q0.on B) (by decide)).mono ?_
  rintro e wv0 ⟨rfl, PV⟩
  clear y3_0 y3_f0 y3_1 y3_f1 y3_2 y3_f2 y3_3 y3_f3 y3_4 y3_f4 y3_5 y3_f5
  replace OB3 := And.intro OB3.1 (OB3.2.on PV)
  replace OB4 := And.intro OB4.1 (OB4.2.on PV)
  replace OB5 := And.intro OB5.1 (OB5.2.on PV)
  replace B := B.trans PV
  clear PV
  have y4_0 : wv0.cell? ⟨w.heap.size + 1, 0, none⟩ = some (.bool ba1) := OB4.2.cell 0
  have y4_1 : wv0.cell? ⟨w.heap.size + 1, 1, none⟩ = some (.slice Aa1 na1 ca1) := OB4.2.cell 1
  have y4_2 : wv0.cell? ⟨w.heap.size + 1, 2, none⟩ = some (.slice Ba1 ma1 oa1) := OB4.2.cell 2
  have y4_3 : wv0.cell? ⟨w.heap.size + 1, 3, none⟩ = some (.bool bb1) := OB4.2.cell 3
  have y4_4 : wv0.cell? ⟨w.heap.size + 1, 4, none⟩ = some (.slice Ab1 nb1 cb1) := OB4.2.cell 4
  have y4_5 : wv0.cell? ⟨w.heap.size + 1, 5, none⟩ = some (.slice Bb1 mb1 ob1) := OB4.2.cell 5
  have y4_f0 := OB4.2.frozen 0
  have y4_f1 := OB4.2.frozen 1
  have y4_f2 := OB4.2.frozen 2
  have y4_f3 := OB4.2.frozen 3
  have y4_f4 := OB4.2.frozen 4
  have y4_f5 := OB4.2.frozen 5
  go_wp2_with fail
  refine (svalid_any _ _ _ _ _ _ (Q1.on B) (by decide)).mono ?_
  rintro e wv1 ⟨rfl, PV⟩
  clear y4_0 y4_f0 y4_1 y4_f1 y4_2 y4_f2 y4_3 y4_f3 y4_4 y4_f4 y4_5 y4_f5
  replace OB3 := And.intro OB3.1 (OB3.2.on PV)
  replace OB4 := And.intro OB4.1 (OB4.2.on PV)
  replace OB5 := And.intro OB5.1 (OB5.2.on PV)
  replace B := B.trans PV
  clear PV
  clear HSM
  go_wp2
  refine wp_region_facts (by kernel_rfl) w [Fact.eq (.agg #[.bool ba0, .slice Aa0 na0 ca0, .slice Ba0 ma0 oa0, .bool bb0, .slice Ab0 nb0 cb0, .slice Bb0 mb0 ob0]), Fact.eq (.pointer (some ⟨w.heap.size + 2, 0, none⟩)), Fact.eq (.int .u8 z0), Fact.rat (x) (53), Fact.eq (.agg #[.bool ba1, .slice Aa1 na1 ca1, .slice Ba1 ma1 oa1, .bool bb1, .slice Ab1 nb1 cb1, .slice Bb1 mb1 ob1]), Fact.eq (.pointer (some ⟨w.heap.size + 2, 1, none⟩)), Fact.eq (.int .u8 z1), Fact.rat (y) (53), Fact.any, Fact.any, Fact.any, Fact.any] [Fact.any, Fact.any, Fact.any, Fact.rat (x) (53), Fact.rat (y) (53)] [⟨12, 3, 38, 12, #[.bool ba0, .slice Aa0 na0 ca0, .slice Ba0 ma0 oa0, .bool bb0, .slice Ab0 nb0 cb0, .slice Bb0 mb0 ob0]⟩, ⟨12, 4, 38, 12, #[.bool ba1, .slice Aa1 na1 ca1, .slice Ba1 ma1 oa1, .bool bb1, .slice Ab1 nb1 cb1, .slice Bb1 mb1 ob1]⟩, ⟨12, 5, 39, 12, #[.int .u8 z0, .int .u8 z1]⟩, ⟨8, 7, 24, 10, #[.bool false, .slice none 0 0, .slice none 0 0]⟩, ⟨9, 8, 24, 11, #[.bool false, .slice none 0 0, .slice none 0 0]⟩] [w.heap.size, w.heap.size + 1, w.heap.size + 2] [none, none, none, none, none, none, none, some 7, some 8, none, none, none, none, none, none, none, none, none, none, none, none, none, none, none, none, none, none, none, none, none, none, none, some 32, some 33, some 34, some 35, some 36, some 37, some 38, some 39, none, none, none, none, none, none, none, none, none, none, none, none, none, none, none, none, none, none, none, none, none, none, none, none, none, none, none, none, none, none, none, none, none, none, none, none, none, none, none, none, none, none, none, none, none, none, none, none, none, none, none, none, none, none, none, none, none, none, none, none, none, none, none, none, none, none, none, none, none, none, none, none, none, none, none, none, none, none, none, none, none, none, none] (by kernel_rfl) (by kernel_rfl) (by kernel_rfl) rfl B ?_ ?_ ?_ ?_ ?_
  · exact ⟨fun _ => ⟨by simp, rfl, OB3⟩, fun _ => ⟨by simp, rfl, OB4⟩, fun _ => ⟨by simp, rfl, OB5⟩, fun h => absurd h (by decide), fun h => absurd h (by decide), trivial⟩
  · exact .inr (by simp <;> omega)
  · exact ⟨⟨noWords_S _ _ _ _ _ _ _ _ _ _ _ _ _ _, (.inl (Nat.le_refl _)), (.inl (Nat.le_refl _))⟩, ⟨noWords_S _ _ _ _ _ _ _ _ _ _ _ _ _ _, (.inl (Nat.le_refl _)), (.inl (Nat.le_refl _))⟩, ⟨noWords_2 _ _, (.inl (Nat.le_refl _)), (.inl (Nat.le_refl _))⟩, ⟨noWords_R _ _ _ _ _ _ _, (.inr ⟨fun _ _ => trivial, _, rfl, fun a w => ⟨rfl, do_value run_allocR⟩⟩), (.inr (store_ob (j := 3) (noWords_R _ _ _ _ _ _ _) rfl rfl rfl (by kernel_rfl) rfl rfl rfl))⟩, ⟨noWords_R _ _ _ _ _ _ _, (.inr ⟨fun _ _ => trivial, _, rfl, fun a w => ⟨rfl, do_value run_allocR⟩⟩), (.inr (store_ob (j := 7) (noWords_R _ _ _ _ _ _ _) rfl rfl rfl (by kernel_rfl) rfl rfl rfl))⟩, trivial⟩
  · refine ⟨?_, ?_, ?_, ?_, ?_, ?_, ?_, ?_, ?_, ?_, ?_, ?_, trivial⟩
    · exact .inr fun a w hp => ob_yes rfl (ob_loadSp (hp.box (k := 0) rfl (Nat.le_refl _) (.inl (Nat.le_refl _)) (by kernel_rfl) rfl).1 (hp.box (k := 0) rfl (Nat.le_refl _) (.inl (Nat.le_refl _)) (by kernel_rfl) rfl).2 rfl)
    · exact .inr fun a w hp => ob_yes rfl (ob_index2 (j := 0) (hp.box (k := 2) rfl (Nat.le_refl _) (.inl (Nat.le_refl _)) (by kernel_rfl) rfl).1 (by decide) rfl)
    · exact .inr fun a w hp => ob_yes rfl (ob_loadY (hp.fact 1 33 (by kernel_rfl) rfl) (hp.box (k := 2) rfl (Nat.le_refl _) (.inl (Nat.le_refl _)) (by kernel_rfl) rfl).2 rfl rfl)
    · refine .inr fun a w hp => ob_yes rfl ?_
      have h32 : a.tmps.getD 32 undef = .agg #[.bool ba0, .slice Aa0 na0 ca0, .slice Ba0 ma0 oa0, .bool bb0, .slice Ab0 nb0 cb0, .slice Bb0 mb0 ob0] := (hp.fact 0 32 (by kernel_rfl) rfl)
      have h34 : a.tmps.getD 34 undef = .int .u8 z0 := (hp.fact 2 34 (by kernel_rfl) rfl)
      unfold Does
      go_simp
      refine (in_any _ _ lo0 hi0 z0 (I0.on hp.on) HZ.out.1 HZ.out.2.1).mono ?_
      rintro e w' ⟨u, rfl, I9, P9⟩
      rw [HX.out] at I9
      exact ⟨_, rfl, P9, I9⟩
    · exact .inr fun a w hp => ob_yes rfl (ob_loadSp (hp.box (k := 1) rfl (Nat.le_refl _) (.inl (Nat.le_refl _)) (by kernel_rfl) rfl).1 (hp.box (k := 1) rfl (Nat.le_refl _) (.inl (Nat.le_refl _)) (by kernel_rfl) rfl).2 rfl)
    · exact .inr fun a w hp => ob_yes rfl (ob_index2 (j := 1) (hp.box (k := 2) rfl (Nat.le_refl _) (.inl (Nat.le_refl _)) (by kernel_rfl) rfl).1 (by decide) rfl)
    · exact .inr fun a w hp => ob_yes rfl (ob_loadY (hp.fact 5 37 (by kernel_rfl) rfl) (hp.box (k := 2) rfl (Nat.le_refl _) (.inl (Nat.le_refl _)) (by kernel_rfl) rfl).2 rfl rfl)
    · refine .inr fun a w hp => ob_yes rfl ?_
      have h36 : a.tmps.getD 36 undef = .agg #[.bool ba1, .slice Aa1 na1 ca1, .slice Ba1 ma1 oa1, .bool bb1, .slice Ab1 nb1 cb1, .slice Bb1 mb1 ob1] := (hp.fact 4 36 (by kernel_rfl) rfl)
      have h38 : a.tmps.getD 38 undef = .int .u8 z1 := (hp.fact 6 38 (by kernel_rfl) rfl)
      unfold Does
      go_simp
      refine (in_any _ _ lo1 hi1 z1 (I1.on hp.on) HZ.out.2.2.1 HZ.out.2.2.2).mono ?_
      rintro e w' ⟨u, rfl, I9, P9⟩
      rw [HY.out] at I9
      exact ⟨_, rfl, P9, I9⟩
    · exact .inl rfl
    · exact .inl rfl
    · exact .inl rfl
    · exact .inl rfl
  · intro f wr hon hk hf hb hap
    obtain ⟨q0, q1, q2, q3, q4, qz⟩ := hb
    clear qz
    have O3 : Own wr (w.heap.size) 38 #[.bool ba0, .slice Aa0 na0 ca0, .slice Ba0 ma0 oa0, .bool bb0, .slice Ab0 nb0 cb0, .slice Bb0 mb0 ob0] := q0
    have c3_0 : wr.cell? ⟨w.heap.size, 0, none⟩ = some (.bool ba0) := O3.cell 0
    have z3_0 := O3.frozen 0
    have c3_1 : wr.cell? ⟨w.heap.size, 1, none⟩ = some (.slice Aa0 na0 ca0) := O3.cell 1
    have z3_1 := O3.frozen 1
    have c3_2 : wr.cell? ⟨w.heap.size, 2, none⟩ = some (.slice Ba0 ma0 oa0) := O3.cell 2
    have z3_2 := O3.frozen 2
    have c3_3 : wr.cell? ⟨w.heap.size, 3, none⟩ = some (.bool bb0) := O3.cell 3
    have z3_3 := O3.frozen 3
    have c3_4 : wr.cell? ⟨w.heap.size, 4, none⟩ = some (.slice Ab0 nb0 cb0) := O3.cell 4
    have z3_4 := O3.frozen 4
    have c3_5 : wr.cell? ⟨w.heap.size, 5, none⟩ = some (.slice Bb0 mb0 ob0) := O3.cell 5
    have z3_5 := O3.frozen 5
    clear q0
    have O4 : Own wr (w.heap.size + 1) 38 #[.bool ba1, .slice Aa1 na1 ca1, .slice Ba1 ma1 oa1, .bool bb1, .slice Ab1 nb1 cb1, .slice Bb1 mb1 ob1] := q1
    have c4_0 : wr.cell? ⟨w.heap.size + 1, 0, none⟩ = some (.bool ba1) := O4.cell 0
    have z4_0 := O4.frozen 0
    have c4_1 : wr.cell? ⟨w.heap.size + 1, 1, none⟩ = some (.slice Aa1 na1 ca1) := O4.cell 1
    have z4_1 := O4.frozen 1
    have c4_2 : wr.cell? ⟨w.heap.size + 1, 2, none⟩ = some (.slice Ba1 ma1 oa1) := O4.cell 2
    have z4_2 := O4.frozen 2
    have c4_3 : wr.cell? ⟨w.heap.size + 1, 3, none⟩ = some (.bool bb1) := O4.cell 3
    have z4_3 := O4.frozen 3
    have c4_4 : wr.cell? ⟨w.heap.size + 1, 4, none⟩ = some (.slice Ab1 nb1 cb1) := O4.cell 4
    have z4_4 := O4.frozen 4
    have c4_5 : wr.cell? ⟨w.heap.size + 1, 5, none⟩ = some (.slice Bb1 mb1 ob1) := O4.cell 5
    have z4_5 := O4.frozen 5
    clear q1
    have O5 : Own wr (w.heap.size + 2) 39 #[.int .u8 z0, .int .u8 z1] := q2
    have c5_0 : wr.cell? ⟨w.heap.size + 2, 0, none⟩ = some (.int .u8 z0) := O5.cell 0
    have z5_0 := O5.frozen 0
    have c5_1 : wr.cell? ⟨w.heap.size + 2, 1, none⟩ = some (.int .u8 z1) := O5.cell 1
    have z5_1 := O5.frozen 1
    clear q2
    obtain ⟨g7, e7, G7, q3⟩ := q3
    change f 7 = _ at e7
    obtain ⟨cur7, O7, I7⟩ : ∃ cur, Own wr (g7) 24 cur ∧ IsR wr (.agg cur) (x) (53) := q3
    obtain ⟨sl7, P7, Pn7, Pc7, R7, Rn7, Rc7, hz7⟩ := isR_form I7
    injection hz7 with hz7
    subst hz7
    have c7_0 : wr.cell? ⟨g7, 0, none⟩ = some (.bool sl7) := O7.cell 0
    have z7_0 := O7.frozen 0
    have c7_1 : wr.cell? ⟨g7, 1, none⟩ = some (.slice P7 Pn7 Pc7) := O7.cell 1
    have z7_1 := O7.frozen 1
    have c7_2 : wr.cell? ⟨g7, 2, none⟩ = some (.slice R7 Rn7 Rc7) := O7.cell 2
    have z7_2 := O7.frozen 2
    obtain ⟨g8, e8, G8, q4⟩ := q4
    change f 8 = _ at e8
    obtain ⟨cur8, O8, I8⟩ : ∃ cur, Own wr (g8) 24 cur ∧ IsR wr (.agg cur) (y) (53) := q4
    obtain ⟨sl8, P8, Pn8, Pc8, R8, Rn8, Rc8, hz8⟩ := isR_form I8
    injection hz8 with hz8
    subst hz8
    have c8_0 : wr.cell? ⟨g8, 0, none⟩ = some (.bool sl8) := O8.cell 0
    have z8_0 := O8.frozen 0
    have c8_1 : wr.cell? ⟨g8, 1, none⟩ = some (.slice P8 Pn8 Pc8) := O8.cell 1
    have z8_1 := O8.frozen 1
    have c8_2 : wr.cell? ⟨g8, 2, none⟩ = some (.slice R8 Rn8 Rc8) := O8.cell 2
    have z8_2 := O8.frozen 2
    clear hf hap
    simp only [fillL]; simp only [e7, e8]
    clear e7 e8
    have OB3 : w.heap.size ≤ w.heap.size ∧ Own wr (w.heap.size) 38 #[.bool ba0, .slice Aa0 na0 ca0, .slice Ba0 ma0 oa0, .bool bb0, .slice Ab0 nb0 cb0, .slice Bb0 mb0 ob0] := ⟨by omega, O3⟩
    clear c3_0 z3_0 c3_1 z3_1 c3_2 z3_2 c3_3 z3_3 c3_4 z3_4 c3_5 z3_5 O3
    have OB4 : w.heap.size ≤ w.heap.size + 1 ∧ Own wr (w.heap.size + 1) 38 #[.bool ba1, .slice Aa1 na1 ca1, .slice Ba1 ma1 oa1, .bool bb1, .slice Ab1 nb1 cb1, .slice Bb1 mb1 ob1] := ⟨by omega, O4⟩
    clear c4_0 z4_0 c4_1 z4_1 c4_2 z4_2 c4_3 z4_3 c4_4 z4_4 c4_5 z4_5 O4
    have OB5 : w.heap.size ≤ w.heap.size + 2 ∧ Own wr (w.heap.size + 2) 39 #[.int .u8 z0, .int .u8 z1] := ⟨by omega, O5⟩
    clear c5_0 z5_0 c5_1 z5_1 O5
    have OB7 : w.heap.size ≤ g7 ∧ Own wr g7 24 #[.bool sl7, .slice P7 Pn7 Pc7, .slice R7 Rn7 Rc7] := ⟨G7, O7⟩
    clear c7_0 z7_0 c7_1 z7_1 c7_2 z7_2 O7
    have OB8 : w.heap.size ≤ g8 ∧ Own wr g8 24 #[.bool sl8, .slice P8 Pn8 Pc8, .slice R8 Rn8 Rc8] := ⟨G8, O8⟩
    clear c8_0 z8_0 c8_1 z8_1 c8_2 z8_2 O8
    clear B OB5
    have B := hon
    clear hon hk
    go_wp2
    refine wp_region_facts (by kernel_rfl) w [Fact.eq (.agg #[.bool ba0, .slice Aa0 na0 ca0, .slice Ba0 ma0 oa0, .bool bb0, .slice Ab0 nb0 cb0, .slice Bb0 mb0 ob0]), Fact.eq (.agg #[.bool sl7, .slice P7 Pn7 Pc7, .slice R7 Rn7 Rc7]), Fact.eq (.bool true), Fact.eq (.bool false), Fact.eq (.bool false), Fact.eq (.agg #[.bool ba1, .slice Aa1 na1 ca1, .slice Ba1 ma1 oa1, .bool bb1, .slice Ab1 nb1 cb1, .slice Bb1 mb1 ob1]), Fact.eq (.agg #[.bool sl8, .slice P8 Pn8 Pc8, .slice R8 Rn8 Rc8]), Fact.eq (.bool true), Fact.eq (.bool false), Fact.eq (.bool false), Fact.eq (.bool false), Fact.eq (.agg #[.bool ba0, .slice Aa0 na0 ca0, .slice Ba0 ma0 oa0, .bool bb0, .slice Ab0 nb0 cb0, .slice Bb0 mb0 ob0]), Fact.eq (.agg #[.bool ba1, .slice Aa1 na1 ca1, .slice Ba1 ma1 oa1, .bool bb1, .slice Ab1 nb1 cb1, .slice Bb1 mb1 ob1]), Fact.sp (lo0 + lo1) (hi0 + hi1) (13), Fact.eq (.agg #[.bool sl7, .slice P7 Pn7 Pc7, .slice R7 Rn7 Rc7]), Fact.eq (.agg #[.bool sl8, .slice P8 Pn8 Pc8, .slice R8 Rn8 Rc8]), Fact.rat (x + y) (107), Fact.eq (.bool true), Fact.eq (.bool false), Fact.eq (.bool false), Fact.eq (.bool false), Fact.eq (.agg #[.bool ba0, .slice Aa0 na0 ca0, .slice Ba0 ma0 oa0, .bool bb0, .slice Ab0 nb0 cb0, .slice Bb0 mb0 ob0]), Fact.eq (.agg #[.bool ba1, .slice Aa1 na1 ca1, .slice Ba1 ma1 oa1, .bool bb1, .slice Ab1 nb1 cb1, .slice Bb1 mb1 ob1]), Fact.sp (lo0 - hi1) (hi0 - lo1) (13), Fact.eq (.agg #[.bool sl7, .slice P7 Pn7 Pc7, .slice R7 Rn7 Rc7]), Fact.eq (.agg #[.bool sl8, .slice P8 Pn8 Pc8, .slice R8 Rn8 Rc8]), Fact.rat (x - y) (107), Fact.eq (.bool true), Fact.eq (.bool false), Fact.eq (.bool false), Fact.eq (.bool false), Fact.eq (.agg #[.bool ba0, .slice Aa0 na0 ca0, .slice Ba0 ma0 oa0, .bool bb0, .slice Ab0 nb0 cb0, .slice Bb0 mb0 ob0]), Fact.eq (.agg #[.bool ba1, .slice Aa1 na1 ca1, .slice Ba1 ma1 oa1, .bool bb1, .slice Ab1 nb1 cb1, .slice Bb1 mb1 ob1]), Fact.sp (prodLo lo0 hi0 lo1 hi1) (prodHi lo0 hi0 lo1 hi1) (25), Fact.eq (.agg #[.bool sl7, .slice P7 Pn7 Pc7, .slice R7 Rn7 Rc7]), Fact.eq (.agg #[.bool sl8, .slice P8 Pn8 Pc8, .slice R8 Rn8 Rc8]), Fact.rat (x * y) (106), Fact.eq (.bool true), Fact.eq (.bool false), Fact.eq (.bool false), Fact.eq (.bool false), Fact.eq (.agg #[.bool ba0, .slice Aa0 na0 ca0, .slice Ba0 ma0 oa0, .bool bb0, .slice Ab0 nb0 cb0, .slice Bb0 mb0 ob0]), Fact.sp (1 - hi0) (1 - lo0) (13), Fact.rat (1) (2), Fact.eq (.agg #[.bool sl7, .slice P7 Pn7 Pc7, .slice R7 Rn7 Rc7]), Fact.rat (1 - x) (107), Fact.eq (.bool true), Fact.eq (.bool false), Fact.eq (.bool false)] [Fact.any, Fact.any, Fact.any, Fact.any] [⟨49, 3, 38, 49, #[.bool ba0, .slice Aa0 na0 ca0, .slice Ba0 ma0 oa0, .bool bb0, .slice Ab0 nb0 cb0, .slice Bb0 mb0 ob0]⟩, ⟨49, 4, 38, 49, #[.bool ba1, .slice Aa1 na1 ca1, .slice Ba1 ma1 oa1, .bool bb1, .slice Ab1 nb1 cb1, .slice Bb1 mb1 ob1]⟩, ⟨49, 7, 24, 49, #[.bool sl7, .slice P7 Pn7 Pc7, .slice R7 Rn7 Rc7]⟩, ⟨49, 8, 24, 49, #[.bool sl8, .slice P8 Pn8 Pc8, .slice R8 Rn8 Rc8]⟩] [w.heap.size, w.heap.size + 1, g7, g8] [none, none, none, none, none, none, none, none, none, none, none, none, none, none, none, none, none, none, none, none, none, none, none, none, none, none, none, none, none, none, none, none, none, none, none, none, none, none, none, none, some 40, some 41, some 42, some 43, some 44, some 45, some 46, some 47, some 48, some 49, some 50, some 51, some 52, some 53, some 54, some 55, some 56, some 57, some 58, some 59, some 60, some 61, some 62, some 63, some 64, some 65, some 66, some 67, some 68, some 69, some 70, some 71, some 72, some 73, some 74, some 75, some 76, some 77, some 78, some 79, some 80, some 81, some 82, some 83, some 84, some 85, some 86, some 87, some 88, none, none, none, none, none, none, none, none, none, none, none, none, none, none, none, none, none, none, none, none, none, none, none, none, none, none, none, none, none, none, none, none, none, none] (by kernel_rfl) (by kernel_rfl) (by kernel_rfl) rfl B ?_ ?_ ?_ ?_ ?_
    · exact ⟨fun _ => ⟨by simp, rfl, OB3⟩, fun _ => ⟨by simp, rfl, OB4⟩, fun _ => ⟨by simp, rfl, OB7⟩, fun _ => ⟨by simp, rfl, OB8⟩, trivial⟩
    · exact .inl ⟨Nat.le_refl _, Nat.le_refl _, Nat.le_refl _, Nat.le_refl _, trivial⟩
    · exact ⟨⟨noWords_S _ _ _ _ _ _ _ _ _ _ _ _ _ _, (.inl (Nat.le_refl _)), (.inl (Nat.le_refl _))⟩, ⟨noWords_S _ _ _ _ _ _ _ _ _ _ _ _ _ _, (.inl (Nat.le_refl _)), (.inl (Nat.le_refl _))⟩, ⟨noWords_R _ _ _ _ _ _ _, (.inl (Nat.le_refl _)), (.inl (Nat.le_refl _))⟩, ⟨noWords_R _ _ _ _ _ _ _, (.inl (Nat.le_refl _)), (.inl (Nat.le_refl _))⟩, trivial⟩
    · refine ⟨?_, ?_, ?_, ?_, ?_, ?_, ?_, ?_, ?_, ?_, ?_, ?_, ?_, ?_, ?_, ?_, ?_, ?_, ?_, ?_, ?_, ?_, ?_, ?_, ?_, ?_, ?_, ?_, ?_, ?_, ?_, ?_, ?_, ?_, ?_, ?_, ?_, ?_, ?_, ?_, ?_, ?_, ?_, ?_, ?_, ?_, ?_, ?_, ?_, trivial⟩
      · exact .inr fun a w hp => ob_yes rfl (ob_loadSp (hp.box (k := 0) rfl (Nat.le_refl _) (.inl (Nat.le_refl _)) (by kernel_rfl) rfl).1 (hp.box (k := 0) rfl (Nat.le_refl _) (.inl (Nat.le_refl _)) (by kernel_rfl) rfl).2 rfl)
      · exact .inr fun a w hp => ob_yes rfl (ob_loadR (hp.box (k := 2) rfl (Nat.le_refl _) (.inl (Nat.le_refl _)) (by kernel_rfl) rfl).1 (hp.box (k := 2) rfl (Nat.le_refl _) (.inl (Nat.le_refl _)) (by kernel_rfl) rfl).2 rfl)
      · refine .inr fun a w hp => ob_yes rfl ?_
        have h40 : a.tmps.getD 40 undef = .agg #[.bool ba0, .slice Aa0 na0 ca0, .slice Ba0 ma0 oa0, .bool bb0, .slice Ab0 nb0 cb0, .slice Bb0 mb0 ob0] := (hp.fact 0 40 (by kernel_rfl) rfl)
        have h41 : a.tmps.getD 41 undef = .agg #[.bool sl7, .slice P7 Pn7 Pc7, .slice R7 Rn7 Rc7] := (hp.fact 1 41 (by kernel_rfl) rfl)
        unfold Does
        go_simp
        refine (spcont_any _ _ _ lo0 hi0 x 53 ((T0.on hp.on).wide (by decide)) (IsR.fld (I7.kept hp.kept)) (by decide) (by decide)).mono ?_
        rintro e w' ⟨rfl, P9⟩
        exact ⟨_, rfl, P9, congrArg Value.bool (both_true HR0.out.1 HR0.out.2)⟩
      · refine .inr fun a w hp => ob_yes rfl ?_
        have h42 : a.tmps.getD 42 undef = .bool true := (hp.fact 2 42 (by kernel_rfl) rfl)
        unfold Does
        go_simp
        exact ⟨_, rfl, On.refl _, by show Value.bool _ = Value.bool _; first | rfl | (simp; done)⟩
      · exact .inr fun a w hp => ob_yes rfl (ob_move (hp.fact 3 43 (by kernel_rfl) rfl))
      · exact .inr fun a w hp => ob_yes (wanted_yes (P := Try.prog) (j := 4) (d := 44) (b := false) rfl rfl (hp.fact 4 44 (by kernel_rfl) rfl)) (ob_loadSp (hp.box (k := 1) rfl (Nat.le_refl _) (.inl (Nat.le_refl _)) (by kernel_rfl) rfl).1 (hp.box (k := 1) rfl (Nat.le_refl _) (.inl (Nat.le_refl _)) (by kernel_rfl) rfl).2 rfl)
      · exact .inr fun a w hp => ob_yes (wanted_yes (P := Try.prog) (j := 4) (d := 44) (b := false) rfl rfl (hp.fact 4 44 (by kernel_rfl) rfl)) (ob_loadR (hp.box (k := 3) rfl (Nat.le_refl _) (.inl (Nat.le_refl _)) (by kernel_rfl) rfl).1 (hp.box (k := 3) rfl (Nat.le_refl _) (.inl (Nat.le_refl _)) (by kernel_rfl) rfl).2 rfl)
      · refine .inr fun a w hp => ob_yes (wanted_yes (P := Try.prog) (j := 4) (d := 44) (b := false) rfl rfl (hp.fact 4 44 (by kernel_rfl) rfl)) ?_
        have h45 : a.tmps.getD 45 undef = .agg #[.bool ba1, .slice Aa1 na1 ca1, .slice Ba1 ma1 oa1, .bool bb1, .slice Ab1 nb1 cb1, .slice Bb1 mb1 ob1] := (hp.fact 5 45 (by kernel_rfl) rfl)
        have h46 : a.tmps.getD 46 undef = .agg #[.bool sl8, .slice P8 Pn8 Pc8, .slice R8 Rn8 Rc8] := (hp.fact 6 46 (by kernel_rfl) rfl)
        unfold Does
        go_simp
        refine (spcont_any _ _ _ lo1 hi1 y 53 ((T1.on hp.on).wide (by decide)) (IsR.fld (I8.kept hp.kept)) (by decide) (by decide)).mono ?_
        rintro e w' ⟨rfl, P9⟩
        exact ⟨_, rfl, P9, congrArg Value.bool (both_true HR1.out.1 HR1.out.2)⟩
      · refine .inr fun a w hp => ob_yes (wanted_yes (P := Try.prog) (j := 4) (d := 44) (b := false) rfl rfl (hp.fact 4 44 (by kernel_rfl) rfl)) ?_
        have h47 : a.tmps.getD 47 undef = .bool true := (hp.fact 7 47 (by kernel_rfl) rfl)
        unfold Does
        go_simp
        exact ⟨_, rfl, On.refl _, by show Value.bool _ = Value.bool _; first | rfl | (simp; done)⟩
      · refine .inr fun a w hp => ob_yes rfl ?_
        have h44 : a.tmps.getD 44 undef = .bool false := (hp.fact 4 44 (by kernel_rfl) rfl)
        have h48 : a.tmps.getD 48 undef = .bool false := (hp.fact 8 48 (by kernel_rfl) rfl)
        unfold Does
        go_simp
        exact ⟨_, rfl, On.refl _, rfl⟩
      · exact .inr fun a w hp => ob_yes rfl (ob_move (hp.fact 9 49 (by kernel_rfl) rfl))
      · exact .inr fun a w hp => ob_yes (wanted_yes (P := Try.prog) (j := 10) (d := 50) (b := false) rfl rfl (hp.fact 10 50 (by kernel_rfl) rfl)) (ob_loadSp (hp.box (k := 0) rfl (Nat.le_refl _) (.inl (Nat.le_refl _)) (by kernel_rfl) rfl).1 (hp.box (k := 0) rfl (Nat.le_refl _) (.inl (Nat.le_refl _)) (by kernel_rfl) rfl).2 rfl)
      · exact .inr fun a w hp => ob_yes (wanted_yes (P := Try.prog) (j := 10) (d := 50) (b := false) rfl rfl (hp.fact 10 50 (by kernel_rfl) rfl)) (ob_loadSp (hp.box (k := 1) rfl (Nat.le_refl _) (.inl (Nat.le_refl _)) (by kernel_rfl) rfl).1 (hp.box (k := 1) rfl (Nat.le_refl _) (.inl (Nat.le_refl _)) (by kernel_rfl) rfl).2 rfl)
      · refine .inr fun a w hp => ob_yes (wanted_yes (P := Try.prog) (j := 10) (d := 50) (b := false) rfl rfl (hp.fact 10 50 (by kernel_rfl) rfl)) ?_
        have h51 : a.tmps.getD 51 undef = .agg #[.bool ba0, .slice Aa0 na0 ca0, .slice Ba0 ma0 oa0, .bool bb0, .slice Ab0 nb0 cb0, .slice Bb0 mb0 ob0] := (hp.fact 11 51 (by kernel_rfl) rfl)
        have h52 : a.tmps.getD 52 undef = .agg #[.bool ba1, .slice Aa1 na1 ca1, .slice Ba1 ma1 oa1, .bool bb1, .slice Ab1 nb1 cb1, .slice Bb1 mb1 ob1] := (hp.fact 12 52 (by kernel_rfl) rfl)
        unfold Does
        go_simp
        refine (spadd_any _ _ _ lo0 hi0 lo1 hi1 6 (T0.on hp.on) (T1.on hp.on) (by decide) (by decide)).mono ?_
        rintro e w' ⟨u, rfl, I9, P9⟩
        exact ⟨_, rfl, P9, I9⟩
      · exact .inr fun a w hp => ob_yes (wanted_yes (P := Try.prog) (j := 10) (d := 50) (b := false) rfl rfl (hp.fact 10 50 (by kernel_rfl) rfl)) (ob_loadR (hp.box (k := 2) rfl (Nat.le_refl _) (.inl (Nat.le_refl _)) (by kernel_rfl) rfl).1 (hp.box (k := 2) rfl (Nat.le_refl _) (.inl (Nat.le_refl _)) (by kernel_rfl) rfl).2 rfl)
      · exact .inr fun a w hp => ob_yes (wanted_yes (P := Try.prog) (j := 10) (d := 50) (b := false) rfl rfl (hp.fact 10 50 (by kernel_rfl) rfl)) (ob_loadR (hp.box (k := 3) rfl (Nat.le_refl _) (.inl (Nat.le_refl _)) (by kernel_rfl) rfl).1 (hp.box (k := 3) rfl (Nat.le_refl _) (.inl (Nat.le_refl _)) (by kernel_rfl) rfl).2 rfl)
      · refine .inr fun a w hp => ob_yes (wanted_yes (P := Try.prog) (j := 10) (d := 50) (b := false) rfl rfl (hp.fact 10 50 (by kernel_rfl) rfl)) ?_
        have h54 : a.tmps.getD 54 undef = .agg #[.bool sl7, .slice P7 Pn7 Pc7, .slice R7 Rn7 Rc7] := (hp.fact 14 54 (by kernel_rfl) rfl)
        have h55 : a.tmps.getD 55 undef = .agg #[.bool sl8, .slice P8 Pn8 Pc8, .slice R8 Rn8 Rc8] := (hp.fact 15 55 (by kernel_rfl) rfl)
        unfold Does
        go_simp
        refine (addr_any _ _ _ x y 53 (IsR.fld (I7.kept hp.kept)) (IsR.fld (I8.kept hp.kept)) (by decide) (by decide)).mono ?_
        rintro e w' ⟨u, rfl, I9, P9⟩
        exact ⟨_, rfl, P9, I9⟩
      · refine .inr fun a w hp => ob_yes (wanted_yes (P := Try.prog) (j := 10) (d := 50) (b := false) rfl rfl (hp.fact 10 50 (by kernel_rfl) rfl)) ?_
        have h53 : IsS w (a.tmps.getD 53 undef) (lo0 + lo1) (hi0 + hi1) (13) := (hp.fact 13 53 (by kernel_rfl) rfl)
        obtain ⟨v53, e53⟩ : ∃ v, a.tmps.getD 53 undef = v := ⟨_, rfl⟩
        rw [e53] at h53
        have h56 : IsR w (a.tmps.getD 56 undef) (x + y) (107) := (hp.fact 16 56 (by kernel_rfl) rfl)
        obtain ⟨v56, e56⟩ : ∃ v, a.tmps.getD 56 undef = v := ⟨_, rfl⟩
        rw [e56] at h56
        unfold Does
        go_simp
        refine (spcont_any _ _ _ (lo0 + lo1) (hi0 + hi1) (x + y) 107 ((h53.sp (add_le2 le0 le1)).wide (by decide)) (IsR.fld h56) (by decide) (by decide)).mono ?_
        rintro e w' ⟨rfl, P9⟩
        exact ⟨_, rfl, P9, congrArg Value.bool (both_true (add_le2 HR0.out.1 HR1.out.1) (add_le2 HR0.out.2 HR1.out.2))⟩
      · refine .inr fun a w hp => ob_yes (wanted_yes (P := Try.prog) (j := 10) (d := 50) (b := false) rfl rfl (hp.fact 10 50 (by kernel_rfl) rfl)) ?_
        have h57 : a.tmps.getD 57 undef = .bool true := (hp.fact 17 57 (by kernel_rfl) rfl)
        unfold Does
        go_simp
        exact ⟨_, rfl, On.refl _, by show Value.bool _ = Value.bool _; first | rfl | (simp; done)⟩
      · refine .inr fun a w hp => ob_yes rfl ?_
        have h50 : a.tmps.getD 50 undef = .bool false := (hp.fact 10 50 (by kernel_rfl) rfl)
        have h58 : a.tmps.getD 58 undef = .bool false := (hp.fact 18 58 (by kernel_rfl) rfl)
        unfold Does
        go_simp
        exact ⟨_, rfl, On.refl _, rfl⟩
      · exact .inr fun a w hp => ob_yes rfl (ob_move (hp.fact 19 59 (by kernel_rfl) rfl))
      · exact .inr fun a w hp => ob_yes (wanted_yes (P := Try.prog) (j := 20) (d := 60) (b := false) rfl rfl (hp.fact 20 60 (by kernel_rfl) rfl)) (ob_loadSp (hp.box (k := 0) rfl (Nat.le_refl _) (.inl (Nat.le_refl _)) (by kernel_rfl) rfl).1 (hp.box (k := 0) rfl (Nat.le_refl _) (.inl (Nat.le_refl _)) (by kernel_rfl) rfl).2 rfl)
      · exact .inr fun a w hp => ob_yes (wanted_yes (P := Try.prog) (j := 20) (d := 60) (b := false) rfl rfl (hp.fact 20 60 (by kernel_rfl) rfl)) (ob_loadSp (hp.box (k := 1) rfl (Nat.le_refl _) (.inl (Nat.le_refl _)) (by kernel_rfl) rfl).1 (hp.box (k := 1) rfl (Nat.le_refl _) (.inl (Nat.le_refl _)) (by kernel_rfl) rfl).2 rfl)
      · refine .inr fun a w hp => ob_yes (wanted_yes (P := Try.prog) (j := 20) (d := 60) (b := false) rfl rfl (hp.fact 20 60 (by kernel_rfl) rfl)) ?_
        have h61 : a.tmps.getD 61 undef = .agg #[.bool ba0, .slice Aa0 na0 ca0, .slice Ba0 ma0 oa0, .bool bb0, .slice Ab0 nb0 cb0, .slice Bb0 mb0 ob0] := (hp.fact 21 61 (by kernel_rfl) rfl)
        have h62 : a.tmps.getD 62 undef = .agg #[.bool ba1, .slice Aa1 na1 ca1, .slice Ba1 ma1 oa1, .bool bb1, .slice Ab1 nb1 cb1, .slice Bb1 mb1 ob1] := (hp.fact 22 62 (by kernel_rfl) rfl)
        unfold Does
        go_simp
        refine (spsub_any _ _ _ lo0 hi0 lo1 hi1 6 (T0.on hp.on) (T1.on hp.on) (by decide) (by decide)).mono ?_
        rintro e w' ⟨u, rfl, I9, P9⟩
        exact ⟨_, rfl, P9, I9⟩
      · exact .inr fun a w hp => ob_yes (wanted_yes (P := Try.prog) (j := 20) (d := 60) (b := false) rfl rfl (hp.fact 20 60 (by kernel_rfl) rfl)) (ob_loadR (hp.box (k := 2) rfl (Nat.le_refl _) (.inl (Nat.le_refl _)) (by kernel_rfl) rfl).1 (hp.box (k := 2) rfl (Nat.le_refl _) (.inl (Nat.le_refl _)) (by kernel_rfl) rfl).2 rfl)
      · exact .inr fun a w hp => ob_yes (wanted_yes (P := Try.prog) (j := 20) (d := 60) (b := false) rfl rfl (hp.fact 20 60 (by kernel_rfl) rfl)) (ob_loadR (hp.box (k := 3) rfl (Nat.le_refl _) (.inl (Nat.le_refl _)) (by kernel_rfl) rfl).1 (hp.box (k := 3) rfl (Nat.le_refl _) (.inl (Nat.le_refl _)) (by kernel_rfl) rfl).2 rfl)
      · refine .inr fun a w hp => ob_yes (wanted_yes (P := Try.prog) (j := 20) (d := 60) (b := false) rfl rfl (hp.fact 20 60 (by kernel_rfl) rfl)) ?_
        have h64 : a.tmps.getD 64 undef = .agg #[.bool sl7, .slice P7 Pn7 Pc7, .slice R7 Rn7 Rc7] := (hp.fact 24 64 (by kernel_rfl) rfl)
        have h65 : a.tmps.getD 65 undef = .agg #[.bool sl8, .slice P8 Pn8 Pc8, .slice R8 Rn8 Rc8] := (hp.fact 25 65 (by kernel_rfl) rfl)
        unfold Does
        go_simp
        refine (subr_any _ _ _ x y 53 (IsR.fld (I7.kept hp.kept)) (IsR.fld (I8.kept hp.kept)) (by decide) (by decide)).mono ?_
        rintro e w' ⟨u, rfl, I9, P9⟩
        exact ⟨_, rfl, P9, I9⟩
      · refine .inr fun a w hp => ob_yes (wanted_yes (P := Try.prog) (j := 20) (d := 60) (b := false) rfl rfl (hp.fact 20 60 (by kernel_rfl) rfl)) ?_
        have h63 : IsS w (a.tmps.getD 63 undef) (lo0 - hi1) (hi0 - lo1) (13) := (hp.fact 23 63 (by kernel_rfl) rfl)
        obtain ⟨v63, e63⟩ : ∃ v, a.tmps.getD 63 undef = v := ⟨_, rfl⟩
        rw [e63] at h63
        have h66 : IsR w (a.tmps.getD 66 undef) (x - y) (107) := (hp.fact 26 66 (by kernel_rfl) rfl)
        obtain ⟨v66, e66⟩ : ∃ v, a.tmps.getD 66 undef = v := ⟨_, rfl⟩
        rw [e66] at h66
        unfold Does
        go_simp
        refine (spcont_any _ _ _ (lo0 - hi1) (hi0 - lo1) (x - y) 107 ((h63.sp (sub_le' le0 le1)).wide (by decide)) (IsR.fld h66) (by decide) (by decide)).mono ?_
        rintro e w' ⟨rfl, P9⟩
        exact ⟨_, rfl, P9, congrArg Value.bool (both_true (sub_le' HR0.out.1 HR1.out.2) (sub_le' HR0.out.2 HR1.out.1))⟩
      · refine .inr fun a w hp => ob_yes (wanted_yes (P := Try.prog) (j := 20) (d := 60) (b := false) rfl rfl (hp.fact 20 60 (by kernel_rfl) rfl)) ?_
        have h67 : a.tmps.getD 67 undef = .bool true := (hp.fact 27 67 (by kernel_rfl) rfl)
        unfold Does
        go_simp
        exact ⟨_, rfl, On.refl _, by show Value.bool _ = Value.bool _; first | rfl | (simp; done)⟩
      · refine .inr fun a w hp => ob_yes rfl ?_
        have h60 : a.tmps.getD 60 undef = .bool false := (hp.fact 20 60 (by kernel_rfl) rfl)
        have h68 : a.tmps.getD 68 undef = .bool false := (hp.fact 28 68 (by kernel_rfl) rfl)
        unfold Does
        go_simp
        exact ⟨_, rfl, On.refl _, rfl⟩
      · exact .inr fun a w hp => ob_yes rfl (ob_move (hp.fact 29 69 (by kernel_rfl) rfl))
      · exact .inr fun a w hp => ob_yes (wanted_yes (P := Try.prog) (j := 30) (d := 70) (b := false) rfl rfl (hp.fact 30 70 (by kernel_rfl) rfl)) (ob_loadSp (hp.box (k := 0) rfl (Nat.le_refl _) (.inl (Nat.le_refl _)) (by kernel_rfl) rfl).1 (hp.box (k := 0) rfl (Nat.le_refl _) (.inl (Nat.le_refl _)) (by kernel_rfl) rfl).2 rfl)
      · exact .inr fun a w hp => ob_yes (wanted_yes (P := Try.prog) (j := 30) (d := 70) (b := false) rfl rfl (hp.fact 30 70 (by kernel_rfl) rfl)) (ob_loadSp (hp.box (k := 1) rfl (Nat.le_refl _) (.inl (Nat.le_refl _)) (by kernel_rfl) rfl).1 (hp.box (k := 1) rfl (Nat.le_refl _) (.inl (Nat.le_refl _)) (by kernel_rfl) rfl).2 rfl)
      · refine .inr fun a w hp => ob_yes (wanted_yes (P := Try.prog) (j := 30) (d := 70) (b := false) rfl rfl (hp.fact 30 70 (by kernel_rfl) rfl)) ?_
        have h71 : a.tmps.getD 71 undef = .agg #[.bool ba0, .slice Aa0 na0 ca0, .slice Ba0 ma0 oa0, .bool bb0, .slice Ab0 nb0 cb0, .slice Bb0 mb0 ob0] := (hp.fact 31 71 (by kernel_rfl) rfl)
        have h72 : a.tmps.getD 72 undef = .agg #[.bool ba1, .slice Aa1 na1 ca1, .slice Ba1 ma1 oa1, .bool bb1, .slice Ab1 nb1 cb1, .slice Bb1 mb1 ob1] := (hp.fact 32 72 (by kernel_rfl) rfl)
        unfold Does
        go_simp
        refine (spmul_any _ _ _ lo0 hi0 lo1 hi1 6 (T0.on hp.on) (T1.on hp.on) (by decide) (by decide)).mono ?_
        rintro e w' ⟨u, rfl, I9, P9⟩
        exact ⟨_, rfl, P9, I9⟩
      · exact .inr fun a w hp => ob_yes (wanted_yes (P := Try.prog) (j := 30) (d := 70) (b := false) rfl rfl (hp.fact 30 70 (by kernel_rfl) rfl)) (ob_loadR (hp.box (k := 2) rfl (Nat.le_refl _) (.inl (Nat.le_refl _)) (by kernel_rfl) rfl).1 (hp.box (k := 2) rfl (Nat.le_refl _) (.inl (Nat.le_refl _)) (by kernel_rfl) rfl).2 rfl)
      · exact .inr fun a w hp => ob_yes (wanted_yes (P := Try.prog) (j := 30) (d := 70) (b := false) rfl rfl (hp.fact 30 70 (by kernel_rfl) rfl)) (ob_loadR (hp.box (k := 3) rfl (Nat.le_refl _) (.inl (Nat.le_refl _)) (by kernel_rfl) rfl).1 (hp.box (k := 3) rfl (Nat.le_refl _) (.inl (Nat.le_refl _)) (by kernel_rfl) rfl).2 rfl)
      · refine .inr fun a w hp => ob_yes (wanted_yes (P := Try.prog) (j := 30) (d := 70) (b := false) rfl rfl (hp.fact 30 70 (by kernel_rfl) rfl)) ?_
        have h74 : a.tmps.getD 74 undef = .agg #[.bool sl7, .slice P7 Pn7 Pc7, .slice R7 Rn7 Rc7] := (hp.fact 34 74 (by kernel_rfl) rfl)
        have h75 : a.tmps.getD 75 undef = .agg #[.bool sl8, .slice P8 Pn8 Pc8, .slice R8 Rn8 Rc8] := (hp.fact 35 75 (by kernel_rfl) rfl)
        unfold Does
        go_simp
        refine (mulr_any _ _ _ x y 53 (IsR.fld (I7.kept hp.kept)) (IsR.fld (I8.kept hp.kept)) (by decide) (by decide)).mono ?_
        rintro e w' ⟨u, rfl, I9, P9⟩
        exact ⟨_, rfl, P9, I9⟩
      · refine .inr fun a w hp => ob_yes (wanted_yes (P := Try.prog) (j := 30) (d := 70) (b := false) rfl rfl (hp.fact 30 70 (by kernel_rfl) rfl)) ?_
        have h73 : IsS w (a.tmps.getD 73 undef) (prodLo lo0 hi0 lo1 hi1) (prodHi lo0 hi0 lo1 hi1) (25) := (hp.fact 33 73 (by kernel_rfl) rfl)
        obtain ⟨v73, e73⟩ : ∃ v, a.tmps.getD 73 undef = v := ⟨_, rfl⟩
        rw [e73] at h73
        have h76 : IsR w (a.tmps.getD 76 undef) (x * y) (106) := (hp.fact 36 76 (by kernel_rfl) rfl)
        obtain ⟨v76, e76⟩ : ∃ v, a.tmps.getD 76 undef = v := ⟨_, rfl⟩
        rw [e76] at h76
        unfold Does
        go_simp
        refine (spcont_any _ _ _ (prodLo lo0 hi0 lo1 hi1) (prodHi lo0 hi0 lo1 hi1) (x * y) 106 ((h73.sp (prod_le _ _ _ _ le0 le1)).wide (by decide)) (IsR.fld h76) (by decide) (by decide)).mono ?_
        rintro e w' ⟨rfl, P9⟩
        exact ⟨_, rfl, P9, congrArg Value.bool (both_true (prodLo_mul HR0.out.1 HR0.out.2 HR1.out.1 HR1.out.2) (mul_prodHi HR0.out.1 HR0.out.2 HR1.out.1 HR1.out.2))⟩
      · refine .inr fun a w hp => ob_yes (wanted_yes (P := Try.prog) (j := 30) (d := 70) (b := false) rfl rfl (hp.fact 30 70 (by kernel_rfl) rfl)) ?_
        have h77 : a.tmps.getD 77 undef = .bool true := (hp.fact 37 77 (by kernel_rfl) rfl)
        unfold Does
        go_simp
        exact ⟨_, rfl, On.refl _, by show Value.bool _ = Value.bool _; first | rfl | (simp; done)⟩
      · refine .inr fun a w hp => ob_yes rfl ?_
        have h70 : a.tmps.getD 70 undef = .bool false := (hp.fact 30 70 (by kernel_rfl) rfl)
        have h78 : a.tmps.getD 78 undef = .bool false := (hp.fact 38 78 (by kernel_rfl) rfl)
        unfold Does
        go_simp
        exact ⟨_, rfl, On.refl _, rfl⟩
      · exact .inr fun a w hp => ob_yes rfl (ob_move (hp.fact 39 79 (by kernel_rfl) rfl))
      · exact .inr fun a w hp => ob_yes (wanted_yes (P := Try.prog) (j := 40) (d := 80) (b := false) rfl rfl (hp.fact 40 80 (by kernel_rfl) rfl)) (ob_loadSp (hp.box (k := 0) rfl (Nat.le_refl _) (.inl (Nat.le_refl _)) (by kernel_rfl) rfl).1 (hp.box (k := 0) rfl (Nat.le_refl _) (.inl (Nat.le_refl _)) (by kernel_rfl) rfl).2 rfl)
      · refine .inr fun a w hp => ob_yes (wanted_yes (P := Try.prog) (j := 40) (d := 80) (b := false) rfl rfl (hp.fact 40 80 (by kernel_rfl) rfl)) ?_
        have h81 : a.tmps.getD 81 undef = .agg #[.bool ba0, .slice Aa0 na0 ca0, .slice Ba0 ma0 oa0, .bool bb0, .slice Ab0 nb0 cb0, .slice Bb0 mb0 ob0] := (hp.fact 41 81 (by kernel_rfl) rfl)
        unfold Does
        go_simp
        refine (spnot_any _ _ lo0 hi0 6 (T0.on hp.on) (by decide) (by decide)).mono ?_
        rintro e w' ⟨u, rfl, I9, P9⟩
        exact ⟨_, rfl, P9, I9⟩
      · refine .inr fun a w hp => ob_yes (wanted_yes (P := Try.prog) (j := 40) (d := 80) (b := false) rfl rfl (hp.fact 40 80 (by kernel_rfl) rfl)) ?_
        unfold Does
        go_simp
        refine (ofr_any _ 1 (by decide) (by decide)).mono ?_
        rintro e w' ⟨u, rfl, I9, P9⟩
        exact ⟨_, rfl, P9, I9⟩
      · exact .inr fun a w hp => ob_yes (wanted_yes (P := Try.prog) (j := 40) (d := 80) (b := false) rfl rfl (hp.fact 40 80 (by kernel_rfl) rfl)) (ob_loadR (hp.box (k := 2) rfl (Nat.le_refl _) (.inl (Nat.le_refl _)) (by kernel_rfl) rfl).1 (hp.box (k := 2) rfl (Nat.le_refl _) (.inl (Nat.le_refl _)) (by kernel_rfl) rfl).2 rfl)
      · refine .inr fun a w hp => ob_yes (wanted_yes (P := Try.prog) (j := 40) (d := 80) (b := false) rfl rfl (hp.fact 40 80 (by kernel_rfl) rfl)) ?_
        have h83 : IsR w (a.tmps.getD 83 undef) (1) (2) := (hp.fact 43 83 (by kernel_rfl) rfl)
        obtain ⟨v83, e83⟩ : ∃ v, a.tmps.getD 83 undef = v := ⟨_, rfl⟩
        rw [e83] at h83
        have h84 : a.tmps.getD 84 undef = .agg #[.bool sl7, .slice P7 Pn7 Pc7, .slice R7 Rn7 Rc7] := (hp.fact 44 84 (by kernel_rfl) rfl)
        unfold Does
        go_simp
        refine (subr_any _ _ _ 1 x 53 (IsR.fld (h83.wide (by decide))) (IsR.fld (I7.kept hp.kept)) (by decide) (by decide)).mono ?_
        rintro e w' ⟨u, rfl, I9, P9⟩
        exact ⟨_, rfl, P9, I9⟩
      · refine .inr fun a w hp => ob_yes (wanted_yes (P := Try.prog) (j := 40) (d := 80) (b := false) rfl rfl (hp.fact 40 80 (by kernel_rfl) rfl)) ?_
        have h82 : IsS w (a.tmps.getD 82 undef) (1 - hi0) (1 - lo0) (13) := (hp.fact 42 82 (by kernel_rfl) rfl)
        obtain ⟨v82, e82⟩ : ∃ v, a.tmps.getD 82 undef = v := ⟨_, rfl⟩
        rw [e82] at h82
        have h85 : IsR w (a.tmps.getD 85 undef) (1 - x) (107) := (hp.fact 45 85 (by kernel_rfl) rfl)
        obtain ⟨v85, e85⟩ : ∃ v, a.tmps.getD 85 undef = v := ⟨_, rfl⟩
        rw [e85] at h85
        unfold Does
        go_simp
        refine (spcont_any _ _ _ (1 - hi0) (1 - lo0) (1 - x) 107 ((h82.sp (not_le2 le0)).wide (by decide)) (IsR.fld h85) (by decide) (by decide)).mono ?_
        rintro e w' ⟨rfl, P9⟩
        exact ⟨_, rfl, P9, congrArg Value.bool (both_true (not_le2 HR0.out.2) (not_le2 HR0.out.1))⟩
      · refine .inr fun a w hp => ob_yes (wanted_yes (P := Try.prog) (j := 40) (d := 80) (b := false) rfl rfl (hp.fact 40 80 (by kernel_rfl) rfl)) ?_
        have h86 : a.tmps.getD 86 undef = .bool true := (hp.fact 46 86 (by kernel_rfl) rfl)
        unfold Does
        go_simp
        exact ⟨_, rfl, On.refl _, by show Value.bool _ = Value.bool _; first | rfl | (simp; done)⟩
      · refine .inr fun a w hp => ob_yes rfl ?_
        have h80 : a.tmps.getD 80 undef = .bool false := (hp.fact 40 80 (by kernel_rfl) rfl)
        have h87 : a.tmps.getD 87 undef = .bool false := (hp.fact 47 87 (by kernel_rfl) rfl)
        unfold Does
        go_simp
        exact ⟨_, rfl, On.refl _, rfl⟩
    · intro f wd hon hk hf hb hap
      obtain ⟨q0, q1, q2, q3, qz⟩ := hb
      clear qz
      have O3 : Own wd (w.heap.size) 38 #[.bool ba0, .slice Aa0 na0 ca0, .slice Ba0 ma0 oa0, .bool bb0, .slice Ab0 nb0 cb0, .slice Bb0 mb0 ob0] := q0
      have c3_0 : wd.cell? ⟨w.heap.size, 0, none⟩ = some (.bool ba0) := O3.cell 0
      have z3_0 := O3.frozen 0
      have c3_1 : wd.cell? ⟨w.heap.size, 1, none⟩ = some (.slice Aa0 na0 ca0) := O3.cell 1
      have z3_1 := O3.frozen 1
      have c3_2 : wd.cell? ⟨w.heap.size, 2, none⟩ = some (.slice Ba0 ma0 oa0) := O3.cell 2
      have z3_2 := O3.frozen 2
      have c3_3 : wd.cell? ⟨w.heap.size, 3, none⟩ = some (.bool bb0) := O3.cell 3
      have z3_3 := O3.frozen 3
      have c3_4 : wd.cell? ⟨w.heap.size, 4, none⟩ = some (.slice Ab0 nb0 cb0) := O3.cell 4
      have z3_4 := O3.frozen 4
      have c3_5 : wd.cell? ⟨w.heap.size, 5, none⟩ = some (.slice Bb0 mb0 ob0) := O3.cell 5
      have z3_5 := O3.frozen 5
      clear q0
      have O4 : Own wd (w.heap.size + 1) 38 #[.bool ba1, .slice Aa1 na1 ca1, .slice Ba1 ma1 oa1, .bool bb1, .slice Ab1 nb1 cb1, .slice Bb1 mb1 ob1] := q1
      have c4_0 : wd.cell? ⟨w.heap.size + 1, 0, none⟩ = some (.bool ba1) := O4.cell 0
      have z4_0 := O4.frozen 0
      have c4_1 : wd.cell? ⟨w.heap.size + 1, 1, none⟩ = some (.slice Aa1 na1 ca1) := O4.cell 1
      have z4_1 := O4.frozen 1
      have c4_2 : wd.cell? ⟨w.heap.size + 1, 2, none⟩ = some (.slice Ba1 ma1 oa1) := O4.cell 2
      have z4_2 := O4.frozen 2
      have c4_3 : wd.cell? ⟨w.heap.size + 1, 3, none⟩ = some (.bool bb1) := O4.cell 3
      have z4_3 := O4.frozen 3
      have c4_4 : wd.cell? ⟨w.heap.size + 1, 4, none⟩ = some (.slice Ab1 nb1 cb1) := O4.cell 4
      have z4_4 := O4.frozen 4
      have c4_5 : wd.cell? ⟨w.heap.size + 1, 5, none⟩ = some (.slice Bb1 mb1 ob1) := O4.cell 5
      have z4_5 := O4.frozen 5
      clear q1
      have O7 : Own wd (g7) 24 #[.bool sl7, .slice P7 Pn7 Pc7, .slice R7 Rn7 Rc7] := q2
      have c7_0 : wd.cell? ⟨g7, 0, none⟩ = some (.bool sl7) := O7.cell 0
      have z7_0 := O7.frozen 0
      have c7_1 : wd.cell? ⟨g7, 1, none⟩ = some (.slice P7 Pn7 Pc7) := O7.cell 1
      have z7_1 := O7.frozen 1
      have c7_2 : wd.cell? ⟨g7, 2, none⟩ = some (.slice R7 Rn7 Rc7) := O7.cell 2
      have z7_2 := O7.frozen 2
      clear q2
      have O8 : Own wd (g8) 24 #[.bool sl8, .slice P8 Pn8 Pc8, .slice R8 Rn8 Rc8] := q3
      have c8_0 : wd.cell? ⟨g8, 0, none⟩ = some (.bool sl8) := O8.cell 0
      have z8_0 := O8.frozen 0
      have c8_1 : wd.cell? ⟨g8, 1, none⟩ = some (.slice P8 Pn8 Pc8) := O8.cell 1
      have z8_1 := O8.frozen 1
      have c8_2 : wd.cell? ⟨g8, 2, none⟩ = some (.slice R8 Rn8 Rc8) := O8.cell 2
      have z8_2 := O8.frozen 2
      clear q3
      have e88 : f 88 = .bool false := hf 48 88 rfl
      clear hf hap
      simp only [fillL, e88]
      clear e88
      replace I7 := I7.kept hk
      replace I8 := I8.kept hk
      have OB3 : w.heap.size ≤ w.heap.size ∧ Own wd (w.heap.size) 38 #[.bool ba0, .slice Aa0 na0 ca0, .slice Ba0 ma0 oa0, .bool bb0, .slice Ab0 nb0 cb0, .slice Bb0 mb0 ob0] := ⟨by omega, O3⟩
      clear c3_0 z3_0 c3_1 z3_1 c3_2 z3_2 c3_3 z3_3 c3_4 z3_4 c3_5 z3_5 O3
      have OB4 : w.heap.size ≤ w.heap.size + 1 ∧ Own wd (w.heap.size + 1) 38 #[.bool ba1, .slice Aa1 na1 ca1, .slice Ba1 ma1 oa1, .bool bb1, .slice Ab1 nb1 cb1, .slice Bb1 mb1 ob1] := ⟨by omega, O4⟩
      clear c4_0 z4_0 c4_1 z4_1 c4_2 z4_2 c4_3 z4_3 c4_4 z4_4 c4_5 z4_5 O4
      have OB7 : w.heap.size ≤ g7 ∧ Own wd g7 24 #[.bool sl7, .slice P7 Pn7 Pc7, .slice R7 Rn7 Rc7] := ⟨OB7.1, O7⟩
      clear c7_0 z7_0 c7_1 z7_1 c7_2 z7_2 O7
      have OB8 : w.heap.size ≤ g8 ∧ Own wd g8 24 #[.bool sl8, .slice P8 Pn8 Pc8, .slice R8 Rn8 Rc8] := ⟨OB8.1, O8⟩
      clear c8_0 z8_0 c8_1 z8_1 c8_2 z8_2 O8
      clear B
      have B := hon
      clear hon hk
      have y3_0 : wd.cell? ⟨w.heap.size, 0, none⟩ = some (.bool ba0) := OB3.2.cell 0
      have y3_1 : wd.cell? ⟨w.heap.size, 1, none⟩ = some (.slice Aa0 na0 ca0) := OB3.2.cell 1
      have y3_2 : wd.cell? ⟨w.heap.size, 2, none⟩ = some (.slice Ba0 ma0 oa0) := OB3.2.cell 2
      have y3_3 : wd.cell? ⟨w.heap.size, 3, none⟩ = some (.bool bb0) := OB3.2.cell 3
      have y3_4 : wd.cell? ⟨w.heap.size, 4, none⟩ = some (.slice Ab0 nb0 cb0) := OB3.2.cell 4
      have y3_5 : wd.cell? ⟨w.heap.size, 5, none⟩ = some (.slice Bb0 mb0 ob0) := OB3.2.cell 5
      have y3_f0 := OB3.2.frozen 0
      have y3_f1 := OB3.2.frozen 1
      have y3_f2 := OB3.2.frozen 2
      have y3_f3 := OB3.2.frozen 3
      have y3_f4 := OB3.2.frozen 4
      have y3_f5 := OB3.2.frozen 5
      have y4_0 : wd.cell? ⟨w.heap.size + 1, 0, none⟩ = some (.bool ba1) := OB4.2.cell 0
      have y4_1 : wd.cell? ⟨w.heap.size + 1, 1, none⟩ = some (.slice Aa1 na1 ca1) := OB4.2.cell 1
      have y4_2 : wd.cell? ⟨w.heap.size + 1, 2, none⟩ = some (.slice Ba1 ma1 oa1) := OB4.2.cell 2
      have y4_3 : wd.cell? ⟨w.heap.size + 1, 3, none⟩ = some (.bool bb1) := OB4.2.cell 3
      have y4_4 : wd.cell? ⟨w.heap.size + 1, 4, none⟩ = some (.slice Ab1 nb1 cb1) := OB4.2.cell 4
      have y4_5 : wd.cell? ⟨w.heap.size + 1, 5, none⟩ = some (.slice Bb1 mb1 ob1) := OB4.2.cell 5
      have y4_f0 := OB4.2.frozen 0
      have y4_f1 := OB4.2.frozen 1
      have y4_f2 := OB4.2.frozen 2
      have y4_f3 := OB4.2.frozen 3
      have y4_f4 := OB4.2.frozen 4
      have y4_f5 := OB4.2.frozen 5
      go_wp2_with fail
      refine (spdiv_ok _ _ _ lo0 hi0 lo1 hi1 6 (T0.on B) (T1.on B) (by decide) (by decide) HC.out).mono ?_
      rintro e w8 ⟨u8, rfl, I9, P9⟩
      obtain ⟨ba9, Aa9, na9, ca9, Ba9, ma9, oa9, bb9, Ab9, nb9, cb9, Bb9, mb9, ob9, rfl, IL9, IH9⟩ := id I9
      clear y3_0 y3_f0 y3_1 y3_f1 y3_2 y3_f2 y3_3 y3_f3 y3_4 y3_f4 y3_5 y3_f5
      clear y4_0 y4_f0 y4_1 y4_f1 y4_2 y4_f2 y4_3 y4_f3 y4_4 y4_f4 y4_5 y4_f5
      replace OB3 := And.intro OB3.1 (OB3.2.on P9)
      replace OB4 := And.intro OB4.1 (OB4.2.on P9)
      replace OB7 := And.intro OB7.1 (OB7.2.on P9)
      replace OB8 := And.intro OB8.1 (OB8.2.on P9)
      replace B := B.trans P9
      replace I7 := I7.on P9
      replace I8 := I8.on P9
      have PA := (On.refl w8).alloc (.cells #[.bool ba9, .slice Aa9 na9 ca9, .slice Ba9 ma9 oa9, .bool bb9, .slice Ab9 nb9 cb9, .slice Bb9 mb9 ob9] 38)
      have B0_9 := B.size
      replace OB3 := And.intro OB3.1 (OB3.2.on PA)
      replace OB4 := And.intro OB4.1 (OB4.2.on PA)
      replace OB7 := And.intro OB7.1 (OB7.2.on PA)
      replace OB8 := And.intro OB8.1 (OB8.2.on PA)
      replace B := B.trans PA
      replace I7 := I7.on PA
      replace I8 := I8.on PA
      replace I9 := I9.on PA
      have OB9 : w.heap.size ≤ w8.heap.size ∧ _ := ⟨B0_9, Own.new w8 38 #[.bool ba9, .slice Aa9 na9 ca9, .slice Ba9 ma9 oa9, .bool bb9, .slice Ab9 nb9 cb9, .slice Bb9 mb9 ob9]⟩
      clear PA P9 IL9 IH9
      have y7_0 : (w8.alloc (.cells #[.bool ba9, .slice Aa9 na9 ca9, .slice Ba9 ma9 oa9, .bool bb9, .slice Ab9 nb9 cb9, .slice Bb9 mb9 ob9] 38)).cell? ⟨g7, 0, none⟩ = some (.bool sl7) := OB7.2.cell 0
      have y7_1 : (w8.alloc (.cells #[.bool ba9, .slice Aa9 na9 ca9, .slice Ba9 ma9 oa9, .bool bb9, .slice Ab9 nb9 cb9, .slice Bb9 mb9 ob9] 38)).cell? ⟨g7, 1, none⟩ = some (.slice P7 Pn7 Pc7) := OB7.2.cell 1
      have y7_2 : (w8.alloc (.cells #[.bool ba9, .slice Aa9 na9 ca9, .slice Ba9 ma9 oa9, .bool bb9, .slice Ab9 nb9 cb9, .slice Bb9 mb9 ob9] 38)).cell? ⟨g7, 2, none⟩ = some (.slice R7 Rn7 Rc7) := OB7.2.cell 2
      have y7_f0 := OB7.2.frozen 0
      have y7_f1 := OB7.2.frozen 1
      have y7_f2 := OB7.2.frozen 2
      have y8_0 : (w8.alloc (.cells #[.bool ba9, .slice Aa9 na9 ca9, .slice Ba9 ma9 oa9, .bool bb9, .slice Ab9 nb9 cb9, .slice Bb9 mb9 ob9] 38)).cell? ⟨g8, 0, none⟩ = some (.bool sl8) := OB8.2.cell 0
      have y8_1 : (w8.alloc (.cells #[.bool ba9, .slice Aa9 na9 ca9, .slice Ba9 ma9 oa9, .bool bb9, .slice Ab9 nb9 cb9, .slice Bb9 mb9 ob9] 38)).cell? ⟨g8, 1, none⟩ = some (.slice P8 Pn8 Pc8) := OB8.2.cell 1
      have y8_2 : (w8.alloc (.cells #[.bool ba9, .slice Aa9 na9 ca9, .slice Ba9 ma9 oa9, .bool bb9, .slice Ab9 nb9 cb9, .slice Bb9 mb9 ob9] 38)).cell? ⟨g8, 2, none⟩ = some (.slice R8 Rn8 Rc8) := OB8.2.cell 2
      have y8_f0 := OB8.2.frozen 0
      have y8_f1 := OB8.2.frozen 1
      have y8_f2 := OB8.2.frozen 2
      go_wp2_with fail
      refine (divr_ok _ _ _ x y 53 (IsR.fld I7) (IsR.fld I8) (by decide) (by decide) HN.out).mono ?_
      rintro e w9 ⟨u11, rfl, I11, P11⟩
      obtain ⟨s11, P11_, Pn11, Pc11, R11_, Rn11, Rc11, rfl⟩ := isR_form I11
      clear y7_0 y7_f0 y7_1 y7_f1 y7_2 y7_f2
      clear y8_0 y8_f0 y8_1 y8_f1 y8_2 y8_f2
      replace OB3 := And.intro OB3.1 (OB3.2.on P11)
      replace OB4 := And.intro OB4.1 (OB4.2.on P11)
      replace OB9 := And.intro OB9.1 (OB9.2.on P11)
      replace B := B.trans P11
      replace I9 := I9.on P11
      have PA := (On.refl w9).alloc (.cells #[.bool s11, .slice P11_ Pn11 Pc11, .slice R11_ Rn11 Rc11] 24)
      have B0_11 := B.size
      replace OB3 := And.intro OB3.1 (OB3.2.on PA)
      replace OB4 := And.intro OB4.1 (OB4.2.on PA)
      replace OB9 := And.intro OB9.1 (OB9.2.on PA)
      replace B := B.trans PA
      replace I9 := I9.on PA
      replace I11 := I11.on PA
      have OB11 : w.heap.size ≤ w9.heap.size ∧ _ := ⟨B0_11, Own.new w9 24 #[.bool s11, .slice P11_ Pn11 Pc11, .slice R11_ Rn11 Rc11]⟩
      clear PA P11
      have y4_0 : (w9.alloc (.cells #[.bool s11, .slice P11_ Pn11 Pc11, .slice R11_ Rn11 Rc11] 24)).cell? ⟨w.heap.size + 1, 0, none⟩ = some (.bool ba1) := OB4.2.cell 0
      have y4_1 : (w9.alloc (.cells #[.bool s11, .slice P11_ Pn11 Pc11, .slice R11_ Rn11 Rc11] 24)).cell? ⟨w.heap.size + 1, 1, none⟩ = some (.slice Aa1 na1 ca1) := OB4.2.cell 1
      have y4_2 : (w9.alloc (.cells #[.bool s11, .slice P11_ Pn11 Pc11, .slice R11_ Rn11 Rc11] 24)).cell? ⟨w.heap.size + 1, 2, none⟩ = some (.slice Ba1 ma1 oa1) := OB4.2.cell 2
      have y4_3 : (w9.alloc (.cells #[.bool s11, .slice P11_ Pn11 Pc11, .slice R11_ Rn11 Rc11] 24)).cell? ⟨w.heap.size + 1, 3, none⟩ = some (.bool bb1) := OB4.2.cell 3
      have y4_4 : (w9.alloc (.cells #[.bool s11, .slice P11_ Pn11 Pc11, .slice R11_ Rn11 Rc11] 24)).cell? ⟨w.heap.size + 1, 4, none⟩ = some (.slice Ab1 nb1 cb1) := OB4.2.cell 4
      have y4_5 : (w9.alloc (.cells #[.bool s11, .slice P11_ Pn11 Pc11, .slice R11_ Rn11 Rc11] 24)).cell? ⟨w.heap.size + 1, 5, none⟩ = some (.slice Bb1 mb1 ob1) := OB4.2.cell 5
      have y4_f0 := OB4.2.frozen 0
      have y4_f1 := OB4.2.frozen 1
      have y4_f2 := OB4.2.frozen 2
      have y4_f3 := OB4.2.frozen 3
      have y4_f4 := OB4.2.frozen 4
      have y4_f5 := OB4.2.frozen 5
      have y9_0 : (w9.alloc (.cells #[.bool s11, .slice P11_ Pn11 Pc11, .slice R11_ Rn11 Rc11] 24)).cell? ⟨w8.heap.size, 0, none⟩ = some (.bool ba9) := OB9.2.cell 0
      have y9_1 : (w9.alloc (.cells #[.bool s11, .slice P11_ Pn11 Pc11, .slice R11_ Rn11 Rc11] 24)).cell? ⟨w8.heap.size, 1, none⟩ = some (.slice Aa9 na9 ca9) := OB9.2.cell 1
      have y9_2 : (w9.alloc (.cells #[.bool s11, .slice P11_ Pn11 Pc11, .slice R11_ Rn11 Rc11] 24)).cell? ⟨w8.heap.size, 2, none⟩ = some (.slice Ba9 ma9 oa9) := OB9.2.cell 2
      have y9_3 : (w9.alloc (.cells #[.bool s11, .slice P11_ Pn11 Pc11, .slice R11_ Rn11 Rc11] 24)).cell? ⟨w8.heap.size, 3, none⟩ = some (.bool bb9) := OB9.2.cell 3
      have y9_4 : (w9.alloc (.cells #[.bool s11, .slice P11_ Pn11 Pc11, .slice R11_ Rn11 Rc11] 24)).cell? ⟨w8.heap.size, 4, none⟩ = some (.slice Ab9 nb9 cb9) := OB9.2.cell 4
      have y9_5 : (w9.alloc (.cells #[.bool s11, .slice P11_ Pn11 Pc11, .slice R11_ Rn11 Rc11] 24)).cell? ⟨w8.heap.size, 5, none⟩ = some (.slice Bb9 mb9 ob9) := OB9.2.cell 5
      have y9_f0 := OB9.2.frozen 0
      have y9_f1 := OB9.2.frozen 1
      have y9_f2 := OB9.2.frozen 2
      have y9_f3 := OB9.2.frozen 3
      have y9_f4 := OB9.2.frozen 4
      have y9_f5 := OB9.2.frozen 5
      have y11_0 : (w9.alloc (.cells #[.bool s11, .slice P11_ Pn11 Pc11, .slice R11_ Rn11 Rc11] 24)).cell? ⟨w9.heap.size, 0, none⟩ = some (.bool s11) := OB11.2.cell 0
      have y11_1 : (w9.alloc (.cells #[.bool s11, .slice P11_ Pn11 Pc11, .slice R11_ Rn11 Rc11] 24)).cell? ⟨w9.heap.size, 1, none⟩ = some (.slice P11_ Pn11 Pc11) := OB11.2.cell 1
      have y11_2 : (w9.alloc (.cells #[.bool s11, .slice P11_ Pn11 Pc11, .slice R11_ Rn11 Rc11] 24)).cell? ⟨w9.heap.size, 2, none⟩ = some (.slice R11_ Rn11 Rc11) := OB11.2.cell 2
      have y11_f0 := OB11.2.frozen 0
      have y11_f1 := OB11.2.frozen 1
      have y11_f2 := OB11.2.frozen 2
      have hiv := inv_le_inv le1 HC.out
      have hik := inv_le_inv HR1.out.1 (no_zero_part HC.out Rat.le_refl HR1.out.2)
      have hil := inv_le_inv HR1.out.2 (no_zero_part HC.out HR1.out.1 Rat.le_refl)
      have HL1 := Lib.hid (prodLo_mul HR0.out.1 HR0.out.2 hil hik)
      have HL2 := Lib.hid (mul_prodHi HR0.out.1 HR0.out.2 hil hik)
      have HL3 := Lib.hid (prod_le _ _ _ _ le0 hiv)
      clear hiv hik hil
      go_wp2_with fail
      refine (spcont_any _ _ _ _ _ (x * y⁻¹) 106 ((I9.sp HL3.out).wide (by decide)) (IsR.fld I11) (by decide) (by decide)).mono ?_
      rintro e w10 ⟨rfl, P10⟩
      rw [both_true HL1.out HL2.out]
      clear y4_0 y4_f0 y4_1 y4_f1 y4_2 y4_f2 y4_3 y4_f3 y4_4 y4_f4 y4_5 y4_f5
      clear y9_0 y9_f0 y9_1 y9_f1 y9_2 y9_f2 y9_3 y9_f3 y9_4 y9_f4 y9_5 y9_f5
      clear y11_0 y11_f0 y11_1 y11_f1 y11_2 y11_f2
      replace OB4 := And.intro OB4.1 (OB4.2.on P10)
      replace B := B.trans P10
      have y4_0 : w10.cell? ⟨w.heap.size + 1, 0, none⟩ = some (.bool ba1) := OB4.2.cell 0
      have y4_1 : w10.cell? ⟨w.heap.size + 1, 1, none⟩ = some (.slice Aa1 na1 ca1) := OB4.2.cell 1
      have y4_2 : w10.cell? ⟨w.heap.size + 1, 2, none⟩ = some (.slice Ba1 ma1 oa1) := OB4.2.cell 2
      have y4_3 : w10.cell? ⟨w.heap.size + 1, 3, none⟩ = some (.bool bb1) := OB4.2.cell 3
      have y4_4 : w10.cell? ⟨w.heap.size + 1, 4, none⟩ = some (.slice Ab1 nb1 cb1) := OB4.2.cell 4
      have y4_5 : w10.cell? ⟨w.heap.size + 1, 5, none⟩ = some (.slice Bb1 mb1 ob1) := OB4.2.cell 5
      have y4_f0 := OB4.2.frozen 0
      have y4_f1 := OB4.2.frozen 1
      have y4_f2 := OB4.2.frozen 2
      have y4_f3 := OB4.2.frozen 3
      have y4_f4 := OB4.2.frozen 4
      have y4_f5 := OB4.2.frozen 5
      go_wp2_with fail
      refine (spcont_any _ _ _ lo1 hi1 0 6 (T1.on B) (IsR.fld (isR_zero _ _)) (by decide) (by decide)).mono ?_
      rintro e w11 ⟨rfl, P11⟩
      rw [both_false HC.out]
      go_wp2
      go_ret
      exact ⟨rfl, B.trans P11⟩
theorem contains_any (w : World) (ba0 : Bool) (Aa0 : Option Addr) (na0 ca0 : Nat) (Ba0 : Option Addr) (ma0 oa0 : Nat) (bb0 : Bool) (Ab0 : Option Addr) (nb0 cb0 : Nat) (Bb0 : Option Addr) (mb0 ob0 : Nat) (xs0 ys0 us0 vs0 : List Nat) (R0 : Rd w Aa0 na0 ca0 xs0) (S0 : Rd w Ba0 ma0 oa0 ys0) (U0 : Rd w Ab0 nb0 cb0 us0) (V0 : Rd w Bb0 mb0 ob0 vs0) (ba1 : Bool) (Aa1 : Option Addr) (na1 ca1 : Nat) (Ba1 : Option Addr) (ma1 oa1 : Nat) (bb1 : Bool) (Ab1 : Option Addr) (nb1 cb1 : Nat) (Bb1 : Option Addr) (mb1 ob1 : Nat) (xs1 ys1 us1 vs1 : List Nat) (R1 : Rd w Aa1 na1 ca1 xs1) (S1 : Rd w Ba1 ma1 oa1 ys1) (U1 : Rd w Ab1 nb1 cb1 us1) (V1 : Rd w Bb1 mb1 ob1 vs1) (z0 z1 : Int) (hz : 0 ≤ z0 ∧ z0 ≤ 255 ∧ 0 ≤ z1 ∧ z1 ≤ 255) :
    Calls Try.prog 4 #[.agg #[.bool ba0, .slice Aa0 na0 ca0, .slice Ba0 ma0 oa0, .bool bb0, .slice Ab0 nb0 cb0, .slice Bb0 mb0 ob0], .agg #[.bool ba1, .slice Aa1 na1 ca1, .slice Ba1 ma1 oa1, .bool bb1, .slice Ab1 nb1 cb1, .slice Bb1 mb1 ob1], .agg #[.int .u8 z0, .int .u8 z1]] w fun e w' => e = .returned (.bool true) ∧ On w w' := by
  by_cases hs : na0 ≤ 6 ∧ ma0 ≤ 6 ∧ nb0 ≤ 6 ∧ mb0 ≤ 6 ∧ na1 ≤ 6 ∧ ma1 ≤ 6 ∧ nb1 ≤ 6 ∧ mb1 ≤ 6
  · obtain ⟨lo0, hi0, f0, Q0⟩ : ∃ lo hi f, SRaw w (.agg #[.bool ba0, .slice Aa0 na0 ca0, .slice Ba0 ma0 oa0, .bool bb0, .slice Ab0 nb0 cb0, .slice Bb0 mb0 ob0]) lo hi f 6 := ⟨_, _, _, ba0, Aa0, na0, ca0, Ba0, ma0, oa0, bb0, Ab0, nb0, cb0, Bb0, mb0, ob0, xs0, ys0, us0, vs0, rfl, R0, S0, U0, V0, by omega, by omega, by omega, by omega, rfl, rfl, rfl⟩
    obtain ⟨lo1, hi1, f1, Q1⟩ : ∃ lo hi f, SRaw w (.agg #[.bool ba1, .slice Aa1 na1 ca1, .slice Ba1 ma1 oa1, .bool bb1, .slice Ab1 nb1 cb1, .slice Bb1 mb1 ob1]) lo hi f 6 := ⟨_, _, _, ba1, Aa1, na1, ca1, Ba1, ma1, oa1, bb1, Ab1, nb1, cb1, Bb1, mb1, ob1, xs1, ys1, us1, vs1, rfl, R1, S1, U1, V1, by omega, by omega, by omega, by omega, rfl, rfl, rfl⟩
    cases f0
    · exact contains_inv0 w ba0 Aa0 na0 ca0 Ba0 ma0 oa0 bb0 Ab0 nb0 cb0 Bb0 mb0 ob0 xs0 ys0 us0 vs0 R0 S0 U0 V0 ba1 Aa1 na1 ca1 Ba1 ma1 oa1 bb1 Ab1 nb1 cb1 Bb1 mb1 ob1 xs1 ys1 us1 vs1 R1 S1 U1 V1 z0 z1 hz hs _ _ Q0
    cases f1
    · exact contains_inv1 w ba0 Aa0 na0 ca0 Ba0 ma0 oa0 bb0 Ab0 nb0 cb0 Bb0 mb0 ob0 xs0 ys0 us0 vs0 R0 S0 U0 V0 ba1 Aa1 na1 ca1 Ba1 ma1 oa1 bb1 Ab1 nb1 cb1 Bb1 mb1 ob1 xs1 ys1 us1 vs1 R1 S1 U1 V1 z0 z1 hz hs _ _ Q0 _ _ Q1
    by_cases hc : lo1 ≤ 0 ∧ 0 ≤ hi1
    · exact contains_zero w ba0 Aa0 na0 ca0 Ba0 ma0 oa0 bb0 Ab0 nb0 cb0 Bb0 mb0 ob0 xs0 ys0 us0 vs0 R0 S0 U0 V0 ba1 Aa1 na1 ca1 Ba1 ma1 oa1 bb1 Ab1 nb1 cb1 Bb1 mb1 ob1 xs1 ys1 us1 vs1 R1 S1 U1 V1 z0 z1 hz hs _ _ Q0 _ _ Q1 hc
    · exact contains_ok w ba0 Aa0 na0 ca0 Ba0 ma0 oa0 bb0 Ab0 nb0 cb0 Bb0 mb0 ob0 xs0 ys0 us0 vs0 R0 S0 U0 V0 ba1 Aa1 na1 ca1 Ba1 ma1 oa1 bb1 Ab1 nb1 cb1 Bb1 mb1 ob1 xs1 ys1 us1 vs1 R1 S1 U1 V1 z0 z1 hz hs _ _ Q0 _ _ Q1 hc
  · have : ∃ (mi : Nat) (qi : Nat × Nat × Nat × Nat), [(na0, ma0, nb0, mb0), (na1, ma1, nb1, mb1)][mi]? = some qi ∧ Big qi := by
      by_cases h0 : Big (na0, ma0, nb0, mb0)
      · exact ⟨0, _, rfl, h0⟩
      by_cases h1 : Big (na1, ma1, nb1, mb1)
      · exact ⟨1, _, rfl, h1⟩
      exfalso
      apply hs
      simp only [Big] at h0 h1
      omega
    obtain ⟨mi, qi, h1, h2⟩ := this
    exact contains_large w ba0 Aa0 na0 ca0 Ba0 ma0 oa0 bb0 Ab0 nb0 cb0 Bb0 mb0 ob0 xs0 ys0 us0 vs0 R0 S0 U0 V0 ba1 Aa1 na1 ca1 Ba1 ma1 oa1 bb1 Ab1 nb1 cb1 Bb1 mb1 ob1 xs1 ys1 us1 vs1 R1 S1 U1 V1 z0 z1 hz mi qi h1 h2
end Num
end Go.Proofs.Ytkchpagjkgmpmaa
