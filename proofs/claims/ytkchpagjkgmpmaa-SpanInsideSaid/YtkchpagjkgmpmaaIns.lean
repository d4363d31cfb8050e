/-
  SpanInside, walked.
-/
import Derived.Test.YtkchpagjkgmpmaaCin
namespace Go.Proofs.Ytkchpagjkgmpmaa
open Go.RowKit
set_option linter.unusedVariables false
namespace Num
theorem sub_le2 {x y a b : Rat} (h : x ≤ y) (k : a ≤ b) : x - b ≤ y - a := by grind
def lom (x y : Int) : Int := if y < x then y else x
def him (x y : Int) : Int := if y > x then y else x
/-- two numbers of a span, the lower one first -/
theorem two_in {lo hi p q : Rat} {z u : Int} (le : lo ≤ hi) (h0 : 0 ≤ z) (h1 : z ≤ 255) (k0 : 0 ≤ u) (k1 : u ≤ 255) (ep : part lo hi ((lom z u : Rat) * (255 : Rat)⁻¹) = p) (eq : part lo hi ((him z u : Rat) * (255 : Rat)⁻¹) = q) : lo ≤ p ∧ p ≤ q ∧ q ≤ hi ∧ (0 ≤ lom z u ∧ lom z u ≤ 255) ∧ (0 ≤ him z u ∧ him z u ≤ 255) := by
  have a : 0 ≤ lom z u ∧ lom z u ≤ 255 ∧ 0 ≤ him z u ∧ him z u ≤ 255 ∧ lom z u ≤ him z u := by unfold lom him; omega
  subst ep; subst eq
  exact ⟨part_lo le (part_f0 a.1), part_mono le (part_fm a.2.2.2.2), part_hi le (part_f1 a.2.2.2.1), ⟨a.1, a.2.1⟩, a.2.2.1, a.2.2.2.1⟩
theorem hap_ne {ops : Array Oper} {a0 : Act} {f : Nat → Value} {s t g h : Nat} (H : (if freeB ops s = true then a0.tmps.getD s undef else f s) ≠ (if freeB ops t = true then a0.tmps.getD t undef else f t)) (hs : freeB ops s = false) (ht : freeB ops t = true) (e1 : f s = .pointer (some ⟨g, 0, none⟩)) (e2 : a0.tmps.getD t undef = .pointer (some ⟨h, 0, none⟩)) : g ≠ h := by
  intro e
  subst e
  apply H
  rw [hs, ht, e1, e2]
  rfl
theorem spdiv_some (w : World) (v v' : Value) (lo hi lo' hi' : Rat) (L : Nat) (h : Sp w v lo hi L) (k : Sp w v' lo' hi' L) (hL2 : 2 ≤ L) (hL : L ≤ 200) :
    Calls Try.prog 29 #[v, v'] w fun e w' => ∃ u er x y M, e = .returned (.tuple #[u, er]) ∧ IsS w' u x y M ∧ On w w' := by
  by_cases hz : lo' ≤ 0 ∧ 0 ≤ hi'
  · refine (spdiv_zero w v v' lo hi lo' hi' L h k hL2 hL hz).mono ?_
    rintro e w' ⟨u, rfl, I, P⟩
    exact ⟨u, _, _, _, _, rfl, I, P⟩
  · refine (spdiv_ok w v v' lo hi lo' hi' L h k hL2 hL hz).mono ?_
    rintro e w' ⟨u, rfl, I, P⟩
    exact ⟨u, _, _, _, _, rfl, I, P⟩
set_option maxRecDepth 100000 in
set_option maxHeartbeats 1600000 in
theorem inside_large (w : World) (ba0 : Bool) (Aa0 : Option Addr) (na0 ca0 : Nat) (Ba0 : Option Addr) (ma0 oa0 : Nat) (bb0 : Bool) (Ab0 : Option Addr) (nb0 cb0 : Nat) (Bb0 : Option Addr) (mb0 ob0 : Nat) (xs0 ys0 us0 vs0 : List Nat) (R0 : Rd w Aa0 na0 ca0 xs0) (S0 : Rd w Ba0 ma0 oa0 ys0) (U0 : Rd w Ab0 nb0 cb0 us0) (V0 : Rd w Bb0 mb0 ob0 vs0) (ba1 : Bool) (Aa1 : Option Addr) (na1 ca1 : Nat) (Ba1 : Option Addr) (ma1 oa1 : Nat) (bb1 : Bool) (Ab1 : Option Addr) (nb1 cb1 : Nat) (Bb1 : Option Addr) (mb1 ob1 : Nat) (xs1 ys1 us1 vs1 : List Nat) (R1 : Rd w Aa1 na1 ca1 xs1) (S1 : Rd w Ba1 ma1 oa1 ys1) (U1 : Rd w Ab1 nb1 cb1 us1) (V1 : Rd w Bb1 mb1 ob1 vs1) (z0 z1 z2 z3 : Int) (hz : 0 ≤ z0 ∧ z0 ≤ 255 ∧ 0 ≤ z1 ∧ z1 ≤ 255 ∧ 0 ≤ z2 ∧ z2 ≤ 255 ∧ 0 ≤ z3 ∧ z3 ≤ 255) (mi : Nat) (qi : Nat × Nat × Nat × Nat) (hmi : [(na0, ma0, nb0, mb0), (na1, ma1, nb1, mb1)][mi]? = some qi) (hyi : Big qi) :
    Calls Try.prog 5 #[.agg #[.bool ba0, .slice Aa0 na0 ca0, .slice Ba0 ma0 oa0, .bool bb0, .slice Ab0 nb0 cb0, .slice Bb0 mb0 ob0], .agg #[.bool ba1, .slice Aa1 na1 ca1, .slice Ba1 ma1 oa1, .bool bb1, .slice Ab1 nb1 cb1, .slice Bb1 mb1 ob1], .agg #[.int .u8 z0, .int .u8 z1, .int .u8 z2, .int .u8 z3]] w fun e w' => e = .returned (.bool true) ∧ On w w' := by
  have HMI := Lib.hid hmi
  have HYI := Lib.hid hyi
  clear hmi hyi
  have B : On w (((w.alloc (.cells #[.bool ba0, .slice Aa0 na0 ca0, .slice Ba0 ma0 oa0, .bool bb0, .slice Ab0 nb0 cb0, .slice Bb0 mb0 ob0] 38)).alloc (.cells #[.bool ba1, .slice Aa1 na1 ca1, .slice Ba1 ma1 oa1, .bool bb1, .slice Ab1 nb1 cb1, .slice Bb1 mb1 ob1] 38)).alloc (.cells #[.int .u8 z0, .int .u8 z1, .int .u8 z2, .int .u8 z3] 54)) := On.alloc (On.alloc (On.alloc (On.refl w) _) _) _
  have OB3 : w.heap.size ≤ w.heap.size ∧ Own (((w.alloc (.cells #[.bool ba0, .slice Aa0 na0 ca0, .slice Ba0 ma0 oa0, .bool bb0, .slice Ab0 nb0 cb0, .slice Bb0 mb0 ob0] 38)).alloc (.cells #[.bool ba1, .slice Aa1 na1 ca1, .slice Ba1 ma1 oa1, .bool bb1, .slice Ab1 nb1 cb1, .slice Bb1 mb1 ob1] 38)).alloc (.cells #[.int .u8 z0, .int .u8 z1, .int .u8 z2, .int .u8 z3] 54)) (w.heap.size) 38 #[.bool ba0, .slice Aa0 na0 ca0, .slice Ba0 ma0 oa0, .bool bb0, .slice Ab0 nb0 cb0, .slice Bb0 mb0 ob0] := ⟨by omega, (((Own.at_ w (w.heap.size) (by simp) 38 #[.bool ba0, .slice Aa0 na0 ca0, .slice Ba0 ma0 oa0, .bool bb0, .slice Ab0 nb0 cb0, .slice Bb0 mb0 ob0]).alloc (.cells #[.bool ba1, .slice Aa1 na1 ca1, .slice Ba1 ma1 oa1, .bool bb1, .slice Ab1 nb1 cb1, .slice Bb1 mb1 ob1] 38)).alloc (.cells #[.int .u8 z0, .int .u8 z1, .int .u8 z2, .int .u8 z3] 54))⟩
  have OB4 : w.heap.size ≤ w.heap.size + 1 ∧ Own (((w.alloc (.cells #[.bool ba0, .slice Aa0 na0 ca0, .slice Ba0 ma0 oa0, .bool bb0, .slice Ab0 nb0 cb0, .slice Bb0 mb0 ob0] 38)).alloc (.cells #[.bool ba1, .slice Aa1 na1 ca1, .slice Ba1 ma1 oa1, .bool bb1, .slice Ab1 nb1 cb1, .slice Bb1 mb1 ob1] 38)).alloc (.cells #[.int .u8 z0, .int .u8 z1, .int .u8 z2, .int .u8 z3] 54)) (w.heap.size + 1) 38 #[.bool ba1, .slice Aa1 na1 ca1, .slice Ba1 ma1 oa1, .bool bb1, .slice Ab1 nb1 cb1, .slice Bb1 mb1 ob1] := ⟨by omega, ((Own.at_ (w.alloc (.cells #[.bool ba0, .slice Aa0 na0 ca0, .slice Ba0 ma0 oa0, .bool bb0, .slice Ab0 nb0 cb0, .slice Bb0 mb0 ob0] 38)) (w.heap.size + 1) (by simp) 38 #[.bool ba1, .slice Aa1 na1 ca1, .slice Ba1 ma1 oa1, .bool bb1, .slice Ab1 nb1 cb1, .slice Bb1 mb1 ob1]).alloc (.cells #[.int .u8 z0, .int .u8 z1, .int .u8 z2, .int .u8 z3] 54))⟩
  have OB5 : w.heap.size ≤ w.heap.size + 2 ∧ Own (((w.alloc (.cells #[.bool ba0, .slice Aa0 na0 ca0, .slice Ba0 ma0 oa0, .bool bb0, .slice Ab0 nb0 cb0, .slice Bb0 mb0 ob0] 38)).alloc (.cells #[.bool ba1, .slice Aa1 na1 ca1, .slice Ba1 ma1 oa1, .bool bb1, .slice Ab1 nb1 cb1, .slice Bb1 mb1 ob1] 38)).alloc (.cells #[.int .u8 z0, .int .u8 z1, .int .u8 z2, .int .u8 z3] 54)) (w.heap.size + 2) 54 #[.int .u8 z0, .int .u8 z1, .int .u8 z2, .int .u8 z3] := ⟨by omega, (Own.at_ ((w.alloc (.cells #[.bool ba0, .slice Aa0 na0 ca0, .slice Ba0 ma0 oa0, .bool bb0, .slice Ab0 nb0 cb0, .slice Bb0 mb0 ob0] 38)).alloc (.cells #[.bool ba1, .slice Aa1 na1 ca1, .slice Ba1 ma1 oa1, .bool bb1, .slice Ab1 nb1 cb1, .slice Bb1 mb1 ob1] 38)) (w.heap.size + 2) (by simp) 54 #[.int .u8 z0, .int .u8 z1, .int .u8 z2, .int .u8 z3])⟩
  go_enter Try.func5, Try.ntmps5
  go_wp2_with fail
  refine (awake03 _).mono ?_
  rintro e w1 ⟨rfl, P1⟩
  replace OB3 := And.intro OB3.1 (OB3.2.on P1)
  replace OB4 := And.intro OB4.1 (OB4.2.on P1)
  replace OB5 := And.intro OB5.1 (OB5.2.on P1)
  replace B := B.trans P1
  have y3_0 : w1.cell? ⟨w.heap.size, 0, none⟩ = some (.bool ba0) := OB3.2.cell 0
  have y3_1 : w1.cell? ⟨w.heap.size, 1, none⟩ = some (.slice Aa0 na0 ca0) := OB3.2.cell 1
  have y3_2 : w1.cell? ⟨w.heap.size, 2, none⟩ = some (.slice Ba0 ma0 oa0) := OB3.2.cell 2
  have y3_3 : w1.cell? ⟨w.heap.size, 3, none⟩ = some (.bool bb0) := OB3.2.cell 3
  have y3_4 : w1.cell? ⟨w.heap.size, 4, none⟩ = some (.slice Ab0 nb0 cb0) := OB3.2.cell 4
  have y3_5 : w1.cell? ⟨w.heap.size, 5, none⟩ = some (.slice Bb0 mb0 ob0) := OB3.2.cell 5
  have y3_f0 := OB3.2.frozen 0
  have y3_f1 := OB3.2.frozen 1
  have y3_f2 := OB3.2.frozen 2
  have y3_f3 := OB3.2.frozen 3
  have y3_f4 := OB3.2.frozen 4
  have y3_f5 := OB3.2.frozen 5
  have y4_0 : w1.cell? ⟨w.heap.size + 1, 0, none⟩ = some (.bool ba1) := OB4.2.cell 0
  have y4_1 : w1.cell? ⟨w.heap.size + 1, 1, none⟩ = some (.slice Aa1 na1 ca1) := OB4.2.cell 1
  have y4_2 : w1.cell? ⟨w.heap.size + 1, 2, none⟩ = some (.slice Ba1 ma1 oa1) := OB4.2.cell 2
  have y4_3 : w1.cell? ⟨w.heap.size + 1, 3, none⟩ = some (.bool bb1) := OB4.2.cell 3
  have y4_4 : w1.cell? ⟨w.heap.size + 1, 4, none⟩ = some (.slice Ab1 nb1 cb1) := OB4.2.cell 4
  have y4_5 : w1.cell? ⟨w.heap.size + 1, 5, none⟩ = some (.slice Bb1 mb1 ob1) := OB4.2.cell 5
  have y4_f0 := OB4.2.frozen 0
  have y4_f1 := OB4.2.frozen 1
  have y4_f2 := OB4.2.frozen 2
  have y4_f3 := OB4.2.frozen 3
  have y4_f4 := OB4.2.frozen 4
  have y4_f5 := OB4.2.frozen 5
  have y5_0 : w1.cell? ⟨w.heap.size + 2, 0, none⟩ = some (.int .u8 z0) := OB5.2.cell 0
  have y5_1 : w1.cell? ⟨w.heap.size + 2, 1, none⟩ = some (.int .u8 z1) := OB5.2.cell 1
  have y5_2 : w1.cell? ⟨w.heap.size + 2, 2, none⟩ = some (.int .u8 z2) := OB5.2.cell 2
  have y5_3 : w1.cell? ⟨w.heap.size + 2, 3, none⟩ = some (.int .u8 z3) := OB5.2.cell 3
  have y5_f0 := OB5.2.frozen 0
  have y5_f1 := OB5.2.frozen 1
  have y5_f2 := OB5.2.frozen 2
  have y5_f3 := OB5.2.frozen 3
  go_wp2_with fail
  clear y3_0 y3_f0 y3_1 y3_f1 y3_2 y3_f2 y3_3 y3_f3 y3_4 y3_f4 y3_5 y3_f5
  clear y4_0 y4_f0 y4_1 y4_f1 y4_2 y4_f2 y4_3 y4_f3 y4_4 y4_f4 y4_5 y4_f5
  clear y5_0 y5_f0 y5_1 y5_f1 y5_2 y5_f2 y5_3 y5_f3
  have B1 := (On.refl w1).alloc (.cells #[.bool ba0, .slice Aa0 na0 ca0, .slice Ba0 ma0 oa0, .bool bb0, .slice Ab0 nb0 cb0, .slice Bb0 mb0 ob0, .bool ba1, .slice Aa1 na1 ca1, .slice Ba1 ma1 oa1, .bool bb1, .slice Ab1 nb1 cb1, .slice Bb1 mb1 ob1] 38)
  replace OB3 := And.intro OB3.1 (OB3.2.on B1)
  replace OB4 := And.intro OB4.1 (OB4.2.on B1)
  replace OB5 := And.intro OB5.1 (OB5.2.on B1)
  replace B := B.trans B1
  have hlens := slens2 ba0 Aa0 na0 ca0 Ba0 ma0 oa0 bb0 Ab0 nb0 cb0 Bb0 mb0 ob0 xs0 ys0 us0 vs0 (R0.on B) (S0.on B) (U0.on B) (V0.on B) ba1 Aa1 na1 ca1 Ba1 ma1 oa1 bb1 Ab1 nb1 cb1 Bb1 mb1 ob1 xs1 ys1 us1 vs1 (R1.on B) (S1.on B) (U1.on B) (V1.on B) (Own.new w1 38 #[.bool ba0, .slice Aa0 na0 ca0, .slice Ba0 ma0 oa0, .bool bb0, .slice Ab0 nb0 cb0, .slice Bb0 mb0 ob0, .bool ba1, .slice Aa1 na1 ca1, .slice Ba1 ma1 oa1, .bool bb1, .slice Ab1 nb1 cb1, .slice Bb1 mb1 ob1])
  refine (slarge_yes _ _ 2 2 _ hlens rfl (by decide) (by decide) (by decide) mi qi HMI.out HYI.out).mono ?_
  rintro e w2 ⟨rfl, P2⟩
  clear hlens B1 P1
  replace OB3 := And.intro OB3.1 (OB3.2.on P2)
  replace OB4 := And.intro OB4.1 (OB4.2.on P2)
  replace OB5 := And.intro OB5.1 (OB5.2.on P2)
  replace B := B.trans P2
  clear P2
  go_wp2_with fail
  refine (awake03 _).mono ?_
  rintro e w3 ⟨rfl, P3⟩
  go_wp2
  go_ret
  exact ⟨rfl, B.trans P3⟩
set_option maxRecDepth 100000 in
set_option maxHeartbeats 1600000 in
theorem inside_inv0 (w : World) (ba0 : Bool) (Aa0 : Option Addr) (na0 ca0 : Nat) (Ba0 : Option Addr) (ma0 oa0 : Nat) (bb0 : Bool) (Ab0 : Option Addr) (nb0 cb0 : Nat) (Bb0 : Option Addr) (mb0 ob0 : Nat) (xs0 ys0 us0 vs0 : List Nat) (R0 : Rd w Aa0 na0 ca0 xs0) (S0 : Rd w Ba0 ma0 oa0 ys0) (U0 : Rd w Ab0 nb0 cb0 us0) (V0 : Rd w Bb0 mb0 ob0 vs0) (ba1 : Bool) (Aa1 : Option Addr) (na1 ca1 : Nat) (Ba1 : Option Addr) (ma1 oa1 : Nat) (bb1 : Bool) (Ab1 : Option Addr) (nb1 cb1 : Nat) (Bb1 : Option Addr) (mb1 ob1 : Nat) (xs1 ys1 us1 vs1 : List Nat) (R1 : Rd w Aa1 na1 ca1 xs1) (S1 : Rd w Ba1 ma1 oa1 ys1) (U1 : Rd w Ab1 nb1 cb1 us1) (V1 : Rd w Bb1 mb1 ob1 vs1) (z0 z1 z2 z3 : Int) (hz : 0 ≤ z0 ∧ z0 ≤ 255 ∧ 0 ≤ z1 ∧ z1 ≤ 255 ∧ 0 ≤ z2 ∧ z2 ≤ 255 ∧ 0 ≤ z3 ∧ z3 ≤ 255) (hs : na0 ≤ 6 ∧ ma0 ≤ 6 ∧ nb0 ≤ 6 ∧ mb0 ≤ 6 ∧ na1 ≤ 6 ∧ ma1 ≤ 6 ∧ nb1 ≤ 6 ∧ mb1 ≤ 6) (lo0 hi0 : Rat) (Q0 : SRaw w (.agg #[.bool ba0, .slice Aa0 na0 ca0, .slice Ba0 ma0 oa0, .bool bb0, .slice Ab0 nb0 cb0, .slice Bb0 mb0 ob0]) lo0 hi0 false 6) :
    Calls Try.prog 5 #[.agg #[.bool ba0, .slice Aa0 na0 ca0, .slice Ba0 ma0 oa0, .bool bb0, .slice Ab0 nb0 cb0, .slice Bb0 mb0 ob0], .agg #[.bool ba1, .slice Aa1 na1 ca1, .slice Ba1 ma1 oa1, .bool bb1, .slice Ab1 nb1 cb1, .slice Bb1 mb1 ob1], .agg #[.int .u8 z0, .int .u8 z1, .int .u8 z2, .int .u8 z3]] w fun e w' => e = .returned (.bool true) ∧ On w w' := by
  have HSM : Hid (∀ p ∈ [(na0, ma0, nb0, mb0), (na1, ma1, nb1, mb1)], ¬ Big p) := Lib.hid (by intro p hp; simp at hp; rcases hp with rfl | rfl <;> (unfold Big; simp only; omega))
  have B : On w (((w.alloc (.cells #[.bool ba0, .slice Aa0 na0 ca0, .slice Ba0 ma0 oa0, .bool bb0, .slice Ab0 nb0 cb0, .slice Bb0 mb0 ob0] 38)).alloc (.cells #[.bool ba1, .slice Aa1 na1 ca1, .slice Ba1 ma1 oa1, .bool bb1, .slice Ab1 nb1 cb1, .slice Bb1 mb1 ob1] 38)).alloc (.cells #[.int .u8 z0, .int .u8 z1, .int .u8 z2, .int .u8 z3] 54)) := On.alloc (On.alloc (On.alloc (On.refl w) _) _) _
  have OB3 : w.heap.size ≤ w.heap.size ∧ Own (((w.alloc (.cells #[.bool ba0, .slice Aa0 na0 ca0, .slice Ba0 ma0 oa0, .bool bb0, .slice Ab0 nb0 cb0, .slice Bb0 mb0 ob0] 38)).alloc (.cells #[.bool ba1, .slice Aa1 na1 ca1, .slice Ba1 ma1 oa1, .bool bb1, .slice Ab1 nb1 cb1, .slice Bb1 mb1 ob1] 38)).alloc (.cells #[.int .u8 z0, .int .u8 z1, .int .u8 z2, .int .u8 z3] 54)) (w.heap.size) 38 #[.bool ba0, .slice Aa0 na0 ca0, .slice Ba0 ma0 oa0, .bool bb0, .slice Ab0 nb0 cb0, .slice Bb0 mb0 ob0] := ⟨by omega, (((Own.at_ w (w.heap.size) (by simp) 38 #[.bool ba0, .slice Aa0 na0 ca0, .slice Ba0 ma0 oa0, .bool bb0, .slice Ab0 nb0 cb0, .slice Bb0 mb0 ob0]).alloc (.cells #[.bool ba1, .slice Aa1 na1 ca1, .slice Ba1 ma1 oa1, .bool bb1, .slice Ab1 nb1 cb1, .slice Bb1 mb1 ob1] 38)).alloc (.cells #[.int .u8 z0, .int .u8 z1, .int .u8 z2, .int .u8 z3] 54))⟩
  have OB4 : w.heap.size ≤ w.heap.size + 1 ∧ Own (((w.alloc (.cells #[.bool ba0, .slice Aa0 na0 ca0, .slice Ba0 ma0 oa0, .bool bb0, .slice Ab0 nb0 cb0, .slice Bb0 mb0 ob0] 38)).alloc (.cells #[.bool ba1, .slice Aa1 na1 ca1, .slice Ba1 ma1 oa1, .bool bb1, .slice Ab1 nb1 cb1, .slice Bb1 mb1 ob1] 38)).alloc (.cells #[.int .u8 z0, .int .u8 z1, .int .u8 z2, .int .u8 z3] 54)) (w.heap.size + 1) 38 #[.bool ba1, .slice Aa1 na1 ca1, .slice Ba1 ma1 oa1, .bool bb1, .slice Ab1 nb1 cb1, .slice Bb1 mb1 ob1] := ⟨by omega, ((Own.at_ (w.alloc (.cells #[.bool ba0, .slice Aa0 na0 ca0, .slice Ba0 ma0 oa0, .bool bb0, .slice Ab0 nb0 cb0, .slice Bb0 mb0 ob0] 38)) (w.heap.size + 1) (by simp) 38 #[.bool ba1, .slice Aa1 na1 ca1, .slice Ba1 ma1 oa1, .bool bb1, .slice Ab1 nb1 cb1, .slice Bb1 mb1 ob1]).alloc (.cells #[.int .u8 z0, .int .u8 z1, .int .u8 z2, .int .u8 z3] 54))⟩
  have OB5 : w.heap.size ≤ w.heap.size + 2 ∧ Own (((w.alloc (.cells #[.bool ba0, .slice Aa0 na0 ca0, .slice Ba0 ma0 oa0, .bool bb0, .slice Ab0 nb0 cb0, .slice Bb0 mb0 ob0] 38)).alloc (.cells #[.bool ba1, .slice Aa1 na1 ca1, .slice Ba1 ma1 oa1, .bool bb1, .slice Ab1 nb1 cb1, .slice Bb1 mb1 ob1] 38)).alloc (.cells #[.int .u8 z0, .int .u8 z1, .int .u8 z2, .int .u8 z3] 54)) (w.heap.size + 2) 54 #[.int .u8 z0, .int .u8 z1, .int .u8 z2, .int .u8 z3] := ⟨by omega, (Own.at_ ((w.alloc (.cells #[.bool ba0, .slice Aa0 na0 ca0, .slice Ba0 ma0 oa0, .bool bb0, .slice Ab0 nb0 cb0, .slice Bb0 mb0 ob0] 38)).alloc (.cells #[.bool ba1, .slice Aa1 na1 ca1, .slice Ba1 ma1 oa1, .bool bb1, .slice Ab1 nb1 cb1, .slice Bb1 mb1 ob1] 38)) (w.heap.size + 2) (by simp) 54 #[.int .u8 z0, .int .u8 z1, .int .u8 z2, .int .u8 z3])⟩
  go_enter Try.func5, Try.ntmps5
  go_wp2_with fail
  refine (awake03 _).mono ?_
  rintro e w1 ⟨rfl, P1⟩
  replace OB3 := And.intro OB3.1 (OB3.2.on P1)
  replace OB4 := And.intro OB4.1 (OB4.2.on P1)
  replace OB5 := And.intro OB5.1 (OB5.2.on P1)
  replace B := B.trans P1
  have y3_0 : w1.cell? ⟨w.heap.size, 0, none⟩ = some (.bool ba0) := OB3.2.cell 0
  have y3_1 : w1.cell? ⟨w.heap.size, 1, none⟩ = some (.slice Aa0 na0 ca0) := OB3.2.cell 1
  have y3_2 : w1.cell? ⟨w.heap.size, 2, none⟩ = some (.slice Ba0 ma0 oa0) := OB3.2.cell 2
  have y3_3 : w1.cell? ⟨w.heap.size, 3, none⟩ = some (.bool bb0) := OB3.2.cell 3
  have y3_4 : w1.cell? ⟨w.heap.size, 4, none⟩ = some (.slice Ab0 nb0 cb0) := OB3.2.cell 4
  have y3_5 : w1.cell? ⟨w.heap.size, 5, none⟩ = some (.slice Bb0 mb0 ob0) := OB3.2.cell 5
  have y3_f0 := OB3.2.frozen 0
  have y3_f1 := OB3.2.frozen 1
  have y3_f2 := OB3.2.frozen 2
  have y3_f3 := OB3.2.frozen 3
  have y3_f4 := OB3.2.frozen 4
  have y3_f5 := OB3.2.frozen 5
  have y4_0 : w1.cell? ⟨w.heap.size + 1, 0, none⟩ = some (.bool ba1) := OB4.2.cell 0
  have y4_1 : w1.cell? ⟨w.heap.size + 1, 1, none⟩ = some (.slice Aa1 na1 ca1) := OB4.2.cell 1
  have y4_2 : w1.cell? ⟨w.heap.size + 1, 2, none⟩ = some (.slice Ba1 ma1 oa1) := OB4.2.cell 2
  have y4_3 : w1.cell? ⟨w.heap.size + 1, 3, none⟩ = some (.bool bb1) := OB4.2.cell 3
  have y4_4 : w1.cell? ⟨w.heap.size + 1, 4, none⟩ = some (.slice Ab1 nb1 cb1) := OB4.2.cell 4
  have y4_5 : w1.cell? ⟨w.heap.size + 1, 5, none⟩ = some (.slice Bb1 mb1 ob1) := OB4.2.cell 5
  have y4_f0 := OB4.2.frozen 0
  have y4_f1 := OB4.2.frozen 1
  have y4_f2 := OB4.2.frozen 2
  have y4_f3 := OB4.2.frozen 3
  have y4_f4 := OB4.2.frozen 4
  have y4_f5 := OB4.2.frozen 5
  have y5_0 : w1.cell? ⟨w.heap.size + 2, 0, none⟩ = some (.int .u8 z0) := OB5.2.cell 0
  have y5_1 : w1.cell? ⟨w.heap.size + 2, 1, none⟩ = some (.int .u8 z1) := OB5.2.cell 1
  have y5_2 : w1.cell? ⟨w.heap.size + 2, 2, none⟩ = some (.int .u8 z2) := OB5.2.cell 2
  have y5_3 : w1.cell? ⟨w.heap.size + 2, 3, none⟩ = some (.int .u8 z3) := OB5.2.cell 3
  have y5_f0 := OB5.2.frozen 0
  have y5_f1 := OB5.2.frozen 1
  have y5_f2 := OB5.2.frozen 2
  have y5_f3 := OB5.2.frozen 3
  go_wp2_with fail
  clear y3_0 y3_f0 y3_1 y3_f1 y3_2 y3_f2 y3_3 y3_f3 y3_4 y3_f4 y3_5 y3_f5
  clear y4_0 y4_f0 y4_1 y4_f1 y4_2 y4_f2 y4_3 y4_f3 y4_4 y4_f4 y4_5 y4_f5
  clear y5_0 y5_f0 y5_1 y5_f1 y5_2 y5_f2 y5_3 y5_f3
  have B1 := (On.refl w1).alloc (.cells #[.bool ba0, .slice Aa0 na0 ca0, .slice Ba0 ma0 oa0, .bool bb0, .slice Ab0 nb0 cb0, .slice Bb0 mb0 ob0, .bool ba1, .slice Aa1 na1 ca1, .slice Ba1 ma1 oa1, .bool bb1, .slice Ab1 nb1 cb1, .slice Bb1 mb1 ob1] 38)
  replace OB3 := And.intro OB3.1 (OB3.2.on B1)
  replace OB4 := And.intro OB4.1 (OB4.2.on B1)
  replace OB5 := And.intro OB5.1 (OB5.2.on B1)
  replace B := B.trans B1
  have hlens := slens2 ba0 Aa0 na0 ca0 Ba0 ma0 oa0 bb0 Ab0 nb0 cb0 Bb0 mb0 ob0 xs0 ys0 us0 vs0 (R0.on B) (S0.on B) (U0.on B) (V0.on B) ba1 Aa1 na1 ca1 Ba1 ma1 oa1 bb1 Ab1 nb1 cb1 Bb1 mb1 ob1 xs1 ys1 us1 vs1 (R1.on B) (S1.on B) (U1.on B) (V1.on B) (Own.new w1 38 #[.bool ba0, .slice Aa0 na0 ca0, .slice Ba0 ma0 oa0, .bool bb0, .slice Ab0 nb0 cb0, .slice Bb0 mb0 ob0, .bool ba1, .slice Aa1 na1 ca1, .slice Ba1 ma1 oa1, .bool bb1, .slice Ab1 nb1 cb1, .slice Bb1 mb1 ob1])
  refine (slarge_no _ _ 2 2 _ hlens rfl (by decide) (by decide) (by decide) HSM.out).mono ?_
  rintro e w2 ⟨rfl, P2⟩
  clear hlens B1 P1
  replace OB3 := And.intro OB3.1 (OB3.2.on P2)
  replace OB4 := And.intro OB4.1 (OB4.2.on P2)
  replace OB5 := And.intro OB5.1 (OB5.2.on P2)
  replace B := B.trans P2
  clear P2
  have y3_0 : w2.cell? ⟨w.heap.size, 0, none⟩ = some (.bool ba0) := OB3.2.cell 0
  have y3_1 : w2.cell? ⟨w.heap.size, 1, none⟩ = some (.slice Aa0 na0 ca0) := OB3.2.cell 1
  have y3_2 : w2.cell? ⟨w.heap.size, 2, none⟩ = some (.slice Ba0 ma0 oa0) := OB3.2.cell 2
  have y3_3 : w2.cell? ⟨w.heap.size, 3, none⟩ = some (.bool bb0) := OB3.2.cell 3
  have y3_4 : w2.cell? ⟨w.heap.size, 4, none⟩ = some (.slice Ab0 nb0 cb0) := OB3.2.cell 4
  have y3_5 : w2.cell? ⟨w.heap.size, 5, none⟩ = some (.slice Bb0 mb0 ob0) := OB3.2.cell 5
  have y3_f0 := OB3.2.frozen 0
  have y3_f1 := OB3.2.frozen 1
  have y3_f2 := OB3.2.frozen 2
  have y3_f3 := OB3.2.frozen 3
  have y3_f4 := OB3.2.frozen 4
  have y3_f5 := OB3.2.frozen 5
  go_wp2_with fail
  refine (svalid_any _ _ _ _ _ _ (Q0.on B) (by decide)).mono ?_
  rintro e wv0 ⟨rfl, PV⟩
  clear y3_0 y3_f0 y3_1 y3_f1 y3_2 y3_f2 y3_3 y3_f3 y3_4 y3_f4 y3_5 y3_f5
  replace OB3 := And.intro OB3.1 (OB3.2.on PV)
  replace OB4 := And.intro OB4.1 (OB4.2.on PV)
  replace OB5 := And.intro OB5.1 (OB5.2.on PV)
  replace B := B.trans PV
  clear PV
  go_wp2_with fail
  refine (awake03 _).mono ?_
  rintro e w3 ⟨rfl, P3⟩
  go_wp2
  go_ret
  exact ⟨rfl, B.trans P3⟩
set_option maxRecDepth 100000 in
set_option maxHeartbeats 1600000 in
theorem inside_inv1 (w : World) (ba0 : Bool) (Aa0 : Option Addr) (na0 ca0 : Nat) (Ba0 : Option Addr) (ma0 oa0 : Nat) (bb0 : Bool) (Ab0 : Option Addr) (nb0 cb0 : Nat) (Bb0 : Option Addr) (mb0 ob0 : Nat) (xs0 ys0 us0 vs0 : List Nat) (R0 : Rd w Aa0 na0 ca0 xs0) (S0 : Rd w Ba0 ma0 oa0 ys0) (U0 : Rd w Ab0 nb0 cb0 us0) (V0 : Rd w Bb0 mb0 ob0 vs0) (ba1 : Bool) (Aa1 : Option Addr) (na1 ca1 : Nat) (Ba1 : Option Addr) (ma1 oa1 : Nat) (bb1 : Bool) (Ab1 : Option Addr) (nb1 cb1 : Nat) (Bb1 : Option Addr) (mb1 ob1 : Nat) (xs1 ys1 us1 vs1 : List Nat) (R1 : Rd w Aa1 na1 ca1 xs1) (S1 : Rd w Ba1 ma1 oa1 ys1) (U1 : Rd w Ab1 nb1 cb1 us1) (V1 : Rd w Bb1 mb1 ob1 vs1) (z0 z1 z2 z3 : Int) (hz : 0 ≤ z0 ∧ z0 ≤ 255 ∧ 0 ≤ z1 ∧ z1 ≤ 255 ∧ 0 ≤ z2 ∧ z2 ≤ 255 ∧ 0 ≤ z3 ∧ z3 ≤ 255) (hs : na0 ≤ 6 ∧ ma0 ≤ 6 ∧ nb0 ≤ 6 ∧ mb0 ≤ 6 ∧ na1 ≤ 6 ∧ ma1 ≤ 6 ∧ nb1 ≤ 6 ∧ mb1 ≤ 6) (lo0 hi0 : Rat) (Q0 : SRaw w (.agg #[.bool ba0, .slice Aa0 na0 ca0, .slice Ba0 ma0 oa0, .bool bb0, .slice Ab0 nb0 cb0, .slice Bb0 mb0 ob0]) lo0 hi0 true 6) (lo1 hi1 : Rat) (Q1 : SRaw w (.agg #[.bool ba1, .slice Aa1 na1 ca1, .slice Ba1 ma1 oa1, .bool bb1, .slice Ab1 nb1 cb1, .slice Bb1 mb1 ob1]) lo1 hi1 false 6) :
    Calls Try.prog 5 #[.agg #[.bool ba0, .slice Aa0 na0 ca0, .slice Ba0 ma0 oa0, .bool bb0, .slice Ab0 nb0 cb0, .slice Bb0 mb0 ob0], .agg #[.bool ba1, .slice Aa1 na1 ca1, .slice Ba1 ma1 oa1, .bool bb1, .slice Ab1 nb1 cb1, .slice Bb1 mb1 ob1], .agg #[.int .u8 z0, .int .u8 z1, .int .u8 z2, .int .u8 z3]] w fun e w' => e = .returned (.bool true) ∧ On w w' := by
  have HSM : Hid (∀ p ∈ [(na0, ma0, nb0, mb0), (na1, ma1, nb1, mb1)], ¬ Big p) := Lib.hid (by intro p hp; simp at hp; rcases hp with rfl | rfl <;> (unfold Big; simp only; omega))
  have B : On w (((w.alloc (.cells #[.bool ba0, .slice Aa0 na0 ca0, .slice Ba0 ma0 oa0, .bool bb0, .slice Ab0 nb0 cb0, .slice Bb0 mb0 ob0] 38)).alloc (.cells #[.bool ba1, .slice Aa1 na1 ca1, .slice Ba1 ma1 oa1, .bool bb1, .slice Ab1 nb1 cb1, .slice Bb1 mb1 ob1] 38)).alloc (.cells #[.int .u8 z0, .int .u8 z1, .int .u8 z2, .int .u8 z3] 54)) := On.alloc (On.alloc (On.alloc (On.refl w) _) _) _
  have OB3 : w.heap.size ≤ w.heap.size ∧ Own (((w.alloc (.cells #[.bool ba0, .slice Aa0 na0 ca0, .slice Ba0 ma0 oa0, .bool bb0, .slice Ab0 nb0 cb0, .slice Bb0 mb0 ob0] 38)).alloc (.cells #[.bool ba1, .slice Aa1 na1 ca1, .slice Ba1 ma1 oa1, .bool bb1, .slice Ab1 nb1 cb1, .slice Bb1 mb1 ob1] 38)).alloc (.cells #[.int .u8 z0, .int .u8 z1, .int .u8 z2, .int .u8 z3] 54)) (w.heap.size) 38 #[.bool ba0, .slice Aa0 na0 ca0, .slice Ba0 ma0 oa0, .bool bb0, .slice Ab0 nb0 cb0, .slice Bb0 mb0 ob0] := ⟨by omega, (((Own.at_ w (w.heap.size) (by simp) 38 #[.bool ba0, .slice Aa0 na0 ca0, .slice Ba0 ma0 oa0, .bool bb0, .slice Ab0 nb0 cb0, .slice Bb0 mb0 ob0]).alloc (.cells #[.bool ba1, .slice Aa1 na1 ca1, .slice Ba1 ma1 oa1, .bool bb1, .slice Ab1 nb1 cb1, .slice Bb1 mb1 ob1] 38)).alloc (.cells #[.int .u8 z0, .int .u8 z1, .int .u8 z2, .int .u8 z3] 54))⟩
  have OB4 : w.heap.size ≤ w.heap.size + 1 ∧ Own (((w.alloc (.cells #[.bool ba0, .slice Aa0 na0 ca0, .slice Ba0 ma0 oa0, .bool bb0, .slice Ab0 nb0 cb0, .slice Bb0 mb0 ob0] 38)).alloc (.cells #[.bool ba1, .slice Aa1 na1 ca1, .slice Ba1 ma1 oa1, .bool bb1, .slice Ab1 nb1 cb1, .slice Bb1 mb1 ob1] 38)).alloc (.cells #[.int .u8 z0, .int .u8 z1, .int .u8 z2, .int .u8 z3] 54)) (w.heap.size + 1) 38 #[.bool ba1, .slice Aa1 na1 ca1, .slice Ba1 ma1 oa1, .bool bb1, .slice Ab1 nb1 cb1, .slice Bb1 mb1 ob1] := ⟨by omega, ((Own.at_ (w.alloc (.cells #[.bool ba0, .slice Aa0 na0 ca0, .slice Ba0 ma0 oa0, .bool bb0, .slice Ab0 nb0 cb0, .slice Bb0 mb0 ob0] 38)) (w.heap.size + 1) (by simp) 38 #[.bool ba1, .slice Aa1 na1 ca1, .slice Ba1 ma1 oa1, .bool bb1, .slice Ab1 nb1 cb1, .slice Bb1 mb1 ob1]).alloc (.cells #[.int .u8 z0, .int .u8 z1, .int .u8 z2, .int .u8 z3] 54))⟩
  have OB5 : w.heap.size ≤ w.heap.size + 2 ∧ Own (((w.alloc (.cells #[.bool ba0, .slice Aa0 na0 ca0, .slice Ba0 ma0 oa0, .bool bb0, .slice Ab0 nb0 cb0, .slice Bb0 mb0 ob0] 38)).alloc (.cells #[.bool ba1, .slice Aa1 na1 ca1, .slice Ba1 ma1 oa1, .bool bb1, .slice Ab1 nb1 cb1, .slice Bb1 mb1 ob1] 38)).alloc (.cells #[.int .u8 z0, .int .u8 z1, .int .u8 z2, .int .u8 z3] 54)) (w.heap.size + 2) 54 #[.int .u8 z0, .int .u8 z1, .int .u8 z2, .int .u8 z3] := ⟨by omega, (Own.at_ ((w.alloc (.cells #[.bool ba0, .slice Aa0 na0 ca0, .slice Ba0 ma0 oa0, .bool bb0, .slice Ab0 nb0 cb0, .slice Bb0 mb0 ob0] 38)).alloc (.cells #[.bool ba1, .slice Aa1 na1 ca1, .slice Ba1 ma1 oa1, .bool bb1, .slice Ab1 nb1 cb1, .slice Bb1 mb1 ob1] 38)) (w.heap.size + 2) (by simp) 54 #[.int .u8 z0, .int .u8 z1, .int .u8 z2, .int .u8 z3])⟩
  go_enter Try.func5, Try.ntmps5
  go_wp2_with fail
  refine (awake03 _).mono ?_
  rintro e w1 ⟨rfl, P1⟩
  replace OB3 := And.intro OB3.1 (OB3.2.on P1)
  replace OB4 := And.intro OB4.1 (OB4.2.on P1)
  replace OB5 := And.intro OB5.1 (OB5.2.on P1)
  replace B := B.trans P1
  have y3_0 : w1.cell? ⟨w.heap.size, 0, none⟩ = some (.bool ba0) := OB3.2.cell 0
  have y3_1 : w1.cell? ⟨w.heap.size, 1, none⟩ = some (.slice Aa0 na0 ca0) := OB3.2.cell 1
  have y3_2 : w1.cell? ⟨w.heap.size, 2, none⟩ = some (.slice Ba0 ma0 oa0) := OB3.2.cell 2
  have y3_3 : w1.cell? ⟨w.heap.size, 3, none⟩ = some (.bool bb0) := OB3.2.cell 3
  have y3_4 : w1.cell? ⟨w.heap.size, 4, none⟩ = some (.slice Ab0 nb0 cb0) := OB3.2.cell 4
  have y3_5 : w1.cell? ⟨w.heap.size, 5, none⟩ = some (.slice Bb0 mb0 ob0) := OB3.2.cell 5
  have y3_f0 := OB3.2.frozen 0
  have y3_f1 := OB3.2.frozen 1
  have y3_f2 := OB3.2.frozen 2
  have y3_f3 := OB3.2.frozen 3
  have y3_f4 := OB3.2.frozen 4
  have y3_f5 := OB3.2.frozen 5
  have y4_0 : w1.cell? ⟨w.heap.size + 1, 0, none⟩ = some (.bool ba1) := OB4.2.cell 0
  have y4_1 : w1.cell? ⟨w.heap.size + 1, 1, none⟩ = some (.slice Aa1 na1 ca1) := OB4.2.cell 1
  have y4_2 : w1.cell? ⟨w.heap.size + 1, 2, none⟩ = some (.slice Ba1 ma1 oa1) := OB4.2.cell 2
  have y4_3 : w1.cell? ⟨w.heap.size + 1, 3, none⟩ = some (.bool bb1) := OB4.2.cell 3
  have y4_4 : w1.cell? ⟨w.heap.size + 1, 4, none⟩ = some (.slice Ab1 nb1 cb1) := OB4.2.cell 4
  have y4_5 : w1.cell? ⟨w.heap.size + 1, 5, none⟩ = some (.slice Bb1 mb1 ob1) := OB4.2.cell 5
  have y4_f0 := OB4.2.frozen 0
  have y4_f1 := OB4.2.frozen 1
  have y4_f2 := OB4.2.frozen 2
  have y4_f3 := OB4.2.frozen 3
  have y4_f4 := OB4.2.frozen 4
  have y4_f5 := OB4.2.frozen 5
  have y5_0 : w1.cell? ⟨w.heap.size + 2, 0, none⟩ = some (.int .u8 z0) := OB5.2.cell 0
  have y5_1 : w1.cell? ⟨w.heap.size + 2, 1, none⟩ = some (.int .u8 z1) := OB5.2.cell 1
  have y5_2 : w1.cell? ⟨w.heap.size + 2, 2, none⟩ = some (.int .u8 z2) := OB5.2.cell 2
  have y5_3 : w1.cell? ⟨w.heap.size + 2, 3, none⟩ = some (.int .u8 z3) := OB5.2.cell 3
  have y5_f0 := OB5.2.frozen 0
  have y5_f1 := OB5.2.frozen 1
  have y5_f2 := OB5.2.frozen 2
  have y5_f3 := OB5.2.frozen 3
  go_wp2_with fail
  clear y3_0 y3_f0 y3_1 y3_f1 y3_2 y3_f2 y3_3 y3_f3 y3_4 y3_f4 y3_5 y3_f5
  clear y4_0 y4_f0 y4_1 y4_f1 y4_2 y4_f2 y4_3 y4_f3 y4_4 y4_f4 y4_5 y4_f5
  clear y5_0 y5_f0 y5_1 y5_f1 y5_2 y5_f2 y5_3 y5_f3
  have B1 := (On.refl w1).alloc (.cells #[.bool ba0, .slice Aa0 na0 ca0, .slice Ba0 ma0 oa0, .bool bb0, .slice Ab0 nb0 cb0, .slice Bb0 mb0 ob0, .bool ba1, .slice Aa1 na1 ca1, .slice Ba1 ma1 oa1, .bool bb1, .slice Ab1 nb1 cb1, .slice Bb1 mb1 ob1] 38)
  replace OB3 := And.intro OB3.1 (OB3.2.on B1)
  replace OB4 := And.intro OB4.1 (OB4.2.on B1)
  replace OB5 := And.intro OB5.1 (OB5.2.on B1)
  replace B := B.trans B1
  have hlens := slens2 ba0 Aa0 na0 ca0 Ba0 ma0 oa0 bb0 Ab0 nb0 cb0 Bb0 mb0 ob0 xs0 ys0 us0 vs0 (R0.on B) (S0.on B) (U0.on B) (V0.on B) ba1 Aa1 na1 ca1 Ba1 ma1 oa1 bb1 Ab1 nb1 cb1 Bb1 mb1 ob1 xs1 ys1 us1 vs1 (R1.on B) (S1.on B) (U1.on B) (V1.on B) (Own.new w1 38 #[.bool ba0, .slice Aa0 na0 ca0, .slice Ba0 ma0 oa0, .bool bb0, .slice Ab0 nb0 cb0, .slice Bb0 mb0 ob0, .bool ba1, .slice Aa1 na1 ca1, .slice Ba1 ma1 oa1, .bool bb1, .slice Ab1 nb1 cb1, .slice Bb1 mb1 ob1])
  refine (slarge_no _ _ 2 2 _ hlens rfl (by decide) (by decide) (by decide) HSM.out).mono ?_
  rintro e w2 ⟨rfl, P2⟩
  clear hlens B1 P1
  replace OB3 := And.intro OB3.1 (OB3.2.on P2)
  replace OB4 := And.intro OB4.1 (OB4.2.on P2)
  replace OB5 := And.intro OB5.1 (OB5.2.on P2)
  replace B := B.trans P2
  clear P2
  have y3_0 : w2.cell? ⟨w.heap.size, 0, none⟩ = some (.bool ba0) := OB3.2.cell 0
  have y3_1 : w2.cell? ⟨w.heap.size, 1, none⟩ = some (.slice Aa0 na0 ca0) := OB3.2.cell 1
  have y3_2 : w2.cell? ⟨w.heap.size, 2, none⟩ = some (.slice Ba0 ma0 oa0) := OB3.2.cell 2
  have y3_3 : w2.cell? ⟨w.heap.size, 3, none⟩ = some (.bool bb0) := OB3.2.cell 3
  have y3_4 : w2.cell? ⟨w.heap.size, 4, none⟩ = some (.slice Ab0 nb0 cb0) := OB3.2.cell 4
  have y3_5 : w2.cell? ⟨w.heap.size, 5, none⟩ = some (.slice Bb0 mb0 ob0) := OB3.2.cell 5
  have y3_f0 := OB3.2.frozen 0
  have y3_f1 := OB3.2.frozen 1
  have y3_f2 := OB3.2.frozen 2
  have y3_f3 := OB3.2.frozen 3
  have y3_f4 := OB3.2.frozen 4
  have y3_f5 := OB3.2.frozen 5
  go_wp2_with fail
  refine (svalid_any _ _ _ _ _ _ (Q0.on B) (by decide)).mono ?_
  rintro e wv0 ⟨rfl, PV⟩
  clear y3_0 y3_f0 y3_1 y3_f1 y3_2 y3_f2 y3_3 y3_f3 y3_4 y3_f4 y3_5 y3_f5
  replace OB3 := And.intro OB3.1 (OB3.2.on PV)
  replace OB4 := And.intro OB4.1 (OB4.2.on PV)
  replace OB5 := And.intro OB5.1 (OB5.2.on PV)
  replace B := B.trans PV
  clear PV
  have y4_0 : wv0.cell? ⟨w.heap.size + 1, 0, none⟩ = some (.bool ba1) := OB4.2.cell 0
  have y4_1 : wv0.cell? ⟨w.heap.size + 1, 1, none⟩ = some (.slice Aa1 na1 ca1) := OB4.2.cell 1
  have y4_2 : wv0.cell? ⟨w.heap.size + 1, 2, none⟩ = some (.slice Ba1 ma1 oa1) := OB4.2.cell 2
  have y4_3 : wv0.cell? ⟨w.heap.size + 1, 3, none⟩ = some (.bool bb1) := OB4.2.cell 3
  have y4_4 : wv0.cell? ⟨w.heap.size + 1, 4, none⟩ = some (.slice Ab1 nb1 cb1) := OB4.2.cell 4
  have y4_5 : wv0.cell? ⟨w.heap.size + 1, 5, none⟩ = some (.slice Bb1 mb1 ob1) := OB4.2.cell 5
  have y4_f0 := OB4.2.frozen 0
  have y4_f1 := OB4.2.frozen 1
  have y4_f2 := OB4.2.frozen 2
  have y4_f3 := OB4.2.frozen 3
  have y4_f4 := OB4.2.frozen 4
  have y4_f5 := OB4.2.frozen 5
  go_wp2_with fail
  refine (svalid_any _ _ _ _ _ _ (Q1.on B) (by decide)).mono ?_
  rintro e wv1 ⟨rfl, PV⟩
  clear y4_0 y4_f0 y4_1 y4_f1 y4_2 y4_f2 y4_3 y4_f3 y4_4 y4_f4 y4_5 y4_f5
  replace OB3 := And.intro OB3.1 (OB3.2.on PV)
  replace OB4 := And.intro OB4.1 (OB4.2.on PV)
  replace OB5 := And.intro OB5.1 (OB5.2.on PV)
  replace B := B.trans PV
  clear PV
  go_wp2_with fail
  refine (awake03 _).mono ?_
  rintro e w3 ⟨rfl, P3⟩
  go_wp2
  go_ret
  exact ⟨rfl, B.trans P3⟩
set_option maxRecDepth 100000 in
set_option maxHeartbeats 1600000 in
theorem inside_zero (w : World) (ba0 : Bool) (Aa0 : Option Addr) (na0 ca0 : Nat) (Ba0 : Option Addr) (ma0 oa0 : Nat) (bb0 : Bool) (Ab0 : Option Addr) (nb0 cb0 : Nat) (Bb0 : Option Addr) (mb0 ob0 : Nat) (xs0 ys0 us0 vs0 : List Nat) (R0 : Rd w Aa0 na0 ca0 xs0) (S0 : Rd w Ba0 ma0 oa0 ys0) (U0 : Rd w Ab0 nb0 cb0 us0) (V0 : Rd w Bb0 mb0 ob0 vs0) (ba1 : Bool) (Aa1 : Option Addr) (na1 ca1 : Nat) (Ba1 : Option Addr) (ma1 oa1 : Nat) (bb1 : Bool) (Ab1 : Option Addr) (nb1 cb1 : Nat) (Bb1 : Option Addr) (mb1 ob1 : Nat) (xs1 ys1 us1 vs1 : List Nat) (R1 : Rd w Aa1 na1 ca1 xs1) (S1 : Rd w Ba1 ma1 oa1 ys1) (U1 : Rd w Ab1 nb1 cb1 us1) (V1 : Rd w Bb1 mb1 ob1 vs1) (z0 z1 z2 z3 : Int) (hz : 0 ≤ z0 ∧ z0 ≤ 255 ∧ 0 ≤ z1 ∧ z1 ≤ 255 ∧ 0 ≤ z2 ∧ z2 ≤ 255 ∧ 0 ≤ z3 ∧ z3 ≤ 255) (hs : na0 ≤ 6 ∧ ma0 ≤ 6 ∧ nb0 ≤ 6 ∧ mb0 ≤ 6 ∧ na1 ≤ 6 ∧ ma1 ≤ 6 ∧ nb1 ≤ 6 ∧ mb1 ≤ 6) (lo0 hi0 : Rat) (Q0 : SRaw w (.agg #[.bool ba0, .slice Aa0 na0 ca0, .slice Ba0 ma0 oa0, .bool bb0, .slice Ab0 nb0 cb0, .slice Bb0 mb0 ob0]) lo0 hi0 true 6) (lo1 hi1 : Rat) (Q1 : SRaw w (.agg #[.bool ba1, .slice Aa1 na1 ca1, .slice Ba1 ma1 oa1, .bool bb1, .slice Ab1 nb1 cb1, .slice Bb1 mb1 ob1]) lo1 hi1 true 6) (hc : (lo1 ≤ 0 ∧ 0 ≤ hi1)) :
    Calls Try.prog 5 #[.agg #[.bool ba0, .slice Aa0 na0 ca0, .slice Ba0 ma0 oa0, .bool bb0, .slice Ab0 nb0 cb0, .slice Bb0 mb0 ob0], .agg #[.bool ba1, .slice Aa1 na1 ca1, .slice Ba1 ma1 oa1, .bool bb1, .slice Ab1 nb1 cb1, .slice Bb1 mb1 ob1], .agg #[.int .u8 z0, .int .u8 z1, .int .u8 z2, .int .u8 z3]] w fun e w' => e = .returned (.bool true) ∧ On w w' := by
  obtain ⟨I0, le0⟩ := raw_isS Q0
  have T0 := I0.sp le0
  obtain ⟨I1, le1⟩ := raw_isS Q1
  have T1 := I1.sp le1
  have HC := Lib.hid hc
  clear hc
  have HZ := Lib.hid hz
  clear hz
  obtain ⟨p0, ep⟩ : ∃ x, part lo0 hi0 ((lom z0 z1 : Rat) * (255 : Rat)⁻¹) = x := ⟨_, rfl⟩
  obtain ⟨q0, eq⟩ : ∃ x, part lo0 hi0 ((him z0 z1 : Rat) * (255 : Rat)⁻¹) = x := ⟨_, rfl⟩
  have HR0 := Lib.hid (two_in le0 HZ.out.1 HZ.out.2.1 HZ.out.2.2.1 HZ.out.2.2.2.1 ep eq)
  have HP0 := Lib.hid ep
  have HQ0 := Lib.hid eq
  clear ep eq
  obtain ⟨p1, ep⟩ : ∃ x, part lo1 hi1 ((lom z2 z3 : Rat) * (255 : Rat)⁻¹) = x := ⟨_, rfl⟩
  obtain ⟨q1, eq⟩ : ∃ x, part lo1 hi1 ((him z2 z3 : Rat) * (255 : Rat)⁻¹) = x := ⟨_, rfl⟩
  have HR1 := Lib.hid (two_in le1 HZ.out.2.2.2.2.1 HZ.out.2.2.2.2.2.1 HZ.out.2.2.2.2.2.2.1 HZ.out.2.2.2.2.2.2.2 ep eq)
  have HP1 := Lib.hid ep
  have HQ1 := Lib.hid eq
  clear ep eq
  have HSM : Hid (∀ p ∈ [(na0, ma0, nb0, mb0), (na1, ma1, nb1, mb1)], ¬ Big p) := Lib.hid (by intro p hp; simp at hp; rcases hp with rfl | rfl <;> (unfold Big; simp only; omega))
  have B : On w (((w.alloc (.cells #[.bool ba0, .slice Aa0 na0 ca0, .slice Ba0 ma0 oa0, .bool bb0, .slice Ab0 nb0 cb0, .slice Bb0 mb0 ob0] 38)).alloc (.cells #[.bool ba1, .slice Aa1 na1 ca1, .slice Ba1 ma1 oa1, .bool bb1, .slice Ab1 nb1 cb1, .slice Bb1 mb1 ob1] 38)).alloc (.cells #[.int .u8 z0, .int .u8 z1, .int .u8 z2, .int .u8 z3] 54)) := On.alloc (On.alloc (On.alloc (On.refl w) _) _) _
  have OB3 : w.heap.size ≤ w.heap.size ∧ Own (((w.alloc (.cells #[.bool ba0, .slice Aa0 na0 ca0, .slice Ba0 ma0 oa0, .bool bb0, .slice Ab0 nb0 cb0, .slice Bb0 mb0 ob0] 38)).alloc (.cells #[.bool ba1, .slice Aa1 na1 ca1, .slice Ba1 ma1 oa1, .bool bb1, .slice Ab1 nb1 cb1, .slice Bb1 mb1 ob1] 38)).alloc (.cells #[.int .u8 z0, .int .u8 z1, .int .u8 z2, .int .u8 z3] 54)) (w.heap.size) 38 #[.bool ba0, .slice Aa0 na0 ca0, .slice Ba0 ma0 oa0, .bool bb0, .slice Ab0 nb0 cb0, .slice Bb0 mb0 ob0] := ⟨by omega, (((Own.at_ w (w.heap.size) (by simp) 38 #[.bool ba0, .slice Aa0 na0 ca0, .slice Ba0 ma0 oa0, .bool bb0, .slice Ab0 nb0 cb0, .slice Bb0 mb0 ob0]).alloc (.cells #[.bool ba1, .slice Aa1 na1 ca1, .slice Ba1 ma1 oa1, .bool bb1, .slice Ab1 nb1 cb1, .slice Bb1 mb1 ob1] 38)).alloc (.cells #[.int .u8 z0, .int .u8 z1, .int .u8 z2, .int .u8 z3] 54))⟩
  have OB4 : w.heap.size ≤ w.heap.size + 1 ∧ Own (((w.alloc (.cells #[.bool ba0, .slice Aa0 na0 ca0, .slice Ba0 ma0 oa0, .bool bb0, .slice Ab0 nb0 cb0, .slice Bb0 mb0 ob0] 38)).alloc (.cells #[.bool ba1, .slice Aa1 na1 ca1, .slice Ba1 ma1 oa1, .bool bb1, .slice Ab1 nb1 cb1, .slice Bb1 mb1 ob1] 38)).alloc (.cells #[.int .u8 z0, .int .u8 z1, .int .u8 z2, .int .u8 z3] 54)) (w.heap.size + 1) 38 #[.bool ba1, .slice Aa1 na1 ca1, .slice Ba1 ma1 oa1, .bool bb1, .slice Ab1 nb1 cb1, .slice Bb1 mb1 ob1] := ⟨by omega, ((Own.at_ (w.alloc (.cells #[.bool ba0, .slice Aa0 na0 ca0, .slice Ba0 ma0 oa0, .bool bb0, .slice Ab0 nb0 cb0, .slice Bb0 mb0 ob0] 38)) (w.heap.size + 1) (by simp) 38 #[.bool ba1, .slice Aa1 na1 ca1, .slice Ba1 ma1 oa1, .bool bb1, .slice Ab1 nb1 cb1, .slice Bb1 mb1 ob1]).alloc (.cells #[.int .u8 z0, .int .u8 z1, .int .u8 z2, .int .u8 z3] 54))⟩
  have OB5 : w.heap.size ≤ w.heap.size + 2 ∧ Own (((w.alloc (.cells #[.bool ba0, .slice Aa0 na0 ca0, .slice Ba0 ma0 oa0, .bool bb0, .slice Ab0 nb0 cb0, .slice Bb0 mb0 ob0] 38)).alloc (.cells #[.bool ba1, .slice Aa1 na1 ca1, .slice Ba1 ma1 oa1, .bool bb1, .slice Ab1 nb1 cb1, .slice Bb1 mb1 ob1] 38)).alloc (.cells #[.int .u8 z0, .int .u8 z1, .int .u8 z2, .int .u8 z3] 54)) (w.heap.size + 2) 54 #[.int .u8 z0, .int .u8 z1, .int .u8 z2, .int .u8 z3] := ⟨by omega, (Own.at_ ((w.alloc (.cells #[.bool ba0, .slice Aa0 na0 ca0, .slice Ba0 ma0 oa0, .bool bb0, .slice Ab0 nb0 cb0, .slice Bb0 mb0 ob0] 38)).alloc (.cells #[.bool ba1, .slice Aa1 na1 ca1, .slice Ba1 ma1 oa1, .bool bb1, .slice Ab1 nb1 cb1, .slice Bb1 mb1 ob1] 38)) (w.heap.size + 2) (by simp) 54 #[.int .u8 z0, .int .u8 z1, .int .u8 z2, .int .u8 z3])⟩
  go_enter Try.func5, Try.ntmps5
  go_wp2_with fail
  refine (awake03 _).mono ?_
  rintro e w1 ⟨rfl, P1⟩
  replace OB3 := And.intro OB3.1 (OB3.2.on P1)
  replace OB4 := And.intro OB4.1 (OB4.2.on P1)
  replace OB5 := And.intro OB5.1 (OB5.2.on P1)
  replace B := B.trans P1
  have y3_0 : w1.cell? ⟨w.heap.size, 0, none⟩ = some (.bool ba0) := OB3.2.cell 0
  have y3_1 : w1.cell? ⟨w.heap.size, 1, none⟩ = some (.slice Aa0 na0 ca0) := OB3.2.cell 1
  have y3_2 : w1.cell? ⟨w.heap.size, 2, none⟩ = some (.slice Ba0 ma0 oa0) := OB3.2.cell 2
  have y3_3 : w1.cell? ⟨w.heap.size, 3, none⟩ = some (.bool bb0) := OB3.2.cell 3
  have y3_4 : w1.cell? ⟨w.heap.size, 4, none⟩ = some (.slice Ab0 nb0 cb0) := OB3.2.cell 4
  have y3_5 : w1.cell? ⟨w.heap.size, 5, none⟩ = some (.slice Bb0 mb0 ob0) := OB3.2.cell 5
  have y3_f0 := OB3.2.frozen 0
  have y3_f1 := OB3.2.frozen 1
  have y3_f2 := OB3.2.frozen 2
  have y3_f3 := OB3.2.frozen 3
  have y3_f4 := OB3.2.frozen 4
  have y3_f5 := OB3.2.frozen 5
  have y4_0 : w1.cell? ⟨w.heap.size + 1, 0, none⟩ = some (.bool ba1) := OB4.2.cell 0
  have y4_1 : w1.cell? ⟨w.heap.size + 1, 1, none⟩ = some (.slice Aa1 na1 ca1) := OB4.2.cell 1
  have y4_2 : w1.cell? ⟨w.heap.size + 1, 2, none⟩ = some (.slice Ba1 ma1 oa1) := OB4.2.cell 2
  have y4_3 : w1.cell? ⟨w.heap.size + 1, 3, none⟩ = some (.bool bb1) := OB4.2.cell 3
  have y4_4 : w1.cell? ⟨w.heap.size + 1, 4, none⟩ = some (.slice Ab1 nb1 cb1) := OB4.2.cell 4
  have y4_5 : w1.cell? ⟨w.heap.size + 1, 5, none⟩ = some (.slice Bb1 mb1 ob1) := OB4.2.cell 5
  have y4_f0 := OB4.2.frozen 0
  have y4_f1 := OB4.2.frozen 1
  have y4_f2 := OB4.2.frozen 2
  have y4_f3 := OB4.2.frozen 3
  have y4_f4 := OB4.2.frozen 4
  have y4_f5 := OB4.2.frozen 5
  have y5_0 : w1.cell? ⟨w.heap.size + 2, 0, none⟩ = some (.int .u8 z0) := OB5.2.cell 0
  have y5_1 : w1.cell? ⟨w.heap.size + 2, 1, none⟩ = some (.int .u8 z1) := OB5.2.cell 1
  have y5_2 : w1.cell? ⟨w.heap.size + 2, 2, none⟩ = some (.int .u8 z2) := OB5.2.cell 2
  have y5_3 : w1.cell? ⟨w.heap.size + 2, 3, none⟩ = some (.int .u8 z3) := OB5.2.cell 3
  have y5_f0 := OB5.2.frozen 0
  have y5_f1 := OB5.2.frozen 1
  have y5_f2 := OB5.2.frozen 2
  have y5_f3 := OB5.2.frozen 3
  go_wp2_with fail
  clear y3_0 y3_f0 y3_1 y3_f1 y3_2 y3_f2 y3_3 y3_f3 y3_4 y3_f4 y3_5 y3_f5
  clear y4_0 y4_f0 y4_1 y4_f1 y4_2 y4_f2 y4_3 y4_f3 y4_4 y4_f4 y4_5 y4_f5
  clear y5_0 y5_f0 y5_1 y5_f1 y5_2 y5_f2 y5_3 y5_f3
  have B1 := (On.refl w1).alloc (.cells #[.bool ba0, .slice Aa0 na0 ca0, .slice Ba0 ma0 oa0, .bool bb0, .slice Ab0 nb0 cb0, .slice Bb0 mb0 ob0, .bool ba1, .slice Aa1 na1 ca1, .slice Ba1 ma1 oa1, .bool bb1, .slice Ab1 nb1 cb1, .slice Bb1 mb1 ob1] 38)
  replace OB3 := And.intro OB3.1 (OB3.2.on B1)
  replace OB4 := And.intro OB4.1 (OB4.2.on B1)
  replace OB5 := And.intro OB5.1 (OB5.2.on B1)
  replace B := B.trans B1
  have hlens := slens2 ba0 Aa0 na0 ca0 Ba0 ma0 oa0 bb0 Ab0 nb0 cb0 Bb0 mb0 ob0 xs0 ys0 us0 vs0 (R0.on B) (S0.on B) (U0.on B) (V0.on B) ba1 Aa1 na1 ca1 Ba1 ma1 oa1 bb1 Ab1 nb1 cb1 Bb1 mb1 ob1 xs1 ys1 us1 vs1 (R1.on B) (S1.on B) (U1.on B) (V1.on B) (Own.new w1 38 #[.bool ba0, .slice Aa0 na0 ca0, .slice Ba0 ma0 oa0, .bool bb0, .slice Ab0 nb0 cb0, .slice Bb0 mb0 ob0, .bool ba1, .slice Aa1 na1 ca1, .slice Ba1 ma1 oa1, .bool bb1, .slice Ab1 nb1 cb1, .slice Bb1 mb1 ob1])
  refine (slarge_no _ _ 2 2 _ hlens rfl (by decide) (by decide) (by decide) HSM.out).mono ?_
  rintro e w2 ⟨rfl, P2⟩
  clear hlens B1 P1
  replace OB3 := And.intro OB3.1 (OB3.2.on P2)
  replace OB4 := And.intro OB4.1 (OB4.2.on P2)
  replace OB5 := And.intro OB5.1 (OB5.2.on P2)
  replace B := B.trans P2
  clear P2
  have y3_0 : w2.cell? ⟨w.heap.size, 0, none⟩ = some (.bool ba0) := OB3.2.cell 0
  have y3_1 : w2.cell? ⟨w.heap.size, 1, none⟩ = some (.slice Aa0 na0 ca0) := OB3.2.cell 1
  have y3_2 : w2.cell? ⟨w.heap.size, 2, none⟩ = some (.slice Ba0 ma0 oa0) := OB3.2.cell 2
  have y3_3 : w2.cell? ⟨w.heap.size, 3, none⟩ = some (.bool bb0) := OB3.2.cell 3
  have y3_4 : w2.cell? ⟨w.heap.size, 4, none⟩ = some (.slice Ab0 nb0 cb0) := OB3.2.cell 4
  have y3_5 : w2.cell? ⟨w.heap.size, 5, none⟩ = some (.slice Bb0 mb0 ob0) := OB3.2.cell 5
  have y3_f0 := OB3.2.frozen 0
  have y3_f1 := OB3.2.frozen 1
  have y3_f2 := OB3.2.frozen 2
  have y3_f3 := OB3.2.frozen 3
  have y3_f4 := OB3.2.frozen 4
  have y3_f5 := OB3.2.frozen 5
  go_wp2_with fail
  refine (svalid_any _ _ _ _ _ _ (Q0.on B) (by decide)).mono ?_
  rintro e wv0 ⟨rfl, PV⟩
  clear y3_0 y3_f0 y3_1 y3_f1 y3_2 y3_f2 y3_3 y3_f3 y3_4 y3_f4 y3_5 y3_f5
  replace OB3 := And.intro OB3.1 (OB3.2.on PV)
  replace OB4 := And.intro OB4.1 (OB4.2.on PV)
  replace OB5 := And.intro OB5.1 (OB5.2.on PV)
  replace B := B.trans PV
  clear PV
  have y4_0 : wv0.cell? ⟨w.heap.size + 1, 0, none⟩ = some (.bool ba1) := OB4.2.cell 0
  have y4_1 : wv0.cell? ⟨w.heap.size + 1, 1, none⟩ = some (.slice Aa1 na1 ca1) := OB4.2.cell 1
  have y4_2 : wv0.cell? ⟨w.heap.size + 1, 2, none⟩ = some (.slice Ba1 ma1 oa1) := OB4.2.cell 2
  have y4_3 : wv0.cell? ⟨w.heap.size + 1, 3, none⟩ = some (.bool bb1) := OB4.2.cell 3
  have y4_4 : wv0.cell? ⟨w.heap.size + 1, 4, none⟩ = some (.slice Ab1 nb1 cb1) := OB4.2.cell 4
  have y4_5 : wv0.cell? ⟨w.heap.size + 1, 5, none⟩ = some (.slice Bb1 mb1 ob1) := OB4.2.cell 5
  have y4_f0 := OB4.2.frozen 0
  have y4_f1 := OB4.2.frozen 1
  have y4_f2 := OB4.2.frozen 2
  have y4_f3 := OB4.2.frozen 3
  have y4_f4 := OB4.2.frozen 4
  have y4_f5 := OB4.2.frozen 5
  go_wp2_with fail
  refine (svalid_any _ _ _ _ _ _ (Q1.on B) (by decide)).mono ?_
  rintro e wv1 ⟨rfl, PV⟩
  clear y4_0 y4_f0 y4_1 y4_f1 y4_2 y4_f2 y4_3 y4_f3 y4_4 y4_f4 y4_5 y4_f5
  replace OB3 := And.intro OB3.1 (OB3.2.on PV)
  replace OB4 := And.intro OB4.1 (OB4.2.on PV)
  replace OB5 := And.intro OB5.1 (OB5.2.on PV)
  replace B := B.trans PV
  clear PV
  clear HSM
  go_wp2
  refine wp_region_facts (by kernel_rfl) w [Fact.eq (.agg #[.bool ba0, .slice Aa0 na0 ca0, .slice Ba0 ma0 oa0, .bool bb0, .slice Ab0 nb0 cb0, .slice Bb0 mb0 ob0]), Fact.eq (.pointer (some ⟨w.heap.size + 2, 0, none⟩)), Fact.eq (.int .u8 z0), Fact.eq (.pointer (some ⟨w.heap.size + 2, 1, none⟩)), Fact.eq (.int .u8 z1), Fact.eq (.int .u8 (lom z0 z1)), Fact.rat (p0) (53), Fact.eq (.agg #[.bool ba0, .slice Aa0 na0 ca0, .slice Ba0 ma0 oa0, .bool bb0, .slice Ab0 nb0 cb0, .slice Bb0 mb0 ob0]), Fact.eq (.pointer (some ⟨w.heap.size + 2, 0, none⟩)), Fact.eq (.int .u8 z0), Fact.eq (.pointer (some ⟨w.heap.size + 2, 1, none⟩)), Fact.eq (.int .u8 z1), Fact.eq (.int .u8 (him z0 z1)), Fact.rat (q0) (53), Fact.spE (p0) (q0) (107) (.nilIface), Fact.spE (p0) (q0) (107) (.nilIface), Fact.sp (p0) (q0) (107), Fact.eq (.nilIface), Fact.any, Fact.any, Fact.eq (.nilIface)] [Fact.any, Fact.any, Fact.any, Fact.sp (p0) (q0) (107)] [⟨21, 3, 38, 21, #[.bool ba0, .slice Aa0 na0 ca0, .slice Ba0 ma0 oa0, .bool bb0, .slice Ab0 nb0 cb0, .slice Bb0 mb0 ob0]⟩, ⟨21, 4, 38, 21, #[.bool ba1, .slice Aa1 na1 ca1, .slice Ba1 ma1 oa1, .bool bb1, .slice Ab1 nb1 cb1, .slice Bb1 mb1 ob1]⟩, ⟨21, 5, 54, 21, #[.int .u8 z0, .int .u8 z1, .int .u8 z2, .int .u8 z3]⟩, ⟨18, 7, 38, 19, #[.bool false, .slice none 0 0, .slice none 0 0, .bool false, .slice none 0 0, .slice none 0 0]⟩] [w.heap.size, w.heap.size + 1, w.heap.size + 2] [none, none, none, none, none, none, none, some 7, some 8, none, none, none, none, none, none, none, none, none, none, none, none, none, none, none, none, none, none, none, none, none, none, none, some 32, some 33, some 34, some 35, some 36, some 37, some 38, some 39, some 40, some 41, some 42, some 43, some 44, some 45, some 46, some 47, some 48, some 49, none, none, none, none, none, none, none, none, none, none, none, none, none, none, none, none, none, none, none, none, none, none, none, none, none, none, none, none, none, none, none, none, none, none, none, none, none, none, none, none, none, none, none, none, none, none, none, none, none, none, none, none, none, none, none, none, none, none, none, none, none, none, none, none, none, none, none, none, none, none, none, none, none, none, none, none, none, none, none, none, none, none, none, none, none, none, none, none, none, none, none, none, none, none, none, none, none, none, none, none, none, none, none, none, none] (by kernel_rfl) (by kernel_rfl) (by kernel_rfl) rfl B ?_ ?_ ?_ ?_ ?_
  · exact ⟨fun _ => ⟨by simp, rfl, OB3⟩, fun _ => ⟨by simp, rfl, OB4⟩, fun _ => ⟨by simp, rfl, OB5⟩, fun h => absurd h (by decide), trivial⟩
  · exact .inr (by simp <;> omega)
  · exact ⟨⟨noWords_S _ _ _ _ _ _ _ _ _ _ _ _ _ _, (.inl (Nat.le_refl _)), (.inl (Nat.le_refl _))⟩, ⟨noWords_S _ _ _ _ _ _ _ _ _ _ _ _ _ _, (.inl (Nat.le_refl _)), (.inl (Nat.le_refl _))⟩, ⟨noWords_4 _ _ _ _, (.inl (Nat.le_refl _)), (.inl (Nat.le_refl _))⟩, ⟨noWords_S _ _ _ _ _ _ _ _ _ _ _ _ _ _, (.inr ⟨fun _ _ => trivial, _, rfl, fun a w => ⟨rfl, do_value run_allocS⟩⟩), (.inr (store_obS (j := 16) (noWords_S _ _ _ _ _ _ _ _ _ _ _ _ _ _) rfl rfl rfl (by kernel_rfl) rfl rfl rfl))⟩, trivial⟩
  · refine ⟨?_, ?_, ?_, ?_, ?_, ?_, ?_, ?_, ?_, ?_, ?_, ?_, ?_, ?_, ?_, ?_, ?_, ?_, ?_, ?_, ?_, trivial⟩
    · exact .inr fun a w hp => ob_yes rfl (ob_loadSp (hp.box (k := 0) rfl (Nat.le_refl _) (.inl (Nat.le_refl _)) (by kernel_rfl) rfl).1 (hp.box (k := 0) rfl (Nat.le_refl _) (.inl (Nat.le_refl _)) (by kernel_rfl) rfl).2 rfl)
    · exact .inr fun a w hp => ob_yes rfl (ob_index4 (j := 0) (hp.box (k := 2) rfl (Nat.le_refl _) (.inl (Nat.le_refl _)) (by kernel_rfl) rfl).1 (by decide) rfl)
    · exact .inr fun a w hp => ob_yes rfl (ob_loadY (hp.fact 1 34 (by kernel_rfl) rfl) (hp.box (k := 2) rfl (Nat.le_refl _) (.inl (Nat.le_refl _)) (by kernel_rfl) rfl).2 rfl rfl)
    · exact .inr fun a w hp => ob_yes rfl (ob_index4 (j := 1) (hp.box (k := 2) rfl (Nat.le_refl _) (.inl (Nat.le_refl _)) (by kernel_rfl) rfl).1 (by decide) rfl)
    · exact .inr fun a w hp => ob_yes rfl (ob_loadY (hp.fact 3 36 (by kernel_rfl) rfl) (hp.box (k := 2) rfl (Nat.le_refl _) (.inl (Nat.le_refl _)) (by kernel_rfl) rfl).2 rfl rfl)
    · refine .inr fun a w hp => ob_yes rfl ?_
      have h35 : a.tmps.getD 35 undef = .int .u8 z0 := (hp.fact 2 35 (by kernel_rfl) rfl)
      have h37 : a.tmps.getD 37 undef = .int .u8 z1 := (hp.fact 4 37 (by kernel_rfl) rfl)
      unfold Does
      go_simp
      exact ⟨_, rfl, On.refl _, by show Value.int _ _ = Value.int _ _; first | rfl | exact congrArg (Value.int .u8) (by first | (unfold lom; omega) | (unfold him; omega))⟩
    · refine .inr fun a w hp => ob_yes rfl ?_
      have h33 : a.tmps.getD 33 undef = .agg #[.bool ba0, .slice Aa0 na0 ca0, .slice Ba0 ma0 oa0, .bool bb0, .slice Ab0 nb0 cb0, .slice Bb0 mb0 ob0] := (hp.fact 0 33 (by kernel_rfl) rfl)
      have h38 : a.tmps.getD 38 undef = .int .u8 (lom z0 z1) := (hp.fact 5 38 (by kernel_rfl) rfl)
      unfold Does
      go_simp
      refine (in_any _ _ lo0 hi0 (lom z0 z1) (I0.on hp.on) HR0.out.2.2.2.1.1 HR0.out.2.2.2.1.2).mono ?_
      rintro e w' ⟨u, rfl, I10, P10⟩
      rw [HP0.out] at I10
      exact ⟨_, rfl, P10, I10⟩
    · exact .inr fun a w hp => ob_yes rfl (ob_loadSp (hp.box (k := 0) rfl (Nat.le_refl _) (.inl (Nat.le_refl _)) (by kernel_rfl) rfl).1 (hp.box (k := 0) rfl (Nat.le_refl _) (.inl (Nat.le_refl _)) (by kernel_rfl) rfl).2 rfl)
    · exact .inr fun a w hp => ob_yes rfl (ob_index4 (j := 0) (hp.box (k := 2) rfl (Nat.le_refl _) (.inl (Nat.le_refl _)) (by kernel_rfl) rfl).1 (by decide) rfl)
    · exact .inr fun a w hp => ob_yes rfl (ob_loadY (hp.fact 8 41 (by kernel_rfl) rfl) (hp.box (k := 2) rfl (Nat.le_refl _) (.inl (Nat.le_refl _)) (by kernel_rfl) rfl).2 rfl rfl)
    · exact .inr fun a w hp => ob_yes rfl (ob_index4 (j := 1) (hp.box (k := 2) rfl (Nat.le_refl _) (.inl (Nat.le_refl _)) (by kernel_rfl) rfl).1 (by decide) rfl)
    · exact .inr fun a w hp => ob_yes rfl (ob_loadY (hp.fact 10 43 (by kernel_rfl) rfl) (hp.box (k := 2) rfl (Nat.le_refl _) (.inl (Nat.le_refl _)) (by kernel_rfl) rfl).2 rfl rfl)
    · refine .inr fun a w hp => ob_yes rfl ?_
      have h42 : a.tmps.getD 42 undef = .int .u8 z0 := (hp.fact 9 42 (by kernel_rfl) rfl)
      have h44 : a.tmps.getD 44 undef = .int .u8 z1 := (hp.fact 11 44 (by kernel_rfl) rfl)
      unfold Does
      go_simp
      exact ⟨_, rfl, On.refl _, by show Value.int _ _ = Value.int _ _; first | rfl | exact congrArg (Value.int .u8) (by first | (unfold lom; omega) | (unfold him; omega))⟩
    · refine .inr fun a w hp => ob_yes rfl ?_
      have h40 : a.tmps.getD 40 undef = .agg #[.bool ba0, .slice Aa0 na0 ca0, .slice Ba0 ma0 oa0, .bool bb0, .slice Ab0 nb0 cb0, .slice Bb0 mb0 ob0] := (hp.fact 7 40 (by kernel_rfl) rfl)
      have h45 : a.tmps.getD 45 undef = .int .u8 (him z0 z1) := (hp.fact 12 45 (by kernel_rfl) rfl)
      unfold Does
      go_simp
      refine (in_any _ _ lo0 hi0 (him z0 z1) (I0.on hp.on) HR0.out.2.2.2.2.1 HR0.out.2.2.2.2.2).mono ?_
      rintro e w' ⟨u, rfl, I10, P10⟩
      rw [HQ0.out] at I10
      exact ⟨_, rfl, P10, I10⟩
    · refine .inr fun a w hp => ob_yes rfl ?_
      have h39 : IsR w (a.tmps.getD 39 undef) (p0) (53) := (hp.fact 6 39 (by kernel_rfl) rfl)
      obtain ⟨v39, e39⟩ : ∃ v, a.tmps.getD 39 undef = v := ⟨_, rfl⟩
      rw [e39] at h39
      have h46 : IsR w (a.tmps.getD 46 undef) (q0) (53) := (hp.fact 13 46 (by kernel_rfl) rfl)
      obtain ⟨v46, e46⟩ : ∃ v, a.tmps.getD 46 undef = v := ⟨_, rfl⟩
      rw [e46] at h46
      unfold Does
      go_simp
      refine (smake_ok _ _ _ p0 q0 53 (IsR.fld h39) (IsR.fld h46) (by decide) (by decide) HR0.out.2.1).mono ?_
      rintro e w' ⟨u, rfl, I10, P10⟩
      exact ⟨_, rfl, P10, _, rfl, I10⟩
    · exact .inr fun a w hp => ob_yes rfl (ob_move (hp.fact 14 47 (by kernel_rfl) rfl))
    · refine .inr fun a w hp => ob_yes rfl ?_
      obtain ⟨u, e, h⟩ : ∃ u, a.tmps.getD 32 undef = .tuple #[u, .nilIface] ∧ IsS w u (p0) (q0) (107) := (hp.fact 15 32 (by kernel_rfl) rfl)
      exact ob_ext0 e h
    · refine .inr fun a w hp => ob_yes rfl ?_
      obtain ⟨u, e, h⟩ : ∃ u, a.tmps.getD 32 undef = .tuple #[u, .nilIface] ∧ IsS w u (p0) (q0) (107) := (hp.fact 15 32 (by kernel_rfl) rfl)
      exact ob_ext1 e rfl
    · exact .inl rfl
    · exact .inl rfl
    · exact .inr fun a w hp => ob_yes rfl (ob_assign (hp.fact 17 49 (by kernel_rfl) rfl))
  · intro f wr hon hk hf hb hap
    obtain ⟨q0, q1, q2, q3, qz⟩ := hb
    clear qz
    have O3 : Own wr (w.heap.size) 38 #[.bool ba0, .slice Aa0 na0 ca0, .slice Ba0 ma0 oa0, .bool bb0, .slice Ab0 nb0 cb0, .slice Bb0 mb0 ob0] := q0
    have c3_0 : wr.cell? ⟨w.heap.size, 0, none⟩ = some (.bool ba0) := O3.cell 0
    have z3_0 := O3.frozen 0
    have c3_1 : wr.cell? ⟨w.heap.size, 1, none⟩ = some (.slice Aa0 na0 ca0) := O3.cell 1
    have z3_1 := O3.frozen 1
    have c3_2 : wr.cell? ⟨w.heap.size, 2, none⟩ = some (.slice Ba0 ma0 oa0) := O3.cell 2
    have z3_2 := O3.frozen 2
    have c3_3 : wr.cell? ⟨w.heap.size, 3, none⟩ = some (.bool bb0) := O3.cell 3
    have z3_3 := O3.frozen 3
    have c3_4 : wr.cell? ⟨w.heap.size, 4, none⟩ = some (.slice Ab0 nb0 cb0) := O3.cell 4
    have z3_4 := O3.frozen 4
    have c3_5 : wr.cell? ⟨w.heap.size, 5, none⟩ = some (.slice Bb0 mb0 ob0) := O3.cell 5
    have z3_5 := O3.frozen 5
    clear q0
    have O4 : Own wr (w.heap.size + 1) 38 #[.bool ba1, .slice Aa1 na1 ca1, .slice Ba1 ma1 oa1, .bool bb1, .slice Ab1 nb1 cb1, .slice Bb1 mb1 ob1] := q1
    have c4_0 : wr.cell? ⟨w.heap.size + 1, 0, none⟩ = some (.bool ba1) := O4.cell 0
    have z4_0 := O4.frozen 0
    have c4_1 : wr.cell? ⟨w.heap.size + 1, 1, none⟩ = some (.slice Aa1 na1 ca1) := O4.cell 1
    have z4_1 := O4.frozen 1
    have c4_2 : wr.cell? ⟨w.heap.size + 1, 2, none⟩ = some (.slice Ba1 ma1 oa1) := O4.cell 2
    have z4_2 := O4.frozen 2
    have c4_3 : wr.cell? ⟨w.heap.size + 1, 3, none⟩ = some (.bool bb1) := O4.cell 3
    have z4_3 := O4.frozen 3
    have c4_4 : wr.cell? ⟨w.heap.size + 1, 4, none⟩ = some (.slice Ab1 nb1 cb1) := O4.cell 4
    have z4_4 := O4.frozen 4
    have c4_5 : wr.cell? ⟨w.heap.size + 1, 5, none⟩ = some (.slice Bb1 mb1 ob1) := O4.cell 5
    have z4_5 := O4.frozen 5
    clear q1
    have O5 : Own wr (w.heap.size + 2) 54 #[.int .u8 z0, .int .u8 z1, .int .u8 z2, .int .u8 z3] := q2
    have c5_0 : wr.cell? ⟨w.heap.size + 2, 0, none⟩ = some (.int .u8 z0) := O5.cell 0
    have z5_0 := O5.frozen 0
    have c5_1 : wr.cell? ⟨w.heap.size + 2, 1, none⟩ = some (.int .u8 z1) := O5.cell 1
    have z5_1 := O5.frozen 1
    have c5_2 : wr.cell? ⟨w.heap.size + 2, 2, none⟩ = some (.int .u8 z2) := O5.cell 2
    have z5_2 := O5.frozen 2
    have c5_3 : wr.cell? ⟨w.heap.size + 2, 3, none⟩ = some (.int .u8 z3) := O5.cell 3
    have z5_3 := O5.frozen 3
    clear q2
    obtain ⟨g7, e7, G7, q3⟩ := q3
    change f 7 = _ at e7
    obtain ⟨cur7, O7, I7⟩ : ∃ cur, Own wr (g7) 38 cur ∧ IsS wr (.agg cur) (p0) (q0) (107) := q3
    obtain ⟨sl7, P7, Pn7, Pc7, R7, Rn7, Rc7, sh7, U7, Un7, Uc7, V7, Vn7, Vc7, hz7, IL7, IH7⟩ := id I7
    injection hz7 with hz7
    subst hz7
    have c7_0 : wr.cell? ⟨g7, 0, none⟩ = some (.bool sl7) := O7.cell 0
    have z7_0 := O7.frozen 0
    have c7_1 : wr.cell? ⟨g7, 1, none⟩ = some (.slice P7 Pn7 Pc7) := O7.cell 1
    have z7_1 := O7.frozen 1
    have c7_2 : wr.cell? ⟨g7, 2, none⟩ = some (.slice R7 Rn7 Rc7) := O7.cell 2
    have z7_2 := O7.frozen 2
    have c7_3 : wr.cell? ⟨g7, 3, none⟩ = some (.bool sh7) := O7.cell 3
    have z7_3 := O7.frozen 3
    have c7_4 : wr.cell? ⟨g7, 4, none⟩ = some (.slice U7 Un7 Uc7) := O7.cell 4
    have z7_4 := O7.frozen 4
    have c7_5 : wr.cell? ⟨g7, 5, none⟩ = some (.slice V7 Vn7 Vc7) := O7.cell 5
    have z7_5 := O7.frozen 5
    have e8 : f 8 = .nilIface := hf 20 8 rfl
    have n0 := hap_ne (hap 3 0 _ _ rfl rfl (by decide) (of_decide_eq_true (by kernel_rfl))) (by kernel_rfl) (by kernel_rfl) e7 rfl
    have n1 := hap_ne (hap 3 1 _ _ rfl rfl (by decide) (of_decide_eq_true (by kernel_rfl))) (by kernel_rfl) (by kernel_rfl) e7 rfl
    have n2 := hap_ne (hap 3 2 _ _ rfl rfl (by decide) (of_decide_eq_true (by kernel_rfl))) (by kernel_rfl) (by kernel_rfl) e7 rfl
    clear hf hap
    simp only [fillL, e8]; simp only [e7]
    clear e8 e7
    have OB3 : w.heap.size ≤ w.heap.size ∧ Own wr (w.heap.size) 38 #[.bool ba0, .slice Aa0 na0 ca0, .slice Ba0 ma0 oa0, .bool bb0, .slice Ab0 nb0 cb0, .slice Bb0 mb0 ob0] := ⟨by omega, O3⟩
    clear c3_0 z3_0 c3_1 z3_1 c3_2 z3_2 c3_3 z3_3 c3_4 z3_4 c3_5 z3_5 O3
    have OB4 : w.heap.size ≤ w.heap.size + 1 ∧ Own wr (w.heap.size + 1) 38 #[.bool ba1, .slice Aa1 na1 ca1, .slice Ba1 ma1 oa1, .bool bb1, .slice Ab1 nb1 cb1, .slice Bb1 mb1 ob1] := ⟨by omega, O4⟩
    clear c4_0 z4_0 c4_1 z4_1 c4_2 z4_2 c4_3 z4_3 c4_4 z4_4 c4_5 z4_5 O4
    have OB5 : w.heap.size ≤ w.heap.size + 2 ∧ Own wr (w.heap.size + 2) 54 #[.int .u8 z0, .int .u8 z1, .int .u8 z2, .int .u8 z3] := ⟨by omega, O5⟩
    clear c5_0 z5_0 c5_1 z5_1 c5_2 z5_2 c5_3 z5_3 O5
    have OB7 : w.heap.size ≤ g7 ∧ Own wr g7 38 #[.bool sl7, .slice P7 Pn7 Pc7, .slice R7 Rn7 Rc7, .bool sh7, .slice U7 Un7 Uc7, .slice V7 Vn7 Vc7] := ⟨G7, O7⟩
    clear c7_0 z7_0 c7_1 z7_1 c7_2 z7_2 c7_3 z7_3 c7_4 z7_4 c7_5 z7_5 O7
    clear B
    have B := hon
    clear hon hk
    go_wp2
    refine wp_region_facts (by kernel_rfl) w [Fact.eq (.agg #[.bool ba1, .slice Aa1 na1 ca1, .slice Ba1 ma1 oa1, .bool bb1, .slice Ab1 nb1 cb1, .slice Bb1 mb1 ob1]), Fact.eq (.pointer (some ⟨w.heap.size + 2, 2, none⟩)), Fact.eq (.int .u8 z2), Fact.eq (.pointer (some ⟨w.heap.size + 2, 3, none⟩)), Fact.eq (.int .u8 z3), Fact.eq (.int .u8 (lom z2 z3)), Fact.rat (p1) (53), Fact.eq (.agg #[.bool ba1, .slice Aa1 na1 ca1, .slice Ba1 ma1 oa1, .bool bb1, .slice Ab1 nb1 cb1, .slice Bb1 mb1 ob1]), Fact.eq (.pointer (some ⟨w.heap.size + 2, 2, none⟩)), Fact.eq (.int .u8 z2), Fact.eq (.pointer (some ⟨w.heap.size + 2, 3, none⟩)), Fact.eq (.int .u8 z3), Fact.eq (.int .u8 (him z2 z3)), Fact.rat (q1) (53), Fact.spE (p1) (q1) (107) (.nilIface), Fact.spE (p1) (q1) (107) (.nilIface), Fact.sp (p1) (q1) (107), Fact.eq (.nilIface), Fact.any, Fact.any, Fact.eq (.nilIface)] [Fact.any, Fact.any, Fact.any, Fact.any, Fact.sp (p1) (q1) (107)] [⟨21, 3, 38, 21, #[.bool ba0, .slice Aa0 na0 ca0, .slice Ba0 ma0 oa0, .bool bb0, .slice Ab0 nb0 cb0, .slice Bb0 mb0 ob0]⟩, ⟨21, 4, 38, 21, #[.bool ba1, .slice Aa1 na1 ca1, .slice Ba1 ma1 oa1, .bool bb1, .slice Ab1 nb1 cb1, .slice Bb1 mb1 ob1]⟩, ⟨21, 5, 54, 21, #[.int .u8 z0, .int .u8 z1, .int .u8 z2, .int .u8 z3]⟩, ⟨21, 7, 38, 21, #[.bool sl7, .slice P7 Pn7 Pc7, .slice R7 Rn7 Rc7, .bool sh7, .slice U7 Un7 Uc7, .slice V7 Vn7 Vc7]⟩, ⟨18, 9, 38, 19, #[.bool false, .slice none 0 0, .slice none 0 0, .bool false, .slice none 0 0, .slice none 0 0]⟩] [w.heap.size, w.heap.size + 1, w.heap.size + 2, g7] [none, none, none, none, none, none, none, none, none, some 9, some 10, none, none, none, none, none, none, none, none, none, none, none, none, none, none, none, none, none, none, none, none, none, none, none, none, none, none, none, none, none, none, none, none, none, none, none, none, none, none, none, some 50, some 51, some 52, some 53, some 54, some 55, some 56, some 57, some 58, some 59, some 60, some 61, some 62, some 63, some 64, some 65, some 66, some 67, none, none, none, none, none, none, none, none, none, none, none, none, none, none, none, none, none, none, none, none, none, none, none, none, none, none, none, none, none, none, none, none, none, none, none, none, none, none, none, none, none, none, none, none, none, none, none, none, none, none, none, none, none, none, none, none, none, none, none, none, none, none, none, none, none, none, none, none, none, none, none, none, none, none, none, none, none, none, none, none, none, none, none, none, none, none, none] (by kernel_rfl) (by kernel_rfl) (by kernel_rfl) rfl B ?_ ?_ ?_ ?_ ?_
    · exact ⟨fun _ => ⟨by simp, rfl, OB3⟩, fun _ => ⟨by simp, rfl, OB4⟩, fun _ => ⟨by simp, rfl, OB5⟩, fun _ => ⟨by simp, rfl, OB7⟩, fun h => absurd h (by decide), trivial⟩
    · exact .inr (by simp <;> omega)
    · exact ⟨⟨noWords_S _ _ _ _ _ _ _ _ _ _ _ _ _ _, (.inl (Nat.le_refl _)), (.inl (Nat.le_refl _))⟩, ⟨noWords_S _ _ _ _ _ _ _ _ _ _ _ _ _ _, (.inl (Nat.le_refl _)), (.inl (Nat.le_refl _))⟩, ⟨noWords_4 _ _ _ _, (.inl (Nat.le_refl _)), (.inl (Nat.le_refl _))⟩, ⟨noWords_S _ _ _ _ _ _ _ _ _ _ _ _ _ _, (.inl (Nat.le_refl _)), (.inl (Nat.le_refl _))⟩, ⟨noWords_S _ _ _ _ _ _ _ _ _ _ _ _ _ _, (.inr ⟨fun _ _ => trivial, _, rfl, fun a w => ⟨rfl, do_value run_allocS⟩⟩), (.inr (store_obS (j := 16) (noWords_S _ _ _ _ _ _ _ _ _ _ _ _ _ _) rfl rfl rfl (by kernel_rfl) rfl rfl rfl))⟩, trivial⟩
    · refine ⟨?_, ?_, ?_, ?_, ?_, ?_, ?_, ?_, ?_, ?_, ?_, ?_, ?_, ?_, ?_, ?_, ?_, ?_, ?_, ?_, ?_, trivial⟩
      · exact .inr fun a w hp => ob_yes rfl (ob_loadSp (hp.box (k := 1) rfl (Nat.le_refl _) (.inl (Nat.le_refl _)) (by kernel_rfl) rfl).1 (hp.box (k := 1) rfl (Nat.le_refl _) (.inl (Nat.le_refl _)) (by kernel_rfl) rfl).2 rfl)
      · exact .inr fun a w hp => ob_yes rfl (ob_index4 (j := 2) (hp.box (k := 2) rfl (Nat.le_refl _) (.inl (Nat.le_refl _)) (by kernel_rfl) rfl).1 (by decide) rfl)
      · exact .inr fun a w hp => ob_yes rfl (ob_loadY (hp.fact 1 52 (by kernel_rfl) rfl) (hp.box (k := 2) rfl (Nat.le_refl _) (.inl (Nat.le_refl _)) (by kernel_rfl) rfl).2 rfl rfl)
      · exact .inr fun a w hp => ob_yes rfl (ob_index4 (j := 3) (hp.box (k := 2) rfl (Nat.le_refl _) (.inl (Nat.le_refl _)) (by kernel_rfl) rfl).1 (by decide) rfl)
      · exact .inr fun a w hp => ob_yes rfl (ob_loadY (hp.fact 3 54 (by kernel_rfl) rfl) (hp.box (k := 2) rfl (Nat.le_refl _) (.inl (Nat.le_refl _)) (by kernel_rfl) rfl).2 rfl rfl)
      · refine .inr fun a w hp => ob_yes rfl ?_
        have h53 : a.tmps.getD 53 undef = .int .u8 z2 := (hp.fact 2 53 (by kernel_rfl) rfl)
        have h55 : a.tmps.getD 55 undef = .int .u8 z3 := (hp.fact 4 55 (by kernel_rfl) rfl)
        unfold Does
        go_simp
        exact ⟨_, rfl, On.refl _, by show Value.int _ _ = Value.int _ _; first | rfl | exact congrArg (Value.int .u8) (by first | (unfold lom; omega) | (unfold him; omega))⟩
      · refine .inr fun a w hp => ob_yes rfl ?_
        have h51 : a.tmps.getD 51 undef = .agg #[.bool ba1, .slice Aa1 na1 ca1, .slice Ba1 ma1 oa1, .bool bb1, .slice Ab1 nb1 cb1, .slice Bb1 mb1 ob1] := (hp.fact 0 51 (by kernel_rfl) rfl)
        have h56 : a.tmps.getD 56 undef = .int .u8 (lom z2 z3) := (hp.fact 5 56 (by kernel_rfl) rfl)
        unfold Does
        go_simp
        refine (in_any _ _ lo1 hi1 (lom z2 z3) (I1.on hp.on) HR1.out.2.2.2.1.1 HR1.out.2.2.2.1.2).mono ?_
        rintro e w' ⟨u, rfl, I10, P10⟩
        rw [HP1.out] at I10
        exact ⟨_, rfl, P10, I10⟩
      · exact .inr fun a w hp => ob_yes rfl (ob_loadSp (hp.box (k := 1) rfl (Nat.le_refl _) (.inl (Nat.le_refl _)) (by kernel_rfl) rfl).1 (hp.box (k := 1) rfl (Nat.le_refl _) (.inl (Nat.le_refl _)) (by kernel_rfl) rfl).2 rfl)
      · exact .inr fun a w hp => ob_yes rfl (ob_index4 (j := 2) (hp.box (k := 2) rfl (Nat.le_refl _) (.inl (Nat.le_refl _)) (by kernel_rfl) rfl).1 (by decide) rfl)
      · exact .inr fun a w hp => ob_yes rfl (ob_loadY (hp.fact 8 59 (by kernel_rfl) rfl) (hp.box (k := 2) rfl (Nat.le_refl _) (.inl (Nat.le_refl _)) (by kernel_rfl) rfl).2 rfl rfl)
      · exact .inr fun a w hp => ob_yes rfl (ob_index4 (j := 3) (hp.box (k := 2) rfl (Nat.le_refl _) (.inl (Nat.le_refl _)) (by kernel_rfl) rfl).1 (by decide) rfl)
      · exact .inr fun a w hp => ob_yes rfl (ob_loadY (hp.fact 10 61 (by kernel_rfl) rfl) (hp.box (k := 2) rfl (Nat.le_refl _) (.inl (Nat.le_refl _)) (by kernel_rfl) rfl).2 rfl rfl)
      · refine .inr fun a w hp => ob_yes rfl ?_
        have h60 : a.tmps.getD 60 undef = .int .u8 z2 := (hp.fact 9 60 (by kernel_rfl) rfl)
        have h62 : a.tmps.getD 62 undef = .int .u8 z3 := (hp.fact 11 62 (by kernel_rfl) rfl)
        unfold Does
        go_simp
        exact ⟨_, rfl, On.refl _, by show Value.int _ _ = Value.int _ _; first | rfl | exact congrArg (Value.int .u8) (by first | (unfold lom; omega) | (unfold him; omega))⟩
      · refine .inr fun a w hp => ob_yes rfl ?_
        have h58 : a.tmps.getD 58 undef = .agg #[.bool ba1, .slice Aa1 na1 ca1, .slice Ba1 ma1 oa1, .bool bb1, .slice Ab1 nb1 cb1, .slice Bb1 mb1 ob1] := (hp.fact 7 58 (by kernel_rfl) rfl)
        have h63 : a.tmps.getD 63 undef = .int .u8 (him z2 z3) := (hp.fact 12 63 (by kernel_rfl) rfl)
        unfold Does
        go_simp
        refine (in_any _ _ lo1 hi1 (him z2 z3) (I1.on hp.on) HR1.out.2.2.2.2.1 HR1.out.2.2.2.2.2).mono ?_
        rintro e w' ⟨u, rfl, I10, P10⟩
        rw [HQ1.out] at I10
        exact ⟨_, rfl, P10, I10⟩
      · refine .inr fun a w hp => ob_yes rfl ?_
        have h57 : IsR w (a.tmps.getD 57 undef) (p1) (53) := (hp.fact 6 57 (by kernel_rfl) rfl)
        obtain ⟨v57, e57⟩ : ∃ v, a.tmps.getD 57 undef = v := ⟨_, rfl⟩
        rw [e57] at h57
        have h64 : IsR w (a.tmps.getD 64 undef) (q1) (53) := (hp.fact 13 64 (by kernel_rfl) rfl)
        obtain ⟨v64, e64⟩ : ∃ v, a.tmps.getD 64 undef = v := ⟨_, rfl⟩
        rw [e64] at h64
        unfold Does
        go_simp
        refine (smake_ok _ _ _ p1 q1 53 (IsR.fld h57) (IsR.fld h64) (by decide) (by decide) HR1.out.2.1).mono ?_
        rintro e w' ⟨u, rfl, I10, P10⟩
        exact ⟨_, rfl, P10, _, rfl, I10⟩
      · exact .inr fun a w hp => ob_yes rfl (ob_move (hp.fact 14 65 (by kernel_rfl) rfl))
      · refine .inr fun a w hp => ob_yes rfl ?_
        obtain ⟨u, e, h⟩ : ∃ u, a.tmps.getD 50 undef = .tuple #[u, .nilIface] ∧ IsS w u (p1) (q1) (107) := (hp.fact 15 50 (by kernel_rfl) rfl)
        exact ob_ext0 e h
      · refine .inr fun a w hp => ob_yes rfl ?_
        obtain ⟨u, e, h⟩ : ∃ u, a.tmps.getD 50 undef = .tuple #[u, .nilIface] ∧ IsS w u (p1) (q1) (107) := (hp.fact 15 50 (by kernel_rfl) rfl)
        exact ob_ext1 e rfl
      · exact .inl rfl
      · exact .inl rfl
      · exact .inr fun a w hp => ob_yes rfl (ob_assign (hp.fact 17 67 (by kernel_rfl) rfl))
    · intro f wq hon hk hf hb hap
      obtain ⟨q0, q1, q2, q3, q4, qz⟩ := hb
      clear qz
      have O3 : Own wq (w.heap.size) 38 #[.bool ba0, .slice Aa0 na0 ca0, .slice Ba0 ma0 oa0, .bool bb0, .slice Ab0 nb0 cb0, .slice Bb0 mb0 ob0] := q0
      have c3_0 : wq.cell? ⟨w.heap.size, 0, none⟩ = some (.bool ba0) := O3.cell 0
      have z3_0 := O3.frozen 0
      have c3_1 : wq.cell? ⟨w.heap.size, 1, none⟩ = some (.slice Aa0 na0 ca0) := O3.cell 1
      have z3_1 := O3.frozen 1
      have c3_2 : wq.cell? ⟨w.heap.size, 2, none⟩ = some (.slice Ba0 ma0 oa0) := O3.cell 2
      have z3_2 := O3.frozen 2
      have c3_3 : wq.cell? ⟨w.heap.size, 3, none⟩ = some (.bool bb0) := O3.cell 3
      have z3_3 := O3.frozen 3
      have c3_4 : wq.cell? ⟨w.heap.size, 4, none⟩ = some (.slice Ab0 nb0 cb0) := O3.cell 4
      have z3_4 := O3.frozen 4
      have c3_5 : wq.cell? ⟨w.heap.size, 5, none⟩ = some (.slice Bb0 mb0 ob0) := O3.cell 5
      have z3_5 := O3.frozen 5
      clear q0
      have O4 : Own wq (w.heap.size + 1) 38 #[.bool ba1, .slice Aa1 na1 ca1, .slice Ba1 ma1 oa1, .bool bb1, .slice Ab1 nb1 cb1, .slice Bb1 mb1 ob1] := q1
      have c4_0 : wq.cell? ⟨w.heap.size + 1, 0, none⟩ = some (.bool ba1) := O4.cell 0
      have z4_0 := O4.frozen 0
      have c4_1 : wq.cell? ⟨w.heap.size + 1, 1, none⟩ = some (.slice Aa1 na1 ca1) := O4.cell 1
      have z4_1 := O4.frozen 1
      have c4_2 : wq.cell? ⟨w.heap.size + 1, 2, none⟩ = some (.slice Ba1 ma1 oa1) := O4.cell 2
      have z4_2 := O4.frozen 2
      have c4_3 : wq.cell? ⟨w.heap.size + 1, 3, none⟩ = some (.bool bb1) := O4.cell 3
      have z4_3 := O4.frozen 3
      have c4_4 : wq.cell? ⟨w.heap.size + 1, 4, none⟩ = some (.slice Ab1 nb1 cb1) := O4.cell 4
      have z4_4 := O4.frozen 4
      have c4_5 : wq.cell? ⟨w.heap.size + 1, 5, none⟩ = some (.slice Bb1 mb1 ob1) := O4.cell 5
      have z4_5 := O4.frozen 5
      clear q1
      have O5 : Own wq (w.heap.size + 2) 54 #[.int .u8 z0, .int .u8 z1, .int .u8 z2, .int .u8 z3] := q2
      have c5_0 : wq.cell? ⟨w.heap.size + 2, 0, none⟩ = some (.int .u8 z0) := O5.cell 0
      have z5_0 := O5.frozen 0
      have c5_1 : wq.cell? ⟨w.heap.size + 2, 1, none⟩ = some (.int .u8 z1) := O5.cell 1
      have z5_1 := O5.frozen 1
      have c5_2 : wq.cell? ⟨w.heap.size + 2, 2, none⟩ = some (.int .u8 z2) := O5.cell 2
      have z5_2 := O5.frozen 2
      have c5_3 : wq.cell? ⟨w.heap.size + 2, 3, none⟩ = some (.int .u8 z3) := O5.cell 3
      have z5_3 := O5.frozen 3
      clear q2
      have O7 : Own wq (g7) 38 #[.bool sl7, .slice P7 Pn7 Pc7, .slice R7 Rn7 Rc7, .bool sh7, .slice U7 Un7 Uc7, .slice V7 Vn7 Vc7] := q3
      have c7_0 : wq.cell? ⟨g7, 0, none⟩ = some (.bool sl7) := O7.cell 0
      have z7_0 := O7.frozen 0
      have c7_1 : wq.cell? ⟨g7, 1, none⟩ = some (.slice P7 Pn7 Pc7) := O7.cell 1
      have z7_1 := O7.frozen 1
      have c7_2 : wq.cell? ⟨g7, 2, none⟩ = some (.slice R7 Rn7 Rc7) := O7.cell 2
      have z7_2 := O7.frozen 2
      have c7_3 : wq.cell? ⟨g7, 3, none⟩ = some (.bool sh7) := O7.cell 3
      have z7_3 := O7.frozen 3
      have c7_4 : wq.cell? ⟨g7, 4, none⟩ = some (.slice U7 Un7 Uc7) := O7.cell 4
      have z7_4 := O7.frozen 4
      have c7_5 : wq.cell? ⟨g7, 5, none⟩ = some (.slice V7 Vn7 Vc7) := O7.cell 5
      have z7_5 := O7.frozen 5
      clear q3
      obtain ⟨g9, e9, G9, q4⟩ := q4
      change f 9 = _ at e9
      obtain ⟨cur9, O9, I9⟩ : ∃ cur, Own wq (g9) 38 cur ∧ IsS wq (.agg cur) (p1) (q1) (107) := q4
      obtain ⟨sl9, P9, Pn9, Pc9, R9, Rn9, Rc9, sh9, U9, Un9, Uc9, V9, Vn9, Vc9, hz9, IL9, IH9⟩ := id I9
      injection hz9 with hz9
      subst hz9
      have c9_0 : wq.cell? ⟨g9, 0, none⟩ = some (.bool sl9) := O9.cell 0
      have z9_0 := O9.frozen 0
      have c9_1 : wq.cell? ⟨g9, 1, none⟩ = some (.slice P9 Pn9 Pc9) := O9.cell 1
      have z9_1 := O9.frozen 1
      have c9_2 : wq.cell? ⟨g9, 2, none⟩ = some (.slice R9 Rn9 Rc9) := O9.cell 2
      have z9_2 := O9.frozen 2
      have c9_3 : wq.cell? ⟨g9, 3, none⟩ = some (.bool sh9) := O9.cell 3
      have z9_3 := O9.frozen 3
      have c9_4 : wq.cell? ⟨g9, 4, none⟩ = some (.slice U9 Un9 Uc9) := O9.cell 4
      have z9_4 := O9.frozen 4
      have c9_5 : wq.cell? ⟨g9, 5, none⟩ = some (.slice V9 Vn9 Vc9) := O9.cell 5
      have z9_5 := O9.frozen 5
      have e10 : f 10 = .nilIface := hf 20 10 rfl
      clear hf hap
      simp only [fillL, e10]; simp only [e9]
      clear e10 e9
      replace I7 := I7.kept hk
      have OB3 : w.heap.size ≤ w.heap.size ∧ Own wq (w.heap.size) 38 #[.bool ba0, .slice Aa0 na0 ca0, .slice Ba0 ma0 oa0, .bool bb0, .slice Ab0 nb0 cb0, .slice Bb0 mb0 ob0] := ⟨by omega, O3⟩
      clear c3_0 z3_0 c3_1 z3_1 c3_2 z3_2 c3_3 z3_3 c3_4 z3_4 c3_5 z3_5 O3
      have OB4 : w.heap.size ≤ w.heap.size + 1 ∧ Own wq (w.heap.size + 1) 38 #[.bool ba1, .slice Aa1 na1 ca1, .slice Ba1 ma1 oa1, .bool bb1, .slice Ab1 nb1 cb1, .slice Bb1 mb1 ob1] := ⟨by omega, O4⟩
      clear c4_0 z4_0 c4_1 z4_1 c4_2 z4_2 c4_3 z4_3 c4_4 z4_4 c4_5 z4_5 O4
      clear c5_0 z5_0 c5_1 z5_1 c5_2 z5_2 c5_3 z5_3 O5 OB5 n0 n1 n2
      have OB7 : w.heap.size ≤ g7 ∧ Own wq g7 38 #[.bool sl7, .slice P7 Pn7 Pc7, .slice R7 Rn7 Rc7, .bool sh7, .slice U7 Un7 Uc7, .slice V7 Vn7 Vc7] := ⟨OB7.1, O7⟩
      clear c7_0 z7_0 c7_1 z7_1 c7_2 z7_2 c7_3 z7_3 c7_4 z7_4 c7_5 z7_5 O7
      have OB9 : w.heap.size ≤ g9 ∧ Own wq g9 38 #[.bool sl9, .slice P9 Pn9 Pc9, .slice R9 Rn9 Rc9, .bool sh9, .slice U9 Un9 Uc9, .slice V9 Vn9 Vc9] := ⟨G9, O9⟩
      clear c9_0 z9_0 c9_1 z9_1 c9_2 z9_2 c9_3 z9_3 c9_4 z9_4 c9_5 z9_5 O9
      clear B
      have B := hon
      clear hon hk
      have y3_0 : wq.cell? ⟨w.heap.size, 0, none⟩ = some (.bool ba0) := OB3.2.cell 0
      have y3_1 : wq.cell? ⟨w.heap.size, 1, none⟩ = some (.slice Aa0 na0 ca0) := OB3.2.cell 1
      have y3_2 : wq.cell? ⟨w.heap.size, 2, none⟩ = some (.slice Ba0 ma0 oa0) := OB3.2.cell 2
      have y3_3 : wq.cell? ⟨w.heap.size, 3, none⟩ = some (.bool bb0) := OB3.2.cell 3
      have y3_4 : wq.cell? ⟨w.heap.size, 4, none⟩ = some (.slice Ab0 nb0 cb0) := OB3.2.cell 4
      have y3_5 : wq.cell? ⟨w.heap.size, 5, none⟩ = some (.slice Bb0 mb0 ob0) := OB3.2.cell 5
      have y3_f0 := OB3.2.frozen 0
      have y3_f1 := OB3.2.frozen 1
      have y3_f2 := OB3.2.frozen 2
      have y3_f3 := OB3.2.frozen 3
      have y3_f4 := OB3.2.frozen 4
      have y3_f5 := OB3.2.frozen 5
      have y7_0 : wq.cell? ⟨g7, 0, none⟩ = some (.bool sl7) := OB7.2.cell 0
      have y7_1 : wq.cell? ⟨g7, 1, none⟩ = some (.slice P7 Pn7 Pc7) := OB7.2.cell 1
      have y7_2 : wq.cell? ⟨g7, 2, none⟩ = some (.slice R7 Rn7 Rc7) := OB7.2.cell 2
      have y7_3 : wq.cell? ⟨g7, 3, none⟩ = some (.bool sh7) := OB7.2.cell 3
      have y7_4 : wq.cell? ⟨g7, 4, none⟩ = some (.slice U7 Un7 Uc7) := OB7.2.cell 4
      have y7_5 : wq.cell? ⟨g7, 5, none⟩ = some (.slice V7 Vn7 Vc7) := OB7.2.cell 5
      have y7_f0 := OB7.2.frozen 0
      have y7_f1 := OB7.2.frozen 1
      have y7_f2 := OB7.2.frozen 2
      have y7_f3 := OB7.2.frozen 3
      have y7_f4 := OB7.2.frozen 4
      have y7_f5 := OB7.2.frozen 5
      go_wp2_with fail
      refine (spins_big _ _ _ p0 q0 lo0 hi0 107 (I7.sp HR0.out.2.1) ((T0.on B).wide (by decide)) (by decide) (by decide)).mono ?_
      rintro e w5 ⟨rfl, P5⟩
      rw [show (decide (lo0 ≤ p0) && decide (q0 ≤ hi0)) = true from ins_true HR0.out.1 HR0.out.2.2.1]
      clear y3_0 y3_f0 y3_1 y3_f1 y3_2 y3_f2 y3_3 y3_f3 y3_4 y3_f4 y3_5 y3_f5
      clear y7_0 y7_f0 y7_1 y7_f1 y7_2 y7_f2 y7_3 y7_f3 y7_4 y7_f4 y7_5 y7_f5
      replace OB3 := And.intro OB3.1 (OB3.2.on P5)
      replace OB4 := And.intro OB4.1 (OB4.2.on P5)
      replace OB7 := And.intro OB7.1 (OB7.2.on P5)
      replace OB9 := And.intro OB9.1 (OB9.2.on P5)
      replace B := B.trans P5
      replace I7 := I7.on P5
      replace I9 := I9.on P5
      clear P5
      have y4_0 : w5.cell? ⟨w.heap.size + 1, 0, none⟩ = some (.bool ba1) := OB4.2.cell 0
      have y4_1 : w5.cell? ⟨w.heap.size + 1, 1, none⟩ = some (.slice Aa1 na1 ca1) := OB4.2.cell 1
      have y4_2 : w5.cell? ⟨w.heap.size + 1, 2, none⟩ = some (.slice Ba1 ma1 oa1) := OB4.2.cell 2
      have y4_3 : w5.cell? ⟨w.heap.size + 1, 3, none⟩ = some (.bool bb1) := OB4.2.cell 3
      have y4_4 : w5.cell? ⟨w.heap.size + 1, 4, none⟩ = some (.slice Ab1 nb1 cb1) := OB4.2.cell 4
      have y4_5 : w5.cell? ⟨w.heap.size + 1, 5, none⟩ = some (.slice Bb1 mb1 ob1) := OB4.2.cell 5
      have y4_f0 := OB4.2.frozen 0
      have y4_f1 := OB4.2.frozen 1
      have y4_f2 := OB4.2.frozen 2
      have y4_f3 := OB4.2.frozen 3
      have y4_f4 := OB4.2.frozen 4
      have y4_f5 := OB4.2.frozen 5
      have y9_0 : w5.cell? ⟨g9, 0, none⟩ = some (.bool sl9) := OB9.2.cell 0
      have y9_1 : w5.cell? ⟨g9, 1, none⟩ = some (.slice P9 Pn9 Pc9) := OB9.2.cell 1
      have y9_2 : w5.cell? ⟨g9, 2, none⟩ = some (.slice R9 Rn9 Rc9) := OB9.2.cell 2
      have y9_3 : w5.cell? ⟨g9, 3, none⟩ = some (.bool sh9) := OB9.2.cell 3
      have y9_4 : w5.cell? ⟨g9, 4, none⟩ = some (.slice U9 Un9 Uc9) := OB9.2.cell 4
      have y9_5 : w5.cell? ⟨g9, 5, none⟩ = some (.slice V9 Vn9 Vc9) := OB9.2.cell 5
      have y9_f0 := OB9.2.frozen 0
      have y9_f1 := OB9.2.frozen 1
      have y9_f2 := OB9.2.frozen 2
      have y9_f3 := OB9.2.frozen 3
      have y9_f4 := OB9.2.frozen 4
      have y9_f5 := OB9.2.frozen 5
      go_wp2_with fail
      refine (spins_big _ _ _ p1 q1 lo1 hi1 107 (I9.sp HR1.out.2.1) ((T1.on B).wide (by decide)) (by decide) (by decide)).mono ?_
      rintro e w6 ⟨rfl, P6⟩
      rw [show (decide (lo1 ≤ p1) && decide (q1 ≤ hi1)) = true from ins_true HR1.out.1 HR1.out.2.2.1]
      clear y4_0 y4_f0 y4_1 y4_f1 y4_2 y4_f2 y4_3 y4_f3 y4_4 y4_f4 y4_5 y4_f5
      clear y9_0 y9_f0 y9_1 y9_f1 y9_2 y9_f2 y9_3 y9_f3 y9_4 y9_f4 y9_5 y9_f5
      replace OB3 := And.intro OB3.1 (OB3.2.on P6)
      replace OB4 := And.intro OB4.1 (OB4.2.on P6)
      replace OB7 := And.intro OB7.1 (OB7.2.on P6)
      replace OB9 := And.intro OB9.1 (OB9.2.on P6)
      replace B := B.trans P6
      replace I7 := I7.on P6
      replace I9 := I9.on P6
      clear P6
      go_wp2
      refine wp_region_facts (by kernel_rfl) w [Fact.eq (.agg #[.bool sl7, .slice P7 Pn7 Pc7, .slice R7 Rn7 Rc7, .bool sh7, .slice U7 Un7 Uc7, .slice V7 Vn7 Vc7]), Fact.eq (.agg #[.bool sl9, .slice P9 Pn9 Pc9, .slice R9 Rn9 Rc9, .bool sh9, .slice U9 Un9 Uc9, .slice V9 Vn9 Vc9]), Fact.sp (p0 + p1) (q0 + q1) (215), Fact.eq (.agg #[.bool ba0, .slice Aa0 na0 ca0, .slice Ba0 ma0 oa0, .bool bb0, .slice Ab0 nb0 cb0, .slice Bb0 mb0 ob0]), Fact.eq (.agg #[.bool ba1, .slice Aa1 na1 ca1, .slice Ba1 ma1 oa1, .bool bb1, .slice Ab1 nb1 cb1, .slice Bb1 mb1 ob1]), Fact.sp (lo0 + lo1) (hi0 + hi1) (13), Fact.eq (.bool true), Fact.eq (.bool false), Fact.eq (.bool false), Fact.eq (.agg #[.bool sl7, .slice P7 Pn7 Pc7, .slice R7 Rn7 Rc7, .bool sh7, .slice U7 Un7 Uc7, .slice V7 Vn7 Vc7]), Fact.eq (.agg #[.bool sl9, .slice P9 Pn9 Pc9, .slice R9 Rn9 Rc9, .bool sh9, .slice U9 Un9 Uc9, .slice V9 Vn9 Vc9]), Fact.sp (p0 - q1) (q0 - p1) (215), Fact.eq (.agg #[.bool ba0, .slice Aa0 na0 ca0, .slice Ba0 ma0 oa0, .bool bb0, .slice Ab0 nb0 cb0, .slice Bb0 mb0 ob0]), Fact.eq (.agg #[.bool ba1, .slice Aa1 na1 ca1, .slice Ba1 ma1 oa1, .bool bb1, .slice Ab1 nb1 cb1, .slice Bb1 mb1 ob1]), Fact.sp (lo0 - hi1) (hi0 - lo1) (13), Fact.eq (.bool true), Fact.eq (.bool false), Fact.eq (.bool false), Fact.eq (.bool false), Fact.eq (.agg #[.bool sl7, .slice P7 Pn7 Pc7, .slice R7 Rn7 Rc7, .bool sh7, .slice U7 Un7 Uc7, .slice V7 Vn7 Vc7]), Fact.eq (.agg #[.bool sl9, .slice P9 Pn9 Pc9, .slice R9 Rn9 Rc9, .bool sh9, .slice U9 Un9 Uc9, .slice V9 Vn9 Vc9]), Fact.sp (prodLo p0 q0 p1 q1) (prodHi p0 q0 p1 q1) (429), Fact.eq (.agg #[.bool ba0, .slice Aa0 na0 ca0, .slice Ba0 ma0 oa0, .bool bb0, .slice Ab0 nb0 cb0, .slice Bb0 mb0 ob0]), Fact.eq (.agg #[.bool ba1, .slice Aa1 na1 ca1, .slice Ba1 ma1 oa1, .bool bb1, .slice Ab1 nb1 cb1, .slice Bb1 mb1 ob1]), Fact.sp (prodLo lo0 hi0 lo1 hi1) (prodHi lo0 hi0 lo1 hi1) (25), Fact.eq (.bool true), Fact.eq (.bool false), Fact.eq (.bool false), Fact.eq (.bool false), Fact.eq (.agg #[.bool sl7, .slice P7 Pn7 Pc7, .slice R7 Rn7 Rc7, .bool sh7, .slice U7 Un7 Uc7, .slice V7 Vn7 Vc7]), Fact.sp (clipR p0) (clipR q0) (107), Fact.eq (.agg #[.bool ba0, .slice Aa0 na0 ca0, .slice Ba0 ma0 oa0, .bool bb0, .slice Ab0 nb0 cb0, .slice Bb0 mb0 ob0]), Fact.sp (clipR lo0) (clipR hi0) (6), Fact.eq (.bool true), Fact.eq (.bool false), Fact.eq (.bool false), Fact.eq (.bool false), Fact.eq (.agg #[.bool sl7, .slice P7 Pn7 Pc7, .slice R7 Rn7 Rc7, .bool sh7, .slice U7 Un7 Uc7, .slice V7 Vn7 Vc7]), Fact.eq (.agg #[.bool sl9, .slice P9 Pn9 Pc9, .slice R9 Rn9 Rc9, .bool sh9, .slice U9 Un9 Uc9, .slice V9 Vn9 Vc9]), Fact.sp (rmin p0 p1) (rmax q0 q1) (107), Fact.eq (.agg #[.bool ba0, .slice Aa0 na0 ca0, .slice Ba0 ma0 oa0, .bool bb0, .slice Ab0 nb0 cb0, .slice Bb0 mb0 ob0]), Fact.eq (.agg #[.bool ba1, .slice Aa1 na1 ca1, .slice Ba1 ma1 oa1, .bool bb1, .slice Ab1 nb1 cb1, .slice Bb1 mb1 ob1]), Fact.sp (rmin lo0 lo1) (rmax hi0 hi1) (6), Fact.eq (.bool true), Fact.eq (.bool false), Fact.eq (.bool false)] [Fact.any, Fact.any, Fact.any, Fact.any] [⟨46, 3, 38, 46, #[.bool ba0, .slice Aa0 na0 ca0, .slice Ba0 ma0 oa0, .bool bb0, .slice Ab0 nb0 cb0, .slice Bb0 mb0 ob0]⟩, ⟨46, 4, 38, 46, #[.bool ba1, .slice Aa1 na1 ca1, .slice Ba1 ma1 oa1, .bool bb1, .slice Ab1 nb1 cb1, .slice Bb1 mb1 ob1]⟩, ⟨46, 7, 38, 46, #[.bool sl7, .slice P7 Pn7 Pc7, .slice R7 Rn7 Rc7, .bool sh7, .slice U7 Un7 Uc7, .slice V7 Vn7 Vc7]⟩, ⟨46, 9, 38, 46, #[.bool sl9, .slice P9 Pn9 Pc9, .slice R9 Rn9 Rc9, .bool sh9, .slice U9 Un9 Uc9, .slice V9 Vn9 Vc9]⟩] [w.heap.size, w.heap.size + 1, g7, g9] [none, none, none, none, none, none, none, none, none, none, none, none, none, none, none, none, none, none, none, none, none, none, none, none, none, none, none, none, none, none, none, none, none, none, none, none, none, none, none, none, none, none, none, none, none, none, none, none, none, none, none, none, none, none, none, none, none, none, none, none, none, none, none, none, none, none, none, none, none, none, none, none, none, none, none, none, none, none, none, none, none, none, none, none, none, none, some 86, some 87, some 88, some 89, some 90, some 91, some 92, some 93, some 94, some 95, some 96, some 97, some 98, some 99, some 100, some 101, some 102, some 103, some 104, some 105, some 106, some 107, some 108, some 109, some 110, some 111, some 112, some 113, some 114, some 115, some 116, some 117, some 118, some 119, some 120, some 121, some 122, some 123, some 124, some 125, some 126, some 127, some 128, some 129, some 130, some 131, none, none, none, none, none, none, none, none, none, none, none, none, none, none, none, none, none, none, none, none, none, none, none] (by kernel_rfl) (by kernel_rfl) (by kernel_rfl) rfl B ?_ ?_ ?_ ?_ ?_
      · exact ⟨fun _ => ⟨by simp, rfl, OB3⟩, fun _ => ⟨by simp, rfl, OB4⟩, fun _ => ⟨by simp, rfl, OB7⟩, fun _ => ⟨by simp, rfl, OB9⟩, trivial⟩
      · exact .inl ⟨Nat.le_refl _, Nat.le_refl _, Nat.le_refl _, Nat.le_refl _, trivial⟩
      · exact ⟨⟨noWords_S _ _ _ _ _ _ _ _ _ _ _ _ _ _, (.inl (Nat.le_refl _)), (.inl (Nat.le_refl _))⟩, ⟨noWords_S _ _ _ _ _ _ _ _ _ _ _ _ _ _, (.inl (Nat.le_refl _)), (.inl (Nat.le_refl _))⟩, ⟨noWords_S _ _ _ _ _ _ _ _ _ _ _ _ _ _, (.inl (Nat.le_refl _)), (.inl (Nat.le_refl _))⟩, ⟨noWords_S _ _ _ _ _ _ _ _ _ _ _ _ _ _, (.inl (Nat.le_refl _)), (.inl (Nat.le_refl _))⟩, trivial⟩
      · refine ⟨?_, ?_, ?_, ?_, ?_, ?_, ?_, ?_, ?_, ?_, ?_, ?_, ?_, ?_, ?_, ?_, ?_, ?_, ?_, ?_, ?_, ?_, ?_, ?_, ?_, ?_, ?_, ?_, ?_, ?_, ?_, ?_, ?_, ?_, ?_, ?_, ?_, ?_, ?_, ?_, ?_, ?_, ?_, ?_, ?_, ?_, trivial⟩
        · exact .inr fun a w hp => ob_yes rfl (ob_loadSp (hp.box (k := 2) rfl (Nat.le_refl _) (.inl (Nat.le_refl _)) (by kernel_rfl) rfl).1 (hp.box (k := 2) rfl (Nat.le_refl _) (.inl (Nat.le_refl _)) (by kernel_rfl) rfl).2 rfl)
        · exact .inr fun a w hp => ob_yes rfl (ob_loadSp (hp.box (k := 3) rfl (Nat.le_refl _) (.inl (Nat.le_refl _)) (by kernel_rfl) rfl).1 (hp.box (k := 3) rfl (Nat.le_refl _) (.inl (Nat.le_refl _)) (by kernel_rfl) rfl).2 rfl)
        · refine .inr fun a w hp => ob_yes rfl ?_
          have h86 : a.tmps.getD 86 undef = .agg #[.bool sl7, .slice P7 Pn7 Pc7, .slice R7 Rn7 Rc7, .bool sh7, .slice U7 Un7 Uc7, .slice V7 Vn7 Vc7] := (hp.fact 0 86 (by kernel_rfl) rfl)
          have h87 : a.tmps.getD 87 undef = .agg #[.bool sl9, .slice P9 Pn9 Pc9, .slice R9 Rn9 Rc9, .bool sh9, .slice U9 Un9 Uc9, .slice V9 Vn9 Vc9] := (hp.fact 1 87 (by kernel_rfl) rfl)
          unfold Does
          go_simp
          refine (spadd_any _ _ _ p0 q0 p1 q1 107 ((I7.kept hp.kept).sp HR0.out.2.1) ((I9.kept hp.kept).sp HR1.out.2.1) (by decide) (by decide)).mono ?_
          rintro e w' ⟨u, rfl, I10, P10⟩
          exact ⟨_, rfl, P10, I10⟩
        · exact .inr fun a w hp => ob_yes rfl (ob_loadSp (hp.box (k := 0) rfl (Nat.le_refl _) (.inl (Nat.le_refl _)) (by kernel_rfl) rfl).1 (hp.box (k := 0) rfl (Nat.le_refl _) (.inl (Nat.le_refl _)) (by kernel_rfl) rfl).2 rfl)
        · exact .inr fun a w hp => ob_yes rfl (ob_loadSp (hp.box (k := 1) rfl (Nat.le_refl _) (.inl (Nat.le_refl _)) (by kernel_rfl) rfl).1 (hp.box (k := 1) rfl (Nat.le_refl _) (.inl (Nat.le_refl _)) (by kernel_rfl) rfl).2 rfl)
        · refine .inr fun a w hp => ob_yes rfl ?_
          have h89 : a.tmps.getD 89 undef = .agg #[.bool ba0, .slice Aa0 na0 ca0, .slice Ba0 ma0 oa0, .bool bb0, .slice Ab0 nb0 cb0, .slice Bb0 mb0 ob0] := (hp.fact 3 89 (by kernel_rfl) rfl)
          have h90 : a.tmps.getD 90 undef = .agg #[.bool ba1, .slice Aa1 na1 ca1, .slice Ba1 ma1 oa1, .bool bb1, .slice Ab1 nb1 cb1, .slice Bb1 mb1 ob1] := (hp.fact 4 90 (by kernel_rfl) rfl)
          unfold Does
          go_simp
          refine (spadd_any _ _ _ lo0 hi0 lo1 hi1 6 (T0.on hp.on) (T1.on hp.on) (by decide) (by decide)).mono ?_
          rintro e w' ⟨u, rfl, I10, P10⟩
          exact ⟨_, rfl, P10, I10⟩
        · refine .inr fun a w hp => ob_yes rfl ?_
          have h88 : IsS w (a.tmps.getD 88 undef) (p0 + p1) (q0 + q1) (215) := (hp.fact 2 88 (by kernel_rfl) rfl)
          obtain ⟨v88, e88⟩ : ∃ v, a.tmps.getD 88 undef = v := ⟨_, rfl⟩
          rw [e88] at h88
          have h91 : IsS w (a.tmps.getD 91 undef) (lo0 + lo1) (hi0 + hi1) (13) := (hp.fact 5 91 (by kernel_rfl) rfl)
          obtain ⟨v91, e91⟩ : ∃ v, a.tmps.getD 91 undef = v := ⟨_, rfl⟩
          rw [e91] at h91
          unfold Does
          go_simp
          refine (spins_big _ _ _ (p0 + p1) (q0 + q1) (lo0 + lo1) (hi0 + hi1) 215 (h88.sp (add_le2 HR0.out.2.1 HR1.out.2.1)) ((h91.sp (add_le2 le0 le1)).wide (by decide)) (by decide) (by decide)).mono ?_
          rintro e w' ⟨rfl, P10⟩
          exact ⟨_, rfl, P10, congrArg Value.bool (ins_true (add_le2 HR0.out.1 HR1.out.1) (add_le2 HR0.out.2.2.1 HR1.out.2.2.1))⟩
        · refine .inr fun a w hp => ob_yes rfl ?_
          have h92 : a.tmps.getD 92 undef = .bool true := (hp.fact 6 92 (by kernel_rfl) rfl)
          unfold Does
          go_simp
          exact ⟨_, rfl, On.refl _, by show Value.bool _ = Value.bool _; first | rfl | (simp; done)⟩
        · exact .inr fun a w hp => ob_yes rfl (ob_move (hp.fact 7 93 (by kernel_rfl) rfl))
        · exact .inr fun a w hp => ob_yes (wanted_yes (P := Try.prog) (j := 8) (d := 94) (b := false) rfl rfl (hp.fact 8 94 (by kernel_rfl) rfl)) (ob_loadSp (hp.box (k := 2) rfl (Nat.le_refl _) (.inl (Nat.le_refl _)) (by kernel_rfl) rfl).1 (hp.box (k := 2) rfl (Nat.le_refl _) (.inl (Nat.le_refl _)) (by kernel_rfl) rfl).2 rfl)
        · exact .inr fun a w hp => ob_yes (wanted_yes (P := Try.prog) (j := 8) (d := 94) (b := false) rfl rfl (hp.fact 8 94 (by kernel_rfl) rfl)) (ob_loadSp (hp.box (k := 3) rfl (Nat.le_refl _) (.inl (Nat.le_refl _)) (by kernel_rfl) rfl).1 (hp.box (k := 3) rfl (Nat.le_refl _) (.inl (Nat.le_refl _)) (by kernel_rfl) rfl).2 rfl)
        · refine .inr fun a w hp => ob_yes (wanted_yes (P := Try.prog) (j := 8) (d := 94) (b := false) rfl rfl (hp.fact 8 94 (by kernel_rfl) rfl)) ?_
          have h95 : a.tmps.getD 95 undef = .agg #[.bool sl7, .slice P7 Pn7 Pc7, .slice R7 Rn7 Rc7, .bool sh7, .slice U7 Un7 Uc7, .slice V7 Vn7 Vc7] := (hp.fact 9 95 (by kernel_rfl) rfl)
          have h96 : a.tmps.getD 96 undef = .agg #[.bool sl9, .slice P9 Pn9 Pc9, .slice R9 Rn9 Rc9, .bool sh9, .slice U9 Un9 Uc9, .slice V9 Vn9 Vc9] := (hp.fact 10 96 (by kernel_rfl) rfl)
          unfold Does
          go_simp
          refine (spsub_any _ _ _ p0 q0 p1 q1 107 ((I7.kept hp.kept).sp HR0.out.2.1) ((I9.kept hp.kept).sp HR1.out.2.1) (by decide) (by decide)).mono ?_
          rintro e w' ⟨u, rfl, I10, P10⟩
          exact ⟨_, rfl, P10, I10⟩
        · exact .inr fun a w hp => ob_yes (wanted_yes (P := Try.prog) (j := 8) (d := 94) (b := false) rfl rfl (hp.fact 8 94 (by kernel_rfl) rfl)) (ob_loadSp (hp.box (k := 0) rfl (Nat.le_refl _) (.inl (Nat.le_refl _)) (by kernel_rfl) rfl).1 (hp.box (k := 0) rfl (Nat.le_refl _) (.inl (Nat.le_refl _)) (by kernel_rfl) rfl).2 rfl)
        · exact .inr fun a w hp => ob_yes (wanted_yes (P := Try.prog) (j := 8) (d := 94) (b := false) rfl rfl (hp.fact 8 94 (by kernel_rfl) rfl)) (ob_loadSp (hp.box (k := 1) rfl (Nat.le_refl _) (.inl (Nat.le_refl _)) (by kernel_rfl) rfl).1 (hp.box (k := 1) rfl (Nat.le_refl _) (.inl (Nat.le_refl _)) (by kernel_rfl) rfl).2 rfl)
        · refine .inr fun a w hp => ob_yes (wanted_yes (P := Try.prog) (j := 8) (d := 94) (b := false) rfl rfl (hp.fact 8 94 (by kernel_rfl) rfl)) ?_
          have h98 : a.tmps.getD 98 undef = .agg #[.bool ba0, .slice Aa0 na0 ca0, .slice Ba0 ma0 oa0, .bool bb0, .slice Ab0 nb0 cb0, .slice Bb0 mb0 ob0] := (hp.fact 12 98 (by kernel_rfl) rfl)
          have h99 : a.tmps.getD 99 undef = .agg #[.bool ba1, .slice Aa1 na1 ca1, .slice Ba1 ma1 oa1, .bool bb1, .slice Ab1 nb1 cb1, .slice Bb1 mb1 ob1] := (hp.fact 13 99 (by kernel_rfl) rfl)
          unfold Does
          go_simp
          refine (spsub_any _ _ _ lo0 hi0 lo1 hi1 6 (T0.on hp.on) (T1.on hp.on) (by decide) (by decide)).mono ?_
          rintro e w' ⟨u, rfl, I10, P10⟩
          exact ⟨_, rfl, P10, I10⟩
        · refine .inr fun a w hp => ob_yes (wanted_yes (P := Try.prog) (j := 8) (d := 94) (b := false) rfl rfl (hp.fact 8 94 (by kernel_rfl) rfl)) ?_
          have h97 : IsS w (a.tmps.getD 97 undef) (p0 - q1) (q0 - p1) (215) := (hp.fact 11 97 (by kernel_rfl) rfl)
          obtain ⟨v97, e97⟩ : ∃ v, a.tmps.getD 97 undef = v := ⟨_, rfl⟩
          rw [e97] at h97
          have h100 : IsS w (a.tmps.getD 100 undef) (lo0 - hi1) (hi0 - lo1) (13) := (hp.fact 14 100 (by kernel_rfl) rfl)
          obtain ⟨v100, e100⟩ : ∃ v, a.tmps.getD 100 undef = v := ⟨_, rfl⟩
          rw [e100] at h100
          unfold Does
          go_simp
          refine (spins_big _ _ _ (p0 - q1) (q0 - p1) (lo0 - hi1) (hi0 - lo1) 215 (h97.sp (sub_le2 HR0.out.2.1 HR1.out.2.1)) ((h100.sp (sub_le2 le0 le1)).wide (by decide)) (by decide) (by decide)).mono ?_
          rintro e w' ⟨rfl, P10⟩
          exact ⟨_, rfl, P10, congrArg Value.bool (ins_true (sub_le2 HR0.out.1 HR1.out.2.2.1) (sub_le2 HR0.out.2.2.1 HR1.out.1))⟩
        · refine .inr fun a w hp => ob_yes (wanted_yes (P := Try.prog) (j := 8) (d := 94) (b := false) rfl rfl (hp.fact 8 94 (by kernel_rfl) rfl)) ?_
          have h101 : a.tmps.getD 101 undef = .bool true := (hp.fact 15 101 (by kernel_rfl) rfl)
          unfold Does
          go_simp
          exact ⟨_, rfl, On.refl _, by show Value.bool _ = Value.bool _; first | rfl | (simp; done)⟩
        · refine .inr fun a w hp => ob_yes rfl ?_
          have h94 : a.tmps.getD 94 undef = .bool false := (hp.fact 8 94 (by kernel_rfl) rfl)
          have h102 : a.tmps.getD 102 undef = .bool false := (hp.fact 16 102 (by kernel_rfl) rfl)
          unfold Does
          go_simp
          exact ⟨_, rfl, On.refl _, rfl⟩
        · exact .inr fun a w hp => ob_yes rfl (ob_move (hp.fact 17 103 (by kernel_rfl) rfl))
        · exact .inr fun a w hp => ob_yes (wanted_yes (P := Try.prog) (j := 18) (d := 104) (b := false) rfl rfl (hp.fact 18 104 (by kernel_rfl) rfl)) (ob_loadSp (hp.box (k := 2) rfl (Nat.le_refl _) (.inl (Nat.le_refl _)) (by kernel_rfl) rfl).1 (hp.box (k := 2) rfl (Nat.le_refl _) (.inl (Nat.le_refl _)) (by kernel_rfl) rfl).2 rfl)
        · exact .inr fun a w hp => ob_yes (wanted_yes (P := Try.prog) (j := 18) (d := 104) (b := false) rfl rfl (hp.fact 18 104 (by kernel_rfl) rfl)) (ob_loadSp (hp.box (k := 3) rfl (Nat.le_refl _) (.inl (Nat.le_refl _)) (by kernel_rfl) rfl).1 (hp.box (k := 3) rfl (Nat.le_refl _) (.inl (Nat.le_refl _)) (by kernel_rfl) rfl).2 rfl)
        · refine .inr fun a w hp => ob_yes (wanted_yes (P := Try.prog) (j := 18) (d := 104) (b := false) rfl rfl (hp.fact 18 104 (by kernel_rfl) rfl)) ?_
          have h105 : a.tmps.getD 105 undef = .agg #[.bool sl7, .slice P7 Pn7 Pc7, .slice R7 Rn7 Rc7, .bool sh7, .slice U7 Un7 Uc7, .slice V7 Vn7 Vc7] := (hp.fact 19 105 (by kernel_rfl) rfl)
          have h106 : a.tmps.getD 106 undef = .agg #[.bool sl9, .slice P9 Pn9 Pc9, .slice R9 Rn9 Rc9, .bool sh9, .slice U9 Un9 Uc9, .slice V9 Vn9 Vc9] := (hp.fact 20 106 (by kernel_rfl) rfl)
          unfold Does
          go_simp
          refine (spmul_any _ _ _ p0 q0 p1 q1 107 ((I7.kept hp.kept).sp HR0.out.2.1) ((I9.kept hp.kept).sp HR1.out.2.1) (by decide) (by decide)).mono ?_
          rintro e w' ⟨u, rfl, I10, P10⟩
          exact ⟨_, rfl, P10, I10⟩
        · exact .inr fun a w hp => ob_yes (wanted_yes (P := Try.prog) (j := 18) (d := 104) (b := false) rfl rfl (hp.fact 18 104 (by kernel_rfl) rfl)) (ob_loadSp (hp.box (k := 0) rfl (Nat.le_refl _) (.inl (Nat.le_refl _)) (by kernel_rfl) rfl).1 (hp.box (k := 0) rfl (Nat.le_refl _) (.inl (Nat.le_refl _)) (by kernel_rfl) rfl).2 rfl)
        · exact .inr fun a w hp => ob_yes (wanted_yes (P := Try.prog) (j := 18) (d := 104) (b := false) rfl rfl (hp.fact 18 104 (by kernel_rfl) rfl)) (ob_loadSp (hp.box (k := 1) rfl (Nat.le_refl _) (.inl (Nat.le_refl _)) (by kernel_rfl) rfl).1 (hp.box (k := 1) rfl (Nat.le_refl _) (.inl (Nat.le_refl _)) (by kernel_rfl) rfl).2 rfl)
        · refine .inr fun a w hp => ob_yes (wanted_yes (P := Try.prog) (j := 18) (d := 104) (b := false) rfl rfl (hp.fact 18 104 (by kernel_rfl) rfl)) ?_
          have h108 : a.tmps.getD 108 undef = .agg #[.bool ba0, .slice Aa0 na0 ca0, .slice Ba0 ma0 oa0, .bool bb0, .slice Ab0 nb0 cb0, .slice Bb0 mb0 ob0] := (hp.fact 22 108 (by kernel_rfl) rfl)
          have h109 : a.tmps.getD 109 undef = .agg #[.bool ba1, .slice Aa1 na1 ca1, .slice Ba1 ma1 oa1, .bool bb1, .slice Ab1 nb1 cb1, .slice Bb1 mb1 ob1] := (hp.fact 23 109 (by kernel_rfl) rfl)
          unfold Does
          go_simp
          refine (spmul_any _ _ _ lo0 hi0 lo1 hi1 6 (T0.on hp.on) (T1.on hp.on) (by decide) (by decide)).mono ?_
          rintro e w' ⟨u, rfl, I10, P10⟩
          exact ⟨_, rfl, P10, I10⟩
        · refine .inr fun a w hp => ob_yes (wanted_yes (P := Try.prog) (j := 18) (d := 104) (b := false) rfl rfl (hp.fact 18 104 (by kernel_rfl) rfl)) ?_
          have h107 : IsS w (a.tmps.getD 107 undef) (prodLo p0 q0 p1 q1) (prodHi p0 q0 p1 q1) (429) := (hp.fact 21 107 (by kernel_rfl) rfl)
          obtain ⟨v107, e107⟩ : ∃ v, a.tmps.getD 107 undef = v := ⟨_, rfl⟩
          rw [e107] at h107
          have h110 : IsS w (a.tmps.getD 110 undef) (prodLo lo0 hi0 lo1 hi1) (prodHi lo0 hi0 lo1 hi1) (25) := (hp.fact 24 110 (by kernel_rfl) rfl)
          obtain ⟨v110, e110⟩ : ∃ v, a.tmps.getD 110 undef = v := ⟨_, rfl⟩
          rw [e110] at h110
          unfold Does
          go_simp
          refine (spins_big _ _ _ (prodLo p0 q0 p1 q1) (prodHi p0 q0 p1 q1) (prodLo lo0 hi0 lo1 hi1) (prodHi lo0 hi0 lo1 hi1) 429 (h107.sp (prod_le _ _ _ _ HR0.out.2.1 HR1.out.2.1)) ((h110.sp (prod_le _ _ _ _ le0 le1)).wide (by decide)) (by decide) (by decide)).mono ?_
          rintro e w' ⟨rfl, P10⟩
          exact ⟨_, rfl, P10, congrArg Value.bool (ins_true (prodLo_in HR0.out.1 HR0.out.2.2.1 HR1.out.1 HR1.out.2.2.1 HR0.out.2.1 HR1.out.2.1) (prodHi_in HR0.out.1 HR0.out.2.2.1 HR1.out.1 HR1.out.2.2.1 HR0.out.2.1 HR1.out.2.1))⟩
        · refine .inr fun a w hp => ob_yes (wanted_yes (P := Try.prog) (j := 18) (d := 104) (b := false) rfl rfl (hp.fact 18 104 (by kernel_rfl) rfl)) ?_
          have h111 : a.tmps.getD 111 undef = .bool true := (hp.fact 25 111 (by kernel_rfl) rfl)
          unfold Does
          go_simp
          exact ⟨_, rfl, On.refl _, by show Value.bool _ = Value.bool _; first | rfl | (simp; done)⟩
        · refine .inr fun a w hp => ob_yes rfl ?_
          have h104 : a.tmps.getD 104 undef = .bool false := (hp.fact 18 104 (by kernel_rfl) rfl)
          have h112 : a.tmps.getD 112 undef = .bool false := (hp.fact 26 112 (by kernel_rfl) rfl)
          unfold Does
          go_simp
          exact ⟨_, rfl, On.refl _, rfl⟩
        · exact .inr fun a w hp => ob_yes rfl (ob_move (hp.fact 27 113 (by kernel_rfl) rfl))
        · exact .inr fun a w hp => ob_yes (wanted_yes (P := Try.prog) (j := 28) (d := 114) (b := false) rfl rfl (hp.fact 28 114 (by kernel_rfl) rfl)) (ob_loadSp (hp.box (k := 2) rfl (Nat.le_refl _) (.inl (Nat.le_refl _)) (by kernel_rfl) rfl).1 (hp.box (k := 2) rfl (Nat.le_refl _) (.inl (Nat.le_refl _)) (by kernel_rfl) rfl).2 rfl)
        · refine .inr fun a w hp => ob_yes (wanted_yes (P := Try.prog) (j := 28) (d := 114) (b := false) rfl rfl (hp.fact 28 114 (by kernel_rfl) rfl)) ?_
          have h115 : a.tmps.getD 115 undef = .agg #[.bool sl7, .slice P7 Pn7 Pc7, .slice R7 Rn7 Rc7, .bool sh7, .slice U7 Un7 Uc7, .slice V7 Vn7 Vc7] := (hp.fact 29 115 (by kernel_rfl) rfl)
          unfold Does
          go_simp
          refine (spclip_any _ _ p0 q0 107 ((I7.kept hp.kept).sp HR0.out.2.1) (by decide) (by decide)).mono ?_
          rintro e w' ⟨u, rfl, I10, P10⟩
          exact ⟨_, rfl, P10, I10⟩
        · exact .inr fun a w hp => ob_yes (wanted_yes (P := Try.prog) (j := 28) (d := 114) (b := false) rfl rfl (hp.fact 28 114 (by kernel_rfl) rfl)) (ob_loadSp (hp.box (k := 0) rfl (Nat.le_refl _) (.inl (Nat.le_refl _)) (by kernel_rfl) rfl).1 (hp.box (k := 0) rfl (Nat.le_refl _) (.inl (Nat.le_refl _)) (by kernel_rfl) rfl).2 rfl)
        · refine .inr fun a w hp => ob_yes (wanted_yes (P := Try.prog) (j := 28) (d := 114) (b := false) rfl rfl (hp.fact 28 114 (by kernel_rfl) rfl)) ?_
          have h117 : a.tmps.getD 117 undef = .agg #[.bool ba0, .slice Aa0 na0 ca0, .slice Ba0 ma0 oa0, .bool bb0, .slice Ab0 nb0 cb0, .slice Bb0 mb0 ob0] := (hp.fact 31 117 (by kernel_rfl) rfl)
          unfold Does
          go_simp
          refine (spclip_any _ _ lo0 hi0 6 (T0.on hp.on) (by decide) (by decide)).mono ?_
          rintro e w' ⟨u, rfl, I10, P10⟩
          exact ⟨_, rfl, P10, I10⟩
        · refine .inr fun a w hp => ob_yes (wanted_yes (P := Try.prog) (j := 28) (d := 114) (b := false) rfl rfl (hp.fact 28 114 (by kernel_rfl) rfl)) ?_
          have h116 : IsS w (a.tmps.getD 116 undef) (clipR p0) (clipR q0) (107) := (hp.fact 30 116 (by kernel_rfl) rfl)
          obtain ⟨v116, e116⟩ : ∃ v, a.tmps.getD 116 undef = v := ⟨_, rfl⟩
          rw [e116] at h116
          have h118 : IsS w (a.tmps.getD 118 undef) (clipR lo0) (clipR hi0) (6) := (hp.fact 32 118 (by kernel_rfl) rfl)
          obtain ⟨v118, e118⟩ : ∃ v, a.tmps.getD 118 undef = v := ⟨_, rfl⟩
          rw [e118] at h118
          unfold Does
          go_simp
          refine (spins_big _ _ _ (clipR p0) (clipR q0) (clipR lo0) (clipR hi0) 107 (h116.sp (clip_mono HR0.out.2.1)) ((h118.sp (clip_mono le0)).wide (by decide)) (by decide) (by decide)).mono ?_
          rintro e w' ⟨rfl, P10⟩
          exact ⟨_, rfl, P10, congrArg Value.bool (ins_true (clip_mono HR0.out.1) (clip_mono HR0.out.2.2.1))⟩
        · refine .inr fun a w hp => ob_yes (wanted_yes (P := Try.prog) (j := 28) (d := 114) (b := false) rfl rfl (hp.fact 28 114 (by kernel_rfl) rfl)) ?_
          have h119 : a.tmps.getD 119 undef = .bool true := (hp.fact 33 119 (by kernel_rfl) rfl)
          unfold Does
          go_simp
          exact ⟨_, rfl, On.refl _, by show Value.bool _ = Value.bool _; first | rfl | (simp; done)⟩
        · refine .inr fun a w hp => ob_yes rfl ?_
          have h114 : a.tmps.getD 114 undef = .bool false := (hp.fact 28 114 (by kernel_rfl) rfl)
          have h120 : a.tmps.getD 120 undef = .bool false := (hp.fact 34 120 (by kernel_rfl) rfl)
          unfold Does
          go_simp
          exact ⟨_, rfl, On.refl _, rfl⟩
        · exact .inr fun a w hp => ob_yes rfl (ob_move (hp.fact 35 121 (by kernel_rfl) rfl))
        · exact .inr fun a w hp => ob_yes (wanted_yes (P := Try.prog) (j := 36) (d := 122) (b := false) rfl rfl (hp.fact 36 122 (by kernel_rfl) rfl)) (ob_loadSp (hp.box (k := 2) rfl (Nat.le_refl _) (.inl (Nat.le_refl _)) (by kernel_rfl) rfl).1 (hp.box (k := 2) rfl (Nat.le_refl _) (.inl (Nat.le_refl _)) (by kernel_rfl) rfl).2 rfl)
        · exact .inr fun a w hp => ob_yes (wanted_yes (P := Try.prog) (j := 36) (d := 122) (b := false) rfl rfl (hp.fact 36 122 (by kernel_rfl) rfl)) (ob_loadSp (hp.box (k := 3) rfl (Nat.le_refl _) (.inl (Nat.le_refl _)) (by kernel_rfl) rfl).1 (hp.box (k := 3) rfl (Nat.le_refl _) (.inl (Nat.le_refl _)) (by kernel_rfl) rfl).2 rfl)
        · refine .inr fun a w hp => ob_yes (wanted_yes (P := Try.prog) (j := 36) (d := 122) (b := false) rfl rfl (hp.fact 36 122 (by kernel_rfl) rfl)) ?_
          have h123 : a.tmps.getD 123 undef = .agg #[.bool sl7, .slice P7 Pn7 Pc7, .slice R7 Rn7 Rc7, .bool sh7, .slice U7 Un7 Uc7, .slice V7 Vn7 Vc7] := (hp.fact 37 123 (by kernel_rfl) rfl)
          have h124 : a.tmps.getD 124 undef = .agg #[.bool sl9, .slice P9 Pn9 Pc9, .slice R9 Rn9 Rc9, .bool sh9, .slice U9 Un9 Uc9, .slice V9 Vn9 Vc9] := (hp.fact 38 124 (by kernel_rfl) rfl)
          unfold Does
          go_simp
          refine (sphull_any _ _ _ p0 q0 p1 q1 107 ((I7.kept hp.kept).sp HR0.out.2.1) ((I9.kept hp.kept).sp HR1.out.2.1) (by decide) (by decide)).mono ?_
          rintro e w' ⟨u, rfl, I10, P10⟩
          exact ⟨_, rfl, P10, I10⟩
        · exact .inr fun a w hp => ob_yes (wanted_yes (P := Try.prog) (j := 36) (d := 122) (b := false) rfl rfl (hp.fact 36 122 (by kernel_rfl) rfl)) (ob_loadSp (hp.box (k := 0) rfl (Nat.le_refl _) (.inl (Nat.le_refl _)) (by kernel_rfl) rfl).1 (hp.box (k := 0) rfl (Nat.le_refl _) (.inl (Nat.le_refl _)) (by kernel_rfl) rfl).2 rfl)
        · exact .inr fun a w hp => ob_yes (wanted_yes (P := Try.prog) (j := 36) (d := 122) (b := false) rfl rfl (hp.fact 36 122 (by kernel_rfl) rfl)) (ob_loadSp (hp.box (k := 1) rfl (Nat.le_refl _) (.inl (Nat.le_refl _)) (by kernel_rfl) rfl).1 (hp.box (k := 1) rfl (Nat.le_refl _) (.inl (Nat.le_refl _)) (by kernel_rfl) rfl).2 rfl)
        · refine .inr fun a w hp => ob_yes (wanted_yes (P := Try.prog) (j := 36) (d := 122) (b := false) rfl rfl (hp.fact 36 122 (by kernel_rfl) rfl)) ?_
          have h126 : a.tmps.getD 126 undef = .agg #[.bool ba0, .slice Aa0 na0 ca0, .slice Ba0 ma0 oa0, .bool bb0, .slice Ab0 nb0 cb0, .slice Bb0 mb0 ob0] := (hp.fact 40 126 (by kernel_rfl) rfl)
          have h127 : a.tmps.getD 127 undef = .agg #[.bool ba1, .slice Aa1 na1 ca1, .slice Ba1 ma1 oa1, .bool bb1, .slice Ab1 nb1 cb1, .slice Bb1 mb1 ob1] := (hp.fact 41 127 (by kernel_rfl) rfl)
          unfold Does
          go_simp
          refine (sphull_any _ _ _ lo0 hi0 lo1 hi1 6 (T0.on hp.on) (T1.on hp.on) (by decide) (by decide)).mono ?_
          rintro e w' ⟨u, rfl, I10, P10⟩
          exact ⟨_, rfl, P10, I10⟩
        · refine .inr fun a w hp => ob_yes (wanted_yes (P := Try.prog) (j := 36) (d := 122) (b := false) rfl rfl (hp.fact 36 122 (by kernel_rfl) rfl)) ?_
          have h125 : IsS w (a.tmps.getD 125 undef) (rmin p0 p1) (rmax q0 q1) (107) := (hp.fact 39 125 (by kernel_rfl) rfl)
          obtain ⟨v125, e125⟩ : ∃ v, a.tmps.getD 125 undef = v := ⟨_, rfl⟩
          rw [e125] at h125
          have h128 : IsS w (a.tmps.getD 128 undef) (rmin lo0 lo1) (rmax hi0 hi1) (6) := (hp.fact 42 128 (by kernel_rfl) rfl)
          obtain ⟨v128, e128⟩ : ∃ v, a.tmps.getD 128 undef = v := ⟨_, rfl⟩
          rw [e128] at h128
          unfold Does
          go_simp
          refine (spins_big _ _ _ (rmin p0 p1) (rmax q0 q1) (rmin lo0 lo1) (rmax hi0 hi1) 107 (h125.sp (hull_le HR0.out.2.1 HR1.out.2.1)) ((h128.sp (hull_le le0 le1)).wide (by decide)) (by decide) (by decide)).mono ?_
          rintro e w' ⟨rfl, P10⟩
          exact ⟨_, rfl, P10, congrArg Value.bool (ins_true (rmin_mono HR0.out.1 HR1.out.1) (rmax_mono HR0.out.2.2.1 HR1.out.2.2.1))⟩
        · refine .inr fun a w hp => ob_yes (wanted_yes (P := Try.prog) (j := 36) (d := 122) (b := false) rfl rfl (hp.fact 36 122 (by kernel_rfl) rfl)) ?_
          have h129 : a.tmps.getD 129 undef = .bool true := (hp.fact 43 129 (by kernel_rfl) rfl)
          unfold Does
          go_simp
          exact ⟨_, rfl, On.refl _, by show Value.bool _ = Value.bool _; first | rfl | (simp; done)⟩
        · refine .inr fun a w hp => ob_yes rfl ?_
          have h122 : a.tmps.getD 122 undef = .bool false := (hp.fact 36 122 (by kernel_rfl) rfl)
          have h130 : a.tmps.getD 130 undef = .bool false := (hp.fact 44 130 (by kernel_rfl) rfl)
          unfold Does
          go_simp
          exact ⟨_, rfl, On.refl _, rfl⟩
      · intro f wd hon hk hf hb hap
        obtain ⟨q0, q1, q2, q3, qz⟩ := hb
        clear qz
        have O3 : Own wd (w.heap.size) 38 #[.bool ba0, .slice Aa0 na0 ca0, .slice Ba0 ma0 oa0, .bool bb0, .slice Ab0 nb0 cb0, .slice Bb0 mb0 ob0] := q0
        have c3_0 : wd.cell? ⟨w.heap.size, 0, none⟩ = some (.bool ba0) := O3.cell 0
        have z3_0 := O3.frozen 0
        have c3_1 : wd.cell? ⟨w.heap.size, 1, none⟩ = some (.slice Aa0 na0 ca0) := O3.cell 1
        have z3_1 := O3.frozen 1
        have c3_2 : wd.cell? ⟨w.heap.size, 2, none⟩ = some (.slice Ba0 ma0 oa0) := O3.cell 2
        have z3_2 := O3.frozen 2
        have c3_3 : wd.cell? ⟨w.heap.size, 3, none⟩ = some (.bool bb0) := O3.cell 3
        have z3_3 := O3.frozen 3
        have c3_4 : wd.cell? ⟨w.heap.size, 4, none⟩ = some (.slice Ab0 nb0 cb0) := O3.cell 4
        have z3_4 := O3.frozen 4
        have c3_5 : wd.cell? ⟨w.heap.size, 5, none⟩ = some (.slice Bb0 mb0 ob0) := O3.cell 5
        have z3_5 := O3.frozen 5
        clear q0
        have O4 : Own wd (w.heap.size + 1) 38 #[.bool ba1, .slice Aa1 na1 ca1, .slice Ba1 ma1 oa1, .bool bb1, .slice Ab1 nb1 cb1, .slice Bb1 mb1 ob1] := q1
        have c4_0 : wd.cell? ⟨w.heap.size + 1, 0, none⟩ = some (.bool ba1) := O4.cell 0
        have z4_0 := O4.frozen 0
        have c4_1 : wd.cell? ⟨w.heap.size + 1, 1, none⟩ = some (.slice Aa1 na1 ca1) := O4.cell 1
        have z4_1 := O4.frozen 1
        have c4_2 : wd.cell? ⟨w.heap.size + 1, 2, none⟩ = some (.slice Ba1 ma1 oa1) := O4.cell 2
        have z4_2 := O4.frozen 2
        have c4_3 : wd.cell? ⟨w.heap.size + 1, 3, none⟩ = some (.bool bb1) := O4.cell 3
        have z4_3 := O4.frozen 3
        have c4_4 : wd.cell? ⟨w.heap.size + 1, 4, none⟩ = some (.slice Ab1 nb1 cb1) := O4.cell 4
        have z4_4 := O4.frozen 4
        have c4_5 : wd.cell? ⟨w.heap.size + 1, 5, none⟩ = some (.slice Bb1 mb1 ob1) := O4.cell 5
        have z4_5 := O4.frozen 5
        clear q1
        have O7 : Own wd (g7) 38 #[.bool sl7, .slice P7 Pn7 Pc7, .slice R7 Rn7 Rc7, .bool sh7, .slice U7 Un7 Uc7, .slice V7 Vn7 Vc7] := q2
        have c7_0 : wd.cell? ⟨g7, 0, none⟩ = some (.bool sl7) := O7.cell 0
        have z7_0 := O7.frozen 0
        have c7_1 : wd.cell? ⟨g7, 1, none⟩ = some (.slice P7 Pn7 Pc7) := O7.cell 1
        have z7_1 := O7.frozen 1
        have c7_2 : wd.cell? ⟨g7, 2, none⟩ = some (.slice R7 Rn7 Rc7) := O7.cell 2
        have z7_2 := O7.frozen 2
        have c7_3 : wd.cell? ⟨g7, 3, none⟩ = some (.bool sh7) := O7.cell 3
        have z7_3 := O7.frozen 3
        have c7_4 : wd.cell? ⟨g7, 4, none⟩ = some (.slice U7 Un7 Uc7) := O7.cell 4
        have z7_4 := O7.frozen 4
        have c7_5 : wd.cell? ⟨g7, 5, none⟩ = some (.slice V7 Vn7 Vc7) := O7.cell 5
        have z7_5 := O7.frozen 5
        clear q2
        have O9 : Own wd (g9) 38 #[.bool sl9, .slice P9 Pn9 Pc9, .slice R9 Rn9 Rc9, .bool sh9, .slice U9 Un9 Uc9, .slice V9 Vn9 Vc9] := q3
        have c9_0 : wd.cell? ⟨g9, 0, none⟩ = some (.bool sl9) := O9.cell 0
        have z9_0 := O9.frozen 0
        have c9_1 : wd.cell? ⟨g9, 1, none⟩ = some (.slice P9 Pn9 Pc9) := O9.cell 1
        have z9_1 := O9.frozen 1
        have c9_2 : wd.cell? ⟨g9, 2, none⟩ = some (.slice R9 Rn9 Rc9) := O9.cell 2
        have z9_2 := O9.frozen 2
        have c9_3 : wd.cell? ⟨g9, 3, none⟩ = some (.bool sh9) := O9.cell 3
        have z9_3 := O9.frozen 3
        have c9_4 : wd.cell? ⟨g9, 4, none⟩ = some (.slice U9 Un9 Uc9) := O9.cell 4
        have z9_4 := O9.frozen 4
        have c9_5 : wd.cell? ⟨g9, 5, none⟩ = some (.slice V9 Vn9 Vc9) := O9.cell 5
        have z9_5 := O9.frozen 5
        clear q3
        have e131 : f 131 = .bool false := hf 45 131 rfl
        clear hf hap
        simp only [fillL, e131]
        clear e131
        replace I7 := I7.kept hk
        replace I9 := I9.kept hk
        have OB3 : w.heap.size ≤ w.heap.size ∧ Own wd (w.heap.size) 38 #[.bool ba0, .slice Aa0 na0 ca0, .slice Ba0 ma0 oa0, .bool bb0, .slice Ab0 nb0 cb0, .slice Bb0 mb0 ob0] := ⟨by omega, O3⟩
        clear c3_0 z3_0 c3_1 z3_1 c3_2 z3_2 c3_3 z3_3 c3_4 z3_4 c3_5 z3_5 O3
        have OB4 : w.heap.size ≤ w.heap.size + 1 ∧ Own wd (w.heap.size + 1) 38 #[.bool ba1, .slice Aa1 na1 ca1, .slice Ba1 ma1 oa1, .bool bb1, .slice Ab1 nb1 cb1, .slice Bb1 mb1 ob1] := ⟨by omega, O4⟩
        clear c4_0 z4_0 c4_1 z4_1 c4_2 z4_2 c4_3 z4_3 c4_4 z4_4 c4_5 z4_5 O4
        have OB7 : w.heap.size ≤ g7 ∧ Own wd g7 38 #[.bool sl7, .slice P7 Pn7 Pc7, .slice R7 Rn7 Rc7, .bool sh7, .slice U7 Un7 Uc7, .slice V7 Vn7 Vc7] := ⟨OB7.1, O7⟩
        clear c7_0 z7_0 c7_1 z7_1 c7_2 z7_2 c7_3 z7_3 c7_4 z7_4 c7_5 z7_5 O7
        have OB9 : w.heap.size ≤ g9 ∧ Own wd g9 38 #[.bool sl9, .slice P9 Pn9 Pc9, .slice R9 Rn9 Rc9, .bool sh9, .slice U9 Un9 Uc9, .slice V9 Vn9 Vc9] := ⟨OB9.1, O9⟩
        clear c9_0 z9_0 c9_1 z9_1 c9_2 z9_2 c9_3 z9_3 c9_4 z9_4 c9_5 z9_5 O9
        clear B
        have B := hon
        clear hon hk
        have y3_0 : wd.cell? ⟨w.heap.size, 0, none⟩ = some (.bool ba0) := OB3.2.cell 0
        have y3_1 : wd.cell? ⟨w.heap.size, 1, none⟩ = some (.slice Aa0 na0 ca0) := OB3.2.cell 1
        have y3_2 : wd.cell? ⟨w.heap.size, 2, none⟩ = some (.slice Ba0 ma0 oa0) := OB3.2.cell 2
        have y3_3 : wd.cell? ⟨w.heap.size, 3, none⟩ = some (.bool bb0) := OB3.2.cell 3
        have y3_4 : wd.cell? ⟨w.heap.size, 4, none⟩ = some (.slice Ab0 nb0 cb0) := OB3.2.cell 4
        have y3_5 : wd.cell? ⟨w.heap.size, 5, none⟩ = some (.slice Bb0 mb0 ob0) := OB3.2.cell 5
        have y3_f0 := OB3.2.frozen 0
        have y3_f1 := OB3.2.frozen 1
        have y3_f2 := OB3.2.frozen 2
        have y3_f3 := OB3.2.frozen 3
        have y3_f4 := OB3.2.frozen 4
        have y3_f5 := OB3.2.frozen 5
        have y4_0 : wd.cell? ⟨w.heap.size + 1, 0, none⟩ = some (.bool ba1) := OB4.2.cell 0
        have y4_1 : wd.cell? ⟨w.heap.size + 1, 1, none⟩ = some (.slice Aa1 na1 ca1) := OB4.2.cell 1
        have y4_2 : wd.cell? ⟨w.heap.size + 1, 2, none⟩ = some (.slice Ba1 ma1 oa1) := OB4.2.cell 2
        have y4_3 : wd.cell? ⟨w.heap.size + 1, 3, none⟩ = some (.bool bb1) := OB4.2.cell 3
        have y4_4 : wd.cell? ⟨w.heap.size + 1, 4, none⟩ = some (.slice Ab1 nb1 cb1) := OB4.2.cell 4
        have y4_5 : wd.cell? ⟨w.heap.size + 1, 5, none⟩ = some (.slice Bb1 mb1 ob1) := OB4.2.cell 5
        have y4_f0 := OB4.2.frozen 0
        have y4_f1 := OB4.2.frozen 1
        have y4_f2 := OB4.2.frozen 2
        have y4_f3 := OB4.2.frozen 3
        have y4_f4 := OB4.2.frozen 4
        have y4_f5 := OB4.2.frozen 5
        go_wp2_with fail
        refine (spdiv_zero _ _ _ lo0 hi0 lo1 hi1 6 (T0.on B) (T1.on B) (by decide) (by decide) HC.out).mono ?_
        rintro e w8 ⟨u8, rfl, I11, P11⟩
        obtain ⟨ba11, Aa11, na11, ca11, Ba11, ma11, oa11, bb11, Ab11, nb11, cb11, Bb11, mb11, ob11, rfl, IL11, IH11⟩ := id I11
        clear y3_0 y3_f0 y3_1 y3_f1 y3_2 y3_f2 y3_3 y3_f3 y3_4 y3_f4 y3_5 y3_f5
        clear y4_0 y4_f0 y4_1 y4_f1 y4_2 y4_f2 y4_3 y4_f3 y4_4 y4_f4 y4_5 y4_f5
        replace OB7 := And.intro OB7.1 (OB7.2.on P11)
        replace OB9 := And.intro OB9.1 (OB9.2.on P11)
        replace B := B.trans P11
        replace I7 := I7.on P11
        replace I9 := I9.on P11
        have PA := (On.refl w8).alloc (.cells #[.bool ba11, .slice Aa11 na11 ca11, .slice Ba11 ma11 oa11, .bool bb11, .slice Ab11 nb11 cb11, .slice Bb11 mb11 ob11] 38)
        have B0_11 := B.size
        replace OB7 := And.intro OB7.1 (OB7.2.on PA)
        replace OB9 := And.intro OB9.1 (OB9.2.on PA)
        replace B := B.trans PA
        replace I7 := I7.on PA
        replace I9 := I9.on PA
        replace I11 := I11.on PA
        have OB11 : w.heap.size ≤ w8.heap.size ∧ _ := ⟨B0_11, Own.new w8 38 #[.bool ba11, .slice Aa11 na11 ca11, .slice Ba11 ma11 oa11, .bool bb11, .slice Ab11 nb11 cb11, .slice Bb11 mb11 ob11]⟩
        clear PA P11 IL11 IH11
        have y7_0 : (w8.alloc (.cells #[.bool ba11, .slice Aa11 na11 ca11, .slice Ba11 ma11 oa11, .bool bb11, .slice Ab11 nb11 cb11, .slice Bb11 mb11 ob11] 38)).cell? ⟨g7, 0, none⟩ = some (.bool sl7) := OB7.2.cell 0
        have y7_1 : (w8.alloc (.cells #[.bool ba11, .slice Aa11 na11 ca11, .slice Ba11 ma11 oa11, .bool bb11, .slice Ab11 nb11 cb11, .slice Bb11 mb11 ob11] 38)).cell? ⟨g7, 1, none⟩ = some (.slice P7 Pn7 Pc7) := OB7.2.cell 1
        have y7_2 : (w8.alloc (.cells #[.bool ba11, .slice Aa11 na11 ca11, .slice Ba11 ma11 oa11, .bool bb11, .slice Ab11 nb11 cb11, .slice Bb11 mb11 ob11] 38)).cell? ⟨g7, 2, none⟩ = some (.slice R7 Rn7 Rc7) := OB7.2.cell 2
        have y7_3 : (w8.alloc (.cells #[.bool ba11, .slice Aa11 na11 ca11, .slice Ba11 ma11 oa11, .bool bb11, .slice Ab11 nb11 cb11, .slice Bb11 mb11 ob11] 38)).cell? ⟨g7, 3, none⟩ = some (.bool sh7) := OB7.2.cell 3
        have y7_4 : (w8.alloc (.cells #[.bool ba11, .slice Aa11 na11 ca11, .slice Ba11 ma11 oa11, .bool bb11, .slice Ab11 nb11 cb11, .slice Bb11 mb11 ob11] 38)).cell? ⟨g7, 4, none⟩ = some (.slice U7 Un7 Uc7) := OB7.2.cell 4
        have y7_5 : (w8.alloc (.cells #[.bool ba11, .slice Aa11 na11 ca11, .slice Ba11 ma11 oa11, .bool bb11, .slice Ab11 nb11 cb11, .slice Bb11 mb11 ob11] 38)).cell? ⟨g7, 5, none⟩ = some (.slice V7 Vn7 Vc7) := OB7.2.cell 5
        have y7_f0 := OB7.2.frozen 0
        have y7_f1 := OB7.2.frozen 1
        have y7_f2 := OB7.2.frozen 2
        have y7_f3 := OB7.2.frozen 3
        have y7_f4 := OB7.2.frozen 4
        have y7_f5 := OB7.2.frozen 5
        have y9_0 : (w8.alloc (.cells #[.bool ba11, .slice Aa11 na11 ca11, .slice Ba11 ma11 oa11, .bool bb11, .slice Ab11 nb11 cb11, .slice Bb11 mb11 ob11] 38)).cell? ⟨g9, 0, none⟩ = some (.bool sl9) := OB9.2.cell 0
        have y9_1 : (w8.alloc (.cells #[.bool ba11, .slice Aa11 na11 ca11, .slice Ba11 ma11 oa11, .bool bb11, .slice Ab11 nb11 cb11, .slice Bb11 mb11 ob11] 38)).cell? ⟨g9, 1, none⟩ = some (.slice P9 Pn9 Pc9) := OB9.2.cell 1
        have y9_2 : (w8.alloc (.cells #[.bool ba11, .slice Aa11 na11 ca11, .slice Ba11 ma11 oa11, .bool bb11, .slice Ab11 nb11 cb11, .slice Bb11 mb11 ob11] 38)).cell? ⟨g9, 2, none⟩ = some (.slice R9 Rn9 Rc9) := OB9.2.cell 2
        have y9_3 : (w8.alloc (.cells #[.bool ba11, .slice Aa11 na11 ca11, .slice Ba11 ma11 oa11, .bool bb11, .slice Ab11 nb11 cb11, .slice Bb11 mb11 ob11] 38)).cell? ⟨g9, 3, none⟩ = some (.bool sh9) := OB9.2.cell 3
        have y9_4 : (w8.alloc (.cells #[.bool ba11, .slice Aa11 na11 ca11, .slice Ba11 ma11 oa11, .bool bb11, .slice Ab11 nb11 cb11, .slice Bb11 mb11 ob11] 38)).cell? ⟨g9, 4, none⟩ = some (.slice U9 Un9 Uc9) := OB9.2.cell 4
        have y9_5 : (w8.alloc (.cells #[.bool ba11, .slice Aa11 na11 ca11, .slice Ba11 ma11 oa11, .bool bb11, .slice Ab11 nb11 cb11, .slice Bb11 mb11 ob11] 38)).cell? ⟨g9, 5, none⟩ = some (.slice V9 Vn9 Vc9) := OB9.2.cell 5
        have y9_f0 := OB9.2.frozen 0
        have y9_f1 := OB9.2.frozen 1
        have y9_f2 := OB9.2.frozen 2
        have y9_f3 := OB9.2.frozen 3
        have y9_f4 := OB9.2.frozen 4
        have y9_f5 := OB9.2.frozen 5
        go_wp2_with fail
        refine (spdiv_some _ _ _ p0 q0 p1 q1 107 (I7.sp HR0.out.2.1) (I9.sp HR1.out.2.1) (by decide) (by decide)).mono ?_
        rintro e w9 ⟨u9, er, xx, yy, MM, rfl, I12, P12⟩
        obtain ⟨ba12, Aa12, na12, ca12, Ba12, ma12, oa12, bb12, Ab12, nb12, cb12, Bb12, mb12, ob12, rfl, IL12, IH12⟩ := id I12
        clear y7_0 y7_f0 y7_1 y7_f1 y7_2 y7_f2 y7_3 y7_f3 y7_4 y7_f4 y7_5 y7_f5
        clear y9_0 y9_f0 y9_1 y9_f1 y9_2 y9_f2 y9_3 y9_f3 y9_4 y9_f4 y9_5 y9_f5
        replace OB11 := And.intro OB11.1 (OB11.2.on P12)
        replace B := B.trans P12
        replace I11 := I11.on P12
        have PA := (On.refl w9).alloc (.cells #[.bool ba12, .slice Aa12 na12 ca12, .slice Ba12 ma12 oa12, .bool bb12, .slice Ab12 nb12 cb12, .slice Bb12 mb12 ob12] 38)
        have B0_12 := B.size
        replace OB11 := And.intro OB11.1 (OB11.2.on PA)
        replace B := B.trans PA
        replace I11 := I11.on PA
        replace I12 := I12.on PA
        have OB12 : w.heap.size ≤ w9.heap.size ∧ _ := ⟨B0_12, Own.new w9 38 #[.bool ba12, .slice Aa12 na12 ca12, .slice Ba12 ma12 oa12, .bool bb12, .slice Ab12 nb12 cb12, .slice Bb12 mb12 ob12]⟩
        clear PA P12 IL12 IH12
        go_wp2
        go_ret
        exact ⟨rfl, B⟩
set_option maxRecDepth 100000 in
set_option maxHeartbeats 1600000 in
theorem inside_ok (w : World) (ba0 : Bool) (Aa0 : Option Addr) (na0 ca0 : Nat) (Ba0 : Option Addr) (ma0 oa0 : Nat) (bb0 : Bool) (Ab0 : Option Addr) (nb0 cb0 : Nat) (Bb0 : Option Addr) (mb0 ob0 : Nat) (xs0 ys0 us0 vs0 : List Nat) (R0 : Rd w Aa0 na0 ca0 xs0) (S0 : Rd w Ba0 ma0 oa0 ys0) (U0 : Rd w Ab0 nb0 cb0 us0) (V0 : Rd w Bb0 mb0 ob0 vs0) (ba1 : Bool) (Aa1 : Option Addr) (na1 ca1 : Nat) (Ba1 : Option Addr) (ma1 oa1 : Nat) (bb1 : Bool) (Ab1 : Option Addr) (nb1 cb1 : Nat) (Bb1 : Option Addr) (mb1 ob1 : Nat) (xs1 ys1 us1 vs1 : List Nat) (R1 : Rd w Aa1 na1 ca1 xs1) (S1 : Rd w Ba1 ma1 oa1 ys1) (U1 : Rd w Ab1 nb1 cb1 us1) (V1 : Rd w Bb1 mb1 ob1 vs1) (z0 z1 z2 z3 : Int) (hz : 0 ≤ z0 ∧ z0 ≤ 255 ∧ 0 ≤ z1 ∧ z1 ≤ 255 ∧ 0 ≤ z2 ∧ z2 ≤ 255 ∧ 0 ≤ z3 ∧ z3 ≤ 255) (hs : na0 ≤ 6 ∧ ma0 ≤ 6 ∧ nb0 ≤ 6 ∧ mb0 ≤ 6 ∧ na1 ≤ 6 ∧ ma1 ≤ 6 ∧ nb1 ≤ 6 ∧ mb1 ≤ 6) (lo0 hi0 : Rat) (Q0 : SRaw w (.agg #[.bool ba0, .slice Aa0 na0 ca0, .slice Ba0 ma0 oa0, .bool bb0, .slice Ab0 nb0 cb0, .slice Bb0 mb0 ob0]) lo0 hi0 true 6) (lo1 hi1 : Rat) (Q1 : SRaw w (.agg #[.bool ba1, .slice Aa1 na1 ca1, .slice Ba1 ma1 oa1, .bool bb1, .slice Ab1 nb1 cb1, .slice Bb1 mb1 ob1]) lo1 hi1 true 6) (hc : ¬ (lo1 ≤ 0 ∧ 0 ≤ hi1)) :
    Calls Try.prog 5 #[.agg #[.bool ba0, .slice Aa0 na0 ca0, .slice Ba0 ma0 oa0, .bool bb0, .slice Ab0 nb0 cb0, .slice Bb0 mb0 ob0], .agg #[.bool ba1, .slice Aa1 na1 ca1, .slice Ba1 ma1 oa1, .bool bb1, .slice Ab1 nb1 cb1, .slice Bb1 mb1 ob1], .agg #[.int .u8 z0, .int .u8 z1, .int .u8 z2, .int .u8 z3]] w fun e w' => e = .returned (.bool true) ∧ On w w' := by
  obtain ⟨I0, le0⟩ := raw_isS Q0
  have T0 := I0.sp le0
  obtain ⟨I1, le1⟩ := raw_isS Q1
  have T1 := I1.sp le1
  have HC := Lib.hid hc
  clear hc
  have HZ := Lib.hid hz
  clear hz
  obtain ⟨p0, ep⟩ : ∃ x, part lo0 hi0 ((lom z0 z1 : Rat) * (255 : Rat)⁻¹) = x := ⟨_, rfl⟩
  obtain ⟨q0, eq⟩ : ∃ x, part lo0 hi0 ((him z0 z1 : Rat) * (255 : Rat)⁻¹) = x := ⟨_, rfl⟩
  have HR0 := Lib.hid (two_in le0 HZ.out.1 HZ.out.2.1 HZ.out.2.2.1 HZ.out.2.2.2.1 ep eq)
  have HP0 := Lib.hid ep
  have HQ0 := Lib.hid eq
  clear ep eq
  obtain ⟨p1, ep⟩ : ∃ x, part lo1 hi1 ((lom z2 z3 : Rat) * (255 : Rat)⁻¹) = x := ⟨_, rfl⟩
  obtain ⟨q1, eq⟩ : ∃ x, part lo1 hi1 ((him z2 z3 : Rat) * (255 : Rat)⁻¹) = x := ⟨_, rfl⟩
  have HR1 := Lib.hid (two_in le1 HZ.out.2.2.2.2.1 HZ.out.2.2.2.2.2.1 HZ.out.2.2.2.2.2.2.1 HZ.out.2.2.2.2.2.2.2 ep eq)
  have HP1 := Lib.hid ep
  have HQ1 := Lib.hid eq
  clear ep eq
  have HSM : Hid (∀ p ∈ [(na0, ma0, nb0, mb0), (na1, ma1, nb1, mb1)], ¬ Big p) := Lib.hid (by intro p hp; simp at hp; rcases hp with rfl | rfl <;> (unfold Big; simp only; omega))
  have B : On w (((w.alloc (.cells #[.bool ba0, .slice Aa0 na0 ca0, .slice Ba0 ma0 oa0, .bool bb0, .slice Ab0 nb0 cb0, .slice Bb0 mb0 ob0] 38)).alloc (.cells #[.bool ba1, .slice Aa1 na1 ca1, .slice Ba1 ma1 oa1, .bool bb1, .slice Ab1 nb1 cb1, .slice Bb1 mb1 ob1] 38)).alloc (.cells #[.int .u8 z0, .int .u8 z1, .int .u8 z2, .int .u8 z3] 54)) := On.alloc (On.alloc (On.alloc (On.refl w) _) _) _
  have OB3 : w.heap.size ≤ w.heap.size ∧ Own (((w.alloc (.cells #[.bool ba0, .slice Aa0 na0 ca0, .slice Ba0 ma0 oa0, .bool bb0, .slice Ab0 nb0 cb0, .slice Bb0 mb0 ob0] 38)).alloc (.cells #[.bool ba1, .slice Aa1 na1 ca1, .slice Ba1 ma1 oa1, .bool bb1, .slice Ab1 nb1 cb1, .slice Bb1 mb1 ob1] 38)).alloc (.cells #[.int .u8 z0, .int .u8 z1, .int .u8 z2, .int .u8 z3] 54)) (w.heap.size) 38 #[.bool ba0, .slice Aa0 na0 ca0, .slice Ba0 ma0 oa0, .bool bb0, .slice Ab0 nb0 cb0, .slice Bb0 mb0 ob0] := ⟨by omega, (((Own.at_ w (w.heap.size) (by simp) 38 #[.bool ba0, .slice Aa0 na0 ca0, .slice Ba0 ma0 oa0, .bool bb0, .slice Ab0 nb0 cb0, .slice Bb0 mb0 ob0]).alloc (.cells #[.bool ba1, .slice Aa1 na1 ca1, .slice Ba1 ma1 oa1, .bool bb1, .slice Ab1 nb1 cb1, .slice Bb1 mb1 ob1] 38)).alloc (.cells #[.int .u8 z0, .int .u8 z1, .int .u8 z2, .int .u8 z3] 54))⟩
  have OB4 : w.heap.size ≤ w.heap.size + 1 ∧ Own (((w.alloc (.cells #[.bool ba0, .slice Aa0 na0 ca0, .slice Ba0 ma0 oa0, .bool bb0, .slice Ab0 nb0 cb0, .slice Bb0 mb0 ob0] 38)).alloc (.cells #[.bool ba1, .slice Aa1 na1 ca1, .slice Ba1 ma1 oa1, .bool bb1, .slice Ab1 nb1 cb1, .slice Bb1 mb1 ob1] 38)).alloc (.cells #[.int .u8 z0, .int .u8 z1, .int .u8 z2, .int .u8 z3] 54)) (w.heap.size + 1) 38 #[.bool ba1, .slice Aa1 na1 ca1, .slice Ba1 ma1 oa1, .bool bb1, .slice Ab1 nb1 cb1, .slice Bb1 mb1 ob1] := ⟨by omega, ((Own.at_ (w.alloc (.cells #[.bool ba0, .slice Aa0 na0 ca0, .slice Ba0 ma0 oa0, .bool bb0, .slice Ab0 nb0 cb0, .slice Bb0 mb0 ob0] 38)) (w.heap.size + 1) (by simp) 38 #[.bool ba1, .slice Aa1 na1 ca1, .slice Ba1 ma1 oa1, .bool bb1, .slice Ab1 nb1 cb1, .slice Bb1 mb1 ob1]).alloc (.cells #[.int .u8 z0, .int .u8 z1, .int .u8 z2, .int .u8 z3] 54))⟩
  have OB5 : w.heap.size ≤ w.heap.size + 2 ∧ Own (((w.alloc (.cells #[.bool ba0, .slice Aa0 na0 ca0, .slice Ba0 ma0 oa0, .bool bb0, .slice Ab0 nb0 cb0, .slice Bb0 mb0 ob0] 38)).alloc (.cells #[.bool ba1, .slice Aa1 na1 ca1, .slice Ba1 ma1 oa1, .bool bb1, .slice Ab1 nb1 cb1, .slice Bb1 mb1 ob1] 38)).alloc (.cells #[.int .u8 z0, .int .u8 z1, .int .u8 z2, .int .u8 z3] 54)) (w.heap.size + 2) 54 #[.int .u8 z0, .int .u8 z1, .int .u8 z2, .int .u8 z3] := ⟨by omega, (Own.at_ ((w.alloc (.cells #[.bool ba0, .slice Aa0 na0 ca0, .slice Ba0 ma0 oa0, .bool bb0, .slice Ab0 nb0 cb0, .slice Bb0 mb0 ob0] 38)).alloc (.cells #[.bool ba1, .slice Aa1 na1 ca1, .slice Ba1 ma1 oa1, .bool bb1, .slice Ab1 nb1 cb1, .slice Bb1 mb1 ob1] 38)) (w.heap.size + 2) (by simp) 54 #[.int .u8 z0, .int .u8 z1, .int .u8 z2, .int .u8 z3])⟩
  go_enter Try.func5, Try.ntmps5
  go_wp2_with fail
  refine (awake03 _).mono ?_
  rintro e w1 ⟨rfl, P1⟩
  replace OB3 := And.intro OB3.1 (OB3.2.on P1)
  replace OB4 := And.intro OB4.1 (OB4.2.on P1)
  replace OB5 := And.intro OB5.1 (OB5.2.on P1)
  replace B := B.trans P1
  have y3_0 : w1.cell? ⟨w.heap.size, 0, none⟩ = some (.bool ba0) := OB3.2.cell 0
  have y3_1 : w1.cell? ⟨w.heap.size, 1, none⟩ = some (.slice Aa0 na0 ca0) := OB3.2.cell 1
  have y3_2 : w1.cell? ⟨w.heap.size, 2, none⟩ = some (.slice Ba0 ma0 oa0) := OB3.2.cell 2
  have y3_3 : w1.cell? ⟨w.heap.size, 3, none⟩ = some (.bool bb0) := OB3.2.cell 3
  have y3_4 : w1.cell? ⟨w.heap.size, 4, none⟩ = some (.slice Ab0 nb0 cb0) := OB3.2.cell 4
  have y3_5 : w1.cell? ⟨w.heap.size, 5, none⟩ = some (.slice Bb0 mb0 ob0) := OB3.2.cell 5
  have y3_f0 := OB3.2.frozen 0
  have y3_f1 := OB3.2.frozen 1
  have y3_f2 := OB3.2.frozen 2
  have y3_f3 := OB3.2.frozen 3
  have y3_f4 := OB3.2.frozen 4
  have y3_f5 := OB3.2.frozen 5
  have y4_0 : w1.cell? ⟨w.heap.size + 1, 0, none⟩ = some (.bool ba1) := OB4.2.cell 0
  have y4_1 : w1.cell? ⟨w.heap.size + 1, 1, none⟩ = some (.slice Aa1 na1 ca1) := OB4.2.cell 1
  have y4_2 : w1.cell? ⟨w.heap.size + 1, 2, none⟩ = some (.slice Ba1 ma1 oa1) := OB4.2.cell 2
  have y4_3 : w1.cell? ⟨w.heap.size + 1, 3, none⟩ = some (.bool bb1) := OB4.2.cell 3
  have y4_4 : w1.cell? ⟨w.heap.size + 1, 4, none⟩ = some (.slice Ab1 nb1 cb1) := OB4.2.cell 4
  have y4_5 : w1.cell? ⟨w.heap.size + 1, 5, none⟩ = some (.slice Bb1 mb1 ob1) := OB4.2.cell 5
  have y4_f0 := OB4.2.frozen 0
  have y4_f1 := OB4.2.frozen 1
  have y4_f2 := OB4.2.frozen 2
  have y4_f3 := OB4.2.frozen 3
  have y4_f4 := OB4.2.frozen 4
  have y4_f5 := OB4.2.frozen 5
  have y5_0 : w1.cell? ⟨w.heap.size + 2, 0, none⟩ = some (.int .u8 z0) := OB5.2.cell 0
  have y5_1 : w1.cell? ⟨w.heap.size + 2, 1, none⟩ = some (.int .u8 z1) := OB5.2.cell 1
  have y5_2 : w1.cell? ⟨w.heap.size + 2, 2, none⟩ = some (.int .u8 z2) := OB5.2.cell 2
  have y5_3 : w1.cell? ⟨w.heap.size + 2, 3, none⟩ = some (.int .u8 z3) := OB5.2.cell 3
  have y5_f0 := OB5.2.frozen 0
  have y5_f1 := OB5.2.frozen 1
  have y5_f2 := OB5.2.frozen 2
  have y5_f3 := OB5.2.frozen 3
  go_wp2_with fail
  clear y3_0 y3_f0 y3_1 y3_f1 y3_2 y3_f2 y3_3 y3_f3 y3_4 y3_f4 y3_5 y3_f5
  clear y4_0 y4_f0 y4_1 y4_f1 y4_2 y4_f2 y4_3 y4_f3 y4_4 y4_f4 y4_5 y4_f5
  clear y5_0 y5_f0 y5_1 y5_f1 y5_2 y5_f2 y5_3 y5_f3
  have B1 := (On.refl w1).alloc (.cells #[.bool ba0, .slice Aa0 na0 ca0, .slice Ba0 ma0 oa0, .bool bb0, .slice Ab0 nb0 cb0, .slice Bb0 mb0 ob0, .bool ba1, .slice Aa1 na1 ca1, .slice Ba1 ma1 oa1, .bool bb1, .slice Ab1 nb1 cb1, .slice Bb1 mb1 ob1] 38)
  replace OB3 := And.intro OB3.1 (OB3.2.on B1)
  replace OB4 := And.intro OB4.1 (OB4.2.on B1)
  replace OB5 := And.intro OB5.1 (OB5.2.on B1)
  replace B := B.trans B1
  have hlens := slens2 ba0 Aa0 na0 ca0 Ba0 ma0 oa0 bb0 Ab0 nb0 cb0 Bb0 mb0 ob0 xs0 ys0 us0 vs0 (R0.on B) (S0.on B) (U0.on B) (V0.on B) ba1 Aa1 na1 ca1 Ba1 ma1 oa1 bb1 Ab1 nb1 cb1 Bb1 mb1 ob1 xs1 ys1 us1 vs1 (R1.on B) (S1.on B) (U1.on B) (V1.on B) (Own.new w1 38 #[.bool ba0, .slice Aa0 na0 ca0, .slice Ba0 ma0 oa0, .bool bb0, .slice Ab0 nb0 cb0, .slice Bb0 mb0 ob0, .bool ba1, .slice Aa1 na1 ca1, .slice Ba1 ma1 oa1, .bool bb1, .slice Ab1 nb1 cb1, .slice Bb1 mb1 ob1])
  refine (slarge_no _ _ 2 2 _ hlens rfl (by decide) (by decide) (by decide) HSM.out).mono ?_
  rintro e w2 ⟨rfl, P2⟩
  clear hlens B1 P1
  replace OB3 := And.intro OB3.1 (OB3.2.on P2)
  replace OB4 := And.intro OB4.1 (OB4.2.on P2)
  replace OB5 := And.intro OB5.1 (OB5.2.on P2)
  replace B := B.trans P2
  clear P2
  have y3_0 : w2.cell? ⟨w.heap.size, 0, none⟩ = some (.bool ba0) := OB3.2.cell 0
  have y3_1 : w2.cell? ⟨w.heap.size, 1, none⟩ = some (.slice Aa0 na0 ca0) := OB3.2.cell 1
  have y3_2 : w2.cell? ⟨w.heap.size, 2, none⟩ = some (.slice Ba0 ma0 oa0) := OB3.2.cell 2
  have y3_3 : w2.cell? ⟨w.heap.size, 3, none⟩ = some (.bool bb0) := OB3.2.cell 3
  have y3_4 : w2.cell? ⟨w.heap.size, 4, none⟩ = some (.slice Ab0 nb0 cb0) := OB3.2.cell 4
  have y3_5 : w2.cell? ⟨w.heap.size, 5, none⟩ = some (.slice Bb0 mb0 ob0) := OB3.2.cell 5
  have y3_f0 := OB3.2.frozen 0
  have y3_f1 := OB3.2.frozen 1
  have y3_f2 := OB3.2.frozen 2
  have y3_f3 := OB3.2.frozen 3
  have y3_f4 := OB3.2.frozen 4
  have y3_f5 := OB3.2.frozen 5
  go_wp2_with fail
  refine (svalid_any _ _ _ _ _ _ (Q0.on B) (by decide)).mono ?_
  rintro e wv0 ⟨rfl, PV⟩
  clear y3_0 y3_f0 y3_1 y3_f1 y3_2 y3_f2 y3_3 y3_f3 y3_4 y3_f4 y3_5 y3_f5
  replace OB3 := And.intro OB3.1 (OB3.2.on PV)
  replace OB4 := And.intro OB4.1 (OB4.2.on PV)
  replace OB5 := And.intro OB5.1 (OB5.2.on PV)
  replace B := B.trans PV
  clear PV
  have y4_0 : wv0.cell? ⟨w.heap.size + 1, 0, none⟩ = some (.bool ba1) := OB4.2.cell 0
  have y4_1 : wv0.cell? ⟨w.heap.size + 1, 1, none⟩ = some (.slice Aa1 na1 ca1) := OB4.2.cell 1
  have y4_2 : wv0.cell? ⟨w.heap.size + 1, 2, none⟩ = some (.slice Ba1 ma1 oa1) := OB4.2.cell 2
  have y4_3 : wv0.cell? ⟨w.heap.size + 1, 3, none⟩ = some (.bool bb1) := OB4.2.cell 3
  have y4_4 : wv0.cell? ⟨w.heap.size + 1, 4, none⟩ = some (.slice Ab1 nb1 cb1) := OB4.2.cell 4
  have y4_5 : wv0.cell? ⟨w.heap.size + 1, 5, none⟩ = some (.slice Bb1 mb1 ob1) := OB4.2.cell 5
  have y4_f0 := OB4.2.frozen 0
  have y4_f1 := OB4.2.frozen 1
  have y4_f2 := OB4.2.frozen 2
  have y4_f3 := OB4.2.frozen 3
  have y4_f4 := OB4.2.frozen 4
  have y4_f5 := OB4.2.frozen 5
  go_wp2_with fail
  refine (svalid_any _ _ _ _ _ _ (Q1.on B) (by decide)).mono ?_
  rintro e wv1 ⟨rfl, PV⟩
  clear y4_0 y4_f0 y4_1 y4_f1 y4_2 y4_f2 y4_3 y4_f3 y4_4 y4_f4 y4_5 y4_f5
  replace OB3 := And.intro OB3.1 (OB3.2.on PV)
  replace OB4 := And.intro OB4.1 (OB4.2.on PV)
  replace OB5 := And.intro OB5.1 (OB5.2.on PV)
  replace B := B.trans PV
  clear PV
  clear HSM
  go_wp2
  refine wp_region_facts (by kernel_rfl) w [Fact.eq (.agg #[.bool ba0, .slice Aa0 na0 ca0, .slice Ba0 ma0 oa0, .bool bb0, .slice Ab0 nb0 cb0, .slice Bb0 mb0 ob0]), Fact.eq (.pointer (some ⟨w.heap.size + 2, 0, none⟩)), Fact.eq (.int .u8 z0), Fact.eq (.pointer (some ⟨w.heap.size + 2, 1, none⟩)), Fact.eq (.int .u8 z1), Fact.eq (.int .u8 (lom z0 z1)), Fact.rat (p0) (53), Fact.eq (.agg #[.bool ba0, .slice Aa0 na0 ca0, .slice Ba0 ma0 oa0, .bool bb0, .slice Ab0 nb0 cb0, .slice Bb0 mb0 ob0]), Fact.eq (.pointer (some ⟨w.heap.size + 2, 0, none⟩)), Fact.eq (.int .u8 z0), Fact.eq (.pointer (some ⟨w.heap.size + 2, 1, none⟩)), Fact.eq (.int .u8 z1), Fact.eq (.int .u8 (him z0 z1)), Fact.rat (q0) (53), Fact.spE (p0) (q0) (107) (.nilIface), Fact.spE (p0) (q0) (107) (.nilIface), Fact.sp (p0) (q0) (107), Fact.eq (.nilIface), Fact.any, Fact.any, Fact.eq (.nilIface)] [Fact.any, Fact.any, Fact.any, Fact.sp (p0) (q0) (107)] [⟨21, 3, 38, 21, #[.bool ba0, .slice Aa0 na0 ca0, .slice Ba0 ma0 oa0, .bool bb0, .slice Ab0 nb0 cb0, .slice Bb0 mb0 ob0]⟩, ⟨21, 4, 38, 21, #[.bool ba1, .slice Aa1 na1 ca1, .slice Ba1 ma1 oa1, .bool bb1, .slice Ab1 nb1 cb1, .slice Bb1 mb1 ob1]⟩, ⟨21, 5, 54, 21, #[.int .u8 z0, .int .u8 z1, .int .u8 z2, .int .u8 z3]⟩, ⟨18, 7, 38, 19, #[.bool false, .slice none 0 0, .slice none 0 0, .bool false, .slice none 0 0, .slice none 0 0]⟩] [w.heap.size, w.heap.size + 1, w.heap.size + 2] [none, none, none, none, none, none, none, some 7, some 8, none, none, none, none, none, none, none, none, none, none, none, none, none, none, none, none, none, none, none, none, none, none, none, some 32, some 33, some 34, some 35, some 36, some 37, some 38, some 39, some 40, some 41, some 42, some 43, some 44, some 45, some 46, some 47, some 48, some 49, none, none, none, none, none, none, none, none, none, none, none, none, none, none, none, none, none, none, none, none, none, none, none, none, none, none, none, none, none, none, none, none, none, none, none, none, none, none, none, none, none, none, none, none, none, none, none, none, none, none, none, none, none, none, none, none, none, none, none, none, none, none, none, none, none, none, none, none, none, none, none, none, none, none, none, none, none, none, none, none, none, none, none, none, none, none, none, none, none, none, none, none, none, none, none, none, none, none, none, none, none, none, none, none, none] (by kernel_rfl) (by kernel_rfl) (by kernel_rfl) rfl B ?_ ?_ ?_ ?_ ?_
  · exact ⟨fun _ => ⟨by simp, rfl, OB3⟩, fun _ => ⟨by simp, rfl, OB4⟩, fun _ => ⟨by simp, rfl, OB5⟩, fun h => absurd h (by decide), trivial⟩
  · exact .inr (by simp <;> omega)
  · exact ⟨⟨noWords_S _ _ _ _ _ _ _ _ _ _ _ _ _ _, (.inl (Nat.le_refl _)), (.inl (Nat.le_refl _))⟩, ⟨noWords_S _ _ _ _ _ _ _ _ _ _ _ _ _ _, (.inl (Nat.le_refl _)), (.inl (Nat.le_refl _))⟩, ⟨noWords_4 _ _ _ _, (.inl (Nat.le_refl _)), (.inl (Nat.le_refl _))⟩, ⟨noWords_S _ _ _ _ _ _ _ _ _ _ _ _ _ _, (.inr ⟨fun _ _ => trivial, _, rfl, fun a w => ⟨rfl, do_value run_allocS⟩⟩), (.inr (store_obS (j := 16) (noWords_S _ _ _ _ _ _ _ _ _ _ _ _ _ _) rfl rfl rfl (by kernel_rfl) rfl rfl rfl))⟩, trivial⟩
  · refine ⟨?_, ?_, ?_, ?_, ?_, ?_, ?_, ?_, ?_, ?_, ?_, ?_, ?_, ?_, ?_, ?_, ?_, ?_, ?_, ?_, ?_, trivial⟩
    · exact .inr fun a w hp => ob_yes rfl (ob_loadSp (hp.box (k := 0) rfl (Nat.le_refl _) (.inl (Nat.le_refl _)) (by kernel_rfl) rfl).1 (hp.box (k := 0) rfl (Nat.le_refl _) (.inl (Nat.le_refl _)) (by kernel_rfl) rfl).2 rfl)
    · exact .inr fun a w hp => ob_yes rfl (ob_index4 (j := 0) (hp.box (k := 2) rfl (Nat.le_refl _) (.inl (Nat.le_refl _)) (by kernel_rfl) rfl).1 (by decide) rfl)
    · exact .inr fun a w hp => ob_yes rfl (ob_loadY (hp.fact 1 34 (by kernel_rfl) rfl) (hp.box (k := 2) rfl (Nat.le_refl _) (.inl (Nat.le_refl _)) (by kernel_rfl) rfl).2 rfl rfl)
    · exact .inr fun a w hp => ob_yes rfl (ob_index4 (j := 1) (hp.box (k := 2) rfl (Nat.le_refl _) (.inl (Nat.le_refl _)) (by kernel_rfl) rfl).1 (by decide) rfl)
    · exact .inr fun a w hp => ob_yes rfl (ob_loadY (hp.fact 3 36 (by kernel_rfl) rfl) (hp.box (k := 2) rfl (Nat.le_refl _) (.inl (Nat.le_refl _)) (by kernel_rfl) rfl).2 rfl rfl)
    · refine .inr fun a w hp => ob_yes rfl ?_
      have h35 : a.tmps.getD 35 undef = .int .u8 z0 := (hp.fact 2 35 (by kernel_rfl) rfl)
      have h37 : a.tmps.getD 37 undef = .int .u8 z1 := (hp.fact 4 37 (by kernel_rfl) rfl)
      unfold Does
      go_simp
      exact ⟨_, rfl, On.refl _, by show Value.int _ _ = Value.int _ _; first | rfl | exact congrArg (Value.int .u8) (by first | (unfold lom; omega) | (unfold him; omega))⟩
    · refine .inr fun a w hp => ob_yes rfl ?_
      have h33 : a.tmps.getD 33 undef = .agg #[.bool ba0, .slice Aa0 na0 ca0, .slice Ba0 ma0 oa0, .bool bb0, .slice Ab0 nb0 cb0, .slice Bb0 mb0 ob0] := (hp.fact 0 33 (by kernel_rfl) rfl)
      have h38 : a.tmps.getD 38 undef = .int .u8 (lom z0 z1) := (hp.fact 5 38 (by kernel_rfl) rfl)
      unfold Does
      go_simp
      refine (in_any _ _ lo0 hi0 (lom z0 z1) (I0.on hp.on) HR0.out.2.2.2.1.1 HR0.out.2.2.2.1.2).mono ?_
      rintro e w' ⟨u, rfl, I10, P10⟩
      rw [HP0.out] at I10
      exact ⟨_, rfl, P10, I10⟩
    · exact .inr fun a w hp => ob_yes rfl (ob_loadSp (hp.box (k := 0) rfl (Nat.le_refl _) (.inl (Nat.le_refl _)) (by kernel_rfl) rfl).1 (hp.box (k := 0) rfl (Nat.le_refl _) (.inl (Nat.le_refl _)) (by kernel_rfl) rfl).2 rfl)
    · exact .inr fun a w hp => ob_yes rfl (ob_index4 (j := 0) (hp.box (k := 2) rfl (Nat.le_refl _) (.inl (Nat.le_refl _)) (by kernel_rfl) rfl).1 (by decide) rfl)
    · exact .inr fun a w hp => ob_yes rfl (ob_loadY (hp.fact 8 41 (by kernel_rfl) rfl) (hp.box (k := 2) rfl (Nat.le_refl _) (.inl (Nat.le_refl _)) (by kernel_rfl) rfl).2 rfl rfl)
    · exact .inr fun a w hp => ob_yes rfl (ob_index4 (j := 1) (hp.box (k := 2) rfl (Nat.le_refl _) (.inl (Nat.le_refl _)) (by kernel_rfl) rfl).1 (by decide) rfl)
    · exact .inr fun a w hp => ob_yes rfl (ob_loadY (hp.fact 10 43 (by kernel_rfl) rfl) (hp.box (k := 2) rfl (Nat.le_refl _) (.inl (Nat.le_refl _)) (by kernel_rfl) rfl).2 rfl rfl)
    · refine .inr fun a w hp => ob_yes rfl ?_
      have h42 : a.tmps.getD 42 undef = .int .u8 z0 := (hp.fact 9 42 (by kernel_rfl) rfl)
      have h44 : a.tmps.getD 44 undef = .int .u8 z1 := (hp.fact 11 44 (by kernel_rfl) rfl)
      unfold Does
      go_simp
      exact ⟨_, rfl, On.refl _, by show Value.int _ _ = Value.int _ _; first | rfl | exact congrArg (Value.int .u8) (by first | (unfold lom; omega) | (unfold him; omega))⟩
    · refine .inr fun a w hp => ob_yes rfl ?_
      have h40 : a.tmps.getD 40 undef = .agg #[.bool ba0, .slice Aa0 na0 ca0, .slice Ba0 ma0 oa0, .bool bb0, .slice Ab0 nb0 cb0, .slice Bb0 mb0 ob0] := (hp.fact 7 40 (by kernel_rfl) rfl)
      have h45 : a.tmps.getD 45 undef = .int .u8 (him z0 z1) := (hp.fact 12 45 (by kernel_rfl) rfl)
      unfold Does
      go_simp
      refine (in_any _ _ lo0 hi0 (him z0 z1) (I0.on hp.on) HR0.out.2.2.2.2.1 HR0.out.2.2.2.2.2).mono ?_
      rintro e w' ⟨u, rfl, I10, P10⟩
      rw [HQ0.out] at I10
      exact ⟨_, rfl, P10, I10⟩
    · refine .inr fun a w hp => ob_yes rfl ?_
      have h39 : IsR w (a.tmps.getD 39 undef) (p0) (53) := (hp.fact 6 39 (by kernel_rfl) rfl)
      obtain ⟨v39, e39⟩ : ∃ v, a.tmps.getD 39 undef = v := ⟨_, rfl⟩
      rw [e39] at h39
      have h46 : IsR w (a.tmps.getD 46 undef) (q0) (53) := (hp.fact 13 46 (by kernel_rfl) rfl)
      obtain ⟨v46, e46⟩ : ∃ v, a.tmps.getD 46 undef = v := ⟨_, rfl⟩
      rw [e46] at h46
      unfold Does
      go_simp
      refine (smake_ok _ _ _ p0 q0 53 (IsR.fld h39) (IsR.fld h46) (by decide) (by decide) HR0.out.2.1).mono ?_
      rintro e w' ⟨u, rfl, I10, P10⟩
      exact ⟨_, rfl, P10, _, rfl, I10⟩
    · exact .inr fun a w hp => ob_yes rfl (ob_move (hp.fact 14 47 (by kernel_rfl) rfl))
    · refine .inr fun a w hp => ob_yes rfl ?_
      obtain ⟨u, e, h⟩ : ∃ u, a.tmps.getD 32 undef = .tuple #[u, .nilIface] ∧ IsS w u (p0) (q0) (107) := (hp.fact 15 32 (by kernel_rfl) rfl)
      exact ob_ext0 e h
    · refine .inr fun a w hp => ob_yes rfl ?_
      obtain ⟨u, e, h⟩ : ∃ u, a.tmps.getD 32 undef = .tuple #[u, .nilIface] ∧ IsS w u (p0) (q0) (107) := (hp.fact 15 32 (by kernel_rfl) rfl)
      exact ob_ext1 e rfl
    · exact .inl rfl
    · exact .inl rfl
    · exact .inr fun a w hp => ob_yes rfl (ob_assign (hp.fact 17 49 (by kernel_rfl) rfl))
  · intro f wr hon hk hf hb hap
    obtain ⟨q0, q1, q2, q3, qz⟩ := hb
    clear qz
    have O3 : Own wr (w.heap.size) 38 #[.bool ba0, .slice Aa0 na0 ca0, .slice Ba0 ma0 oa0, .bool bb0, .slice Ab0 nb0 cb0, .slice Bb0 mb0 ob0] := q0
    have c3_0 : wr.cell? ⟨w.heap.size, 0, none⟩ = some (.bool ba0) := O3.cell 0
    have z3_0 := O3.frozen 0
    have c3_1 : wr.cell? ⟨w.heap.size, 1, none⟩ = some (.slice Aa0 na0 ca0) := O3.cell 1
    have z3_1 := O3.frozen 1
    have c3_2 : wr.cell? ⟨w.heap.size, 2, none⟩ = some (.slice Ba0 ma0 oa0) := O3.cell 2
    have z3_2 := O3.frozen 2
    have c3_3 : wr.cell? ⟨w.heap.size, 3, none⟩ = some (.bool bb0) := O3.cell 3
    have z3_3 := O3.frozen 3
    have c3_4 : wr.cell? ⟨w.heap.size, 4, none⟩ = some (.slice Ab0 nb0 cb0) := O3.cell 4
    have z3_4 := O3.frozen 4
    have c3_5 : wr.cell? ⟨w.heap.size, 5, none⟩ = some (.slice Bb0 mb0 ob0) := O3.cell 5
    have z3_5 := O3.frozen 5
    clear q0
    have O4 : Own wr (w.heap.size + 1) 38 #[.bool ba1, .slice Aa1 na1 ca1, .slice Ba1 ma1 oa1, .bool bb1, .slice Ab1 nb1 cb1, .slice Bb1 mb1 ob1] := q1
    have c4_0 : wr.cell? ⟨w.heap.size + 1, 0, none⟩ = some (.bool ba1) := O4.cell 0
    have z4_0 := O4.frozen 0
    have c4_1 : wr.cell? ⟨w.heap.size + 1, 1, none⟩ = some (.slice Aa1 na1 ca1) := O4.cell 1
    have z4_1 := O4.frozen 1
    have c4_2 : wr.cell? ⟨w.heap.size + 1, 2, none⟩ = some (.slice Ba1 ma1 oa1) := O4.cell 2
    have z4_2 := O4.frozen 2
    have c4_3 : wr.cell? ⟨w.heap.size + 1, 3, none⟩ = some (.bool bb1) := O4.cell 3
    have z4_3 := O4.frozen 3
    have c4_4 : wr.cell? ⟨w.heap.size + 1, 4, none⟩ = some (.slice Ab1 nb1 cb1) := O4.cell 4
    have z4_4 := O4.frozen 4
    have c4_5 : wr.cell? ⟨w.heap.size + 1, 5, none⟩ = some (.slice Bb1 mb1 ob1) := O4.cell 5
    have z4_5 := O4.frozen 5
    clear q1
    have O5 : Own wr (w.heap.size + 2) 54 #[.int .u8 z0, .int .u8 z1, .int .u8 z2, .int .u8 z3] := q2
    have c5_0 : wr.cell? ⟨w.heap.size + 2, 0, none⟩ = some (.int .u8 z0) := O5.cell 0
    have z5_0 := O5.frozen 0
    have c5_1 : wr.cell? ⟨w.heap.size + 2, 1, none⟩ = some (.int .u8 z1) := O5.cell 1
    have z5_1 := O5.frozen 1
    have c5_2 : wr.cell? ⟨w.heap.size + 2, 2, none⟩ = some (.int .u8 z2) := O5.cell 2
    have z5_2 := O5.frozen 2
    have c5_3 : wr.cell? ⟨w.heap.size + 2, 3, none⟩ = some (.int .u8 z3) := O5.cell 3
    have z5_3 := O5.frozen 3
    clear q2
    obtain ⟨g7, e7, G7, q3⟩ := q3
    change f 7 = _ at e7
    obtain ⟨cur7, O7, I7⟩ : ∃ cur, Own wr (g7) 38 cur ∧ IsS wr (.agg cur) (p0) (q0) (107) := q3
    obtain ⟨sl7, P7, Pn7, Pc7, R7, Rn7, Rc7, sh7, U7, Un7, Uc7, V7, Vn7, Vc7, hz7, IL7, IH7⟩ := id I7
    injection hz7 with hz7
    subst hz7
    have c7_0 : wr.cell? ⟨g7, 0, none⟩ = some (.bool sl7) := O7.cell 0
    have z7_0 := O7.frozen 0
    have c7_1 : wr.cell? ⟨g7, 1, none⟩ = some (.slice P7 Pn7 Pc7) := O7.cell 1
    have z7_1 := O7.frozen 1
    have c7_2 : wr.cell? ⟨g7, 2, none⟩ = some (.slice R7 Rn7 Rc7) := O7.cell 2
    have z7_2 := O7.frozen 2
    have c7_3 : wr.cell? ⟨g7, 3, none⟩ = some (.bool sh7) := O7.cell 3
    have z7_3 := O7.frozen 3
    have c7_4 : wr.cell? ⟨g7, 4, none⟩ = some (.slice U7 Un7 Uc7) := O7.cell 4
    have z7_4 := O7.frozen 4
    have c7_5 : wr.cell? ⟨g7, 5, none⟩ = some (.slice V7 Vn7 Vc7) := O7.cell 5
    have z7_5 := O7.frozen 5
    have e8 : f 8 = .nilIface := hf 20 8 rfl
    have n0 := hap_ne (hap 3 0 _ _ rfl rfl (by decide) (of_decide_eq_true (by kernel_rfl))) (by kernel_rfl) (by kernel_rfl) e7 rfl
    have n1 := hap_ne (hap 3 1 _ _ rfl rfl (by decide) (of_decide_eq_true (by kernel_rfl))) (by kernel_rfl) (by kernel_rfl) e7 rfl
    have n2 := hap_ne (hap 3 2 _ _ rfl rfl (by decide) (of_decide_eq_true (by kernel_rfl))) (by kernel_rfl) (by kernel_rfl) e7 rfl
    clear hf hap
    simp only [fillL, e8]; simp only [e7]
    clear e8 e7
    have OB3 : w.heap.size ≤ w.heap.size ∧ Own wr (w.heap.size) 38 #[.bool ba0, .slice Aa0 na0 ca0, .slice Ba0 ma0 oa0, .bool bb0, .slice Ab0 nb0 cb0, .slice Bb0 mb0 ob0] := ⟨by omega, O3⟩
    clear c3_0 z3_0 c3_1 z3_1 c3_2 z3_2 c3_3 z3_3 c3_4 z3_4 c3_5 z3_5 O3
    have OB4 : w.heap.size ≤ w.heap.size + 1 ∧ Own wr (w.heap.size + 1) 38 #[.bool ba1, .slice Aa1 na1 ca1, .slice Ba1 ma1 oa1, .bool bb1, .slice Ab1 nb1 cb1, .slice Bb1 mb1 ob1] := ⟨by omega, O4⟩
    clear c4_0 z4_0 c4_1 z4_1 c4_2 z4_2 c4_3 z4_3 c4_4 z4_4 c4_5 z4_5 O4
    have OB5 : w.heap.size ≤ w.heap.size + 2 ∧ Own wr (w.heap.size + 2) 54 #[.int .u8 z0, .int .u8 z1, .int .u8 z2, .int .u8 z3] := ⟨by omega, O5⟩
    clear c5_0 z5_0 c5_1 z5_1 c5_2 z5_2 c5_3 z5_3 O5
    have OB7 : w.heap.size ≤ g7 ∧ Own wr g7 38 #[.bool sl7, .slice P7 Pn7 Pc7, .slice R7 Rn7 Rc7, .bool sh7, .slice U7 Un7 Uc7, .slice V7 Vn7 Vc7] := ⟨G7, O7⟩
    clear c7_0 z7_0 c7_1 z7_1 c7_2 z7_2 c7_3 z7_3 c7_4 z7_4 c7_5 z7_5 O7
    clear B
    have B := hon
    clear hon hk
    go_wp2
    refine wp_region_facts (by kernel_rfl) w [Fact.eq (.agg #[.bool ba1, .slice Aa1 na1 ca1, .slice Ba1 ma1 oa1, .bool bb1, .slice Ab1 nb1 cb1, .slice Bb1 mb1 ob1]), Fact.eq (.pointer (some ⟨w.heap.size + 2, 2, none⟩)), Fact.eq (.int .u8 z2), Fact.eq (.pointer (some ⟨w.heap.size + 2, 3, none⟩)), Fact.eq (.int .u8 z3), Fact.eq (.int .u8 (lom z2 z3)), Fact.rat (p1) (53), Fact.eq (.agg #[.bool ba1, .slice Aa1 na1 ca1, .slice Ba1 ma1 oa1, .bool bb1, .slice Ab1 nb1 cb1, .slice Bb1 mb1 ob1]), Fact.eq (.pointer (some ⟨w.heap.size + 2, 2, none⟩)), Fact.eq (.int .u8 z2), Fact.eq (.pointer (some ⟨w.heap.size + 2, 3, none⟩)), Fact.eq (.int .u8 z3), Fact.eq (.int .u8 (him z2 z3)), Fact.rat (q1) (53), Fact.spE (p1) (q1) (107) (.nilIface), Fact.spE (p1) (q1) (107) (.nilIface), Fact.sp (p1) (q1) (107), Fact.eq (.nilIface), Fact.any, Fact.any, Fact.eq (.nilIface)] [Fact.any, Fact.any, Fact.any, Fact.any, Fact.sp (p1) (q1) (107)] [⟨21, 3, 38, 21, #[.bool ba0, .slice Aa0 na0 ca0, .slice Ba0 ma0 oa0, .bool bb0, .slice Ab0 nb0 cb0, .slice Bb0 mb0 ob0]⟩, ⟨21, 4, 38, 21, #[.bool ba1, .slice Aa1 na1 ca1, .slice Ba1 ma1 oa1, .bool bb1, .slice Ab1 nb1 cb1, .slice Bb1 mb1 ob1]⟩, ⟨21, 5, 54, 21, #[.int .u8 z0, .int .u8 z1, .int .u8 z2, .int .u8 z3]⟩, ⟨21, 7, 38, 21, #[.bool sl7, .slice P7 Pn7 Pc7, .slice R7 Rn7 Rc7, .bool sh7, .slice U7 Un7 Uc7, .slice V7 Vn7 Vc7]⟩, ⟨18, 9, 38, 19, #[.bool false, .slice none 0 0, .slice none 0 0, .bool false, .slice none 0 0, .slice none 0 0]⟩] [w.heap.size, w.heap.size + 1, w.heap.size + 2, g7] [none, none, none, none, none, none, none, none, none, some 9, some 10, none, none, none, none, none, none, none, none, none, none, none, none, none, none, none, none, none, none, none, none, none, none, none, none, none, none, none, none, none, none, none, none, none, none, none, none, none, none, none, some 50, some 51, some 52, some 53, some 54, some 55, some 56, some 57, some 58, some 59, some 60, some 61, some 62, some 63, some 64, some 65, some 66, some 67, none, none, none, none, none, none, none, none, none, none, none, none, none, none, none, none, none, none, none, none, none, none, none, none, none, none, none, none, none, none, none, none, none, none, none, none, none, none, none, none, none, none, none, none, none, none, none, none, none, none, none, none, none, none, none, none, none, none, none, none, none, none, none, none, none, none, none, none, none, none, none, none, none, none, none, none, none, none, none, none, none, none, none, none, none, none, none] (by kernel_rfl) (by kernel_rfl) (by kernel_rfl) rfl B ?_ ?_ ?_ ?_ ?_
    · exact ⟨fun _ => ⟨by simp, rfl, OB3⟩, fun _ => ⟨by simp, rfl, OB4⟩, fun _ => ⟨by simp, rfl, OB5⟩, fun _ => ⟨by simp, rfl, OB7⟩, fun h => absurd h (by decide), trivial⟩
    · exact .inr (by simp <;> omega)
    · exact ⟨⟨noWords_S _ _ _ _ _ _ _ _ _ _ _ _ _ _, (.inl (Nat.le_refl _)), (.inl (Nat.le_refl _))⟩, ⟨noWords_S _ _ _ _ _ _ _ _ _ _ _ _ _ _, (.inl (Nat.le_refl _)), (.inl (Nat.le_refl _))⟩, ⟨noWords_4 _ _ _ _, (.inl (Nat.le_refl _)), (.inl (Nat.le_refl _))⟩, ⟨noWords_S _ _ _ _ _ _ _ _ _ _ _ _ _ _, (.inl (Nat.le_refl _)), (.inl (Nat.le_refl _))⟩, ⟨noWords_S _ _ _ _ _ _ _ _ _ _ _ _ _ _, (.inr ⟨fun _ _ => trivial, _, rfl, fun a w => ⟨rfl, do_value run_allocS⟩⟩), (.inr (store_obS (j := 16) (noWords_S _ _ _ _ _ _ _ _ _ _ _ _ _ _) rfl rfl rfl (by kernel_rfl) rfl rfl rfl))⟩, trivial⟩
    · refine ⟨?_, ?_, ?_, ?_, ?_, ?_, ?_, ?_, ?_, ?_, ?_, ?_, ?_, ?_, ?_, ?_, ?_, ?_, ?_, ?_, ?_, trivial⟩
      · exact .inr fun a w hp => ob_yes rfl (ob_loadSp (hp.box (k := 1) rfl (Nat.le_refl _) (.inl (Nat.le_refl _)) (by kernel_rfl) rfl).1 (hp.box (k := 1) rfl (Nat.le_refl _) (.inl (Nat.le_refl _)) (by kernel_rfl) rfl).2 rfl)
      · exact .inr fun a w hp => ob_yes rfl (ob_index4 (j := 2) (hp.box (k := 2) rfl (Nat.le_refl _) (.inl (Nat.le_refl _)) (by kernel_rfl) rfl).1 (by decide) rfl)
      · exact .inr fun a w hp => ob_yes rfl (ob_loadY (hp.fact 1 52 (by kernel_rfl) rfl) (hp.box (k := 2) rfl (Nat.le_refl _) (.inl (Nat.le_refl _)) (by kernel_rfl) rfl).2 rfl rfl)
      · exact .inr fun a w hp => ob_yes rfl (ob_index4 (j := 3) (hp.box (k := 2) rfl (Nat.le_refl _) (.inl (Nat.le_refl _)) (by kernel_rfl) rfl).1 (by decide) rfl)
      · exact .inr fun a w hp => ob_yes rfl (ob_loadY (hp.fact 3 54 (by kernel_rfl) rfl) (hp.box (k := 2) rfl (Nat.le_refl _) (.inl (Nat.le_refl _)) (by kernel_rfl) rfl).2 rfl rfl)
      · refine .inr fun a w hp => ob_yes rfl ?_
        have h53 : a.tmps.getD 53 undef = .int .u8 z2 := (hp.fact 2 53 (by kernel_rfl) rfl)
        have h55 : a.tmps.getD 55 undef = .int .u8 z3 := (hp.fact 4 55 (by kernel_rfl) rfl)
        unfold Does
        go_simp
        exact ⟨_, rfl, On.refl _, by show Value.int _ _ = Value.int _ _; first | rfl | exact congrArg (Value.int .u8) (by first | (unfold lom; omega) | (unfold him; omega))⟩
      · refine .inr fun a w hp => ob_yes rfl ?_
        have h51 : a.tmps.getD 51 undef = .agg #[.bool ba1, .slice Aa1 na1 ca1, .slice Ba1 ma1 oa1, .bool bb1, .slice Ab1 nb1 cb1, .slice Bb1 mb1 ob1] := (hp.fact 0 51 (by kernel_rfl) rfl)
        have h56 : a.tmps.getD 56 undef = .int .u8 (lom z2 z3) := (hp.fact 5 56 (by kernel_rfl) rfl)
        unfold Does
        go_simp
        refine (in_any _ _ lo1 hi1 (lom z2 z3) (I1.on hp.on) HR1.out.2.2.2.1.1 HR1.out.2.2.2.1.2).mono ?_
        rintro e w' ⟨u, rfl, I10, P10⟩
        rw [HP1.out] at I10
        exact ⟨_, rfl, P10, I10⟩
      · exact .inr fun a w hp => ob_yes rfl (ob_loadSp (hp.box (k := 1) rfl (Nat.le_refl _) (.inl (Nat.le_refl _)) (by kernel_rfl) rfl).1 (hp.box (k := 1) rfl (Nat.le_refl _) (.inl (Nat.le_refl _)) (by kernel_rfl) rfl).2 rfl)
      · exact .inr fun a w hp => ob_yes rfl (ob_index4 (j := 2) (hp.box (k := 2) rfl (Nat.le_refl _) (.inl (Nat.le_refl _)) (by kernel_rfl) rfl).1 (by decide) rfl)
      · exact .inr fun a w hp => ob_yes rfl (ob_loadY (hp.fact 8 59 (by kernel_rfl) rfl) (hp.box (k := 2) rfl (Nat.le_refl _) (.inl (Nat.le_refl _)) (by kernel_rfl) rfl).2 rfl rfl)
      · exact .inr fun a w hp => ob_yes rfl (ob_index4 (j := 3) (hp.box (k := 2) rfl (Nat.le_refl _) (.inl (Nat.le_refl _)) (by kernel_rfl) rfl).1 (by decide) rfl)
      · exact .inr fun a w hp => ob_yes rfl (ob_loadY (hp.fact 10 61 (by kernel_rfl) rfl) (hp.box (k := 2) rfl (Nat.le_refl _) (.inl (Nat.le_refl _)) (by kernel_rfl) rfl).2 rfl rfl)
      · refine .inr fun a w hp => ob_yes rfl ?_
        have h60 : a.tmps.getD 60 undef = .int .u8 z2 := (hp.fact 9 60 (by kernel_rfl) rfl)
        have h62 : a.tmps.getD 62 undef = .int .u8 z3 := (hp.fact 11 62 (by kernel_rfl) rfl)
        unfold Does
        go_simp
        exact ⟨_, rfl, On.refl _, by show Value.int _ _ = Value.int _ _; first | rfl | exact congrArg (Value.int .u8) (by first | (unfold lom; omega) | (unfold him; omega))⟩
      · refine .inr fun a w hp => ob_yes rfl ?_
        have h58 : a.tmps.getD 58 undef = .agg #[.bool ba1, .slice Aa1 na1 ca1, .slice Ba1 ma1 oa1, .bool bb1, .slice Ab1 nb1 cb1, .slice Bb1 mb1 ob1] := (hp.fact 7 58 (by kernel_rfl) rfl)
        have h63 : a.tmps.getD 63 undef = .int .u8 (him z2 z3) := (hp.fact 12 63 (by kernel_rfl) rfl)
        unfold Does
        go_simp
        refine (in_any _ _ lo1 hi1 (him z2 z3) (I1.on hp.on) HR1.out.2.2.2.2.1 HR1.out.2.2.2.2.2).mono ?_
        rintro e w' ⟨u, rfl, I10, P10⟩
        rw [HQ1.out] at I10
        exact ⟨_, rfl, P10, I10⟩
      · refine .inr fun a w hp => ob_yes rfl ?_
        have h57 : IsR w (a.tmps.getD 57 undef) (p1) (53) := (hp.fact 6 57 (by kernel_rfl) rfl)
        obtain ⟨v57, e57⟩ : ∃ v, a.tmps.getD 57 undef = v := ⟨_, rfl⟩
        rw [e57] at h57
        have h64 : IsR w (a.tmps.getD 64 undef) (q1) (53) := (hp.fact 13 64 (by kernel_rfl) rfl)
        obtain ⟨v64, e64⟩ : ∃ v, a.tmps.getD 64 undef = v := ⟨_, rfl⟩
        rw [e64] at h64
        unfold Does
        go_simp
        refine (smake_ok _ _ _ p1 q1 53 (IsR.fld h57) (IsR.fld h64) (by decide) (by decide) HR1.out.2.1).mono ?_
        rintro e w' ⟨u, rfl, I10, P10⟩
        exact ⟨_, rfl, P10, _, rfl, I10⟩
      · exact .inr fun a w hp => ob_yes rfl (ob_move (hp.fact 14 65 (by kernel_rfl) rfl))
      · refine .inr fun a w hp => ob_yes rfl ?_
        obtain ⟨u, e, h⟩ : ∃ u, a.tmps.getD 50 undef = .tuple #[u, .nilIface] ∧ IsS w u (p1) (q1) (107) := (hp.fact 15 50 (by kernel_rfl) rfl)
        exact ob_ext0 e h
      · refine .inr fun a w hp => ob_yes rfl ?_
        obtain ⟨u, e, h⟩ : ∃ u, a.tmps.getD 50 undef = .tuple #[u, .nilIface] ∧ IsS w u (p1) (q1) (107) := (hp.fact 15 50 (by kernel_rfl) rfl)
        exact ob_ext1 e rfl
      · exact .inl rfl
      · exact .inl rfl
      · exact .inr fun a w hp => ob_yes rfl (ob_assign (hp.fact 17 67 (by kernel_rfl) rfl))
    · intro f wq hon hk hf hb hap
      obtain ⟨q0, q1, q2, q3, q4, qz⟩ := hb
      clear qz
      have O3 : Own wq (w.heap.size) 38 #[.bool ba0, .slice Aa0 na0 ca0, .slice Ba0 ma0 oa0, .bool bb0, .slice Ab0 nb0 cb0, .slice Bb0 mb0 ob0] := q0
      have c3_0 : wq.cell? ⟨w.heap.size, 0, none⟩ = some (.bool ba0) := O3.cell 0
      have z3_0 := O3.frozen 0
      have c3_1 : wq.cell? ⟨w.heap.size, 1, none⟩ = some (.slice Aa0 na0 ca0) := O3.cell 1
      have z3_1 := O3.frozen 1
      have c3_2 : wq.cell? ⟨w.heap.size, 2, none⟩ = some (.slice Ba0 ma0 oa0) := O3.cell 2
      have z3_2 := O3.frozen 2
      have c3_3 : wq.cell? ⟨w.heap.size, 3, none⟩ = some (.bool bb0) := O3.cell 3
      have z3_3 := O3.frozen 3
      have c3_4 : wq.cell? ⟨w.heap.size, 4, none⟩ = some (.slice Ab0 nb0 cb0) := O3.cell 4
      have z3_4 := O3.frozen 4
      have c3_5 : wq.cell? ⟨w.heap.size, 5, none⟩ = some (.slice Bb0 mb0 ob0) := O3.cell 5
      have z3_5 := O3.frozen 5
      clear q0
      have O4 : Own wq (w.heap.size + 1) 38 #[.bool ba1, .slice Aa1 na1 ca1, .slice Ba1 ma1 oa1, .bool bb1, .slice Ab1 nb1 cb1, .slice Bb1 mb1 ob1] := q1
      have c4_0 : wq.cell? ⟨w.heap.size + 1, 0, none⟩ = some (.bool ba1) := O4.cell 0
      have z4_0 := O4.frozen 0
      have c4_1 : wq.cell? ⟨w.heap.size + 1, 1, none⟩ = some (.slice Aa1 na1 ca1) := O4.cell 1
      have z4_1 := O4.frozen 1
      have c4_2 : wq.cell? ⟨w.heap.size + 1, 2, none⟩ = some (.slice Ba1 ma1 oa1) := O4.cell 2
      have z4_2 := O4.frozen 2
      have c4_3 : wq.cell? ⟨w.heap.size + 1, 3, none⟩ = some (.bool bb1) := O4.cell 3
      have z4_3 := O4.frozen 3
      have c4_4 : wq.cell? ⟨w.heap.size + 1, 4, none⟩ = some (.slice Ab1 nb1 cb1) := O4.cell 4
      have z4_4 := O4.frozen 4
      have c4_5 : wq.cell? ⟨w.heap.size + 1, 5, none⟩ = some (.slice Bb1 mb1 ob1) := O4.cell 5
      have z4_5 := O4.frozen 5
      clear q1
      have O5 : Own wq (w.heap.size + 2) 54 #[.int .u8 z0, .int .u8 z1, .int .u8 z2, .int .u8 z3] := q2
      have c5_0 : wq.cell? ⟨w.heap.size + 2, 0, none⟩ = some (.int .u8 z0) := O5.cell 0
      have z5_0 := O5.frozen 0
      have c5_1 : wq.cell? ⟨w.heap.size + 2, 1, none⟩ = some (.int .u8 z1) := O5.cell 1
      have z5_1 := O5.frozen 1
      have c5_2 : wq.cell? ⟨w.heap.size + 2, 2, none⟩ = some (.int .u8 z2) := O5.cell 2
      have z5_2 := O5.frozen 2
      have c5_3 : wq.cell? ⟨w.heap.size + 2, 3, none⟩ = some (.int .u8 z3) := O5.cell 3
      have z5_3 := O5.frozen 3
      clear q2
      have O7 : Own wq (g7) 38 #[.bool sl7, .slice P7 Pn7 Pc7, .slice R7 Rn7 Rc7, .bool sh7, .slice U7 Un7 Uc7, .slice V7 Vn7 Vc7] := q3
      have c7_0 : wq.cell? ⟨g7, 0, none⟩ = some (.bool sl7) := O7.cell 0
      have z7_0 := O7.frozen 0
      have c7_1 : wq.cell? ⟨g7, 1, none⟩ = some (.slice P7 Pn7 Pc7) := O7.cell 1
      have z7_1 := O7.frozen 1
      have c7_2 : wq.cell? ⟨g7, 2, none⟩ = some (.slice R7 Rn7 Rc7) := O7.cell 2
      have z7_2 := O7.frozen 2
      have c7_3 : wq.cell? ⟨g7, 3, none⟩ = some (.bool sh7) := O7.cell 3
      have z7_3 := O7.frozen 3
      have c7_4 : wq.cell? ⟨g7, 4, none⟩ = some (.slice U7 Un7 Uc7) := O7.cell 4
      have z7_4 := O7.frozen 4
      have c7_5 : wq.cell? ⟨g7, 5, none⟩ = some (.slice V7 Vn7 Vc7) := O7.cell 5
      have z7_5 := O7.frozen 5
      clear q3
      obtain ⟨g9, e9, G9, q4⟩ := q4
      change f 9 = _ at e9
      obtain ⟨cur9, O9, I9⟩ : ∃ cur, Own wq (g9) 38 cur ∧ IsS wq (.agg cur) (p1) (q1) (107) := q4
      obtain ⟨sl9, P9, Pn9, Pc9, R9, Rn9, Rc9, sh9, U9, Un9, Uc9, V9, Vn9, Vc9, hz9, IL9, IH9⟩ := id I9
      injection hz9 with hz9
      subst hz9
      have c9_0 : wq.cell? ⟨g9, 0, none⟩ = some (.bool sl9) := O9.cell 0
      have z9_0 := O9.frozen 0
      have c9_1 : wq.cell? ⟨g9, 1, none⟩ = some (.slice P9 Pn9 Pc9) := O9.cell 1
      have z9_1 := O9.frozen 1
      have c9_2 : wq.cell? ⟨g9, 2, none⟩ = some (.slice R9 Rn9 Rc9) := O9.cell 2
      have z9_2 := O9.frozen 2
      have c9_3 : wq.cell? ⟨g9, 3, none⟩ = some (.bool sh9) := O9.cell 3
      have z9_3 := O9.frozen 3
      have c9_4 : wq.cell? ⟨g9, 4, none⟩ = some (.slice U9 Un9 Uc9) := O9.cell 4
      have z9_4 := O9.frozen 4
      have c9_5 : wq.cell? ⟨g9, 5, none⟩ = some (.slice V9 Vn9 Vc9) := O9.cell 5
      have z9_5 := O9.frozen 5
      have e10 : f 10 = .nilIface := hf 20 10 rfl
      clear hf hap
      simp only [fillL, e10]; simp only [e9]
      clear e10 e9
      replace I7 := I7.kept hk
      have OB3 : w.heap.size ≤ w.heap.size ∧ Own wq (w.heap.size) 38 #[.bool ba0, .slice Aa0 na0 ca0, .slice Ba0 ma0 oa0, .bool bb0, .slice Ab0 nb0 cb0, .slice Bb0 mb0 ob0] := ⟨by omega, O3⟩
      clear c3_0 z3_0 c3_1 z3_1 c3_2 z3_2 c3_3 z3_3 c3_4 z3_4 c3_5 z3_5 O3
      have OB4 : w.heap.size ≤ w.heap.size + 1 ∧ Own wq (w.heap.size + 1) 38 #[.bool ba1, .slice Aa1 na1 ca1, .slice Ba1 ma1 oa1, .bool bb1, .slice Ab1 nb1 cb1, .slice Bb1 mb1 ob1] := ⟨by omega, O4⟩
      clear c4_0 z4_0 c4_1 z4_1 c4_2 z4_2 c4_3 z4_3 c4_4 z4_4 c4_5 z4_5 O4
      clear c5_0 z5_0 c5_1 z5_1 c5_2 z5_2 c5_3 z5_3 O5 OB5 n0 n1 n2
      have OB7 : w.heap.size ≤ g7 ∧ Own wq g7 38 #[.bool sl7, .slice P7 Pn7 Pc7, .slice R7 Rn7 Rc7, .bool sh7, .slice U7 Un7 Uc7, .slice V7 Vn7 Vc7] := ⟨OB7.1, O7⟩
      clear c7_0 z7_0 c7_1 z7_1 c7_2 z7_2 c7_3 z7_3 c7_4 z7_4 c7_5 z7_5 O7
      have OB9 : w.heap.size ≤ g9 ∧ Own wq g9 38 #[.bool sl9, .slice P9 Pn9 Pc9, .slice R9 Rn9 Rc9, .bool sh9, .slice U9 Un9 Uc9, .slice V9 Vn9 Vc9] := ⟨G9, O9⟩
      clear c9_0 z9_0 c9_1 z9_1 c9_2 z9_2 c9_3 z9_3 c9_4 z9_4 c9_5 z9_5 O9
      clear B
      have B := hon
      clear hon hk
      have y3_0 : wq.cell? ⟨w.heap.size, 0, none⟩ = some (.bool ba0) := OB3.2.cell 0
      have y3_1 : wq.cell? ⟨w.heap.size, 1, none⟩ = some (.slice Aa0 na0 ca0) := OB3.2.cell 1
      have y3_2 : wq.cell? ⟨w.heap.size, 2, none⟩ = some (.slice Ba0 ma0 oa0) := OB3.2.cell 2
      have y3_3 : wq.cell? ⟨w.heap.size, 3, none⟩ = some (.bool bb0) := OB3.2.cell 3
      have y3_4 : wq.cell? ⟨w.heap.size, 4, none⟩ = some (.slice Ab0 nb0 cb0) := OB3.2.cell 4
      have y3_5 : wq.cell? ⟨w.heap.size, 5, none⟩ = some (.slice Bb0 mb0 ob0) := OB3.2.cell 5
      have y3_f0 := OB3.2.frozen 0
      have y3_f1 := OB3.2.frozen 1
      have y3_f2 := OB3.2.frozen 2
      have y3_f3 := OB3.2.frozen 3
      have y3_f4 := OB3.2.frozen 4
      have y3_f5 := OB3.2.frozen 5
      have y7_0 : wq.cell? ⟨g7, 0, none⟩ = some (.bool sl7) := OB7.2.cell 0
      have y7_1 : wq.cell? ⟨g7, 1, none⟩ = some (.slice P7 Pn7 Pc7) := OB7.2.cell 1
      have y7_2 : wq.cell? ⟨g7, 2, none⟩ = some (.slice R7 Rn7 Rc7) := OB7.2.cell 2
      have y7_3 : wq.cell? ⟨g7, 3, none⟩ = some (.bool sh7) := OB7.2.cell 3
      have y7_4 : wq.cell? ⟨g7, 4, none⟩ = some (.slice U7 Un7 Uc7) := OB7.2.cell 4
      have y7_5 : wq.cell? ⟨g7, 5, none⟩ = some (.slice V7 Vn7 Vc7) := OB7.2.cell 5
      have y7_f0 := OB7.2.frozen 0
      have y7_f1 := OB7.2.frozen 1
      have y7_f2 := OB7.2.frozen 2
      have y7_f3 := OB7.2.frozen 3
      have y7_f4 := OB7.2.frozen 4
      have y7_f5 := OB7.2.frozen 5
      go_wp2_with fail
      refine (spins_big _ _ _ p0 q0 lo0 hi0 107 (I7.sp HR0.out.2.1) ((T0.on B).wide (by decide)) (by decide) (by decide)).mono ?_
      rintro e w5 ⟨rfl, P5⟩
      rw [show (decide (lo0 ≤ p0) && decide (q0 ≤ hi0)) = true from ins_true HR0.out.1 HR0.out.2.2.1]
      clear y3_0 y3_f0 y3_1 y3_f1 y3_2 y3_f2 y3_3 y3_f3 y3_4 y3_f4 y3_5 y3_f5
      clear y7_0 y7_f0 y7_1 y7_f1 y7_2 y7_f2 y7_3 y7_f3 y7_4 y7_f4 y7_5 y7_f5
      replace OB3 := And.intro OB3.1 (OB3.2.on P5)
      replace OB4 := And.intro OB4.1 (OB4.2.on P5)
      replace OB7 := And.intro OB7.1 (OB7.2.on P5)
      replace OB9 := And.intro OB9.1 (OB9.2.on P5)
      replace B := B.trans P5
      replace I7 := I7.on P5
      replace I9 := I9.on P5
      clear P5
      have y4_0 : w5.cell? ⟨w.heap.size + 1, 0, none⟩ = some (.bool ba1) := OB4.2.cell 0
      have y4_1 : w5.cell? ⟨w.heap.size + 1, 1, none⟩ = some (.slice Aa1 na1 ca1) := OB4.2.cell 1
      have y4_2 : w5.cell? ⟨w.heap.size + 1, 2, none⟩ = some (.slice Ba1 ma1 oa1) := OB4.2.cell 2
      have y4_3 : w5.cell? ⟨w.heap.size + 1, 3, none⟩ = some (.bool bb1) := OB4.2.cell 3
      have y4_4 : w5.cell? ⟨w.heap.size + 1, 4, none⟩ = some (.slice Ab1 nb1 cb1) := OB4.2.cell 4
      have y4_5 : w5.cell? ⟨w.heap.size + 1, 5, none⟩ = some (.slice Bb1 mb1 ob1) := OB4.2.cell 5
      have y4_f0 := OB4.2.frozen 0
      have y4_f1 := OB4.2.frozen 1
      have y4_f2 := OB4.2.frozen 2
      have y4_f3 := OB4.2.frozen 3
      have y4_f4 := OB4.2.frozen 4
      have y4_f5 := OB4.2.frozen 5
      have y9_0 : w5.cell? ⟨g9, 0, none⟩ = some (.bool sl9) := OB9.2.cell 0
      have y9_1 : w5.cell? ⟨g9, 1, none⟩ = some (.slice P9 Pn9 Pc9) := OB9.2.cell 1
      have y9_2 : w5.cell? ⟨g9, 2, none⟩ = some (.slice R9 Rn9 Rc9) := OB9.2.cell 2
      have y9_3 : w5.cell? ⟨g9, 3, none⟩ = some (.bool sh9) := OB9.2.cell 3
      have y9_4 : w5.cell? ⟨g9, 4, none⟩ = some (.slice U9 Un9 Uc9) := OB9.2.cell 4
      have y9_5 : w5.cell? ⟨g9, 5, none⟩ = some (.slice V9 Vn9 Vc9) := OB9.2.cell 5
      have y9_f0 := OB9.2.frozen 0
      have y9_f1 := OB9.2.frozen 1
      have y9_f2 := OB9.2.frozen 2
      have y9_f3 := OB9.2.frozen 3
      have y9_f4 := OB9.2.frozen 4
      have y9_f5 := OB9.2.frozen 5
      go_wp2_with fail
      refine (spins_big _ _ _ p1 q1 lo1 hi1 107 (I9.sp HR1.out.2.1) ((T1.on B).wide (by decide)) (by decide) (by decide)).mono ?_
      rintro e w6 ⟨rfl, P6⟩
      rw [show (decide (lo1 ≤ p1) && decide (q1 ≤ hi1)) = true from ins_true HR1.out.1 HR1.out.2.2.1]
      clear y4_0 y4_f0 y4_1 y4_f1 y4_2 y4_f2 y4_3 y4_f3 y4_4 y4_f4 y4_5 y4_f5
      clear y9_0 y9_f0 y9_1 y9_f1 y9_2 y9_f2 y9_3 y9_f3 y9_4 y9_f4 y9_5 y9_f5
      replace OB3 := And.intro OB3.1 (OB3.2.on P6)
      replace OB4 := And.intro OB4.1 (OB4.2.on P6)
      replace OB7 := And.intro OB7.1 (OB7.2.on P6)
      replace OB9 := And.intro OB9.1 (OB9.2.on P6)
      replace B := B.trans P6
      replace I7 := I7.on P6
      replace I9 := I9.on P6
      clear P6
      go_wp2
      refine wp_region_facts (by kernel_rfl) w [Fact.eq (.agg #[.bool sl7, .slice P7 Pn7 Pc7, .slice R7 Rn7 Rc7, .bool sh7, .slice U7 Un7 Uc7, .slice V7 Vn7 Vc7]), Fact.eq (.agg #[.bool sl9, .slice P9 Pn9 Pc9, .slice R9 Rn9 Rc9, .bool sh9, .slice U9 Un9 Uc9, .slice V9 Vn9 Vc9]), Fact.sp (p0 + p1) (q0 + q1) (215), Fact.eq (.agg #[.bool ba0, .slice Aa0 na0 ca0, .slice Ba0 ma0 oa0, .bool bb0, .slice Ab0 nb0 cb0, .slice Bb0 mb0 ob0]), Fact.eq (.agg #[.bool ba1, .slice Aa1 na1 ca1, .slice Ba1 ma1 oa1, .bool bb1, .slice Ab1 nb1 cb1, .slice Bb1 mb1 ob1]), Fact.sp (lo0 + lo1) (hi0 + hi1) (13), Fact.eq (.bool true), Fact.eq (.bool false), Fact.eq (.bool false), Fact.eq (.agg #[.bool sl7, .slice P7 Pn7 Pc7, .slice R7 Rn7 Rc7, .bool sh7, .slice U7 Un7 Uc7, .slice V7 Vn7 Vc7]), Fact.eq (.agg #[.bool sl9, .slice P9 Pn9 Pc9, .slice R9 Rn9 Rc9, .bool sh9, .slice U9 Un9 Uc9, .slice V9 Vn9 Vc9]), Fact.sp (p0 - q1) (q0 - p1) (215), Fact.eq (.agg #[.bool ba0, .slice Aa0 na0 ca0, .slice Ba0 ma0 oa0, .bool bb0, .slice Ab0 nb0 cb0, .slice Bb0 mb0 ob0]), Fact.eq (.agg #[.bool ba1, .slice Aa1 na1 ca1, .slice Ba1 ma1 oa1, .bool bb1, .slice Ab1 nb1 cb1, .slice Bb1 mb1 ob1]), Fact.sp (lo0 - hi1) (hi0 - lo1) (13), Fact.eq (.bool true), Fact.eq (.bool false), Fact.eq (.bool false), Fact.eq (.bool false), Fact.eq (.agg #[.bool sl7, .slice P7 Pn7 Pc7, .slice R7 Rn7 Rc7, .bool sh7, .slice U7 Un7 Uc7, .slice V7 Vn7 Vc7]), Fact.eq (.agg #[.bool sl9, .slice P9 Pn9 Pc9, .slice R9 Rn9 Rc9, .bool sh9, .slice U9 Un9 Uc9, .slice V9 Vn9 Vc9]), Fact.sp (prodLo p0 q0 p1 q1) (prodHi p0 q0 p1 q1) (429), Fact.eq (.agg #[.bool ba0, .slice Aa0 na0 ca0, .slice Ba0 ma0 oa0, .bool bb0, .slice Ab0 nb0 cb0, .slice Bb0 mb0 ob0]), Fact.eq (.agg #[.bool ba1, .slice Aa1 na1 ca1, .slice Ba1 ma1 oa1, .bool bb1, .slice Ab1 nb1 cb1, .slice Bb1 mb1 ob1]), Fact.sp (prodLo lo0 hi0 lo1 hi1) (prodHi lo0 hi0 lo1 hi1) (25), Fact.eq (.bool true), Fact.eq (.bool false), Fact.eq (.bool false), Fact.eq (.bool false), Fact.eq (.agg #[.bool sl7, .slice P7 Pn7 Pc7, .slice R7 Rn7 Rc7, .bool sh7, .slice U7 Un7 Uc7, .slice V7 Vn7 Vc7]), Fact.sp (clipR p0) (clipR q0) (107), Fact.eq (.agg #[.bool ba0, .slice Aa0 na0 ca0, .slice Ba0 ma0 oa0, .bool bb0, .slice Ab0 nb0 cb0, .slice Bb0 mb0 ob0]), Fact.sp (clipR lo0) (clipR hi0) (6), Fact.eq (.bool true), Fact.eq (.bool false), Fact.eq (.bool false), Fact.eq (.bool false), Fact.eq (.agg #[.bool sl7, .slice P7 Pn7 Pc7, .slice R7 Rn7 Rc7, .bool sh7, .slice U7 Un7 Uc7, .slice V7 Vn7 Vc7]), Fact.eq (.agg #[.bool sl9, .slice P9 Pn9 Pc9, .slice R9 Rn9 Rc9, .bool sh9, .slice U9 Un9 Uc9, .slice V9 Vn9 Vc9]), Fact.sp (rmin p0 p1) (rmax q0 q1) (107), Fact.eq (.agg #[.bool ba0, .slice Aa0 na0 ca0, .slice Ba0 ma0 oa0, .bool bb0, .slice Ab0 nb0 cb0, .slice Bb0 mb0 ob0]), Fact.eq (.agg #[.bool ba1, .slice Aa1 na1 ca1, .slice Ba1 ma1 oa1, .bool bb1, .slice Ab1 nb1 cb1, .slice Bb1 mb1 ob1]), Fact.sp (rmin lo0 lo1) (rmax hi0 hi1) (6), Fact.eq (.bool true), Fact.eq (.bool false), Fact.eq (.bool false)] [Fact.any, Fact.any, Fact.any, Fact.any] [⟨46, 3, 38, 46, #[.bool ba0, .slice Aa0 na0 ca0, .slice Ba0 ma0 oa0, .bool bb0, .slice Ab0 nb0 cb0, .slice Bb0 mb0 ob0]⟩, ⟨46, 4, 38, 46, #[.bool ba1, .slice Aa1 na1 ca1, .slice Ba1 ma1 oa1, .bool bb1, .slice Ab1 nb1 cb1, .slice Bb1 mb1 ob1]⟩, ⟨46, 7, 38, 46, #[.bool sl7, .slice P7 Pn7 Pc7, .slice R7 Rn7 Rc7, .bool sh7, .slice U7 Un7 Uc7, .slice V7 Vn7 Vc7]⟩, ⟨46, 9, 38, 46, #[.bool sl9, .slice P9 Pn9 Pc9, .slice R9 Rn9 Rc9, .bool sh9, .slice U9 Un9 Uc9, .slice V9 Vn9 Vc9]⟩] [w.heap.size, w.heap.size + 1, g7, g9] [none, none, none, none, none, none, none, none, none, none, none, none, none, none, none, none, none, none, none, none, none, none, none, none, none, none, none, none, none, none, none, none, none, none, none, none, none, none, none, none, none, none, none, none, none, none, none, none, none, none, none, none, none, none, none, none, none, none, none, none, none, none, none, none, none, none, none, none, none, none, none, none, none, none, none, none, none, none, none, none, none, none, none, none, none, none, some 86, some 87, some 88, some 89, some 90, some 91, some 92, some 93, some 94, some 95, some 96, some 97, some 98, some 99, some 100, some 101, some 102, some 103, some 104, some 105, some 106, some 107, some 108, some 109, some 110, some 111, some 112, some 113, some 114, some 115, some 116, some 117, some 118, some 119, some 120, some 121, some 122, some 123, some 124, some 125, some 126, some 127, some 128, some 129, some 130, some 131, none, none, none, none, none, none, none, none, none, none, none, none, none, none, none, none, none, none, none, none, none, none, none] (by kernel_rfl) (by kernel_rfl) (by kernel_rfl) rfl B ?_ ?_ ?_ ?_ ?_
      · exact ⟨fun _ => ⟨by simp, rfl, OB3⟩, fun _ => ⟨by simp, rfl, OB4⟩, fun _ => ⟨by simp, rfl, OB7⟩, fun _ => ⟨by simp, rfl, OB9⟩, trivial⟩
      · exact .inl ⟨Nat.le_refl _, Nat.le_refl _, Nat.le_refl _, Nat.le_refl _, trivial⟩
      · exact ⟨⟨noWords_S _ _ _ _ _ _ _ _ _ _ _ _ _ _, (.inl (Nat.le_refl _)), (.inl (Nat.le_refl _))⟩, ⟨noWords_S _ _ _ _ _ _ _ _ _ _ _ _ _ _, (.inl (Nat.le_refl _)), (.inl (Nat.le_refl _))⟩, ⟨noWords_S _ _ _ _ _ _ _ _ _ _ _ _ _ _, (.inl (Nat.le_refl _)), (.inl (Nat.le_refl _))⟩, ⟨noWords_S _ _ _ _ _ _ _ _ _ _ _ _ _ _, (.inl (Nat.le_refl _)), (.inl (Nat.le_refl _))⟩, trivial⟩
      · refine ⟨?_, ?_, ?_, ?_, ?_, ?_, ?_, ?_, ?_, ?_, ?_, ?_, ?_, ?_, ?_, ?_, ?_, ?_, ?_, ?_, ?_, ?_, ?_, ?_, ?_, ?_, ?_, ?_, ?_, ?_, ?_, ?_, ?_, ?_, ?_, ?_, ?_, ?_, ?_, ?_, ?_, ?_, ?_, ?_, ?_, ?_, trivial⟩
        · exact .inr fun a w hp => ob_yes rfl (ob_loadSp (hp.box (k := 2) rfl (Nat.le_refl _) (.inl (Nat.le_refl _)) (by kernel_rfl) rfl).1 (hp.box (k := 2) rfl (Nat.le_refl _) (.inl (Nat.le_refl _)) (by kernel_rfl) rfl).2 rfl)
        · exact .inr fun a w hp => ob_yes rfl (ob_loadSp (hp.box (k := 3) rfl (Nat.le_refl _) (.inl (Nat.le_refl _)) (by kernel_rfl) rfl).1 (hp.box (k := 3) rfl (Nat.le_refl _) (.inl (Nat.le_refl _)) (by kernel_rfl) rfl).2 rfl)
        · refine .inr fun a w hp => ob_yes rfl ?_
          have h86 : a.tmps.getD 86 undef = .agg #[.bool sl7, .slice P7 Pn7 Pc7, .slice R7 Rn7 Rc7, .bool sh7, .slice U7 Un7 Uc7, .slice V7 Vn7 Vc7] := (hp.fact 0 86 (by kernel_rfl) rfl)
          have h87 : a.tmps.getD 87 undef = .agg #[.bool sl9, .slice P9 Pn9 Pc9, .slice R9 Rn9 Rc9, .bool sh9, .slice U9 Un9 Uc9, .slice V9 Vn9 Vc9] := (hp.fact 1 87 (by kernel_rfl) rfl)
          unfold Does
          go_simp
          refine (spadd_any _ _ _ p0 q0 p1 q1 107 ((I7.kept hp.kept).sp HR0.out.2.1) ((I9.kept hp.kept).sp HR1.out.2.1) (by decide) (by decide)).mono ?_
          rintro e w' ⟨u, rfl, I10, P10⟩
          exact ⟨_, rfl, P10, I10⟩
        · exact .inr fun a w hp => ob_yes rfl (ob_loadSp (hp.box (k := 0) rfl (Nat.le_refl _) (.inl (Nat.le_refl _)) (by kernel_rfl) rfl).1 (hp.box (k := 0) rfl (Nat.le_refl _) (.inl (Nat.le_refl _)) (by kernel_rfl) rfl).2 rfl)
        · exact .inr fun a w hp => ob_yes rfl (ob_loadSp (hp.box (k := 1) rfl (Nat.le_refl _) (.inl (Nat.le_refl _)) (by kernel_rfl) rfl).1 (hp.box (k := 1) rfl (Nat.le_refl _) (.inl (Nat.le_refl _)) (by kernel_rfl) rfl).2 rfl)
        · refine .inr fun a w hp => ob_yes rfl ?_
          have h89 : a.tmps.getD 89 undef = .agg #[.bool ba0, .slice Aa0 na0 ca0, .slice Ba0 ma0 oa0, .bool bb0, .slice Ab0 nb0 cb0, .slice Bb0 mb0 ob0] := (hp.fact 3 89 (by kernel_rfl) rfl)
          have h90 : a.tmps.getD 90 undef = .agg #[.bool ba1, .slice Aa1 na1 ca1, .slice Ba1 ma1 oa1, .bool bb1, .slice Ab1 nb1 cb1, .slice Bb1 mb1 ob1] := (hp.fact 4 90 (by kernel_rfl) rfl)
          unfold Does
          go_simp
          refine (spadd_any _ _ _ lo0 hi0 lo1 hi1 6 (T0.on hp.on) (T1.on hp.on) (by decide) (by decide)).mono ?_
          rintro e w' ⟨u, rfl, I10, P10⟩
          exact ⟨_, rfl, P10, I10⟩
        · refine .inr fun a w hp => ob_yes rfl ?_
          have h88 : IsS w (a.tmps.getD 88 undef) (p0 + p1) (q0 + q1) (215) := (hp.fact 2 88 (by kernel_rfl) rfl)
          obtain ⟨v88, e88⟩ : ∃ v, a.tmps.getD 88 undef = v := ⟨_, rfl⟩
          rw [e88] at h88
          have h91 : IsS w (a.tmps.getD 91 undef) (lo0 + lo1) (hi0 + hi1) (13) := (hp.fact 5 91 (by kernel_rfl) rfl)
          obtain ⟨v91, e91⟩ : ∃ v, a.tmps.getD 91 undef = v := ⟨_, rfl⟩
          rw [e91] at h91
          unfold Does
          go_simp
          refine (spins_big _ _ _ (p0 + p1) (q0 + q1) (lo0 + lo1) (hi0 + hi1) 215 (h88.sp (add_le2 HR0.out.2.1 HR1.out.2.1)) ((h91.sp (add_le2 le0 le1)).wide (by decide)) (by decide) (by decide)).mono ?_
          rintro e w' ⟨rfl, P10⟩
          exact ⟨_, rfl, P10, congrArg Value.bool (ins_true (add_le2 HR0.out.1 HR1.out.1) (add_le2 HR0.out.2.2.1 HR1.out.2.2.1))⟩
        · refine .inr fun a w hp => ob_yes rfl ?_
          have h92 : a.tmps.getD 92 undef = .bool true := (hp.fact 6 92 (by kernel_rfl) rfl)
          unfold Does
          go_simp
          exact ⟨_, rfl, On.refl _, by show Value.bool _ = Value.bool _; first | rfl | (simp; done)⟩
        · exact .inr fun a w hp => ob_yes rfl (ob_move (hp.fact 7 93 (by kernel_rfl) rfl))
        · exact .inr fun a w hp => ob_yes (wanted_yes (P := Try.prog) (j := 8) (d := 94) (b := false) rfl rfl (hp.fact 8 94 (by kernel_rfl) rfl)) (ob_loadSp (hp.box (k := 2) rfl (Nat.le_refl _) (.inl (Nat.le_refl _)) (by kernel_rfl) rfl).1 (hp.box (k := 2) rfl (Nat.le_refl _) (.inl (Nat.le_refl _)) (by kernel_rfl) rfl).2 rfl)
        · exact .inr fun a w hp => ob_yes (wanted_yes (P := Try.prog) (j := 8) (d := 94) (b := false) rfl rfl (hp.fact 8 94 (by kernel_rfl) rfl)) (ob_loadSp (hp.box (k := 3) rfl (Nat.le_refl _) (.inl (Nat.le_refl _)) (by kernel_rfl) rfl).1 (hp.box (k := 3) rfl (Nat.le_refl _) (.inl (Nat.le_refl _)) (by kernel_rfl) rfl).2 rfl)
        · refine .inr fun a w hp => ob_yes (wanted_yes (P := Try.prog) (j := 8) (d := 94) (b := false) rfl rfl (hp.fact 8 94 (by kernel_rfl) rfl)) ?_
          have h95 : a.tmps.getD 95 undef = .agg #[.bool sl7, .slice P7 Pn7 Pc7, .slice R7 Rn7 Rc7, .bool sh7, .slice U7 Un7 Uc7, .slice V7 Vn7 Vc7] := (hp.fact 9 95 (by kernel_rfl) rfl)
          have h96 : a.tmps.getD 96 undef = .agg #[.bool sl9, .slice P9 Pn9 Pc9, .slice R9 Rn9 Rc9, .bool sh9, .slice U9 Un9 Uc9, .slice V9 Vn9 Vc9] := (hp.fact 10 96 (by kernel_rfl) rfl)
          unfold Does
          go_simp
          refine (spsub_any _ _ _ p0 q0 p1 q1 107 ((I7.kept hp.kept).sp HR0.out.2.1) ((I9.kept hp.kept).sp HR1.out.2.1) (by decide) (by decide)).mono ?_
          rintro e w' ⟨u, rfl, I10, P10⟩
          exact ⟨_, rfl, P10, I10⟩
        · exact .inr fun a w hp => ob_yes (wanted_yes (P := Try.prog) (j := 8) (d := 94) (b := false) rfl rfl (hp.fact 8 94 (by kernel_rfl) rfl)) (ob_loadSp (hp.box (k := 0) rfl (Nat.le_refl _) (.inl (Nat.le_refl _)) (by kernel_rfl) rfl).1 (hp.box (k := 0) rfl (Nat.le_refl _) (.inl (Nat.le_refl _)) (by kernel_rfl) rfl).2 rfl)
        · exact .inr fun a w hp => ob_yes (wanted_yes (P := Try.prog) (j := 8) (d := 94) (b := false) rfl rfl (hp.fact 8 94 (by kernel_rfl) rfl)) (ob_loadSp (hp.box (k := 1) rfl (Nat.le_refl _) (.inl (Nat.le_refl _)) (by kernel_rfl) rfl).1 (hp.box (k := 1) rfl (Nat.le_refl _) (.inl (Nat.le_refl _)) (by kernel_rfl) rfl).2 rfl)
        · refine .inr fun a w hp => ob_yes (wanted_yes (P := Try.prog) (j := 8) (d := 94) (b := false) rfl rfl (hp.fact 8 94 (by kernel_rfl) rfl)) ?_
          have h98 : a.tmps.getD 98 undef = .agg #[.bool ba0, .slice Aa0 na0 ca0, .slice Ba0 ma0 oa0, .bool bb0, .slice Ab0 nb0 cb0, .slice Bb0 mb0 ob0] := (hp.fact 12 98 (by kernel_rfl) rfl)
          have h99 : a.tmps.getD 99 undef = .agg #[.bool ba1, .slice Aa1 na1 ca1, .slice Ba1 ma1 oa1, .bool bb1, .slice Ab1 nb1 cb1, .slice Bb1 mb1 ob1] := (hp.fact 13 99 (by kernel_rfl) rfl)
          unfold Does
          go_simp
          refine (spsub_any _ _ _ lo0 hi0 lo1 hi1 6 (T0.on hp.on) (T1.on hp.on) (by decide) (by decide)).mono ?_
          rintro e w' ⟨u, rfl, I10, P10⟩
          exact ⟨_, rfl, P10, I10⟩
        · refine .inr fun a w hp => ob_yes (wanted_yes (P := Try.prog) (j := 8) (d := 94) (b := false) rfl rfl (hp.fact 8 94 (by kernel_rfl) rfl)) ?_
          have h97 : IsS w (a.tmps.getD 97 undef) (p0 - q1) (q0 - p1) (215) := (hp.fact 11 97 (by kernel_rfl) rfl)
          obtain ⟨v97, e97⟩ : ∃ v, a.tmps.getD 97 undef = v := ⟨_, rfl⟩
          rw [e97] at h97
          have h100 : IsS w (a.tmps.getD 100 undef) (lo0 - hi1) (hi0 - lo1) (13) := (hp.fact 14 100 (by kernel_rfl) rfl)
          obtain ⟨v100, e100⟩ : ∃ v, a.tmps.getD 100 undef = v := ⟨_, rfl⟩
          rw [e100] at h100
          unfold Does
          go_simp
          refine (spins_big _ _ _ (p0 - q1) (q0 - p1) (lo0 - hi1) (hi0 - lo1) 215 (h97.sp (sub_le2 HR0.out.2.1 HR1.out.2.1)) ((h100.sp (sub_le2 le0 le1)).wide (by decide)) (by decide) (by decide)).mono ?_
          rintro e w' ⟨rfl, P10⟩
          exact ⟨_, rfl, P10, congrArg Value.bool (ins_true (sub_le2 HR0.out.1 HR1.out.2.2.1) (sub_le2 HR0.out.2.2.1 HR1.out.1))⟩
        · refine .inr fun a w hp => ob_yes (wanted_yes (P := Try.prog) (j := 8) (d := 94) (b := false) rfl rfl (hp.fact 8 94 (by kernel_rfl) rfl)) ?_
          have h101 : a.tmps.getD 101 undef = .bool true := (hp.fact 15 101 (by kernel_rfl) rfl)
          unfold Does
          go_simp
          exact ⟨_, rfl, On.refl _, by show Value.bool _ = Value.bool _; first | rfl | (simp; done)⟩
        · refine .inr fun a w hp => ob_yes rfl ?_
          have h94 : a.tmps.getD 94 undef = .bool false := (hp.fact 8 94 (by kernel_rfl) rfl)
          have h102 : a.tmps.getD 102 undef = .bool false := (hp.fact 16 102 (by kernel_rfl) rfl)
          unfold Does
          go_simp
          exact ⟨_, rfl, On.refl _, rfl⟩
        · exact .inr fun a w hp => ob_yes rfl (ob_move (hp.fact 17 103 (by kernel_rfl) rfl))
        · exact .inr fun a w hp => ob_yes (wanted_yes (P := Try.prog) (j := 18) (d := 104) (b := false) rfl rfl (hp.fact 18 104 (by kernel_rfl) rfl)) (ob_loadSp (hp.box (k := 2) rfl (Nat.le_refl _) (.inl (Nat.le_refl _)) (by kernel_rfl) rfl).1 (hp.box (k := 2) rfl (Nat.le_refl _) (.inl (Nat.le_refl _)) (by kernel_rfl) rfl).2 rfl)
        · exact .inr fun a w hp => ob_yes (wanted_yes (P := Try.prog) (j := 18) (d := 104) (b := false) rfl rfl (hp.fact 18 104 (by kernel_rfl) rfl)) (ob_loadSp (hp.box (k := 3) rfl (Nat.le_refl _) (.inl (Nat.le_refl _)) (by kernel_rfl) rfl).1 (hp.box (k := 3) rfl (Nat.le_refl _) (.inl (Nat.le_refl _)) (by kernel_rfl) rfl).2 rfl)
        · refine .inr fun a w hp => ob_yes (wanted_yes (P := Try.prog) (j := 18) (d := 104) (b := false) rfl rfl (hp.fact 18 104 (by kernel_rfl) rfl)) ?_
          have h105 : a.tmps.getD 105 undef = .agg #[.bool sl7, .slice P7 Pn7 Pc7, .slice R7 Rn7 Rc7, .bool sh7, .slice U7 Un7 Uc7, .slice V7 Vn7 Vc7] := (hp.fact 19 105 (by kernel_rfl) rfl)
          have h106 : a.tmps.getD 106 undef = .agg #[.bool sl9, .slice P9 Pn9 Pc9, .slice R9 Rn9 Rc9, .bool sh9, .slice U9 Un9 Uc9, .slice V9 Vn9 Vc9] := (hp.fact 20 106 (by kernel_rfl) rfl)
          unfold Does
          go_simp
          refine (spmul_any _ _ _ p0 q0 p1 q1 107 ((I7.kept hp.kept).sp HR0.out.2.1) ((I9.kept hp.kept).sp HR1.out.2.1) (by decide) (by decide)).mono ?_
          rintro e w' ⟨u, rfl, I10, P10⟩
          exact ⟨_, rfl, P10, I10⟩
        · exact .inr fun a w hp => ob_yes (wanted_yes (P := Try.prog) (j := 18) (d := 104) (b := false) rfl rfl (hp.fact 18 104 (by kernel_rfl) rfl)) (ob_loadSp (hp.box (k := 0) rfl (Nat.le_refl _) (.inl (Nat.le_refl _)) (by kernel_rfl) rfl).1 (hp.box (k := 0) rfl (Nat.le_refl _) (.inl (Nat.le_refl _)) (by kernel_rfl) rfl).2 rfl)
        · exact .inr fun a w hp => ob_yes (wanted_yes (P := Try.prog) (j := 18) (d := 104) (b := false) rfl rfl (hp.fact 18 104 (by kernel_rfl) rfl)) (ob_loadSp (hp.box (k := 1) rfl (Nat.le_refl _) (.inl (Nat.le_refl _)) (by kernel_rfl) rfl).1 (hp.box (k := 1) rfl (Nat.le_refl _) (.inl (Nat.le_refl _)) (by kernel_rfl) rfl).2 rfl)
        · refine .inr fun a w hp => ob_yes (wanted_yes (P := Try.prog) (j := 18) (d := 104) (b := false) rfl rfl (hp.fact 18 104 (by kernel_rfl) rfl)) ?_
          have h108 : a.tmps.getD 108 undef = .agg #[.bool ba0, .slice Aa0 na0 ca0, .slice Ba0 ma0 oa0, .bool bb0, .slice Ab0 nb0 cb0, .slice Bb0 mb0 ob0] := (hp.fact 22 108 (by kernel_rfl) rfl)
          have h109 : a.tmps.getD 109 undef = .agg #[.bool ba1, .slice Aa1 na1 ca1, .slice Ba1 ma1 oa1, .bool bb1, .slice Ab1 nb1 cb1, .slice Bb1 mb1 ob1] := (hp.fact 23 109 (by kernel_rfl) rfl)
          unfold Does
          go_simp
          refine (spmul_any _ _ _ lo0 hi0 lo1 hi1 6 (T0.on hp.on) (T1.on hp.on) (by decide) (by decide)).mono ?_
          rintro e w' ⟨u, rfl, I10, P10⟩
          exact ⟨_, rfl, P10, I10⟩
        · refine .inr fun a w hp => ob_yes (wanted_yes (P := Try.prog) (j := 18) (d := 104) (b := false) rfl rfl (hp.fact 18 104 (by kernel_rfl) rfl)) ?_
          have h107 : IsS w (a.tmps.getD 107 undef) (prodLo p0 q0 p1 q1) (prodHi p0 q0 p1 q1) (429) := (hp.fact 21 107 (by kernel_rfl) rfl)
          obtain ⟨v107, e107⟩ : ∃ v, a.tmps.getD 107 undef = v := ⟨_, rfl⟩
          rw [e107] at h107
          have h110 : IsS w (a.tmps.getD 110 undef) (prodLo lo0 hi0 lo1 hi1) (prodHi lo0 hi0 lo1 hi1) (25) := (hp.fact 24 110 (by kernel_rfl) rfl)
          obtain ⟨v110, e110⟩ : ∃ v, a.tmps.getD 110 undef = v := ⟨_, rfl⟩
          rw [e110] at h110
          unfold Does
          go_simp
          refine (spins_big _ _ _ (prodLo p0 q0 p1 q1) (prodHi p0 q0 p1 q1) (prodLo lo0 hi0 lo1 hi1) (prodHi lo0 hi0 lo1 hi1) 429 (h107.sp (prod_le _ _ _ _ HR0.out.2.1 HR1.out.2.1)) ((h110.sp (prod_le _ _ _ _ le0 le1)).wide (by decide)) (by decide) (by decide)).mono ?_
          rintro e w' ⟨rfl, P10⟩
          exact ⟨_, rfl, P10, congrArg Value.bool (ins_true (prodLo_in HR0.out.1 HR0.out.2.2.1 HR1.out.1 HR1.out.2.2.1 HR0.out.2.1 HR1.out.2.1) (prodHi_in HR0.out.1 HR0.out.2.2.1 HR1.out.1 HR1.out.2.2.1 HR0.out.2.1 HR1.out.2.1))⟩
        · refine .inr fun a w hp => ob_yes (wanted_yes (P := Try.prog) (j := 18) (d := 104) (b := false) rfl rfl (hp.fact 18 104 (by kernel_rfl) rfl)) ?_
          have h111 : a.tmps.getD 111 undef = .bool true := (hp.fact 25 111 (by kernel_rfl) rfl)
          unfold Does
          go_simp
          exact ⟨_, rfl, On.refl _, by show Value.bool _ = Value.bool _; first | rfl | (simp; done)⟩
        · refine .inr fun a w hp => ob_yes rfl ?_
          have h104 : a.tmps.getD 104 undef = .bool false := (hp.fact 18 104 (by kernel_rfl) rfl)
          have h112 : a.tmps.getD 112 undef = .bool false := (hp.fact 26 112 (by kernel_rfl) rfl)
          unfold Does
          go_simp
          exact ⟨_, rfl, On.refl _, rfl⟩
        · exact .inr fun a w hp => ob_yes rfl (ob_move (hp.fact 27 113 (by kernel_rfl) rfl))
        · exact .inr fun a w hp => ob_yes (wanted_yes (P := Try.prog) (j := 28) (d := 114) (b := false) rfl rfl (hp.fact 28 114 (by kernel_rfl) rfl)) (ob_loadSp (hp.box (k := 2) rfl (Nat.le_refl _) (.inl (Nat.le_refl _)) (by kernel_rfl) rfl).1 (hp.box (k := 2) rfl (Nat.le_refl _) (.inl (Nat.le_refl _)) (by kernel_rfl) rfl).2 rfl)
        · refine .inr fun a w hp => ob_yes (wanted_yes (P := Try.prog) (j := 28) (d := 114) (b := false) rfl rfl (hp.fact 28 114 (by kernel_rfl) rfl)) ?_
          have h115 : a.tmps.getD 115 undef = .agg #[.bool sl7, .slice P7 Pn7 Pc7, .slice R7 Rn7 Rc7, .bool sh7, .slice U7 Un7 Uc7, .slice V7 Vn7 Vc7] := (hp.fact 29 115 (by kernel_rfl) rfl)
          unfold Does
          go_simp
          refine (spclip_any _ _ p0 q0 107 ((I7.kept hp.kept).sp HR0.out.2.1) (by decide) (by decide)).mono ?_
          rintro e w' ⟨u, rfl, I10, P10⟩
          exact ⟨_, rfl, P10, I10⟩
        · exact .inr fun a w hp => ob_yes (wanted_yes (P := Try.prog) (j := 28) (d := 114) (b := false) rfl rfl (hp.fact 28 114 (by kernel_rfl) rfl)) (ob_loadSp (hp.box (k := 0) rfl (Nat.le_refl _) (.inl (Nat.le_refl _)) (by kernel_rfl) rfl).1 (hp.box (k := 0) rfl (Nat.le_refl _) (.inl (Nat.le_refl _)) (by kernel_rfl) rfl).2 rfl)
        · refine .inr fun a w hp => ob_yes (wanted_yes (P := Try.prog) (j := 28) (d := 114) (b := false) rfl rfl (hp.fact 28 114 (by kernel_rfl) rfl)) ?_
          have h117 : a.tmps.getD 117 undef = .agg #[.bool ba0, .slice Aa0 na0 ca0, .slice Ba0 ma0 oa0, .bool bb0, .slice Ab0 nb0 cb0, .slice Bb0 mb0 ob0] := (hp.fact 31 117 (by kernel_rfl) rfl)
          unfold Does
          go_simp
          refine (spclip_any _ _ lo0 hi0 6 (T0.on hp.on) (by decide) (by decide)).mono ?_
          rintro e w' ⟨u, rfl, I10, P10⟩
          exact ⟨_, rfl, P10, I10⟩
        · refine .inr fun a w hp => ob_yes (wanted_yes (P := Try.prog) (j := 28) (d := 114) (b := false) rfl rfl (hp.fact 28 114 (by kernel_rfl) rfl)) ?_
          have h116 : IsS w (a.tmps.getD 116 undef) (clipR p0) (clipR q0) (107) := (hp.fact 30 116 (by kernel_rfl) rfl)
          obtain ⟨v116, e116⟩ : ∃ v, a.tmps.getD 116 undef = v := ⟨_, rfl⟩
          rw [e116] at h116
          have h118 : IsS w (a.tmps.getD 118 undef) (clipR lo0) (clipR hi0) (6) := (hp.fact 32 118 (by kernel_rfl) rfl)
          obtain ⟨v118, e118⟩ : ∃ v, a.tmps.getD 118 undef = v := ⟨_, rfl⟩
          rw [e118] at h118
          unfold Does
          go_simp
          refine (spins_big _ _ _ (clipR p0) (clipR q0) (clipR lo0) (clipR hi0) 107 (h116.sp (clip_mono HR0.out.2.1)) ((h118.sp (clip_mono le0)).wide (by decide)) (by decide) (by decide)).mono ?_
          rintro e w' ⟨rfl, P10⟩
          exact ⟨_, rfl, P10, congrArg Value.bool (ins_true (clip_mono HR0.out.1) (clip_mono HR0.out.2.2.1))⟩
        · refine .inr fun a w hp => ob_yes (wanted_yes (P := Try.prog) (j := 28) (d := 114) (b := false) rfl rfl (hp.fact 28 114 (by kernel_rfl) rfl)) ?_
          have h119 : a.tmps.getD 119 undef = .bool true := (hp.fact 33 119 (by kernel_rfl) rfl)
          unfold Does
          go_simp
          exact ⟨_, rfl, On.refl _, by show Value.bool _ = Value.bool _; first | rfl | (simp; done)⟩
        · refine .inr fun a w hp => ob_yes rfl ?_
          have h114 : a.tmps.getD 114 undef = .bool false := (hp.fact 28 114 (by kernel_rfl) rfl)
          have h120 : a.tmps.getD 120 undef = .bool false := (hp.fact 34 120 (by kernel_rfl) rfl)
          unfold Does
          go_simp
          exact ⟨_, rfl, On.refl _, rfl⟩
        · exact .inr fun a w hp => ob_yes rfl (ob_move (hp.fact 35 121 (by kernel_rfl) rfl))
        · exact .inr fun a w hp => ob_yes (wanted_yes (P := Try.prog) (j := 36) (d := 122) (b := false) rfl rfl (hp.fact 36 122 (by kernel_rfl) rfl)) (ob_loadSp (hp.box (k := 2) rfl (Nat.le_refl _) (.inl (Nat.le_refl _)) (by kernel_rfl) rfl).1 (hp.box (k := 2) rfl (Nat.le_refl _) (.inl (Nat.le_refl _)) (by kernel_rfl) rfl).2 rfl)
        · exact .inr fun a w hp => ob_yes (wanted_yes (P := Try.prog) (j := 36) (d := 122) (b := false) rfl rfl (hp.fact 36 122 (by kernel_rfl) rfl)) (ob_loadSp (hp.box (k := 3) rfl (Nat.le_refl _) (.inl (Nat.le_refl _)) (by kernel_rfl) rfl).1 (hp.box (k := 3) rfl (Nat.le_refl _) (.inl (Nat.le_refl _)) (by kernel_rfl) rfl).2 rfl)
        · refine .inr fun a w hp => ob_yes (wanted_yes (P := Try.prog) (j := 36) (d := 122) (b := false) rfl rfl (hp.fact 36 122 (by kernel_rfl) rfl)) ?_
          have h123 : a.tmps.getD 123 undef = .agg #[.bool sl7, .slice P7 Pn7 Pc7, .slice R7 Rn7 Rc7, .bool sh7, .slice U7 Un7 Uc7, .slice V7 Vn7 Vc7] := (hp.fact 37 123 (by kernel_rfl) rfl)
          have h124 : a.tmps.getD 124 undef = .agg #[.bool sl9, .slice P9 Pn9 Pc9, .slice R9 Rn9 Rc9, .bool sh9, .slice U9 Un9 Uc9, .slice V9 Vn9 Vc9] := (hp.fact 38 124 (by kernel_rfl) rfl)
          unfold Does
          go_simp
          refine (sphull_any _ _ _ p0 q0 p1 q1 107 ((I7.kept hp.kept).sp HR0.out.2.1) ((I9.kept hp.kept).sp HR1.out.2.1) (by decide) (by decide)).mono ?_
          rintro e w' ⟨u, rfl, I10, P10⟩
          exact ⟨_, rfl, P10, I10⟩
        · exact .inr fun a w hp => ob_yes (wanted_yes (P := Try.prog) (j := 36) (d := 122) (b := false) rfl rfl (hp.fact 36 122 (by kernel_rfl) rfl)) (ob_loadSp (hp.box (k := 0) rfl (Nat.le_refl _) (.inl (Nat.le_refl _)) (by kernel_rfl) rfl).1 (hp.box (k := 0) rfl (Nat.le_refl _) (.inl (Nat.le_refl _)) (by kernel_rfl) rfl).2 rfl)
        · exact .inr fun a w hp => ob_yes (wanted_yes (P := Try.prog) (j := 36) (d := 122) (b := false) rfl rfl (hp.fact 36 122 (by kernel_rfl) rfl)) (ob_loadSp (hp.box (k := 1) rfl (Nat.le_refl _) (.inl (Nat.le_refl _)) (by kernel_rfl) rfl).1 (hp.box (k := 1) rfl (Nat.le_refl _) (.inl (Nat.le_refl _)) (by kernel_rfl) rfl).2 rfl)
        · refine .inr fun a w hp => ob_yes (wanted_yes (P := Try.prog) (j := 36) (d := 122) (b := false) rfl rfl (hp.fact 36 122 (by kernel_rfl) rfl)) ?_
          have h126 : a.tmps.getD 126 undef = .agg #[.bool ba0, .slice Aa0 na0 ca0, .slice Ba0 ma0 oa0, .bool bb0, .slice Ab0 nb0 cb0, .slice Bb0 mb0 ob0] := (hp.fact 40 126 (by kernel_rfl) rfl)
          have h127 : a.tmps.getD 127 undef = .agg #[.bool ba1, .slice Aa1 na1 ca1, .slice Ba1 ma1 oa1, .bool bb1, .slice Ab1 nb1 cb1, .slice Bb1 mb1 ob1] := (hp.fact 41 127 (by kernel_rfl) rfl)
          unfold Does
          go_simp
          refine (sphull_any _ _ _ lo0 hi0 lo1 hi1 6 (T0.on hp.on) (T1.on hp.on) (by decide) (by decide)).mono ?_
          rintro e w' ⟨u, rfl, I10, P10⟩
          exact ⟨_, rfl, P10, I10⟩
        · refine .inr fun a w hp => ob_yes (wanted_yes (P := Try.prog) (j := 36) (d := 122) (b := false) rfl rfl (hp.fact 36 122 (by kernel_rfl) rfl)) ?_
          have h125 : IsS w (a.tmps.getD 125 undef) (rmin p0 p1) (rmax q0 q1) (107) := (hp.fact 39 125 (by kernel_rfl) rfl)
          obtain ⟨v125, e125⟩ : ∃ v, a.tmps.getD 125 undef = v := ⟨_, rfl⟩
          rw [e125] at h125
          have h128 : IsS w (a.tmps.getD 128 undef) (rmin lo0 lo1) (rmax hi0 hi1) (6) := (hp.fact 42 128 (by kernel_rfl) rfl)
          obtain ⟨v128, e128⟩ : ∃ v, a.tmps.getD 128 undef = v := ⟨_, rfl⟩
          rw [e128] at h128
          unfold Does
          go_simp
          refine (spins_big _ _ _ (rmin p0 p1) (rmax q0 q1) (rmin lo0 lo1) (rmax hi0 hi1) 107 (h125.sp (hull_le HR0.out.2.1 HR1.out.2.1)) ((h128.sp (hull_le le0 le1)).wide (by decide)) (by decide) (by decide)).mono ?_
          rintro e w' ⟨rfl, P10⟩
          exact ⟨_, rfl, P10, congrArg Value.bool (ins_true (rmin_mono HR0.out.1 HR1.out.1) (rmax_mono HR0.out.2.2.1 HR1.out.2.2.1))⟩
        · refine .inr fun a w hp => ob_yes (wanted_yes (P := Try.prog) (j := 36) (d := 122) (b := false) rfl rfl (hp.fact 36 122 (by kernel_rfl) rfl)) ?_
          have h129 : a.tmps.getD 129 undef = .bool true := (hp.fact 43 129 (by kernel_rfl) rfl)
          unfold Does
          go_simp
          exact ⟨_, rfl, On.refl _, by show Value.bool _ = Value.bool _; first | rfl | (simp; done)⟩
        · refine .inr fun a w hp => ob_yes rfl ?_
          have h122 : a.tmps.getD 122 undef = .bool false := (hp.fact 36 122 (by kernel_rfl) rfl)
          have h130 : a.tmps.getD 130 undef = .bool false := (hp.fact 44 130 (by kernel_rfl) rfl)
          unfold Does
          go_simp
          exact ⟨_, rfl, On.refl _, rfl⟩
      · intro f wd hon hk hf hb hap
        obtain ⟨q0, q1, q2, q3, qz⟩ := hb
        clear qz
        have O3 : Own wd (w.heap.size) 38 #[.bool ba0, .slice Aa0 na0 ca0, .slice Ba0 ma0 oa0, .bool bb0, .slice Ab0 nb0 cb0, .slice Bb0 mb0 ob0] := q0
        have c3_0 : wd.cell? ⟨w.heap.size, 0, none⟩ = some (.bool ba0) := O3.cell 0
        have z3_0 := O3.frozen 0
        have c3_1 : wd.cell? ⟨w.heap.size, 1, none⟩ = some (.slice Aa0 na0 ca0) := O3.cell 1
        have z3_1 := O3.frozen 1
        have c3_2 : wd.cell? ⟨w.heap.size, 2, none⟩ = some (.slice Ba0 ma0 oa0) := O3.cell 2
        have z3_2 := O3.frozen 2
        have c3_3 : wd.cell? ⟨w.heap.size, 3, none⟩ = some (.bool bb0) := O3.cell 3
        have z3_3 := O3.frozen 3
        have c3_4 : wd.cell? ⟨w.heap.size, 4, none⟩ = some (.slice Ab0 nb0 cb0) := O3.cell 4
        have z3_4 := O3.frozen 4
        have c3_5 : wd.cell? ⟨w.heap.size, 5, none⟩ = some (.slice Bb0 mb0 ob0) := O3.cell 5
        have z3_5 := O3.frozen 5
        clear q0
        have O4 : Own wd (w.heap.size + 1) 38 #[.bool ba1, .slice Aa1 na1 ca1, .slice Ba1 ma1 oa1, .bool bb1, .slice Ab1 nb1 cb1, .slice Bb1 mb1 ob1] := q1
        have c4_0 : wd.cell? ⟨w.heap.size + 1, 0, none⟩ = some (.bool ba1) := O4.cell 0
        have z4_0 := O4.frozen 0
        have c4_1 : wd.cell? ⟨w.heap.size + 1, 1, none⟩ = some (.slice Aa1 na1 ca1) := O4.cell 1
        have z4_1 := O4.frozen 1
        have c4_2 : wd.cell? ⟨w.heap.size + 1, 2, none⟩ = some (.slice Ba1 ma1 oa1) := O4.cell 2
        have z4_2 := O4.frozen 2
        have c4_3 : wd.cell? ⟨w.heap.size + 1, 3, none⟩ = some (.bool bb1) := O4.cell 3
        have z4_3 := O4.frozen 3
        have c4_4 : wd.cell? ⟨w.heap.size + 1, 4, none⟩ = some (.slice Ab1 nb1 cb1) := O4.cell 4
        have z4_4 := O4.frozen 4
        have c4_5 : wd.cell? ⟨w.heap.size + 1, 5, none⟩ = some (.slice Bb1 mb1 ob1) := O4.cell 5
        have z4_5 := O4.frozen 5
        clear q1
        have O7 : Own wd (g7) 38 #[.bool sl7, .slice P7 Pn7 Pc7, .slice R7 Rn7 Rc7, .bool sh7, .slice U7 Un7 Uc7, .slice V7 Vn7 Vc7] := q2
        have c7_0 : wd.cell? ⟨g7, 0, none⟩ = some (.bool sl7) := O7.cell 0
        have z7_0 := O7.frozen 0
        have c7_1 : wd.cell? ⟨g7, 1, none⟩ = some (.slice P7 Pn7 Pc7) := O7.cell 1
        have z7_1 := O7.frozen 1
        have c7_2 : wd.cell? ⟨g7, 2, none⟩ = some (.slice R7 Rn7 Rc7) := O7.cell 2
        have z7_2 := O7.frozen 2
        have c7_3 : wd.cell? ⟨g7, 3, none⟩ = some (.bool sh7) := O7.cell 3
        have z7_3 := O7.frozen 3
        have c7_4 : wd.cell? ⟨g7, 4, none⟩ = some (.slice U7 Un7 Uc7) := O7.cell 4
        have z7_4 := O7.frozen 4
        have c7_5 : wd.cell? ⟨g7, 5, none⟩ = some (.slice V7 Vn7 Vc7) := O7.cell 5
        have z7_5 := O7.frozen 5
        clear q2
        have O9 : Own wd (g9) 38 #[.bool sl9, .slice P9 Pn9 Pc9, .slice R9 Rn9 Rc9, .bool sh9, .slice U9 Un9 Uc9, .slice V9 Vn9 Vc9] := q3
        have c9_0 : wd.cell? ⟨g9, 0, none⟩ = some (.bool sl9) := O9.cell 0
        have z9_0 := O9.frozen 0
        have c9_1 : wd.cell? ⟨g9, 1, none⟩ = some (.slice P9 Pn9 Pc9) := O9.cell 1
        have z9_1 := O9.frozen 1
        have c9_2 : wd.cell? ⟨g9, 2, none⟩ = some (.slice R9 Rn9 Rc9) := O9.cell 2
        have z9_2 := O9.frozen 2
        have c9_3 : wd.cell? ⟨g9, 3, none⟩ = some (.bool sh9) := O9.cell 3
        have z9_3 := O9.frozen 3
        have c9_4 : wd.cell? ⟨g9, 4, none⟩ = some (.slice U9 Un9 Uc9) := O9.cell 4
        have z9_4 := O9.frozen 4
        have c9_5 : wd.cell? ⟨g9, 5, none⟩ = some (.slice V9 Vn9 Vc9) := O9.cell 5
        have z9_5 := O9.frozen 5
        clear q3
        have e131 : f 131 = .bool false := hf 45 131 rfl
        clear hf hap
        simp only [fillL, e131]
        clear e131
        replace I7 := I7.kept hk
        replace I9 := I9.kept hk
        have OB3 : w.heap.size ≤ w.heap.size ∧ Own wd (w.heap.size) 38 #[.bool ba0, .slice Aa0 na0 ca0, .slice Ba0 ma0 oa0, .bool bb0, .slice Ab0 nb0 cb0, .slice Bb0 mb0 ob0] := ⟨by omega, O3⟩
        clear c3_0 z3_0 c3_1 z3_1 c3_2 z3_2 c3_3 z3_3 c3_4 z3_4 c3_5 z3_5 O3
        have OB4 : w.heap.size ≤ w.heap.size + 1 ∧ Own wd (w.heap.size + 1) 38 #[.bool ba1, .slice Aa1 na1 ca1, .slice Ba1 ma1 oa1, .bool bb1, .slice Ab1 nb1 cb1, .slice Bb1 mb1 ob1] := ⟨by omega, O4⟩
        clear c4_0 z4_0 c4_1 z4_1 c4_2 z4_2 c4_3 z4_3 c4_4 z4_4 c4_5 z4_5 O4
        have OB7 : w.heap.size ≤ g7 ∧ Own wd g7 38 #[.bool sl7, .slice P7 Pn7 Pc7, .slice R7 Rn7 Rc7, .bool sh7, .slice U7 Un7 Uc7, .slice V7 Vn7 Vc7] := ⟨OB7.1, O7⟩
        clear c7_0 z7_0 c7_1 z7_1 c7_2 z7_2 c7_3 z7_3 c7_4 z7_4 c7_5 z7_5 O7
        have OB9 : w.heap.size ≤ g9 ∧ Own wd g9 38 #[.bool sl9, .slice P9 Pn9 Pc9, .slice R9 Rn9 Rc9, .bool sh9, .slice U9 Un9 Uc9, .slice V9 Vn9 Vc9] := ⟨OB9.1, O9⟩
        clear c9_0 z9_0 c9_1 z9_1 c9_2 z9_2 c9_3 z9_3 c9_4 z9_4 c9_5 z9_5 O9
        clear B
        have B := hon
        clear hon hk
        have y3_0 : wd.cell? ⟨w.heap.size, 0, none⟩ = some (.bool ba0) := OB3.2.cell 0
        have y3_1 : wd.cell? ⟨w.heap.size, 1, none⟩ = some (.slice Aa0 na0 ca0) := OB3.2.cell 1
        have y3_2 : wd.cell? ⟨w.heap.size, 2, none⟩ = some (.slice Ba0 ma0 oa0) := OB3.2.cell 2
        have y3_3 : wd.cell? ⟨w.heap.size, 3, none⟩ = some (.bool bb0) := OB3.2.cell 3
        have y3_4 : wd.cell? ⟨w.heap.size, 4, none⟩ = some (.slice Ab0 nb0 cb0) := OB3.2.cell 4
        have y3_5 : wd.cell? ⟨w.heap.size, 5, none⟩ = some (.slice Bb0 mb0 ob0) := OB3.2.cell 5
        have y3_f0 := OB3.2.frozen 0
        have y3_f1 := OB3.2.frozen 1
        have y3_f2 := OB3.2.frozen 2
        have y3_f3 := OB3.2.frozen 3
        have y3_f4 := OB3.2.frozen 4
        have y3_f5 := OB3.2.frozen 5
        have y4_0 : wd.cell? ⟨w.heap.size + 1, 0, none⟩ = some (.bool ba1) := OB4.2.cell 0
        have y4_1 : wd.cell? ⟨w.heap.size + 1, 1, none⟩ = some (.slice Aa1 na1 ca1) := OB4.2.cell 1
        have y4_2 : wd.cell? ⟨w.heap.size + 1, 2, none⟩ = some (.slice Ba1 ma1 oa1) := OB4.2.cell 2
        have y4_3 : wd.cell? ⟨w.heap.size + 1, 3, none⟩ = some (.bool bb1) := OB4.2.cell 3
        have y4_4 : wd.cell? ⟨w.heap.size + 1, 4, none⟩ = some (.slice Ab1 nb1 cb1) := OB4.2.cell 4
        have y4_5 : wd.cell? ⟨w.heap.size + 1, 5, none⟩ = some (.slice Bb1 mb1 ob1) := OB4.2.cell 5
        have y4_f0 := OB4.2.frozen 0
        have y4_f1 := OB4.2.frozen 1
        have y4_f2 := OB4.2.frozen 2
        have y4_f3 := OB4.2.frozen 3
        have y4_f4 := OB4.2.frozen 4
        have y4_f5 := OB4.2.frozen 5
        go_wp2_with fail
        refine (spdiv_ok _ _ _ lo0 hi0 lo1 hi1 6 (T0.on B) (T1.on B) (by decide) (by decide) HC.out).mono ?_
        rintro e w8 ⟨u8, rfl, I11, P11⟩
        obtain ⟨ba11, Aa11, na11, ca11, Ba11, ma11, oa11, bb11, Ab11, nb11, cb11, Bb11, mb11, ob11, rfl, IL11, IH11⟩ := id I11
        clear y3_0 y3_f0 y3_1 y3_f1 y3_2 y3_f2 y3_3 y3_f3 y3_4 y3_f4 y3_5 y3_f5
        clear y4_0 y4_f0 y4_1 y4_f1 y4_2 y4_f2 y4_3 y4_f3 y4_4 y4_f4 y4_5 y4_f5
        replace OB7 := And.intro OB7.1 (OB7.2.on P11)
        replace OB9 := And.intro OB9.1 (OB9.2.on P11)
        replace B := B.trans P11
        replace I7 := I7.on P11
        replace I9 := I9.on P11
        have PA := (On.refl w8).alloc (.cells #[.bool ba11, .slice Aa11 na11 ca11, .slice Ba11 ma11 oa11, .bool bb11, .slice Ab11 nb11 cb11, .slice Bb11 mb11 ob11] 38)
        have B0_11 := B.size
        replace OB7 := And.intro OB7.1 (OB7.2.on PA)
        replace OB9 := And.intro OB9.1 (OB9.2.on PA)
        replace B := B.trans PA
        replace I7 := I7.on PA
        replace I9 := I9.on PA
        replace I11 := I11.on PA
        have OB11 : w.heap.size ≤ w8.heap.size ∧ _ := ⟨B0_11, Own.new w8 38 #[.bool ba11, .slice Aa11 na11 ca11, .slice Ba11 ma11 oa11, .bool bb11, .slice Ab11 nb11 cb11, .slice Bb11 mb11 ob11]⟩
        clear PA P11 IL11 IH11
        have y7_0 : (w8.alloc (.cells #[.bool ba11, .slice Aa11 na11 ca11, .slice Ba11 ma11 oa11, .bool bb11, .slice Ab11 nb11 cb11, .slice Bb11 mb11 ob11] 38)).cell? ⟨g7, 0, none⟩ = some (.bool sl7) := OB7.2.cell 0
        have y7_1 : (w8.alloc (.cells #[.bool ba11, .slice Aa11 na11 ca11, .slice Ba11 ma11 oa11, .bool bb11, .slice Ab11 nb11 cb11, .slice Bb11 mb11 ob11] 38)).cell? ⟨g7, 1, none⟩ = some (.slice P7 Pn7 Pc7) := OB7.2.cell 1
        have y7_2 : (w8.alloc (.cells #[.bool ba11, .slice Aa11 na11 ca11, .slice Ba11 ma11 oa11, .bool bb11, .slice Ab11 nb11 cb11, .slice Bb11 mb11 ob11] 38)).cell? ⟨g7, 2, none⟩ = some (.slice R7 Rn7 Rc7) := OB7.2.cell 2
        have y7_3 : (w8.alloc (.cells #[.bool ba11, .slice Aa11 na11 ca11, .slice Ba11 ma11 oa11, .bool bb11, .slice Ab11 nb11 cb11, .slice Bb11 mb11 ob11] 38)).cell? ⟨g7, 3, none⟩ = some (.bool sh7) := OB7.2.cell 3
        have y7_4 : (w8.alloc (.cells #[.bool ba11, .slice Aa11 na11 ca11, .slice Ba11 ma11 oa11, .bool bb11, .slice Ab11 nb11 cb11, .slice Bb11 mb11 ob11] 38)).cell? ⟨g7, 4, none⟩ = some (.slice U7 Un7 Uc7) := OB7.2.cell 4
        have y7_5 : (w8.alloc (.cells #[.bool ba11, .slice Aa11 na11 ca11, .slice Ba11 ma11 oa11, .bool bb11, .slice Ab11 nb11 cb11, .slice Bb11 mb11 ob11] 38)).cell? ⟨g7, 5, none⟩ = some (.slice V7 Vn7 Vc7) := OB7.2.cell 5
        have y7_f0 := OB7.2.frozen 0
        have y7_f1 := OB7.2.frozen 1
        have y7_f2 := OB7.2.frozen 2
        have y7_f3 := OB7.2.frozen 3
        have y7_f4 := OB7.2.frozen 4
        have y7_f5 := OB7.2.frozen 5
        have y9_0 : (w8.alloc (.cells #[.bool ba11, .slice Aa11 na11 ca11, .slice Ba11 ma11 oa11, .bool bb11, .slice Ab11 nb11 cb11, .slice Bb11 mb11 ob11] 38)).cell? ⟨g9, 0, none⟩ = some (.bool sl9) := OB9.2.cell 0
        have y9_1 : (w8.alloc (.cells #[.bool ba11, .slice Aa11 na11 ca11, .slice Ba11 ma11 oa11, .bool bb11, .slice Ab11 nb11 cb11, .slice Bb11 mb11 ob11] 38)).cell? ⟨g9, 1, none⟩ = some (.slice P9 Pn9 Pc9) := OB9.2.cell 1
        have y9_2 : (w8.alloc (.cells #[.bool ba11, .slice Aa11 na11 ca11, .slice Ba11 ma11 oa11, .bool bb11, .slice Ab11 nb11 cb11, .slice Bb11 mb11 ob11] 38)).cell? ⟨g9, 2, none⟩ = some (.slice R9 Rn9 Rc9) := OB9.2.cell 2
        have y9_3 : (w8.alloc (.cells #[.bool ba11, .slice Aa11 na11 ca11, .slice Ba11 ma11 oa11, .bool bb11, .slice Ab11 nb11 cb11, .slice Bb11 mb11 ob11] 38)).cell? ⟨g9, 3, none⟩ = some (.bool sh9) := OB9.2.cell 3
        have y9_4 : (w8.alloc (.cells #[.bool ba11, .slice Aa11 na11 ca11, .slice Ba11 ma11 oa11, .bool bb11, .slice Ab11 nb11 cb11, .slice Bb11 mb11 ob11] 38)).cell? ⟨g9, 4, none⟩ = some (.slice U9 Un9 Uc9) := OB9.2.cell 4
        have y9_5 : (w8.alloc (.cells #[.bool ba11, .slice Aa11 na11 ca11, .slice Ba11 ma11 oa11, .bool bb11, .slice Ab11 nb11 cb11, .slice Bb11 mb11 ob11] 38)).cell? ⟨g9, 5, none⟩ = some (.slice V9 Vn9 Vc9) := OB9.2.cell 5
        have y9_f0 := OB9.2.frozen 0
        have y9_f1 := OB9.2.frozen 1
        have y9_f2 := OB9.2.frozen 2
        have y9_f3 := OB9.2.frozen 3
        have y9_f4 := OB9.2.frozen 4
        have y9_f5 := OB9.2.frozen 5
        go_wp2_with fail
        have HC2 := Lib.hid (no_zero_part HC.out HR1.out.1 HR1.out.2.2.1)
        refine (spdiv_ok _ _ _ p0 q0 p1 q1 107 (I7.sp HR0.out.2.1) (I9.sp HR1.out.2.1) (by decide) (by decide) HC2.out).mono ?_
        rintro e w9 ⟨u9, rfl, I12, P12⟩
        obtain ⟨ba12, Aa12, na12, ca12, Ba12, ma12, oa12, bb12, Ab12, nb12, cb12, Bb12, mb12, ob12, rfl, IL12, IH12⟩ := id I12
        clear y7_0 y7_f0 y7_1 y7_f1 y7_2 y7_f2 y7_3 y7_f3 y7_4 y7_f4 y7_5 y7_f5
        clear y9_0 y9_f0 y9_1 y9_f1 y9_2 y9_f2 y9_3 y9_f3 y9_4 y9_f4 y9_5 y9_f5
        replace OB11 := And.intro OB11.1 (OB11.2.on P12)
        replace B := B.trans P12
        replace I11 := I11.on P12
        have PA := (On.refl w9).alloc (.cells #[.bool ba12, .slice Aa12 na12 ca12, .slice Ba12 ma12 oa12, .bool bb12, .slice Ab12 nb12 cb12, .slice Bb12 mb12 ob12] 38)
        have B0_12 := B.size
        replace OB11 := And.intro OB11.1 (OB11.2.on PA)
        replace B := B.trans PA
        replace I11 := I11.on PA
        replace I12 := I12.on PA
        have OB12 : w.heap.size ≤ w9.heap.size ∧ _ := ⟨B0_12, Own.new w9 38 #[.bool ba12, .slice Aa12 na12 ca12, .slice Ba12 ma12 oa12, .bool bb12, .slice Ab12 nb12 cb12, .slice Bb12 mb12 ob12]⟩
        clear PA P12 IL12 IH12
        have hiv := inv_le_inv le1 HC.out
        have hik := inv_le_inv HR1.out.2.1 HC2.out
        have hil := inv_le_inv HR1.out.1 (no_zero_part HC.out Rat.le_refl (Rat.le_trans HR1.out.2.1 HR1.out.2.2.1))
        have him := inv_le_inv HR1.out.2.2.1 (no_zero_part HC.out (Rat.le_trans HR1.out.1 HR1.out.2.1) Rat.le_refl)
        have HL1 := Lib.hid (prodLo_in HR0.out.1 HR0.out.2.2.1 him hil HR0.out.2.1 hik)
        have HL2 := Lib.hid (prodHi_in HR0.out.1 HR0.out.2.2.1 him hil HR0.out.2.1 hik)
        have HL3 := Lib.hid (prod_le _ _ _ _ le0 hiv)
        have HL4 := Lib.hid (prod_le _ _ _ _ HR0.out.2.1 hik)
        clear hiv hik hil him
        have y11_0 : (w9.alloc (.cells #[.bool ba12, .slice Aa12 na12 ca12, .slice Ba12 ma12 oa12, .bool bb12, .slice Ab12 nb12 cb12, .slice Bb12 mb12 ob12] 38)).cell? ⟨w8.heap.size, 0, none⟩ = some (.bool ba11) := OB11.2.cell 0
        have y11_1 : (w9.alloc (.cells #[.bool ba12, .slice Aa12 na12 ca12, .slice Ba12 ma12 oa12, .bool bb12, .slice Ab12 nb12 cb12, .slice Bb12 mb12 ob12] 38)).cell? ⟨w8.heap.size, 1, none⟩ = some (.slice Aa11 na11 ca11) := OB11.2.cell 1
        have y11_2 : (w9.alloc (.cells #[.bool ba12, .slice Aa12 na12 ca12, .slice Ba12 ma12 oa12, .bool bb12, .slice Ab12 nb12 cb12, .slice Bb12 mb12 ob12] 38)).cell? ⟨w8.heap.size, 2, none⟩ = some (.slice Ba11 ma11 oa11) := OB11.2.cell 2
        have y11_3 : (w9.alloc (.cells #[.bool ba12, .slice Aa12 na12 ca12, .slice Ba12 ma12 oa12, .bool bb12, .slice Ab12 nb12 cb12, .slice Bb12 mb12 ob12] 38)).cell? ⟨w8.heap.size, 3, none⟩ = some (.bool bb11) := OB11.2.cell 3
        have y11_4 : (w9.alloc (.cells #[.bool ba12, .slice Aa12 na12 ca12, .slice Ba12 ma12 oa12, .bool bb12, .slice Ab12 nb12 cb12, .slice Bb12 mb12 ob12] 38)).cell? ⟨w8.heap.size, 4, none⟩ = some (.slice Ab11 nb11 cb11) := OB11.2.cell 4
        have y11_5 : (w9.alloc (.cells #[.bool ba12, .slice Aa12 na12 ca12, .slice Ba12 ma12 oa12, .bool bb12, .slice Ab12 nb12 cb12, .slice Bb12 mb12 ob12] 38)).cell? ⟨w8.heap.size, 5, none⟩ = some (.slice Bb11 mb11 ob11) := OB11.2.cell 5
        have y11_f0 := OB11.2.frozen 0
        have y11_f1 := OB11.2.frozen 1
        have y11_f2 := OB11.2.frozen 2
        have y11_f3 := OB11.2.frozen 3
        have y11_f4 := OB11.2.frozen 4
        have y11_f5 := OB11.2.frozen 5
        have y12_0 : (w9.alloc (.cells #[.bool ba12, .slice Aa12 na12 ca12, .slice Ba12 ma12 oa12, .bool bb12, .slice Ab12 nb12 cb12, .slice Bb12 mb12 ob12] 38)).cell? ⟨w9.heap.size, 0, none⟩ = some (.bool ba12) := OB12.2.cell 0
        have y12_1 : (w9.alloc (.cells #[.bool ba12, .slice Aa12 na12 ca12, .slice Ba12 ma12 oa12, .bool bb12, .slice Ab12 nb12 cb12, .slice Bb12 mb12 ob12] 38)).cell? ⟨w9.heap.size, 1, none⟩ = some (.slice Aa12 na12 ca12) := OB12.2.cell 1
        have y12_2 : (w9.alloc (.cells #[.bool ba12, .slice Aa12 na12 ca12, .slice Ba12 ma12 oa12, .bool bb12, .slice Ab12 nb12 cb12, .slice Bb12 mb12 ob12] 38)).cell? ⟨w9.heap.size, 2, none⟩ = some (.slice Ba12 ma12 oa12) := OB12.2.cell 2
        have y12_3 : (w9.alloc (.cells #[.bool ba12, .slice Aa12 na12 ca12, .slice Ba12 ma12 oa12, .bool bb12, .slice Ab12 nb12 cb12, .slice Bb12 mb12 ob12] 38)).cell? ⟨w9.heap.size, 3, none⟩ = some (.bool bb12) := OB12.2.cell 3
        have y12_4 : (w9.alloc (.cells #[.bool ba12, .slice Aa12 na12 ca12, .slice Ba12 ma12 oa12, .bool bb12, .slice Ab12 nb12 cb12, .slice Bb12 mb12 ob12] 38)).cell? ⟨w9.heap.size, 4, none⟩ = some (.slice Ab12 nb12 cb12) := OB12.2.cell 4
        have y12_5 : (w9.alloc (.cells #[.bool ba12, .slice Aa12 na12 ca12, .slice Ba12 ma12 oa12, .bool bb12, .slice Ab12 nb12 cb12, .slice Bb12 mb12 ob12] 38)).cell? ⟨w9.heap.size, 5, none⟩ = some (.slice Bb12 mb12 ob12) := OB12.2.cell 5
        have y12_f0 := OB12.2.frozen 0
        have y12_f1 := OB12.2.frozen 1
        have y12_f2 := OB12.2.frozen 2
        have y12_f3 := OB12.2.frozen 3
        have y12_f4 := OB12.2.frozen 4
        have y12_f5 := OB12.2.frozen 5
        go_wp2_with fail
        refine (spins_big _ _ _ _ _ _ _ 857 (I12.sp HL4.out) ((I11.sp HL3.out).wide (by decide)) (by decide) (by decide)).mono ?_
        rintro e w10 ⟨rfl, P10⟩
        rw [show (decide _ && decide _) = true from ins_true HL1.out HL2.out]
        go_wp2
        go_ret
        exact ⟨rfl, B.trans P10⟩
theorem inside_any (w : World) (ba0 : Bool) (Aa0 : Option Addr) (na0 ca0 : Nat) (Ba0 : Option Addr) (ma0 oa0 : Nat) (bb0 : Bool) (Ab0 : Option Addr) (nb0 cb0 : Nat) (Bb0 : Option Addr) (mb0 ob0 : Nat) (xs0 ys0 us0 vs0 : List Nat) (R0 : Rd w Aa0 na0 ca0 xs0) (S0 : Rd w Ba0 ma0 oa0 ys0) (U0 : Rd w Ab0 nb0 cb0 us0) (V0 : Rd w Bb0 mb0 ob0 vs0) (ba1 : Bool) (Aa1 : Option Addr) (na1 ca1 : Nat) (Ba1 : Option Addr) (ma1 oa1 : Nat) (bb1 : Bool) (Ab1 : Option Addr) (nb1 cb1 : Nat) (Bb1 : Option Addr) (mb1 ob1 : Nat) (xs1 ys1 us1 vs1 : List Nat) (R1 : Rd w Aa1 na1 ca1 xs1) (S1 : Rd w Ba1 ma1 oa1 ys1) (U1 : Rd w Ab1 nb1 cb1 us1) (V1 : Rd w Bb1 mb1 ob1 vs1) (z0 z1 z2 z3 : Int) (hz : 0 ≤ z0 ∧ z0 ≤ 255 ∧ 0 ≤ z1 ∧ z1 ≤ 255 ∧ 0 ≤ z2 ∧ z2 ≤ 255 ∧ 0 ≤ z3 ∧ z3 ≤ 255) :
    Calls Try.prog 5 #[.agg #[.bool ba0, .slice Aa0 na0 ca0, .slice Ba0 ma0 oa0, .bool bb0, .slice Ab0 nb0 cb0, .slice Bb0 mb0 ob0], .agg #[.bool ba1, .slice Aa1 na1 ca1, .slice Ba1 ma1 oa1, .bool bb1, .slice Ab1 nb1 cb1, .slice Bb1 mb1 ob1], .agg #[.int .u8 z0, .int .u8 z1, .int .u8 z2, .int .u8 z3]] w fun e w' => e = .returned (.bool true) ∧ On w w' := by
  by_cases hs : na0 ≤ 6 ∧ ma0 ≤ 6 ∧ nb0 ≤ 6 ∧ mb0 ≤ 6 ∧ na1 ≤ 6 ∧ ma1 ≤ 6 ∧ nb1 ≤ 6 ∧ mb1 ≤ 6
  · obtain ⟨lo0, hi0, f0, Q0⟩ : ∃ lo hi f, SRaw w (.agg #[.bool ba0, .slice Aa0 na0 ca0, .slice Ba0 ma0 oa0, .bool bb0, .slice Ab0 nb0 cb0, .slice Bb0 mb0 ob0]) lo hi f 6 := ⟨_, _, _, ba0, Aa0, na0, ca0, Ba0, ma0, oa0, bb0, Ab0, nb0, cb0, Bb0, mb0, ob0, xs0, ys0, us0, vs0, rfl, R0, S0, U0, V0, by omega, by omega, by omega, by omega, rfl, rfl, rfl⟩
    obtain ⟨lo1, hi1, f1, Q1⟩ : ∃ lo hi f, SRaw w (.agg #[.bool ba1, .slice Aa1 na1 ca1, .slice Ba1 ma1 oa1, .bool bb1, .slice Ab1 nb1 cb1, .slice Bb1 mb1 ob1]) lo hi f 6 := ⟨_, _, _, ba1, Aa1, na1, ca1, Ba1, ma1, oa1, bb1, Ab1, nb1, cb1, Bb1, mb1, ob1, xs1, ys1, us1, vs1, rfl, R1, S1, U1, V1, by omega, by omega, by omega, by omega, rfl, rfl, rfl⟩
    cases f0
    · exact inside_inv0 w ba0 Aa0 na0 ca0 Ba0 ma0 oa0 bb0 Ab0 nb0 cb0 Bb0 mb0 ob0 xs0 ys0 us0 vs0 R0 S0 U0 V0 ba1 Aa1 na1 ca1 Ba1 ma1 oa1 bb1 Ab1 nb1 cb1 Bb1 mb1 ob1 xs1 ys1 us1 vs1 R1 S1 U1 V1 z0 z1 z2 z3 hz hs _ _ Q0
    cases f1
    · exact inside_inv1 w ba0 Aa0 na0 ca0 Ba0 ma0 oa0 bb0 Ab0 nb0 cb0 Bb0 mb0 ob0 xs0 ys0 us0 vs0 R0 S0 U0 V0 ba1 Aa1 na1 ca1 Ba1 ma1 oa1 bb1 Ab1 nb1 cb1 Bb1 mb1 ob1 xs1 ys1 us1 vs1 R1 S1 U1 V1 z0 z1 z2 z3 hz hs _ _ Q0 _ _ Q1
    by_cases hc : lo1 ≤ 0 ∧ 0 ≤ hi1
    · exact inside_zero w ba0 Aa0 na0 ca0 Ba0 ma0 oa0 bb0 Ab0 nb0 cb0 Bb0 mb0 ob0 xs0 ys0 us0 vs0 R0 S0 U0 V0 ba1 Aa1 na1 ca1 Ba1 ma1 oa1 bb1 Ab1 nb1 cb1 Bb1 mb1 ob1 xs1 ys1 us1 vs1 R1 S1 U1 V1 z0 z1 z2 z3 hz hs _ _ Q0 _ _ Q1 hc
    · exact inside_ok w ba0 Aa0 na0 ca0 Ba0 ma0 oa0 bb0 Ab0 nb0 cb0 Bb0 mb0 ob0 xs0 ys0 us0 vs0 R0 S0 U0 V0 ba1 Aa1 na1 ca1 Ba1 ma1 oa1 bb1 Ab1 nb1 cb1 Bb1 mb1 ob1 xs1 ys1 us1 vs1 R1 S1 U1 V1 z0 z1 z2 z3 hz hs _ _ Q0 _ _ Q1 hc
  · have : ∃ (mi : Nat) (qi : Nat × Nat × Nat × Nat), [(na0, ma0, nb0, mb0), (na1, ma1, nb1, mb1)][mi]? = some qi ∧ Big qi := by
      by_cases h0 : Big (na0, ma0, nb0, mb0)
      · exact ⟨0, _, rfl, h0⟩
      by_cases h1 : Big (na1, ma1, nb1, mb1)
      · exact ⟨1, _, rfl, h1⟩
      exfalso
      apply hs
      simp only [Big] at h0 h1
      omega
    obtain ⟨mi, qi, h1, h2⟩ := this
    exact inside_large w ba0 Aa0 na0 ca0 Ba0 ma0 oa0 bb0 Ab0 nb0 cb0 Bb0 mb0 ob0 xs0 ys0 us0 vs0 R0 S0 U0 V0 ba1 Aa1 na1 ca1 Ba1 ma1 oa1 bb1 Ab1 nb1 cb1 Bb1 mb1 ob1 xs1 ys1 us1 vs1 R1 S1 U1 V1 z0 z1 z2 z3 hz mi qi h1 h2
end Num
end Go.Proofs.Ytkchpagjkgmpmaa
