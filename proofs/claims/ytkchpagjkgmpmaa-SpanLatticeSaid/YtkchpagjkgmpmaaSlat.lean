/-
  SpanLattice, walked.
-/
import Derived.Test.YtkchpagjkgmpmaaSsm
namespace Go.Proofs.Ytkchpagjkgmpmaa
open Go.RowKit
set_option linter.unusedVariables false
namespace Num
theorem rmin_le_l (x y : Rat) : rmin x y ≤ x := by unfold rmin; split <;> grind
theorem rmin_le_r (x y : Rat) : rmin x y ≤ y := by unfold rmin; split <;> grind
theorem le_rmin_iff (x y z : Rat) : z ≤ rmin x y ↔ z ≤ x ∧ z ≤ y := by unfold rmin; split <;> grind
theorem rmin_le_iff (x y z : Rat) : rmin x y ≤ z ↔ x ≤ z ∨ y ≤ z := by unfold rmin; split <;> grind
theorem le_rmax_l (x y : Rat) : x ≤ rmax x y := by unfold rmax; split <;> grind
theorem le_rmax_r (x y : Rat) : y ≤ rmax x y := by unfold rmax; split <;> grind
theorem rmax_le_iff (x y z : Rat) : rmax x y ≤ z ↔ x ≤ z ∧ y ≤ z := by unfold rmax; split <;> grind
theorem hull_le {a b c d : Rat} (h : a ≤ b) (k : c ≤ d) : rmin a c ≤ rmax b d := Rat.le_trans (rmin_le_l a c) (Rat.le_trans h (le_rmax_l b d))
/-- a part of b -/
def ins (l h l' h' : Rat) : Bool := decide (l' ≤ l) && decide (h ≤ h')
theorem ins_true {l h l' h' : Rat} (a : l' ≤ l) (b : h ≤ h') : ins l h l' h' = true := by unfold ins; rw [decide_eq_true a, decide_eq_true b]; rfl
theorem ins_iff {l h l' h' : Rat} : ins l h l' h' = true ↔ l' ≤ l ∧ h ≤ h' := by unfold ins; simp
/-- a hull lies in c exactly if both spans do -/
theorem hull_ins (l0 h0 l1 h1 l2 h2 : Rat) : ins (rmin l0 l1) (rmax h0 h1) l2 h2 = (ins l0 h0 l2 h2 && ins l1 h1 l2 h2) := by
  rw [Bool.eq_iff_iff, Bool.and_eq_true, ins_iff, ins_iff, ins_iff, le_rmin_iff, rmax_le_iff]
  constructor
  · rintro ⟨⟨a, b⟩, c, d⟩; exact ⟨⟨a, c⟩, b, d⟩
  · rintro ⟨⟨a, c⟩, b, d⟩; exact ⟨⟨a, b⟩, c, d⟩
theorem meet_ins (l0 h0 l1 h1 l2 h2 : Rat) : ins l2 h2 (rmax l0 l1) (rmin h0 h1) = (ins l2 h2 l0 h0 && ins l2 h2 l1 h1) := by
  rw [Bool.eq_iff_iff, Bool.and_eq_true, ins_iff, ins_iff, ins_iff, le_rmin_iff, rmax_le_iff]
  constructor
  · rintro ⟨⟨a, b⟩, c, d⟩; exact ⟨⟨a, c⟩, b, d⟩
  · rintro ⟨⟨a, c⟩, b, d⟩; exact ⟨⟨a, b⟩, c, d⟩
theorem no_meet {l0 h0 l1 h1 l2 h2 : Rat} (h : rmin h0 h1 < rmax l0 l1) (k : l2 ≤ h2) : (ins l2 h2 l0 h0 && ins l2 h2 l1 h1) = false := by
  rw [← meet_ins]
  cases hq : ins l2 h2 (rmax l0 l1) (rmin h0 h1) with
  | false => rfl
  | true =>
    have := ins_iff.1 hq
    exact absurd (Rat.le_trans this.1 (Rat.le_trans k this.2)) (Rat.not_le.2 h)
theorem is_err (w : World) (x : Int) : Calls Try.prog 31 #[.iface 52 (.int .i64 x), .int .i64 x] w fun e w' => e = .returned (.bool true) ∧ w = w' := by
  have hta : ∀ W, (Instr.typeAssert (.iface 52 (.int .i64 x)) 28 52 true).run Try.prog W = .ok (.tuple #[.int .i64 x, .bool true]) W := fun _ => by kernel_rfl
  go_enter Try.func31, Try.ntmps31
  go_wp2
  go_ret
  exact ⟨rfl, rfl⟩
set_option maxRecDepth 100000 in
set_option maxHeartbeats 1600000 in
theorem lattice_large (w : World) (ba0 : Bool) (Aa0 : Option Addr) (na0 ca0 : Nat) (Ba0 : Option Addr) (ma0 oa0 : Nat) (bb0 : Bool) (Ab0 : Option Addr) (nb0 cb0 : Nat) (Bb0 : Option Addr) (mb0 ob0 : Nat) (xs0 ys0 us0 vs0 : List Nat) (R0 : Rd w Aa0 na0 ca0 xs0) (S0 : Rd w Ba0 ma0 oa0 ys0) (U0 : Rd w Ab0 nb0 cb0 us0) (V0 : Rd w Bb0 mb0 ob0 vs0) (ba1 : Bool) (Aa1 : Option Addr) (na1 ca1 : Nat) (Ba1 : Option Addr) (ma1 oa1 : Nat) (bb1 : Bool) (Ab1 : Option Addr) (nb1 cb1 : Nat) (Bb1 : Option Addr) (mb1 ob1 : Nat) (xs1 ys1 us1 vs1 : List Nat) (R1 : Rd w Aa1 na1 ca1 xs1) (S1 : Rd w Ba1 ma1 oa1 ys1) (U1 : Rd w Ab1 nb1 cb1 us1) (V1 : Rd w Bb1 mb1 ob1 vs1) (ba2 : Bool) (Aa2 : Option Addr) (na2 ca2 : Nat) (Ba2 : Option Addr) (ma2 oa2 : Nat) (bb2 : Bool) (Ab2 : Option Addr) (nb2 cb2 : Nat) (Bb2 : Option Addr) (mb2 ob2 : Nat) (xs2 ys2 us2 vs2 : List Nat) (R2 : Rd w Aa2 na2 ca2 xs2) (S2 : Rd w Ba2 ma2 oa2 ys2) (U2 : Rd w Ab2 nb2 cb2 us2) (V2 : Rd w Bb2 mb2 ob2 vs2)  (mi : Nat) (qi : Nat × Nat × Nat × Nat) (hmi : [(na0, ma0, nb0, mb0), (na1, ma1, nb1, mb1), (na2, ma2, nb2, mb2)][mi]? = some qi) (hyi : Big qi) :
    Calls Try.prog 6 #[.agg #[.bool ba0, .slice Aa0 na0 ca0, .slice Ba0 ma0 oa0, .bool bb0, .slice Ab0 nb0 cb0, .slice Bb0 mb0 ob0], .agg #[.bool ba1, .slice Aa1 na1 ca1, .slice Ba1 ma1 oa1, .bool bb1, .slice Ab1 nb1 cb1, .slice Bb1 mb1 ob1], .agg #[.bool ba2, .slice Aa2 na2 ca2, .slice Ba2 ma2 oa2, .bool bb2, .slice Ab2 nb2 cb2, .slice Bb2 mb2 ob2]] w fun e w' => e = .returned (.bool true) ∧ On w w' := by
  have HMI := Lib.hid hmi
  have HYI := Lib.hid hyi
  clear hmi hyi
  have B : On w (((w.alloc (.cells #[.bool ba0, .slice Aa0 na0 ca0, .slice Ba0 ma0 oa0, .bool bb0, .slice Ab0 nb0 cb0, .slice Bb0 mb0 ob0] 38)).alloc (.cells #[.bool ba1, .slice Aa1 na1 ca1, .slice Ba1 ma1 oa1, .bool bb1, .slice Ab1 nb1 cb1, .slice Bb1 mb1 ob1] 38)).alloc (.cells #[.bool ba2, .slice Aa2 na2 ca2, .slice Ba2 ma2 oa2, .bool bb2, .slice Ab2 nb2 cb2, .slice Bb2 mb2 ob2] 38)) := On.alloc (On.alloc (On.alloc (On.refl w) _) _) _
  have OB3 : w.heap.size ≤ w.heap.size ∧ Own (((w.alloc (.cells #[.bool ba0, .slice Aa0 na0 ca0, .slice Ba0 ma0 oa0, .bool bb0, .slice Ab0 nb0 cb0, .slice Bb0 mb0 ob0] 38)).alloc (.cells #[.bool ba1, .slice Aa1 na1 ca1, .slice Ba1 ma1 oa1, .bool bb1, .slice Ab1 nb1 cb1, .slice Bb1 mb1 ob1] 38)).alloc (.cells #[.bool ba2, .slice Aa2 na2 ca2, .slice Ba2 ma2 oa2, .bool bb2, .slice Ab2 nb2 cb2, .slice Bb2 mb2 ob2] 38)) (w.heap.size) 38 #[.bool ba0, .slice Aa0 na0 ca0, .slice Ba0 ma0 oa0, .bool bb0, .slice Ab0 nb0 cb0, .slice Bb0 mb0 ob0] := ⟨by omega, (((Own.at_ w (w.heap.size) (by simp) 38 #[.bool ba0, .slice Aa0 na0 ca0, .slice Ba0 ma0 oa0, .bool bb0, .slice Ab0 nb0 cb0, .slice Bb0 mb0 ob0]).alloc (.cells #[.bool ba1, .slice Aa1 na1 ca1, .slice Ba1 ma1 oa1, .bool bb1, .slice Ab1 nb1 cb1, .slice Bb1 mb1 ob1] 38)).alloc (.cells #[.bool ba2, .slice Aa2 na2 ca2, .slice Ba2 ma2 oa2, .bool bb2, .slice Ab2 nb2 cb2, .slice Bb2 mb2 ob2] 38))⟩
  have OB4 : w.heap.size ≤ w.heap.size + 1 ∧ Own (((w.alloc (.cells #[.bool ba0, .slice Aa0 na0 ca0, .slice Ba0 ma0 oa0, .bool bb0, .slice Ab0 nb0 cb0, .slice Bb0 mb0 ob0] 38)).alloc (.cells #[.bool ba1, .slice Aa1 na1 ca1, .slice Ba1 ma1 oa1, .bool bb1, .slice Ab1 nb1 cb1, .slice Bb1 mb1 ob1] 38)).alloc (.cells #[.bool ba2, .slice Aa2 na2 ca2, .slice Ba2 ma2 oa2, .bool bb2, .slice Ab2 nb2 cb2, .slice Bb2 mb2 ob2] 38)) (w.heap.size + 1) 38 #[.bool ba1, .slice Aa1 na1 ca1, .slice Ba1 ma1 oa1, .bool bb1, .slice Ab1 nb1 cb1, .slice Bb1 mb1 ob1] := ⟨by omega, ((Own.at_ (w.alloc (.cells #[.bool ba0, .slice Aa0 na0 ca0, .slice Ba0 ma0 oa0, .bool bb0, .slice Ab0 nb0 cb0, .slice Bb0 mb0 ob0] 38)) (w.heap.size + 1) (by simp) 38 #[.bool ba1, .slice Aa1 na1 ca1, .slice Ba1 ma1 oa1, .bool bb1, .slice Ab1 nb1 cb1, .slice Bb1 mb1 ob1]).alloc (.cells #[.bool ba2, .slice Aa2 na2 ca2, .slice Ba2 ma2 oa2, .bool bb2, .slice Ab2 nb2 cb2, .slice Bb2 mb2 ob2] 38))⟩
  have OB5 : w.heap.size ≤ w.heap.size + 2 ∧ Own (((w.alloc (.cells #[.bool ba0, .slice Aa0 na0 ca0, .slice Ba0 ma0 oa0, .bool bb0, .slice Ab0 nb0 cb0, .slice Bb0 mb0 ob0] 38)).alloc (.cells #[.bool ba1, .slice Aa1 na1 ca1, .slice Ba1 ma1 oa1, .bool bb1, .slice Ab1 nb1 cb1, .slice Bb1 mb1 ob1] 38)).alloc (.cells #[.bool ba2, .slice Aa2 na2 ca2, .slice Ba2 ma2 oa2, .bool bb2, .slice Ab2 nb2 cb2, .slice Bb2 mb2 ob2] 38)) (w.heap.size + 2) 38 #[.bool ba2, .slice Aa2 na2 ca2, .slice Ba2 ma2 oa2, .bool bb2, .slice Ab2 nb2 cb2, .slice Bb2 mb2 ob2] := ⟨by omega, (Own.at_ ((w.alloc (.cells #[.bool ba0, .slice Aa0 na0 ca0, .slice Ba0 ma0 oa0, .bool bb0, .slice Ab0 nb0 cb0, .slice Bb0 mb0 ob0] 38)).alloc (.cells #[.bool ba1, .slice Aa1 na1 ca1, .slice Ba1 ma1 oa1, .bool bb1, .slice Ab1 nb1 cb1, .slice Bb1 mb1 ob1] 38)) (w.heap.size + 2) (by simp) 38 #[.bool ba2, .slice Aa2 na2 ca2, .slice Ba2 ma2 oa2, .bool bb2, .slice Ab2 nb2 cb2, .slice Bb2 mb2 ob2])⟩
  go_enter Try.func6, Try.ntmps6
  go_wp2_with fail
  refine (awake03 _).mono ?_
  rintro e w1 ⟨rfl, P1⟩
  replace OB3 := And.intro OB3.1 (OB3.2.on P1)
  replace OB4 := And.intro OB4.1 (OB4.2.on P1)
  replace OB5 := And.intro OB5.1 (OB5.2.on P1)
  replace B := B.trans P1
  have y3_0 : w1.cell? ⟨w.heap.size, 0, none⟩ = some (.bool ba0) := OB3.2.cell 0
  have y3_1 : w1.cell? ⟨w.heap.size, 1, none⟩ = some (.slice Aa0 na0 ca0) := OB3.2.cell 1
  have y3_2 : w1.cell? ⟨w.heap.size, 2, none⟩ = some (.slice Ba0 ma0 oa0) := OB3.2.cell 2
  have y3_3 : w1.cell? ⟨w.heap.size, 3, none⟩ = some (.bool bb0) := OB3.2.cell 3
  have y3_4 : w1.cell? ⟨w.heap.size, 4, none⟩ = some (.slice Ab0 nb0 cb0) := OB3.2.cell 4
  have y3_5 : w1.cell? ⟨w.heap.size, 5, none⟩ = some (.slice Bb0 mb0 ob0) := OB3.2.cell 5
  have y3_f0 := OB3.2.frozen 0
  have y3_f1 := OB3.2.frozen 1
  have y3_f2 := OB3.2.frozen 2
  have y3_f3 := OB3.2.frozen 3
  have y3_f4 := OB3.2.frozen 4
  have y3_f5 := OB3.2.frozen 5
  have y4_0 : w1.cell? ⟨w.heap.size + 1, 0, none⟩ = some (.bool ba1) := OB4.2.cell 0
  have y4_1 : w1.cell? ⟨w.heap.size + 1, 1, none⟩ = some (.slice Aa1 na1 ca1) := OB4.2.cell 1
  have y4_2 : w1.cell? ⟨w.heap.size + 1, 2, none⟩ = some (.slice Ba1 ma1 oa1) := OB4.2.cell 2
  have y4_3 : w1.cell? ⟨w.heap.size + 1, 3, none⟩ = some (.bool bb1) := OB4.2.cell 3
  have y4_4 : w1.cell? ⟨w.heap.size + 1, 4, none⟩ = some (.slice Ab1 nb1 cb1) := OB4.2.cell 4
  have y4_5 : w1.cell? ⟨w.heap.size + 1, 5, none⟩ = some (.slice Bb1 mb1 ob1) := OB4.2.cell 5
  have y4_f0 := OB4.2.frozen 0
  have y4_f1 := OB4.2.frozen 1
  have y4_f2 := OB4.2.frozen 2
  have y4_f3 := OB4.2.frozen 3
  have y4_f4 := OB4.2.frozen 4
  have y4_f5 := OB4.2.frozen 5
  have y5_0 : w1.cell? ⟨w.heap.size + 2, 0, none⟩ = some (.bool ba2) := OB5.2.cell 0
  have y5_1 : w1.cell? ⟨w.heap.size + 2, 1, none⟩ = some (.slice Aa2 na2 ca2) := OB5.2.cell 1
  have y5_2 : w1.cell? ⟨w.heap.size + 2, 2, none⟩ = some (.slice Ba2 ma2 oa2) := OB5.2.cell 2
  have y5_3 : w1.cell? ⟨w.heap.size + 2, 3, none⟩ = some (.bool bb2) := OB5.2.cell 3
  have y5_4 : w1.cell? ⟨w.heap.size + 2, 4, none⟩ = some (.slice Ab2 nb2 cb2) := OB5.2.cell 4
  have y5_5 : w1.cell? ⟨w.heap.size + 2, 5, none⟩ = some (.slice Bb2 mb2 ob2) := OB5.2.cell 5
  have y5_f0 := OB5.2.frozen 0
  have y5_f1 := OB5.2.frozen 1
  have y5_f2 := OB5.2.frozen 2
  have y5_f3 := OB5.2.frozen 3
  have y5_f4 := OB5.2.frozen 4
  have y5_f5 := OB5.2.frozen 5
  go_wp2_with fail
  clear y3_0 y3_f0 y3_1 y3_f1 y3_2 y3_f2 y3_3 y3_f3 y3_4 y3_f4 y3_5 y3_f5
  clear y4_0 y4_f0 y4_1 y4_f1 y4_2 y4_f2 y4_3 y4_f3 y4_4 y4_f4 y4_5 y4_f5
  clear y5_0 y5_f0 y5_1 y5_f1 y5_2 y5_f2 y5_3 y5_f3 y5_4 y5_f4 y5_5 y5_f5
  have B1 := (On.refl w1).alloc (.cells #[.bool ba0, .slice Aa0 na0 ca0, .slice Ba0 ma0 oa0, .bool bb0, .slice Ab0 nb0 cb0, .slice Bb0 mb0 ob0, .bool ba1, .slice Aa1 na1 ca1, .slice Ba1 ma1 oa1, .bool bb1, .slice Ab1 nb1 cb1, .slice Bb1 mb1 ob1, .bool ba2, .slice Aa2 na2 ca2, .slice Ba2 ma2 oa2, .bool bb2, .slice Ab2 nb2 cb2, .slice Bb2 mb2 ob2] 38)
  replace OB3 := And.intro OB3.1 (OB3.2.on B1)
  replace OB4 := And.intro OB4.1 (OB4.2.on B1)
  replace OB5 := And.intro OB5.1 (OB5.2.on B1)
  replace B := B.trans B1
  have hlens := slens3 ba0 Aa0 na0 ca0 Ba0 ma0 oa0 bb0 Ab0 nb0 cb0 Bb0 mb0 ob0 xs0 ys0 us0 vs0 (R0.on B) (S0.on B) (U0.on B) (V0.on B) ba1 Aa1 na1 ca1 Ba1 ma1 oa1 bb1 Ab1 nb1 cb1 Bb1 mb1 ob1 xs1 ys1 us1 vs1 (R1.on B) (S1.on B) (U1.on B) (V1.on B) ba2 Aa2 na2 ca2 Ba2 ma2 oa2 bb2 Ab2 nb2 cb2 Bb2 mb2 ob2 xs2 ys2 us2 vs2 (R2.on B) (S2.on B) (U2.on B) (V2.on B) (Own.new w1 38 #[.bool ba0, .slice Aa0 na0 ca0, .slice Ba0 ma0 oa0, .bool bb0, .slice Ab0 nb0 cb0, .slice Bb0 mb0 ob0, .bool ba1, .slice Aa1 na1 ca1, .slice Ba1 ma1 oa1, .bool bb1, .slice Ab1 nb1 cb1, .slice Bb1 mb1 ob1, .bool ba2, .slice Aa2 na2 ca2, .slice Ba2 ma2 oa2, .bool bb2, .slice Ab2 nb2 cb2, .slice Bb2 mb2 ob2])
  refine (slarge_yes _ _ 3 3 _ hlens rfl (by decide) (by decide) (by decide) mi qi HMI.out HYI.out).mono ?_
  rintro e w2 ⟨rfl, P2⟩
  clear hlens B1 P1
  replace OB3 := And.intro OB3.1 (OB3.2.on P2)
  replace OB4 := And.intro OB4.1 (OB4.2.on P2)
  replace OB5 := And.intro OB5.1 (OB5.2.on P2)
  replace B := B.trans P2
  clear P2
  go_wp2_with fail
  refine (awake03 _).mono ?_
  rintro e w3 ⟨rfl, P3⟩
  go_wp2
  go_ret
  exact ⟨rfl, B.trans P3⟩
set_option maxRecDepth 100000 in
set_option maxHeartbeats 1600000 in
theorem lattice_inv0 (w : World) (ba0 : Bool) (Aa0 : Option Addr) (na0 ca0 : Nat) (Ba0 : Option Addr) (ma0 oa0 : Nat) (bb0 : Bool) (Ab0 : Option Addr) (nb0 cb0 : Nat) (Bb0 : Option Addr) (mb0 ob0 : Nat) (xs0 ys0 us0 vs0 : List Nat) (R0 : Rd w Aa0 na0 ca0 xs0) (S0 : Rd w Ba0 ma0 oa0 ys0) (U0 : Rd w Ab0 nb0 cb0 us0) (V0 : Rd w Bb0 mb0 ob0 vs0) (ba1 : Bool) (Aa1 : Option Addr) (na1 ca1 : Nat) (Ba1 : Option Addr) (ma1 oa1 : Nat) (bb1 : Bool) (Ab1 : Option Addr) (nb1 cb1 : Nat) (Bb1 : Option Addr) (mb1 ob1 : Nat) (xs1 ys1 us1 vs1 : List Nat) (R1 : Rd w Aa1 na1 ca1 xs1) (S1 : Rd w Ba1 ma1 oa1 ys1) (U1 : Rd w Ab1 nb1 cb1 us1) (V1 : Rd w Bb1 mb1 ob1 vs1) (ba2 : Bool) (Aa2 : Option Addr) (na2 ca2 : Nat) (Ba2 : Option Addr) (ma2 oa2 : Nat) (bb2 : Bool) (Ab2 : Option Addr) (nb2 cb2 : Nat) (Bb2 : Option Addr) (mb2 ob2 : Nat) (xs2 ys2 us2 vs2 : List Nat) (R2 : Rd w Aa2 na2 ca2 xs2) (S2 : Rd w Ba2 ma2 oa2 ys2) (U2 : Rd w Ab2 nb2 cb2 us2) (V2 : Rd w Bb2 mb2 ob2 vs2)  (hs : na0 ≤ 6 ∧ ma0 ≤ 6 ∧ nb0 ≤ 6 ∧ mb0 ≤ 6 ∧ na1 ≤ 6 ∧ ma1 ≤ 6 ∧ nb1 ≤ 6 ∧ mb1 ≤ 6 ∧ na2 ≤ 6 ∧ ma2 ≤ 6 ∧ nb2 ≤ 6 ∧ mb2 ≤ 6) (lo0 hi0 : Rat) (Q0 : SRaw w (.agg #[.bool ba0, .slice Aa0 na0 ca0, .slice Ba0 ma0 oa0, .bool bb0, .slice Ab0 nb0 cb0, .slice Bb0 mb0 ob0]) lo0 hi0 false 6) :
    Calls Try.prog 6 #[.agg #[.bool ba0, .slice Aa0 na0 ca0, .slice Ba0 ma0 oa0, .bool bb0, .slice Ab0 nb0 cb0, .slice Bb0 mb0 ob0], .agg #[.bool ba1, .slice Aa1 na1 ca1, .slice Ba1 ma1 oa1, .bool bb1, .slice Ab1 nb1 cb1, .slice Bb1 mb1 ob1], .agg #[.bool ba2, .slice Aa2 na2 ca2, .slice Ba2 ma2 oa2, .bool bb2, .slice Ab2 nb2 cb2, .slice Bb2 mb2 ob2]] w fun e w' => e = .returned (.bool true) ∧ On w w' := by
  have HSM : Hid (∀ p ∈ [(na0, ma0, nb0, mb0), (na1, ma1, nb1, mb1), (na2, ma2, nb2, mb2)], ¬ Big p) := Lib.hid (by intro p hp; simp at hp; rcases hp with rfl | rfl | rfl <;> (unfold Big; simp only; omega))
  have B : On w (((w.alloc (.cells #[.bool ba0, .slice Aa0 na0 ca0, .slice Ba0 ma0 oa0, .bool bb0, .slice Ab0 nb0 cb0, .slice Bb0 mb0 ob0] 38)).alloc (.cells #[.bool ba1, .slice Aa1 na1 ca1, .slice Ba1 ma1 oa1, .bool bb1, .slice Ab1 nb1 cb1, .slice Bb1 mb1 ob1] 38)).alloc (.cells #[.bool ba2, .slice Aa2 na2 ca2, .slice Ba2 ma2 oa2, .bool bb2, .slice Ab2 nb2 cb2, .slice Bb2 mb2 ob2] 38)) := On.alloc (On.alloc (On.alloc (On.refl w) _) _) _
  have OB3 : w.heap.size ≤ w.heap.size ∧ Own (((w.alloc (.cells #[.bool ba0, .slice Aa0 na0 ca0, .slice Ba0 ma0 oa0, .bool bb0, .slice Ab0 nb0 cb0, .slice Bb0 mb0 ob0] 38)).alloc (.cells #[.bool ba1, .slice Aa1 na1 ca1, .slice Ba1 ma1 oa1, .bool bb1, .slice Ab1 nb1 cb1, .slice Bb1 mb1 ob1] 38)).alloc (.cells #[.bool ba2, .slice Aa2 na2 ca2, .slice Ba2 ma2 oa2, .bool bb2, .slice Ab2 nb2 cb2, .slice Bb2 mb2 ob2] 38)) (w.heap.size) 38 #[.bool ba0, .slice Aa0 na0 ca0, .slice Ba0 ma0 oa0, .bool bb0, .slice Ab0 nb0 cb0, .slice Bb0 mb0 ob0] := ⟨by omega, (((Own.at_ w (w.heap.size) (by simp) 38 #[.bool ba0, .slice Aa0 na0 ca0, .slice Ba0 ma0 oa0, .bool bb0, .slice Ab0 nb0 cb0, .slice Bb0 mb0 ob0]).alloc (.cells #[.bool ba1, .slice Aa1 na1 ca1, .slice Ba1 ma1 oa1, .bool bb1, .slice Ab1 nb1 cb1, .slice Bb1 mb1 ob1] 38)).alloc (.cells #[.bool ba2, .slice Aa2 na2 ca2, .slice Ba2 ma2 oa2, .bool bb2, .slice Ab2 nb2 cb2, .slice Bb2 mb2 ob2] 38))⟩
  have OB4 : w.heap.size ≤ w.heap.size + 1 ∧ Own (((w.alloc (.cells #[.bool ba0, .slice Aa0 na0 ca0, .slice Ba0 ma0 oa0, .bool bb0, .slice Ab0 nb0 cb0, .slice Bb0 mb0 ob0] 38)).alloc (.cells #[.bool ba1, .slice Aa1 na1 ca1, .slice Ba1 ma1 oa1, .bool bb1, .slice Ab1 nb1 cb1, .slice Bb1 mb1 ob1] 38)).alloc (.cells #[.bool ba2, .slice Aa2 na2 ca2, .slice Ba2 ma2 oa2, .bool bb2, .slice Ab2 nb2 cb2, .slice Bb2 mb2 ob2] 38)) (w.heap.size + 1) 38 #[.bool ba1, .slice Aa1 na1 ca1, .slice Ba1 ma1 oa1, .bool bb1, .slice Ab1 nb1 cb1, .slice Bb1 mb1 ob1] := ⟨by omega, ((Own.at_ (w.alloc (.cells #[.bool ba0, .slice Aa0 na0 ca0, .slice Ba0 ma0 oa0, .bool bb0, .slice Ab0 nb0 cb0, .slice Bb0 mb0 ob0] 38)) (w.heap.size + 1) (by simp) 38 #[.bool ba1, .slice Aa1 na1 ca1, .slice Ba1 ma1 oa1, .bool bb1, .slice Ab1 nb1 cb1, .slice Bb1 mb1 ob1]).alloc (.cells #[.bool ba2, .slice Aa2 na2 ca2, .slice Ba2 ma2 oa2, .bool bb2, .slice Ab2 nb2 cb2, .slice Bb2 mb2 ob2] 38))⟩
  have OB5 : w.heap.size ≤ w.heap.size + 2 ∧ Own (((w.alloc (.cells #[.bool ba0, .slice Aa0 na0 ca0, .slice Ba0 ma0 oa0, .bool bb0, .slice Ab0 nb0 cb0, .slice Bb0 mb0 ob0] 38)).alloc (.cells #[.bool ba1, .slice Aa1 na1 ca1, .slice Ba1 ma1 oa1, .bool bb1, .slice Ab1 nb1 cb1, .slice Bb1 mb1 ob1] 38)).alloc (.cells #[.bool ba2, .slice Aa2 na2 ca2, .slice Ba2 ma2 oa2, .bool bb2, .slice Ab2 nb2 cb2, .slice Bb2 mb2 ob2] 38)) (w.heap.size + 2) 38 #[.bool ba2, .slice Aa2 na2 ca2, .slice Ba2 ma2 oa2, .bool bb2, .slice Ab2 nb2 cb2, .slice Bb2 mb2 ob2] := ⟨by omega, (Own.at_ ((w.alloc (.cells #[.bool ba0, .slice Aa0 na0 ca0, .slice Ba0 ma0 oa0, .bool bb0, .slice Ab0 nb0 cb0, .slice Bb0 mb0 ob0] 38)).alloc (.cells #[.bool ba1, .slice Aa1 na1 ca1, .slice Ba1 ma1 oa1, .bool bb1, .slice Ab1 nb1 cb1, .slice Bb1 mb1 ob1] 38)) (w.heap.size + 2) (by simp) 38 #[.bool ba2, .slice Aa2 na2 ca2, .slice Ba2 ma2 oa2, .bool bb2, .slice Ab2 nb2 cb2, .slice Bb2 mb2 ob2])⟩
  go_enter Try.func6, Try.ntmps6
  go_wp2_with fail
  refine (awake03 _).mono ?_
  rintro e w1 ⟨rfl, P1⟩
  replace OB3 := And.intro OB3.1 (OB3.2.on P1)
  replace OB4 := And.intro OB4.1 (OB4.2.on P1)
  replace OB5 := And.intro OB5.1 (OB5.2.on P1)
  replace B := B.trans P1
  have y3_0 : w1.cell? ⟨w.heap.size, 0, none⟩ = some (.bool ba0) := OB3.2.cell 0
  have y3_1 : w1.cell? ⟨w.heap.size, 1, none⟩ = some (.slice Aa0 na0 ca0) := OB3.2.cell 1
  have y3_2 : w1.cell? ⟨w.heap.size, 2, none⟩ = some (.slice Ba0 ma0 oa0) := OB3.2.cell 2
  have y3_3 : w1.cell? ⟨w.heap.size, 3, none⟩ = some (.bool bb0) := OB3.2.cell 3
  have y3_4 : w1.cell? ⟨w.heap.size, 4, none⟩ = some (.slice Ab0 nb0 cb0) := OB3.2.cell 4
  have y3_5 : w1.cell? ⟨w.heap.size, 5, none⟩ = some (.slice Bb0 mb0 ob0) := OB3.2.cell 5
  have y3_f0 := OB3.2.frozen 0
  have y3_f1 := OB3.2.frozen 1
  have y3_f2 := OB3.2.frozen 2
  have y3_f3 := OB3.2.frozen 3
  have y3_f4 := OB3.2.frozen 4
  have y3_f5 := OB3.2.frozen 5
  have y4_0 : w1.cell? ⟨w.heap.size + 1, 0, none⟩ = some (.bool ba1) := OB4.2.cell 0
  have y4_1 : w1.cell? ⟨w.heap.size + 1, 1, none⟩ = some (.slice Aa1 na1 ca1) := OB4.2.cell 1
  have y4_2 : w1.cell? ⟨w.heap.size + 1, 2, none⟩ = some (.slice Ba1 ma1 oa1) := OB4.2.cell 2
  have y4_3 : w1.cell? ⟨w.heap.size + 1, 3, none⟩ = some (.bool bb1) := OB4.2.cell 3
  have y4_4 : w1.cell? ⟨w.heap.size + 1, 4, none⟩ = some (.slice Ab1 nb1 cb1) := OB4.2.cell 4
  have y4_5 : w1.cell? ⟨w.heap.size + 1, 5, none⟩ = some (.slice Bb1 mb1 ob1) := OB4.2.cell 5
  have y4_f0 := OB4.2.frozen 0
  have y4_f1 := OB4.2.frozen 1
  have y4_f2 := OB4.2.frozen 2
  have y4_f3 := OB4.2.frozen 3
  have y4_f4 := OB4.2.frozen 4
  have y4_f5 := OB4.2.frozen 5
  have y5_0 : w1.cell? ⟨w.heap.size + 2, 0, none⟩ = some (.bool ba2) := OB5.2.cell 0
  have y5_1 : w1.cell? ⟨w.heap.size + 2, 1, none⟩ = some (.slice Aa2 na2 ca2) := OB5.2.cell 1
  have y5_2 : w1.cell? ⟨w.heap.size + 2, 2, none⟩ = some (.slice Ba2 ma2 oa2) := OB5.2.cell 2
  have y5_3 : w1.cell? ⟨w.heap.size + 2, 3, none⟩ = some (.bool bb2) := OB5.2.cell 3
  have y5_4 : w1.cell? ⟨w.heap.size + 2, 4, none⟩ = some (.slice Ab2 nb2 cb2) := OB5.2.cell 4
  have y5_5 : w1.cell? ⟨w.heap.size + 2, 5, none⟩ = some (.slice Bb2 mb2 ob2) := OB5.2.cell 5
  have y5_f0 := OB5.2.frozen 0
  have y5_f1 := OB5.2.frozen 1
  have y5_f2 := OB5.2.frozen 2
  have y5_f3 := OB5.2.frozen 3
  have y5_f4 := OB5.2.frozen 4
  have y5_f5 := OB5.2.frozen 5
  go_wp2_with fail
  clear y3_0 y3_f0 y3_1 y3_f1 y3_2 y3_f2 y3_3 y3_f3 y3_4 y3_f4 y3_5 y3_f5
  clear y4_0 y4_f0 y4_1 y4_f1 y4_2 y4_f2 y4_3 y4_f3 y4_4 y4_f4 y4_5 y4_f5
  clear y5_0 y5_f0 y5_1 y5_f1 y5_2 y5_f2 y5_3 y5_f3 y5_4 y5_f4 y5_5 y5_f5
  have B1 := (On.refl w1).alloc (.cells #[.bool ba0, .slice Aa0 na0 ca0, .slice Ba0 ma0 oa0, .bool bb0, .slice Ab0 nb0 cb0, .slice Bb0 mb0 ob0, .bool ba1, .slice Aa1 na1 ca1, .slice Ba1 ma1 oa1, .bool bb1, .slice Ab1 nb1 cb1, .slice Bb1 mb1 ob1, .bool ba2, .slice Aa2 na2 ca2, .slice Ba2 ma2 oa2, .bool bb2, .slice Ab2 nb2 cb2, .slice Bb2 mb2 ob2] 38)
  replace OB3 := And.intro OB3.1 (OB3.2.on B1)
  replace OB4 := And.intro OB4.1 (OB4.2.on B1)
  replace OB5 := And.intro OB5.1 (OB5.2.on B1)
  replace B := B.trans B1
  have hlens := slens3 ba0 Aa0 na0 ca0 Ba0 ma0 oa0 bb0 Ab0 nb0 cb0 Bb0 mb0 ob0 xs0 ys0 us0 vs0 (R0.on B) (S0.on B) (U0.on B) (V0.on B) ba1 Aa1 na1 ca1 Ba1 ma1 oa1 bb1 Ab1 nb1 cb1 Bb1 mb1 ob1 xs1 ys1 us1 vs1 (R1.on B) (S1.on B) (U1.on B) (V1.on B) ba2 Aa2 na2 ca2 Ba2 ma2 oa2 bb2 Ab2 nb2 cb2 Bb2 mb2 ob2 xs2 ys2 us2 vs2 (R2.on B) (S2.on B) (U2.on B) (V2.on B) (Own.new w1 38 #[.bool ba0, .slice Aa0 na0 ca0, .slice Ba0 ma0 oa0, .bool bb0, .slice Ab0 nb0 cb0, .slice Bb0 mb0 ob0, .bool ba1, .slice Aa1 na1 ca1, .slice Ba1 ma1 oa1, .bool bb1, .slice Ab1 nb1 cb1, .slice Bb1 mb1 ob1, .bool ba2, .slice Aa2 na2 ca2, .slice Ba2 ma2 oa2, .bool bb2, .slice Ab2 nb2 cb2, .slice Bb2 mb2 ob2])
  refine (slarge_no _ _ 3 3 _ hlens rfl (by decide) (by decide) (by decide) HSM.out).mono ?_
  rintro e w2 ⟨rfl, P2⟩
  clear hlens B1 P1
  replace OB3 := And.intro OB3.1 (OB3.2.on P2)
  replace OB4 := And.intro OB4.1 (OB4.2.on P2)
  replace OB5 := And.intro OB5.1 (OB5.2.on P2)
  replace B := B.trans P2
  clear P2
  have y3_0 : w2.cell? ⟨w.heap.size, 0, none⟩ = some (.bool ba0) := OB3.2.cell 0
  have y3_1 : w2.cell? ⟨w.heap.size, 1, none⟩ = some (.slice Aa0 na0 ca0) := OB3.2.cell 1
  have y3_2 : w2.cell? ⟨w.heap.size, 2, none⟩ = some (.slice Ba0 ma0 oa0) := OB3.2.cell 2
  have y3_3 : w2.cell? ⟨w.heap.size, 3, none⟩ = some (.bool bb0) := OB3.2.cell 3
  have y3_4 : w2.cell? ⟨w.heap.size, 4, none⟩ = some (.slice Ab0 nb0 cb0) := OB3.2.cell 4
  have y3_5 : w2.cell? ⟨w.heap.size, 5, none⟩ = some (.slice Bb0 mb0 ob0) := OB3.2.cell 5
  have y3_f0 := OB3.2.frozen 0
  have y3_f1 := OB3.2.frozen 1
  have y3_f2 := OB3.2.frozen 2
  have y3_f3 := OB3.2.frozen 3
  have y3_f4 := OB3.2.frozen 4
  have y3_f5 := OB3.2.frozen 5
  go_wp2_with fail
  refine (svalid_any _ _ _ _ _ _ (Q0.on B) (by decide)).mono ?_
  rintro e wv0 ⟨rfl, PV⟩
  clear y3_0 y3_f0 y3_1 y3_f1 y3_2 y3_f2 y3_3 y3_f3 y3_4 y3_f4 y3_5 y3_f5
  replace OB3 := And.intro OB3.1 (OB3.2.on PV)
  replace OB4 := And.intro OB4.1 (OB4.2.on PV)
  replace OB5 := And.intro OB5.1 (OB5.2.on PV)
  replace B := B.trans PV
  clear PV
  go_wp2_with fail
  refine (awake03 _).mono ?_
  rintro e w3 ⟨rfl, P3⟩
  go_wp2
  go_ret
  exact ⟨rfl, B.trans P3⟩
set_option maxRecDepth 100000 in
set_option maxHeartbeats 1600000 in
theorem lattice_inv1 (w : World) (ba0 : Bool) (Aa0 : Option Addr) (na0 ca0 : Nat) (Ba0 : Option Addr) (ma0 oa0 : Nat) (bb0 : Bool) (Ab0 : Option Addr) (nb0 cb0 : Nat) (Bb0 : Option Addr) (mb0 ob0 : Nat) (xs0 ys0 us0 vs0 : List Nat) (R0 : Rd w Aa0 na0 ca0 xs0) (S0 : Rd w Ba0 ma0 oa0 ys0) (U0 : Rd w Ab0 nb0 cb0 us0) (V0 : Rd w Bb0 mb0 ob0 vs0) (ba1 : Bool) (Aa1 : Option Addr) (na1 ca1 : Nat) (Ba1 : Option Addr) (ma1 oa1 : Nat) (bb1 : Bool) (Ab1 : Option Addr) (nb1 cb1 : Nat) (Bb1 : Option Addr) (mb1 ob1 : Nat) (xs1 ys1 us1 vs1 : List Nat) (R1 : Rd w Aa1 na1 ca1 xs1) (S1 : Rd w Ba1 ma1 oa1 ys1) (U1 : Rd w Ab1 nb1 cb1 us1) (V1 : Rd w Bb1 mb1 ob1 vs1) (ba2 : Bool) (Aa2 : Option Addr) (na2 ca2 : Nat) (Ba2 : Option Addr) (ma2 oa2 : Nat) (bb2 : Bool) (Ab2 : Option Addr) (nb2 cb2 : Nat) (Bb2 : Option Addr) (mb2 ob2 : Nat) (xs2 ys2 us2 vs2 : List Nat) (R2 : Rd w Aa2 na2 ca2 xs2) (S2 : Rd w Ba2 ma2 oa2 ys2) (U2 : Rd w Ab2 nb2 cb2 us2) (V2 : Rd w Bb2 mb2 ob2 vs2)  (hs : na0 ≤ 6 ∧ ma0 ≤ 6 ∧ nb0 ≤ 6 ∧ mb0 ≤ 6 ∧ na1 ≤ 6 ∧ ma1 ≤ 6 ∧ nb1 ≤ 6 ∧ mb1 ≤ 6 ∧ na2 ≤ 6 ∧ ma2 ≤ 6 ∧ nb2 ≤ 6 ∧ mb2 ≤ 6) (lo0 hi0 : Rat) (Q0 : SRaw w (.agg #[.bool ba0, .slice Aa0 na0 ca0, .slice Ba0 ma0 oa0, .bool bb0, .slice Ab0 nb0 cb0, .slice Bb0 mb0 ob0]) lo0 hi0 true 6) (lo1 hi1 : Rat) (Q1 : SRaw w (.agg #[.bool ba1, .slice Aa1 na1 ca1, .slice Ba1 ma1 oa1, .bool bb1, .slice Ab1 nb1 cb1, .slice Bb1 mb1 ob1]) lo1 hi1 false 6) :
    Calls Try.prog 6 #[.agg #[.bool ba0, .slice Aa0 na0 ca0, .slice Ba0 ma0 oa0, .bool bb0, .slice Ab0 nb0 cb0, .slice Bb0 mb0 ob0], .agg #[.bool ba1, .slice Aa1 na1 ca1, .slice Ba1 ma1 oa1, .bool bb1, .slice Ab1 nb1 cb1, .slice Bb1 mb1 ob1], .agg #[.bool ba2, .slice Aa2 na2 ca2, .slice Ba2 ma2 oa2, .bool bb2, .slice Ab2 nb2 cb2, .slice Bb2 mb2 ob2]] w fun e w' => e = .returned (.bool true) ∧ On w w' := by
  have HSM : Hid (∀ p ∈ [(na0, ma0, nb0, mb0), (na1, ma1, nb1, mb1), (na2, ma2, nb2, mb2)], ¬ Big p) := Lib.hid (by intro p hp; simp at hp; rcases hp with rfl | rfl | rfl <;> (unfold Big; simp only; omega))
  have B : On w (((w.alloc (.cells #[.bool ba0, .slice Aa0 na0 ca0, .slice Ba0 ma0 oa0, .bool bb0, .slice Ab0 nb0 cb0, .slice Bb0 mb0 ob0] 38)).alloc (.cells #[.bool ba1, .slice Aa1 na1 ca1, .slice Ba1 ma1 oa1, .bool bb1, .slice Ab1 nb1 cb1, .slice Bb1 mb1 ob1] 38)).alloc (.cells #[.bool ba2, .slice Aa2 na2 ca2, .slice Ba2 ma2 oa2, .bool bb2, .slice Ab2 nb2 cb2, .slice Bb2 mb2 ob2] 38)) := On.alloc (On.alloc (On.alloc (On.refl w) _) _) _
  have OB3 : w.heap.size ≤ w.heap.size ∧ Own (((w.alloc (.cells #[.bool ba0, .slice Aa0 na0 ca0, .slice Ba0 ma0 oa0, .bool bb0, .slice Ab0 nb0 cb0, .slice Bb0 mb0 ob0] 38)).alloc (.cells #[.bool ba1, .slice Aa1 na1 ca1, .slice Ba1 ma1 oa1, .bool bb1, .slice Ab1 nb1 cb1, .slice Bb1 mb1 ob1] 38)).alloc (.cells #[.bool ba2, .slice Aa2 na2 ca2, .slice Ba2 ma2 oa2, .bool bb2, .slice Ab2 nb2 cb2, .slice Bb2 mb2 ob2] 38)) (w.heap.size) 38 #[.bool ba0, .slice Aa0 na0 ca0, .slice Ba0 ma0 oa0, .bool bb0, .slice Ab0 nb0 cb0, .slice Bb0 mb0 ob0] := ⟨by omega, (((Own.at_ w (w.heap.size) (by simp) 38 #[.bool ba0, .slice Aa0 na0 ca0, .slice Ba0 ma0 oa0, .bool bb0, .slice Ab0 nb0 cb0, .slice Bb0 mb0 ob0]).alloc (.cells #[.bool ba1, .slice Aa1 na1 ca1, .slice Ba1 ma1 oa1, .bool bb1, .slice Ab1 nb1 cb1, .slice Bb1 mb1 ob1] 38)).alloc (.cells #[.bool ba2, .slice Aa2 na2 ca2, .slice Ba2 ma2 oa2, .bool bb2, .slice Ab2 nb2 cb2, .slice Bb2 mb2 ob2] 38))⟩
  have OB4 : w.heap.size ≤ w.heap.size + 1 ∧ Own (((w.alloc (.cells #[.bool ba0, .slice Aa0 na0 ca0, .slice Ba0 ma0 oa0, .bool bb0, .slice Ab0 nb0 cb0, .slice Bb0 mb0 ob0] 38)).alloc (.cells #[.bool ba1, .slice Aa1 na1 ca1, .slice Ba1 ma1 oa1, .bool bb1, .slice Ab1 nb1 cb1, .slice Bb1 mb1 ob1] 38)).alloc (.cells #[.bool ba2, .slice Aa2 na2 ca2, .slice Ba2 ma2 oa2, .bool bb2, .slice Ab2 nb2 cb2, .slice Bb2 mb2 ob2] 38)) (w.heap.size + 1) 38 #[.bool ba1, .slice Aa1 na1 ca1, .slice Ba1 ma1 oa1, .bool bb1, .slice Ab1 nb1 cb1, .slice Bb1 mb1 ob1] := ⟨by omega, ((Own.at_ (w.alloc (.cells #[.bool ba0, .slice Aa0 na0 ca0, .slice Ba0 ma0 oa0, .bool bb0, .slice Ab0 nb0 cb0, .slice Bb0 mb0 ob0] 38)) (w.heap.size + 1) (by simp) 38 #[.bool ba1, .slice Aa1 na1 ca1, .slice Ba1 ma1 oa1, .bool bb1, .slice Ab1 nb1 cb1, .slice Bb1 mb1 ob1]).alloc (.cells #[.bool ba2, .slice Aa2 na2 ca2, .slice Ba2 ma2 oa2, .bool bb2, .slice Ab2 nb2 cb2, .slice Bb2 mb2 ob2] 38))⟩
  have OB5 : w.heap.size ≤ w.heap.size + 2 ∧ Own (((w.alloc (.cells #[.bool ba0, .slice Aa0 na0 ca0, .slice Ba0 ma0 oa0, .bool bb0, .slice Ab0 nb0 cb0, .slice Bb0 mb0 ob0] 38)).alloc (.cells #[.bool ba1, .slice Aa1 na1 ca1, .slice Ba1 ma1 oa1, .bool bb1, .slice Ab1 nb1 cb1, .slice Bb1 mb1 ob1] 38)).alloc (.cells #[.bool ba2, .slice Aa2 na2 ca2, .slice Ba2 ma2 oa2, .bool bb2, .slice Ab2 nb2 cb2, .slice Bb2 mb2 ob2] 38)) (w.heap.size + 2) 38 #[.bool ba2, .slice Aa2 na2 ca2, .slice Ba2 ma2 oa2, .bool bb2, .slice Ab2 nb2 cb2, .slice Bb2 mb2 ob2] := ⟨by omega, (Own.at_ ((w.alloc (.cells #[.bool ba0, .slice Aa0 na0 ca0, .slice Ba0 ma0 oa0, .bool bb0, .slice Ab0 nb0 cb0, .slice Bb0 mb0 ob0] 38)).alloc (.cells #[.bool ba1, .slice Aa1 na1 ca1, .slice Ba1 ma1 oa1, .bool bb1, .slice Ab1 nb1 cb1, .slice Bb1 mb1 ob1] 38)) (w.heap.size + 2) (by simp) 38 #[.bool ba2, .slice Aa2 na2 ca2, .slice Ba2 ma2 oa2, .bool bb2, .slice Ab2 nb2 cb2, .slice Bb2 mb2 ob2])⟩
  go_enter Try.func6, Try.ntmps6
  go_wp2_with fail
  refine (awake03 _).mono ?_
  rintro e w1 ⟨rfl, P1⟩
  replace OB3 := And.intro OB3.1 (OB3.2.on P1)
  replace OB4 := And.intro OB4.1 (OB4.2.on P1)
  replace OB5 := And.intro OB5.1 (OB5.2.on P1)
  replace B := B.trans P1
  have y3_0 : w1.cell? ⟨w.heap.size, 0, none⟩ = some (.bool ba0) := OB3.2.cell 0
  have y3_1 : w1.cell? ⟨w.heap.size, 1, none⟩ = some (.slice Aa0 na0 ca0) := OB3.2.cell 1
  have y3_2 : w1.cell? ⟨w.heap.size, 2, none⟩ = some (.slice Ba0 ma0 oa0) := OB3.2.cell 2
  have y3_3 : w1.cell? ⟨w.heap.size, 3, none⟩ = some (.bool bb0) := OB3.2.cell 3
  have y3_4 : w1.cell? ⟨w.heap.size, 4, none⟩ = some (.slice Ab0 nb0 cb0) := OB3.2.cell 4
  have y3_5 : w1.cell? ⟨w.heap.size, 5, none⟩ = some (.slice Bb0 mb0 ob0) := OB3.2.cell 5
  have y3_f0 := OB3.2.frozen 0
  have y3_f1 := OB3.2.frozen 1
  have y3_f2 := OB3.2.frozen 2
  have y3_f3 := OB3.2.frozen 3
  have y3_f4 := OB3.2.frozen 4
  have y3_f5 := OB3.2.frozen 5
  have y4_0 : w1.cell? ⟨w.heap.size + 1, 0, none⟩ = some (.bool ba1) := OB4.2.cell 0
  have y4_1 : w1.cell? ⟨w.heap.size + 1, 1, none⟩ = some (.slice Aa1 na1 ca1) := OB4.2.cell 1
  have y4_2 : w1.cell? ⟨w.heap.size + 1, 2, none⟩ = some (.slice Ba1 ma1 oa1) := OB4.2.cell 2
  have y4_3 : w1.cell? ⟨w.heap.size + 1, 3, none⟩ = some (.bool bb1) := OB4.2.cell 3
  have y4_4 : w1.cell? ⟨w.heap.size + 1, 4, none⟩ = some (.slice Ab1 nb1 cb1) := OB4.2.cell 4
  have y4_5 : w1.cell? ⟨w.heap.size + 1, 5, none⟩ = some (.slice Bb1 mb1 ob1) := OB4.2.cell 5
  have y4_f0 := OB4.2.frozen 0
  have y4_f1 := OB4.2.frozen 1
  have y4_f2 := OB4.2.frozen 2
  have y4_f3 := OB4.2.frozen 3
  have y4_f4 := OB4.2.frozen 4
  have y4_f5 := OB4.2.frozen 5
  have y5_0 : w1.cell? ⟨w.heap.size + 2, 0, none⟩ = some (.bool ba2) := OB5.2.cell 0
  have y5_1 : w1.cell? ⟨w.heap.size + 2, 1, none⟩ = some (.slice Aa2 na2 ca2) := OB5.2.cell 1
  have y5_2 : w1.cell? ⟨w.heap.size + 2, 2, none⟩ = some (.slice Ba2 ma2 oa2) := OB5.2.cell 2
  have y5_3 : w1.cell? ⟨w.heap.size + 2, 3, none⟩ = some (.bool bb2) := OB5.2.cell 3
  have y5_4 : w1.cell? ⟨w.heap.size + 2, 4, none⟩ = some (.slice Ab2 nb2 cb2) := OB5.2.cell 4
  have y5_5 : w1.cell? ⟨w.heap.size + 2, 5, none⟩ = some (.slice Bb2 mb2 ob2) := OB5.2.cell 5
  have y5_f0 := OB5.2.frozen 0
  have y5_f1 := OB5.2.frozen 1
  have y5_f2 := OB5.2.frozen 2
  have y5_f3 := OB5.2.frozen 3
  have y5_f4 := OB5.2.frozen 4
  have y5_f5 := OB5.2.frozen 5
  go_wp2_with fail
  clear y3_0 y3_f0 y3_1 y3_f1 y3_2 y3_f2 y3_3 y3_f3 y3_4 y3_f4 y3_5 y3_f5
  clear y4_0 y4_f0 y4_1 y4_f1 y4_2 y4_f2 y4_3 y4_f3 y4_4 y4_f4 y4_5 y4_f5
  clear y5_0 y5_f0 y5_1 y5_f1 y5_2 y5_f2 y5_3 y5_f3 y5_4 y5_f4 y5_5 y5_f5
  have B1 := (On.refl w1).alloc (.cells #[.bool ba0, .slice Aa0 na0 ca0, .slice Ba0 ma0 oa0, .bool bb0, .slice Ab0 nb0 cb0, .slice Bb0 mb0 ob0, .bool ba1, .slice Aa1 na1 ca1, .slice Ba1 ma1 oa1, .bool bb1, .slice Ab1 nb1 cb1, .slice Bb1 mb1 ob1, .bool ba2, .slice Aa2 na2 ca2, .slice Ba2 ma2 oa2, .bool bb2, .slice Ab2 nb2 cb2, .slice Bb2 mb2 ob2] 38)
  replace OB3 := And.intro OB3.1 (OB3.2.on B1)
  replace OB4 := And.intro OB4.1 (OB4.2.on B1)
  replace OB5 := And.intro OB5.1 (OB5.2.on B1)
  replace B := B.trans B1
  have hlens := slens3 ba0 Aa0 na0 ca0 Ba0 ma0 oa0 bb0 Ab0 nb0 cb0 Bb0 mb0 ob0 xs0 ys0 us0 vs0 (R0.on B) (S0.on B) (U0.on B) (V0.on B) ba1 Aa1 na1 ca1 Ba1 ma1 oa1 bb1 Ab1 nb1 cb1 Bb1 mb1 ob1 xs1 ys1 us1 vs1 (R1.on B) (S1.on B) (U1.on B) (V1.on B) ba2 Aa2 na2 ca2 Ba2 ma2 oa2 bb2 Ab2 nb2 cb2 Bb2 mb2 ob2 xs2 ys2 us2 vs2 (R2.on B) (S2.on B) (U2.on B) (V2.on B) (Own.new w1 38 #[.bool ba0, .slice Aa0 na0 ca0, .slice Ba0 ma0 oa0, .bool bb0, .slice Ab0 nb0 cb0, .slice Bb0 mb0 ob0, .bool ba1, .slice Aa1 na1 ca1, .slice Ba1 ma1 oa1, .bool bb1, .slice Ab1 nb1 cb1, .slice Bb1 mb1 ob1, .bool ba2, .slice Aa2 na2 ca2, .slice Ba2 ma2 oa2, .bool bb2, .slice Ab2 nb2 cb2, .slice Bb2 mb2 ob2])
  refine (slarge_no _ _ 3 3 _ hlens rfl (by decide) (by decide) (by decide) HSM.out).mono ?_
  rintro e w2 ⟨rfl, P2⟩
  clear hlens B1 P1
  replace OB3 := And.intro OB3.1 (OB3.2.on P2)
  replace OB4 := And.intro OB4.1 (OB4.2.on P2)
  replace OB5 := And.intro OB5.1 (OB5.2.on P2)
  replace B := B.trans P2
  clear P2
  have y3_0 : w2.cell? ⟨w.heap.size, 0, none⟩ = some (.bool ba0) := OB3.2.cell 0
  have y3_1 : w2.cell? ⟨w.heap.size, 1, none⟩ = some (.slice Aa0 na0 ca0) := OB3.2.cell 1
  have y3_2 : w2.cell? ⟨w.heap.size, 2, none⟩ = some (.slice Ba0 ma0 oa0) := OB3.2.cell 2
  have y3_3 : w2.cell? ⟨w.heap.size, 3, none⟩ = some (.bool bb0) := OB3.2.cell 3
  have y3_4 : w2.cell? ⟨w.heap.size, 4, none⟩ = some (.slice Ab0 nb0 cb0) := OB3.2.cell 4
  have y3_5 : w2.cell? ⟨w.heap.size, 5, none⟩ = some (.slice Bb0 mb0 ob0) := OB3.2.cell 5
  have y3_f0 := OB3.2.frozen 0
  have y3_f1 := OB3.2.frozen 1
  have y3_f2 := OB3.2.frozen 2
  have y3_f3 := OB3.2.frozen 3
  have y3_f4 := OB3.2.frozen 4
  have y3_f5 := OB3.2.frozen 5
  go_wp2_with fail
  refine (svalid_any _ _ _ _ _ _ (Q0.on B) (by decide)).mono ?_
  rintro e wv0 ⟨rfl, PV⟩
  clear y3_0 y3_f0 y3_1 y3_f1 y3_2 y3_f2 y3_3 y3_f3 y3_4 y3_f4 y3_5 y3_f5
  replace OB3 := And.intro OB3.1 (OB3.2.on PV)
  replace OB4 := And.intro OB4.1 (OB4.2.on PV)
  replace OB5 := And.intro OB5.1 (OB5.2.on PV)
  replace B := B.trans PV
  clear PV
  have y4_0 : wv0.cell? ⟨w.heap.size + 1, 0, none⟩ = some (.bool ba1) := OB4.2.cell 0
  have y4_1 : wv0.cell? ⟨w.heap.size + 1, 1, none⟩ = some (.slice Aa1 na1 ca1) := OB4.2.cell 1
  have y4_2 : wv0.cell? ⟨w.heap.size + 1, 2, none⟩ = some (.slice Ba1 ma1 oa1) := OB4.2.cell 2
  have y4_3 : wv0.cell? ⟨w.heap.size + 1, 3, none⟩ = some (.bool bb1) := OB4.2.cell 3
  have y4_4 : wv0.cell? ⟨w.heap.size + 1, 4, none⟩ = some (.slice Ab1 nb1 cb1) := OB4.2.cell 4
  have y4_5 : wv0.cell? ⟨w.heap.size + 1, 5, none⟩ = some (.slice Bb1 mb1 ob1) := OB4.2.cell 5
  have y4_f0 := OB4.2.frozen 0
  have y4_f1 := OB4.2.frozen 1
  have y4_f2 := OB4.2.frozen 2
  have y4_f3 := OB4.2.frozen 3
  have y4_f4 := OB4.2.frozen 4
  have y4_f5 := OB4.2.frozen 5
  go_wp2_with fail
  refine (svalid_any _ _ _ _ _ _ (Q1.on B) (by decide)).mono ?_
  rintro e wv1 ⟨rfl, PV⟩
  clear y4_0 y4_f0 y4_1 y4_f1 y4_2 y4_f2 y4_3 y4_f3 y4_4 y4_f4 y4_5 y4_f5
  replace OB3 := And.intro OB3.1 (OB3.2.on PV)
  replace OB4 := And.intro OB4.1 (OB4.2.on PV)
  replace OB5 := And.intro OB5.1 (OB5.2.on PV)
  replace B := B.trans PV
  clear PV
  go_wp2_with fail
  refine (awake03 _).mono ?_
  rintro e w3 ⟨rfl, P3⟩
  go_wp2
  go_ret
  exact ⟨rfl, B.trans P3⟩
set_option maxRecDepth 100000 in
set_option maxHeartbeats 1600000 in
theorem lattice_inv2 (w : World) (ba0 : Bool) (Aa0 : Option Addr) (na0 ca0 : Nat) (Ba0 : Option Addr) (ma0 oa0 : Nat) (bb0 : Bool) (Ab0 : Option Addr) (nb0 cb0 : Nat) (Bb0 : Option Addr) (mb0 ob0 : Nat) (xs0 ys0 us0 vs0 : List Nat) (R0 : Rd w Aa0 na0 ca0 xs0) (S0 : Rd w Ba0 ma0 oa0 ys0) (U0 : Rd w Ab0 nb0 cb0 us0) (V0 : Rd w Bb0 mb0 ob0 vs0) (ba1 : Bool) (Aa1 : Option Addr) (na1 ca1 : Nat) (Ba1 : Option Addr) (ma1 oa1 : Nat) (bb1 : Bool) (Ab1 : Option Addr) (nb1 cb1 : Nat) (Bb1 : Option Addr) (mb1 ob1 : Nat) (xs1 ys1 us1 vs1 : List Nat) (R1 : Rd w Aa1 na1 ca1 xs1) (S1 : Rd w Ba1 ma1 oa1 ys1) (U1 : Rd w Ab1 nb1 cb1 us1) (V1 : Rd w Bb1 mb1 ob1 vs1) (ba2 : Bool) (Aa2 : Option Addr) (na2 ca2 : Nat) (Ba2 : Option Addr) (ma2 oa2 : Nat) (bb2 : Bool) (Ab2 : Option Addr) (nb2 cb2 : Nat) (Bb2 : Option Addr) (mb2 ob2 : Nat) (xs2 ys2 us2 vs2 : List Nat) (R2 : Rd w Aa2 na2 ca2 xs2) (S2 : Rd w Ba2 ma2 oa2 ys2) (U2 : Rd w Ab2 nb2 cb2 us2) (V2 : Rd w Bb2 mb2 ob2 vs2)  (hs : na0 ≤ 6 ∧ ma0 ≤ 6 ∧ nb0 ≤ 6 ∧ mb0 ≤ 6 ∧ na1 ≤ 6 ∧ ma1 ≤ 6 ∧ nb1 ≤ 6 ∧ mb1 ≤ 6 ∧ na2 ≤ 6 ∧ ma2 ≤ 6 ∧ nb2 ≤ 6 ∧ mb2 ≤ 6) (lo0 hi0 : Rat) (Q0 : SRaw w (.agg #[.bool ba0, .slice Aa0 na0 ca0, .slice Ba0 ma0 oa0, .bool bb0, .slice Ab0 nb0 cb0, .slice Bb0 mb0 ob0]) lo0 hi0 true 6) (lo1 hi1 : Rat) (Q1 : SRaw w (.agg #[.bool ba1, .slice Aa1 na1 ca1, .slice Ba1 ma1 oa1, .bool bb1, .slice Ab1 nb1 cb1, .slice Bb1 mb1 ob1]) lo1 hi1 true 6) (lo2 hi2 : Rat) (Q2 : SRaw w (.agg #[.bool ba2, .slice Aa2 na2 ca2, .slice Ba2 ma2 oa2, .bool bb2, .slice Ab2 nb2 cb2, .slice Bb2 mb2 ob2]) lo2 hi2 false 6) :
    Calls Try.prog 6 #[.agg #[.bool ba0, .slice Aa0 na0 ca0, .slice Ba0 ma0 oa0, .bool bb0, .slice Ab0 nb0 cb0, .slice Bb0 mb0 ob0], .agg #[.bool ba1, .slice Aa1 na1 ca1, .slice Ba1 ma1 oa1, .bool bb1, .slice Ab1 nb1 cb1, .slice Bb1 mb1 ob1], .agg #[.bool ba2, .slice Aa2 na2 ca2, .slice Ba2 ma2 oa2, .bool bb2, .slice Ab2 nb2 cb2, .slice Bb2 mb2 ob2]] w fun e w' => e = .returned (.bool true) ∧ On w w' := by
  have HSM : Hid (∀ p ∈ [(na0, ma0, nb0, mb0), (na1, ma1, nb1, mb1), (na2, ma2, nb2, mb2)], ¬ Big p) := Lib.hid (by intro p hp; simp at hp; rcases hp with rfl | rfl | rfl <;> (unfold Big; simp only; omega))
  have B : On w (((w.alloc (.cells #[.bool ba0, .slice Aa0 na0 ca0, .slice Ba0 ma0 oa0, .bool bb0, .slice Ab0 nb0 cb0, .slice Bb0 mb0 ob0] 38)).alloc (.cells #[.bool ba1, .slice Aa1 na1 ca1, .slice Ba1 ma1 oa1, .bool bb1, .slice Ab1 nb1 cb1, .slice Bb1 mb1 ob1] 38)).alloc (.cells #[.bool ba2, .slice Aa2 na2 ca2, .slice Ba2 ma2 oa2, .bool bb2, .slice Ab2 nb2 cb2, .slice Bb2 mb2 ob2] 38)) := On.alloc (On.alloc (On.alloc (On.refl w) _) _) _
  have OB3 : w.heap.size ≤ w.heap.size ∧ Own (((w.alloc (.cells #[.bool ba0, .slice Aa0 na0 ca0, .slice Ba0 ma0 oa0, .bool bb0, .slice Ab0 nb0 cb0, .slice Bb0 mb0 ob0] 38)).alloc (.cells #[.bool ba1, .slice Aa1 na1 ca1, .slice Ba1 ma1 oa1, .bool bb1, .slice Ab1 nb1 cb1, .slice Bb1 mb1 ob1] 38)).alloc (.cells #[.bool ba2, .slice Aa2 na2 ca2, .slice Ba2 ma2 oa2, .bool bb2, .slice Ab2 nb2 cb2, .slice Bb2 mb2 ob2] 38)) (w.heap.size) 38 #[.bool ba0, .slice Aa0 na0 ca0, .slice Ba0 ma0 oa0, .bool bb0, .slice Ab0 nb0 cb0, .slice Bb0 mb0 ob0] := ⟨by omega, (((Own.at_ w (w.heap.size) (by simp) 38 #[.bool ba0, .slice Aa0 na0 ca0, .slice Ba0 ma0 oa0, .bool bb0, .slice Ab0 nb0 cb0, .slice Bb0 mb0 ob0]).alloc (.cells #[.bool ba1, .slice Aa1 na1 ca1, .slice Ba1 ma1 oa1, .bool bb1, .slice Ab1 nb1 cb1, .slice Bb1 mb1 ob1] 38)).alloc (.cells #[.bool ba2, .slice Aa2 na2 ca2, .slice Ba2 ma2 oa2, .bool bb2, .slice Ab2 nb2 cb2, .slice Bb2 mb2 ob2] 38))⟩
  have OB4 : w.heap.size ≤ w.heap.size + 1 ∧ Own (((w.alloc (.cells #[.bool ba0, .slice Aa0 na0 ca0, .slice Ba0 ma0 oa0, .bool bb0, .slice Ab0 nb0 cb0, .slice Bb0 mb0 ob0] 38)).alloc (.cells #[.bool ba1, .slice Aa1 na1 ca1, .slice Ba1 ma1 oa1, .bool bb1, .slice Ab1 nb1 cb1, .slice Bb1 mb1 ob1] 38)).alloc (.cells #[.bool ba2, .slice Aa2 na2 ca2, .slice Ba2 ma2 oa2, .bool bb2, .slice Ab2 nb2 cb2, .slice Bb2 mb2 ob2] 38)) (w.heap.size + 1) 38 #[.bool ba1, .slice Aa1 na1 ca1, .slice Ba1 ma1 oa1, .bool bb1, .slice Ab1 nb1 cb1, .slice Bb1 mb1 ob1] := ⟨by omega, ((Own.at_ (w.alloc (.cells #[.bool ba0, .slice Aa0 na0 ca0, .slice Ba0 ma0 oa0, .bool bb0, .slice Ab0 nb0 cb0, .slice Bb0 mb0 ob0] 38)) (w.heap.size + 1) (by simp) 38 #[.bool ba1, .slice Aa1 na1 ca1, .slice Ba1 ma1 oa1, .bool bb1, .slice Ab1 nb1 cb1, .slice Bb1 mb1 ob1]).alloc (.cells #[.bool ba2, .slice Aa2 na2 ca2, .slice Ba2 ma2 oa2, .bool bb2, .slice Ab2 nb2 cb2, .slice Bb2 mb2 ob2] 38))⟩
  have OB5 : w.heap.size ≤ w.heap.size + 2 ∧ Own (((w.alloc (.cells #[.bool ba0, .slice Aa0 na0 ca0, .slice Ba0 ma0 oa0, .bool bb0, .slice Ab0 nb0 cb0, .slice Bb0 mb0 ob0] 38)).alloc (.cells #[.bool ba1, .slice Aa1 na1 ca1, .slice Ba1 ma1 oa1, .bool bb1, .slice Ab1 nb1 cb1, .slice Bb1 mb1 ob1] 38)).alloc (.cells #[.bool ba2, .slice Aa2 na2 ca2, .slice Ba2 ma2 oa2, .bool bb2, .slice Ab2 nb2 cb2, .slice Bb2 mb2 ob2] 38)) (w.heap.size + 2) 38 #[.bool ba2, .slice Aa2 na2 ca2, .slice Ba2 ma2 oa2, .bool bb2, .slice Ab2 nb2 cb2, .slice Bb2 mb2 ob2] := ⟨by omega, (Own.at_ ((w.alloc (.cells #[.bool ba0, .slice Aa0 na0 ca0, .slice Ba0 ma0 oa0, .bool bb0, .slice Ab0 nb0 cb0, .slice Bb0 mb0 ob0] 38)).alloc (.cells #[.bool ba1, .slice Aa1 na1 ca1, .slice Ba1 ma1 oa1, .bool bb1, .slice Ab1 nb1 cb1, .slice Bb1 mb1 ob1] 38)) (w.heap.size + 2) (by simp) 38 #[.bool ba2, .slice Aa2 na2 ca2, .slice Ba2 ma2 oa2, .bool bb2, .slice Ab2 nb2 cb2, .slice Bb2 mb2 ob2])⟩
  go_enter Try.func6, Try.ntmps6
  go_wp2_with fail
  refine (awake03 _).mono ?_
  rintro e w1 ⟨rfl, P1⟩
  replace OB3 := And.intro OB3.1 (OB3.2.on P1)
  replace OB4 := And.intro OB4.1 (OB4.2.on P1)
  replace OB5 := And.intro OB5.1 (OB5.2.on P1)
  replace B := B.trans P1
  have y3_0 : w1.cell? ⟨w.heap.size, 0, none⟩ = some (.bool ba0) := OB3.2.cell 0
  have y3_1 : w1.cell? ⟨w.heap.size, 1, none⟩ = some (.slice Aa0 na0 ca0) := OB3.2.cell 1
  have y3_2 : w1.cell? ⟨w.heap.size, 2, none⟩ = some (.slice Ba0 ma0 oa0) := OB3.2.cell 2
  have y3_3 : w1.cell? ⟨w.heap.size, 3, none⟩ = some (.bool bb0) := OB3.2.cell 3
  have y3_4 : w1.cell? ⟨w.heap.size, 4, none⟩ = some (.slice Ab0 nb0 cb0) := OB3.2.cell 4
  have y3_5 : w1.cell? ⟨w.heap.size, 5, none⟩ = some (.slice Bb0 mb0 ob0) := OB3.2.cell 5
  have y3_f0 := OB3.2.frozen 0
  have y3_f1 := OB3.2.frozen 1
  have y3_f2 := OB3.2.frozen 2
  have y3_f3 := OB3.2.frozen 3
  have y3_f4 := OB3.2.frozen 4
  have y3_f5 := OB3.2.frozen 5
  have y4_0 : w1.cell? ⟨w.heap.size + 1, 0, none⟩ = some (.bool ba1) := OB4.2.cell 0
  have y4_1 : w1.cell? ⟨w.heap.size + 1, 1, none⟩ = some (.slice Aa1 na1 ca1) := OB4.2.cell 1
  have y4_2 : w1.cell? ⟨w.heap.size + 1, 2, none⟩ = some (.slice Ba1 ma1 oa1) := OB4.2.cell 2
  have y4_3 : w1.cell? ⟨w.heap.size + 1, 3, none⟩ = some (.bool bb1) := OB4.2.cell 3
  have y4_4 : w1.cell? ⟨w.heap.size + 1, 4, none⟩ = some (.slice Ab1 nb1 cb1) := OB4.2.cell 4
  have y4_5 : w1.cell? ⟨w.heap.size + 1, 5, none⟩ = some (.slice Bb1 mb1 ob1) := OB4.2.cell 5
  have y4_f0 := OB4.2.frozen 0
  have y4_f1 := OB4.2.frozen 1
  have y4_f2 := OB4.2.frozen 2
  have y4_f3 := OB4.2.frozen 3
  have y4_f4 := OB4.2.frozen 4
  have y4_f5 := OB4.2.frozen 5
  have y5_0 : w1.cell? ⟨w.heap.size + 2, 0, none⟩ = some (.bool ba2) := OB5.2.cell 0
  have y5_1 : w1.cell? ⟨w.heap.size + 2, 1, none⟩ = some (.slice Aa2 na2 ca2) := OB5.2.cell 1
  have y5_2 : w1.cell? ⟨w.heap.size + 2, 2, none⟩ = some (.slice Ba2 ma2 oa2) := OB5.2.cell 2
  have y5_3 : w1.cell? ⟨w.heap.size + 2, 3, none⟩ = some (.bool bb2) := OB5.2.cell 3
  have y5_4 : w1.cell? ⟨w.heap.size + 2, 4, none⟩ = some (.slice Ab2 nb2 cb2) := OB5.2.cell 4
  have y5_5 : w1.cell? ⟨w.heap.size + 2, 5, none⟩ = some (.slice Bb2 mb2 ob2) := OB5.2.cell 5
  have y5_f0 := OB5.2.frozen 0
  have y5_f1 := OB5.2.frozen 1
  have y5_f2 := OB5.2.frozen 2
  have y5_f3 := OB5.2.frozen 3
  have y5_f4 := OB5.2.frozen 4
  have y5_f5 := OB5.2.frozen 5
  go_wp2_with fail
  clear y3_0 y3_f0 y3_1 y3_f1 y3_2 y3_f2 y3_3 y3_f3 y3_4 y3_f4 y3_5 y3_f5
  clear y4_0 y4_f0 y4_1 y4_f1 y4_2 y4_f2 y4_3 y4_f3 y4_4 y4_f4 y4_5 y4_f5
  clear y5_0 y5_f0 y5_1 y5_f1 y5_2 y5_f2 y5_3 y5_f3 y5_4 y5_f4 y5_5 y5_f5
  have B1 := (On.refl w1).alloc (.cells #[.bool ba0, .slice Aa0 na0 ca0, .slice Ba0 ma0 oa0, .bool bb0, .slice Ab0 nb0 cb0, .slice Bb0 mb0 ob0, .bool ba1, .slice Aa1 na1 ca1, .slice Ba1 ma1 oa1, .bool bb1, .slice Ab1 nb1 cb1, .slice Bb1 mb1 ob1, .bool ba2, .slice Aa2 na2 ca2, .slice Ba2 ma2 oa2, .bool bb2, .slice Ab2 nb2 cb2, .slice Bb2 mb2 ob2] 38)
  replace OB3 := And.intro OB3.1 (OB3.2.on B1)
  replace OB4 := And.intro OB4.1 (OB4.2.on B1)
  replace OB5 := And.intro OB5.1 (OB5.2.on B1)
  replace B := B.trans B1
  have hlens := slens3 ba0 Aa0 na0 ca0 Ba0 ma0 oa0 bb0 Ab0 nb0 cb0 Bb0 mb0 ob0 xs0 ys0 us0 vs0 (R0.on B) (S0.on B) (U0.on B) (V0.on B) ba1 Aa1 na1 ca1 Ba1 ma1 oa1 bb1 Ab1 nb1 cb1 Bb1 mb1 ob1 xs1 ys1 us1 vs1 (R1.on B) (S1.on B) (U1.on B) (V1.on B) ba2 Aa2 na2 ca2 Ba2 ma2 oa2 bb2 Ab2 nb2 cb2 Bb2 mb2 ob2 xs2 ys2 us2 vs2 (R2.on B) (S2.on B) (U2.on B) (V2.on B) (Own.new w1 38 #[.bool ba0, .slice Aa0 na0 ca0, .slice Ba0 ma0 oa0, .bool bb0, .slice Ab0 nb0 cb0, .slice Bb0 mb0 ob0, .bool ba1, .slice Aa1 na1 ca1, .slice Ba1 ma1 oa1, .bool bb1, .slice Ab1 nb1 cb1, .slice Bb1 mb1 ob1, .bool ba2, .slice Aa2 na2 ca2, .slice Ba2 ma2 oa2, .bool bb2, .slice Ab2 nb2 cb2, .slice Bb2 mb2 ob2])
  refine (slarge_no _ _ 3 3 _ hlens rfl (by decide) (by decide) (by decide) HSM.out).mono ?_
  rintro e w2 ⟨rfl, P2⟩
  clear hlens B1 P1
  replace OB3 := And.intro OB3.1 (OB3.2.on P2)
  replace OB4 := And.intro OB4.1 (OB4.2.on P2)
  replace OB5 := And.intro OB5.1 (OB5.2.on P2)
  replace B := B.trans P2
  clear P2
  have y3_0 : w2.cell? ⟨w.heap.size, 0, none⟩ = some (.bool ba0) := OB3.2.cell 0
  have y3_1 : w2.cell? ⟨w.heap.size, 1, none⟩ = some (.slice Aa0 na0 ca0) := OB3.2.cell 1
  have y3_2 : w2.cell? ⟨w.heap.size, 2, none⟩ = some (.slice Ba0 ma0 oa0) := OB3.2.cell 2
  have y3_3 : w2.cell? ⟨w.heap.size, 3, none⟩ = some (.bool bb0) := OB3.2.cell 3
  have y3_4 : w2.cell? ⟨w.heap.size, 4, none⟩ = some (.slice Ab0 nb0 cb0) := OB3.2.cell 4
  have y3_5 : w2.cell? ⟨w.heap.size, 5, none⟩ = some (.slice Bb0 mb0 ob0) := OB3.2.cell 5
  have y3_f0 := OB3.2.frozen 0
  have y3_f1 := OB3.2.frozen 1
  have y3_f2 := OB3.2.frozen 2
  have y3_f3 := OB3.2.frozen 3
  have y3_f4 := OB3.2.frozen 4
  have y3_f5 := OB3.2.frozen 5
  go_wp2_with fail
  refine (svalid_any _ _ _ _ _ _ (Q0.on B) (by decide)).mono ?_
  rintro e wv0 ⟨rfl, PV⟩
  clear y3_0 y3_f0 y3_1 y3_f1 y3_2 y3_f2 y3_3 y3_f3 y3_4 y3_f4 y3_5 y3_f5
  replace OB3 := And.intro OB3.1 (OB3.2.on PV)
  replace OB4 := And.intro OB4.1 (OB4.2.on PV)
  replace OB5 := And.intro OB5.1 (OB5.2.on PV)
  replace B := B.trans PV
  clear PV
  have y4_0 : wv0.cell? ⟨w.heap.size + 1, 0, none⟩ = some (.bool ba1) := OB4.2.cell 0
  have y4_1 : wv0.cell? ⟨w.heap.size + 1, 1, none⟩ = some (.slice Aa1 na1 ca1) := OB4.2.cell 1
  have y4_2 : wv0.cell? ⟨w.heap.size + 1, 2, none⟩ = some (.slice Ba1 ma1 oa1) := OB4.2.cell 2
  have y4_3 : wv0.cell? ⟨w.heap.size + 1, 3, none⟩ = some (.bool bb1) := OB4.2.cell 3
  have y4_4 : wv0.cell? ⟨w.heap.size + 1, 4, none⟩ = some (.slice Ab1 nb1 cb1) := OB4.2.cell 4
  have y4_5 : wv0.cell? ⟨w.heap.size + 1, 5, none⟩ = some (.slice Bb1 mb1 ob1) := OB4.2.cell 5
  have y4_f0 := OB4.2.frozen 0
  have y4_f1 := OB4.2.frozen 1
  have y4_f2 := OB4.2.frozen 2
  have y4_f3 := OB4.2.frozen 3
  have y4_f4 := OB4.2.frozen 4
  have y4_f5 := OB4.2.frozen 5
  go_wp2_with fail
  refine (svalid_any _ _ _ _ _ _ (Q1.on B) (by decide)).mono ?_
  rintro e wv1 ⟨rfl, PV⟩
  clear y4_0 y4_f0 y4_1 y4_f1 y4_2 y4_f2 y4_3 y4_f3 y4_4 y4_f4 y4_5 y4_f5
  replace OB3 := And.intro OB3.1 (OB3.2.on PV)
  replace OB4 := And.intro OB4.1 (OB4.2.on PV)
  replace OB5 := And.intro OB5.1 (OB5.2.on PV)
  replace B := B.trans PV
  clear PV
  have y5_0 : wv1.cell? ⟨w.heap.size + 2, 0, none⟩ = some (.bool ba2) := OB5.2.cell 0
  have y5_1 : wv1.cell? ⟨w.heap.size + 2, 1, none⟩ = some (.slice Aa2 na2 ca2) := OB5.2.cell 1
  have y5_2 : wv1.cell? ⟨w.heap.size + 2, 2, none⟩ = some (.slice Ba2 ma2 oa2) := OB5.2.cell 2
  have y5_3 : wv1.cell? ⟨w.heap.size + 2, 3, none⟩ = some (.bool bb2) := OB5.2.cell 3
  have y5_4 : wv1.cell? ⟨w.heap.size + 2, 4, none⟩ = some (.slice Ab2 nb2 cb2) := OB5.2.cell 4
  have y5_5 : wv1.cell? ⟨w.heap.size + 2, 5, none⟩ = some (.slice Bb2 mb2 ob2) := OB5.2.cell 5
  have y5_f0 := OB5.2.frozen 0
  have y5_f1 := OB5.2.frozen 1
  have y5_f2 := OB5.2.frozen 2
  have y5_f3 := OB5.2.frozen 3
  have y5_f4 := OB5.2.frozen 4
  have y5_f5 := OB5.2.frozen 5
  go_wp2_with fail
  refine (svalid_any _ _ _ _ _ _ (Q2.on B) (by decide)).mono ?_
  rintro e wv2 ⟨rfl, PV⟩
  clear y5_0 y5_f0 y5_1 y5_f1 y5_2 y5_f2 y5_3 y5_f3 y5_4 y5_f4 y5_5 y5_f5
  replace OB3 := And.intro OB3.1 (OB3.2.on PV)
  replace OB4 := And.intro OB4.1 (OB4.2.on PV)
  replace OB5 := And.intro OB5.1 (OB5.2.on PV)
  replace B := B.trans PV
  clear PV
  go_wp2_with fail
  refine (awake03 _).mono ?_
  rintro e w3 ⟨rfl, P3⟩
  go_wp2
  go_ret
  exact ⟨rfl, B.trans P3⟩
set_option maxRecDepth 100000 in
set_option maxHeartbeats 1600000 in
theorem lattice_no (w : World) (ba0 : Bool) (Aa0 : Option Addr) (na0 ca0 : Nat) (Ba0 : Option Addr) (ma0 oa0 : Nat) (bb0 : Bool) (Ab0 : Option Addr) (nb0 cb0 : Nat) (Bb0 : Option Addr) (mb0 ob0 : Nat) (xs0 ys0 us0 vs0 : List Nat) (R0 : Rd w Aa0 na0 ca0 xs0) (S0 : Rd w Ba0 ma0 oa0 ys0) (U0 : Rd w Ab0 nb0 cb0 us0) (V0 : Rd w Bb0 mb0 ob0 vs0) (ba1 : Bool) (Aa1 : Option Addr) (na1 ca1 : Nat) (Ba1 : Option Addr) (ma1 oa1 : Nat) (bb1 : Bool) (Ab1 : Option Addr) (nb1 cb1 : Nat) (Bb1 : Option Addr) (mb1 ob1 : Nat) (xs1 ys1 us1 vs1 : List Nat) (R1 : Rd w Aa1 na1 ca1 xs1) (S1 : Rd w Ba1 ma1 oa1 ys1) (U1 : Rd w Ab1 nb1 cb1 us1) (V1 : Rd w Bb1 mb1 ob1 vs1) (ba2 : Bool) (Aa2 : Option Addr) (na2 ca2 : Nat) (Ba2 : Option Addr) (ma2 oa2 : Nat) (bb2 : Bool) (Ab2 : Option Addr) (nb2 cb2 : Nat) (Bb2 : Option Addr) (mb2 ob2 : Nat) (xs2 ys2 us2 vs2 : List Nat) (R2 : Rd w Aa2 na2 ca2 xs2) (S2 : Rd w Ba2 ma2 oa2 ys2) (U2 : Rd w Ab2 nb2 cb2 us2) (V2 : Rd w Bb2 mb2 ob2 vs2)  (hs : na0 ≤ 6 ∧ ma0 ≤ 6 ∧ nb0 ≤ 6 ∧ mb0 ≤ 6 ∧ na1 ≤ 6 ∧ ma1 ≤ 6 ∧ nb1 ≤ 6 ∧ mb1 ≤ 6 ∧ na2 ≤ 6 ∧ ma2 ≤ 6 ∧ nb2 ≤ 6 ∧ mb2 ≤ 6) (lo0 hi0 : Rat) (Q0 : SRaw w (.agg #[.bool ba0, .slice Aa0 na0 ca0, .slice Ba0 ma0 oa0, .bool bb0, .slice Ab0 nb0 cb0, .slice Bb0 mb0 ob0]) lo0 hi0 true 6) (lo1 hi1 : Rat) (Q1 : SRaw w (.agg #[.bool ba1, .slice Aa1 na1 ca1, .slice Ba1 ma1 oa1, .bool bb1, .slice Ab1 nb1 cb1, .slice Bb1 mb1 ob1]) lo1 hi1 true 6) (lo2 hi2 : Rat) (Q2 : SRaw w (.agg #[.bool ba2, .slice Aa2 na2 ca2, .slice Ba2 ma2 oa2, .bool bb2, .slice Ab2 nb2 cb2, .slice Bb2 mb2 ob2]) lo2 hi2 true 6) (hc : rmin hi0 hi1 < rmax lo0 lo1) :
    Calls Try.prog 6 #[.agg #[.bool ba0, .slice Aa0 na0 ca0, .slice Ba0 ma0 oa0, .bool bb0, .slice Ab0 nb0 cb0, .slice Bb0 mb0 ob0], .agg #[.bool ba1, .slice Aa1 na1 ca1, .slice Ba1 ma1 oa1, .bool bb1, .slice Ab1 nb1 cb1, .slice Bb1 mb1 ob1], .agg #[.bool ba2, .slice Aa2 na2 ca2, .slice Ba2 ma2 oa2, .bool bb2, .slice Ab2 nb2 cb2, .slice Bb2 mb2 ob2]] w fun e w' => e = .returned (.bool true) ∧ On w w' := by
  obtain ⟨I0, le0⟩ := raw_isS Q0
  have T0 := I0.sp le0
  obtain ⟨I1, le1⟩ := raw_isS Q1
  have T1 := I1.sp le1
  obtain ⟨I2, le2⟩ := raw_isS Q2
  have T2 := I2.sp le2
  have HC := Lib.hid hc
  clear hc
  obtain ⟨q0, e0⟩ : ∃ q, ins lo0 hi0 lo2 hi2 = q := ⟨_, rfl⟩
  obtain ⟨q1, e1⟩ : ∃ q, ins lo1 hi1 lo2 hi2 = q := ⟨_, rfl⟩
  have HQ0 := Lib.hid e0
  have HQ1 := Lib.hid e1
  have HQH : Hid (ins (rmin lo0 lo1) (rmax hi0 hi1) lo2 hi2 = (q0 && q1)) := Lib.hid (by rw [hull_ins, e0, e1])
  clear e0 e1
  obtain ⟨p0, e0⟩ : ∃ q, ins lo2 hi2 lo0 hi0 = q := ⟨_, rfl⟩
  obtain ⟨p1, e1⟩ : ∃ q, ins lo2 hi2 lo1 hi1 = q := ⟨_, rfl⟩
  have HP0 := Lib.hid e0
  have HP1 := Lib.hid e1
  have HPN : Hid ((p0 && p1) = false) := Lib.hid (by rw [← e0, ← e1]; exact no_meet HC.out le2)
  clear e0 e1
  have HSM : Hid (∀ p ∈ [(na0, ma0, nb0, mb0), (na1, ma1, nb1, mb1), (na2, ma2, nb2, mb2)], ¬ Big p) := Lib.hid (by intro p hp; simp at hp; rcases hp with rfl | rfl | rfl <;> (unfold Big; simp only; omega))
  have B : On w (((w.alloc (.cells #[.bool ba0, .slice Aa0 na0 ca0, .slice Ba0 ma0 oa0, .bool bb0, .slice Ab0 nb0 cb0, .slice Bb0 mb0 ob0] 38)).alloc (.cells #[.bool ba1, .slice Aa1 na1 ca1, .slice Ba1 ma1 oa1, .bool bb1, .slice Ab1 nb1 cb1, .slice Bb1 mb1 ob1] 38)).alloc (.cells #[.bool ba2, .slice Aa2 na2 ca2, .slice Ba2 ma2 oa2, .bool bb2, .slice Ab2 nb2 cb2, .slice Bb2 mb2 ob2] 38)) := On.alloc (On.alloc (On.alloc (On.refl w) _) _) _
  have OB3 : w.heap.size ≤ w.heap.size ∧ Own (((w.alloc (.cells #[.bool ba0, .slice Aa0 na0 ca0, .slice Ba0 ma0 oa0, .bool bb0, .slice Ab0 nb0 cb0, .slice Bb0 mb0 ob0] 38)).alloc (.cells #[.bool ba1, .slice Aa1 na1 ca1, .slice Ba1 ma1 oa1, .bool bb1, .slice Ab1 nb1 cb1, .slice Bb1 mb1 ob1] 38)).alloc (.cells #[.bool ba2, .slice Aa2 na2 ca2, .slice Ba2 ma2 oa2, .bool bb2, .slice Ab2 nb2 cb2, .slice Bb2 mb2 ob2] 38)) (w.heap.size) 38 #[.bool ba0, .slice Aa0 na0 ca0, .slice Ba0 ma0 oa0, .bool bb0, .slice Ab0 nb0 cb0, .slice Bb0 mb0 ob0] := ⟨by omega, (((Own.at_ w (w.heap.size) (by simp) 38 #[.bool ba0, .slice Aa0 na0 ca0, .slice Ba0 ma0 oa0, .bool bb0, .slice Ab0 nb0 cb0, .slice Bb0 mb0 ob0]).alloc (.cells #[.bool ba1, .slice Aa1 na1 ca1, .slice Ba1 ma1 oa1, .bool bb1, .slice Ab1 nb1 cb1, .slice Bb1 mb1 ob1] 38)).alloc (.cells #[.bool ba2, .slice Aa2 na2 ca2, .slice Ba2 ma2 oa2, .bool bb2, .slice Ab2 nb2 cb2, .slice Bb2 mb2 ob2] 38))⟩
  have OB4 : w.heap.size ≤ w.heap.size + 1 ∧ Own (((w.alloc (.cells #[.bool ba0, .slice Aa0 na0 ca0, .slice Ba0 ma0 oa0, .bool bb0, .slice Ab0 nb0 cb0, .slice Bb0 mb0 ob0] 38)).alloc (.cells #[.bool ba1, .slice Aa1 na1 ca1, .slice Ba1 ma1 oa1, .bool bb1, .slice Ab1 nb1 cb1, .slice Bb1 mb1 ob1] 38)).alloc (.cells #[.bool ba2, .slice Aa2 na2 ca2, .slice Ba2 ma2 oa2, .bool bb2, .slice Ab2 nb2 cb2, .slice Bb2 mb2 ob2] 38)) (w.heap.size + 1) 38 #[.bool ba1, .slice Aa1 na1 ca1, .slice Ba1 ma1 oa1, .bool bb1, .slice Ab1 nb1 cb1, .slice Bb1 mb1 ob1] := ⟨by omega, ((Own.at_ (w.alloc (.cells #[.bool ba0, .slice Aa0 na0 ca0, .slice Ba0 ma0 oa0, .bool bb0, .slice Ab0 nb0 cb0, .slice Bb0 mb0 ob0] 38)) (w.heap.size + 1) (by simp) 38 #[.bool ba1, .slice Aa1 na1 ca1, .slice Ba1 ma1 oa1, .bool bb1, .slice Ab1 nb1 cb1, .slice Bb1 mb1 ob1]).alloc (.cells #[.bool ba2, .slice Aa2 na2 ca2, .slice Ba2 ma2 oa2, .bool bb2, .slice Ab2 nb2 cb2, .slice Bb2 mb2 ob2] 38))⟩
  have OB5 : w.heap.size ≤ w.heap.size + 2 ∧ Own (((w.alloc (.cells #[.bool ba0, .slice Aa0 na0 ca0, .slice Ba0 ma0 oa0, .bool bb0, .slice Ab0 nb0 cb0, .slice Bb0 mb0 ob0] 38)).alloc (.cells #[.bool ba1, .slice Aa1 na1 ca1, .slice Ba1 ma1 oa1, .bool bb1, .slice Ab1 nb1 cb1, .slice Bb1 mb1 ob1] 38)).alloc (.cells #[.bool ba2, .slice Aa2 na2 ca2, .slice Ba2 ma2 oa2, .bool bb2, .slice Ab2 nb2 cb2, .slice Bb2 mb2 ob2] 38)) (w.heap.size + 2) 38 #[.bool ba2, .slice Aa2 na2 ca2, .slice Ba2 ma2 oa2, .bool bb2, .slice Ab2 nb2 cb2, .slice Bb2 mb2 ob2] := ⟨by omega, (Own.at_ ((w.alloc (.cells #[.bool ba0, .slice Aa0 na0 ca0, .slice Ba0 ma0 oa0, .bool bb0, .slice Ab0 nb0 cb0, .slice Bb0 mb0 ob0] 38)).alloc (.cells #[.bool ba1, .slice Aa1 na1 ca1, .slice Ba1 ma1 oa1, .bool bb1, .slice Ab1 nb1 cb1, .slice Bb1 mb1 ob1] 38)) (w.heap.size + 2) (by simp) 38 #[.bool ba2, .slice Aa2 na2 ca2, .slice Ba2 ma2 oa2, .bool bb2, .slice Ab2 nb2 cb2, .slice Bb2 mb2 ob2])⟩
  go_enter Try.func6, Try.ntmps6
  go_wp2_with fail
  refine (awake03 _).mono ?_
  rintro e w1 ⟨rfl, P1⟩
  replace OB3 := And.intro OB3.1 (OB3.2.on P1)
  replace OB4 := And.intro OB4.1 (OB4.2.on P1)
  replace OB5 := And.intro OB5.1 (OB5.2.on P1)
  replace B := B.trans P1
  have y3_0 : w1.cell? ⟨w.heap.size, 0, none⟩ = some (.bool ba0) := OB3.2.cell 0
  have y3_1 : w1.cell? ⟨w.heap.size, 1, none⟩ = some (.slice Aa0 na0 ca0) := OB3.2.cell 1
  have y3_2 : w1.cell? ⟨w.heap.size, 2, none⟩ = some (.slice Ba0 ma0 oa0) := OB3.2.cell 2
  have y3_3 : w1.cell? ⟨w.heap.size, 3, none⟩ = some (.bool bb0) := OB3.2.cell 3
  have y3_4 : w1.cell? ⟨w.heap.size, 4, none⟩ = some (.slice Ab0 nb0 cb0) := OB3.2.cell 4
  have y3_5 : w1.cell? ⟨w.heap.size, 5, none⟩ = some (.slice Bb0 mb0 ob0) := OB3.2.cell 5
  have y3_f0 := OB3.2.frozen 0
  have y3_f1 := OB3.2.frozen 1
  have y3_f2 := OB3.2.frozen 2
  have y3_f3 := OB3.2.frozen 3
  have y3_f4 := OB3.2.frozen 4
  have y3_f5 := OB3.2.frozen 5
  have y4_0 : w1.cell? ⟨w.heap.size + 1, 0, none⟩ = some (.bool ba1) := OB4.2.cell 0
  have y4_1 : w1.cell? ⟨w.heap.size + 1, 1, none⟩ = some (.slice Aa1 na1 ca1) := OB4.2.cell 1
  have y4_2 : w1.cell? ⟨w.heap.size + 1, 2, none⟩ = some (.slice Ba1 ma1 oa1) := OB4.2.cell 2
  have y4_3 : w1.cell? ⟨w.heap.size + 1, 3, none⟩ = some (.bool bb1) := OB4.2.cell 3
  have y4_4 : w1.cell? ⟨w.heap.size + 1, 4, none⟩ = some (.slice Ab1 nb1 cb1) := OB4.2.cell 4
  have y4_5 : w1.cell? ⟨w.heap.size + 1, 5, none⟩ = some (.slice Bb1 mb1 ob1) := OB4.2.cell 5
  have y4_f0 := OB4.2.frozen 0
  have y4_f1 := OB4.2.frozen 1
  have y4_f2 := OB4.2.frozen 2
  have y4_f3 := OB4.2.frozen 3
  have y4_f4 := OB4.2.frozen 4
  have y4_f5 := OB4.2.frozen 5
  have y5_0 : w1.cell? ⟨w.heap.size + 2, 0, none⟩ = some (.bool ba2) := OB5.2.cell 0
  have y5_1 : w1.cell? ⟨w.heap.size + 2, 1, none⟩ = some (.slice Aa2 na2 ca2) := OB5.2.cell 1
  have y5_2 : w1.cell? ⟨w.heap.size + 2, 2, none⟩ = some (.slice Ba2 ma2 oa2) := OB5.2.cell 2
  have y5_3 : w1.cell? ⟨w.heap.size + 2, 3, none⟩ = some (.bool bb2) := OB5.2.cell 3
  have y5_4 : w1.cell? ⟨w.heap.size + 2, 4, none⟩ = some (.slice Ab2 nb2 cb2) := OB5.2.cell 4
  have y5_5 : w1.cell? ⟨w.heap.size + 2, 5, none⟩ = some (.slice Bb2 mb2 ob2) := OB5.2.cell 5
  have y5_f0 := OB5.2.frozen 0
  have y5_f1 := OB5.2.frozen 1
  have y5_f2 := OB5.2.frozen 2
  have y5_f3 := OB5.2.frozen 3
  have y5_f4 := OB5.2.frozen 4
  have y5_f5 := OB5.2.frozen 5
  go_wp2_with fail
  clear y3_0 y3_f0 y3_1 y3_f1 y3_2 y3_f2 y3_3 y3_f3 y3_4 y3_f4 y3_5 y3_f5
  clear y4_0 y4_f0 y4_1 y4_f1 y4_2 y4_f2 y4_3 y4_f3 y4_4 y4_f4 y4_5 y4_f5
  clear y5_0 y5_f0 y5_1 y5_f1 y5_2 y5_f2 y5_3 y5_f3 y5_4 y5_f4 y5_5 y5_f5
  have B1 := (On.refl w1).alloc (.cells #[.bool ba0, .slice Aa0 na0 ca0, .slice Ba0 ma0 oa0, .bool bb0, .slice Ab0 nb0 cb0, .slice Bb0 mb0 ob0, .bool ba1, .slice Aa1 na1 ca1, .slice Ba1 ma1 oa1, .bool bb1, .slice Ab1 nb1 cb1, .slice Bb1 mb1 ob1, .bool ba2, .slice Aa2 na2 ca2, .slice Ba2 ma2 oa2, .bool bb2, .slice Ab2 nb2 cb2, .slice Bb2 mb2 ob2] 38)
  replace OB3 := And.intro OB3.1 (OB3.2.on B1)
  replace OB4 := And.intro OB4.1 (OB4.2.on B1)
  replace OB5 := And.intro OB5.1 (OB5.2.on B1)
  replace B := B.trans B1
  have hlens := slens3 ba0 Aa0 na0 ca0 Ba0 ma0 oa0 bb0 Ab0 nb0 cb0 Bb0 mb0 ob0 xs0 ys0 us0 vs0 (R0.on B) (S0.on B) (U0.on B) (V0.on B) ba1 Aa1 na1 ca1 Ba1 ma1 oa1 bb1 Ab1 nb1 cb1 Bb1 mb1 ob1 xs1 ys1 us1 vs1 (R1.on B) (S1.on B) (U1.on B) (V1.on B) ba2 Aa2 na2 ca2 Ba2 ma2 oa2 bb2 Ab2 nb2 cb2 Bb2 mb2 ob2 xs2 ys2 us2 vs2 (R2.on B) (S2.on B) (U2.on B) (V2.on B) (Own.new w1 38 #[.bool ba0, .slice Aa0 na0 ca0, .slice Ba0 ma0 oa0, .bool bb0, .slice Ab0 nb0 cb0, .slice Bb0 mb0 ob0, .bool ba1, .slice Aa1 na1 ca1, .slice Ba1 ma1 oa1, .bool bb1, .slice Ab1 nb1 cb1, .slice Bb1 mb1 ob1, .bool ba2, .slice Aa2 na2 ca2, .slice Ba2 ma2 oa2, .bool bb2, .slice Ab2 nb2 cb2, .slice Bb2 mb2 ob2])
  refine (slarge_no _ _ 3 3 _ hlens rfl (by decide) (by decide) (by decide) HSM.out).mono ?_
  rintro e w2 ⟨rfl, P2⟩
  clear hlens B1 P1
  replace OB3 := And.intro OB3.1 (OB3.2.on P2)
  replace OB4 := And.intro OB4.1 (OB4.2.on P2)
  replace OB5 := And.intro OB5.1 (OB5.2.on P2)
  replace B := B.trans P2
  clear P2
  have y3_0 : w2.cell? ⟨w.heap.size, 0, none⟩ = some (.bool ba0) := OB3.2.cell 0
  have y3_1 : w2.cell? ⟨w.heap.size, 1, none⟩ = some (.slice Aa0 na0 ca0) := OB3.2.cell 1
  have y3_2 : w2.cell? ⟨w.heap.size, 2, none⟩ = some (.slice Ba0 ma0 oa0) := OB3.2.cell 2
  have y3_3 : w2.cell? ⟨w.heap.size, 3, none⟩ = some (.bool bb0) := OB3.2.cell 3
  have y3_4 : w2.cell? ⟨w.heap.size, 4, none⟩ = some (.slice Ab0 nb0 cb0) := OB3.2.cell 4
  have y3_5 : w2.cell? ⟨w.heap.size, 5, none⟩ = some (.slice Bb0 mb0 ob0) := OB3.2.cell 5
  have y3_f0 := OB3.2.frozen 0
  have y3_f1 := OB3.2.frozen 1
  have y3_f2 := OB3.2.frozen 2
  have y3_f3 := OB3.2.frozen 3
  have y3_f4 := OB3.2.frozen 4
  have y3_f5 := OB3.2.frozen 5
  go_wp2_with fail
  refine (svalid_any _ _ _ _ _ _ (Q0.on B) (by decide)).mono ?_
  rintro e wv0 ⟨rfl, PV⟩
  clear y3_0 y3_f0 y3_1 y3_f1 y3_2 y3_f2 y3_3 y3_f3 y3_4 y3_f4 y3_5 y3_f5
  replace OB3 := And.intro OB3.1 (OB3.2.on PV)
  replace OB4 := And.intro OB4.1 (OB4.2.on PV)
  replace OB5 := And.intro OB5.1 (OB5.2.on PV)
  replace B := B.trans PV
  clear PV
  have y4_0 : wv0.cell? ⟨w.heap.size + 1, 0, none⟩ = some (.bool ba1) := OB4.2.cell 0
  have y4_1 : wv0.cell? ⟨w.heap.size + 1, 1, none⟩ = some (.slice Aa1 na1 ca1) := OB4.2.cell 1
  have y4_2 : wv0.cell? ⟨w.heap.size + 1, 2, none⟩ = some (.slice Ba1 ma1 oa1) := OB4.2.cell 2
  have y4_3 : wv0.cell? ⟨w.heap.size + 1, 3, none⟩ = some (.bool bb1) := OB4.2.cell 3
  have y4_4 : wv0.cell? ⟨w.heap.size + 1, 4, none⟩ = some (.slice Ab1 nb1 cb1) := OB4.2.cell 4
  have y4_5 : wv0.cell? ⟨w.heap.size + 1, 5, none⟩ = some (.slice Bb1 mb1 ob1) := OB4.2.cell 5
  have y4_f0 := OB4.2.frozen 0
  have y4_f1 := OB4.2.frozen 1
  have y4_f2 := OB4.2.frozen 2
  have y4_f3 := OB4.2.frozen 3
  have y4_f4 := OB4.2.frozen 4
  have y4_f5 := OB4.2.frozen 5
  go_wp2_with fail
  refine (svalid_any _ _ _ _ _ _ (Q1.on B) (by decide)).mono ?_
  rintro e wv1 ⟨rfl, PV⟩
  clear y4_0 y4_f0 y4_1 y4_f1 y4_2 y4_f2 y4_3 y4_f3 y4_4 y4_f4 y4_5 y4_f5
  replace OB3 := And.intro OB3.1 (OB3.2.on PV)
  replace OB4 := And.intro OB4.1 (OB4.2.on PV)
  replace OB5 := And.intro OB5.1 (OB5.2.on PV)
  replace B := B.trans PV
  clear PV
  have y5_0 : wv1.cell? ⟨w.heap.size + 2, 0, none⟩ = some (.bool ba2) := OB5.2.cell 0
  have y5_1 : wv1.cell? ⟨w.heap.size + 2, 1, none⟩ = some (.slice Aa2 na2 ca2) := OB5.2.cell 1
  have y5_2 : wv1.cell? ⟨w.heap.size + 2, 2, none⟩ = some (.slice Ba2 ma2 oa2) := OB5.2.cell 2
  have y5_3 : wv1.cell? ⟨w.heap.size + 2, 3, none⟩ = some (.bool bb2) := OB5.2.cell 3
  have y5_4 : wv1.cell? ⟨w.heap.size + 2, 4, none⟩ = some (.slice Ab2 nb2 cb2) := OB5.2.cell 4
  have y5_5 : wv1.cell? ⟨w.heap.size + 2, 5, none⟩ = some (.slice Bb2 mb2 ob2) := OB5.2.cell 5
  have y5_f0 := OB5.2.frozen 0
  have y5_f1 := OB5.2.frozen 1
  have y5_f2 := OB5.2.frozen 2
  have y5_f3 := OB5.2.frozen 3
  have y5_f4 := OB5.2.frozen 4
  have y5_f5 := OB5.2.frozen 5
  go_wp2_with fail
  refine (svalid_any _ _ _ _ _ _ (Q2.on B) (by decide)).mono ?_
  rintro e wv2 ⟨rfl, PV⟩
  clear y5_0 y5_f0 y5_1 y5_f1 y5_2 y5_f2 y5_3 y5_f3 y5_4 y5_f4 y5_5 y5_f5
  replace OB3 := And.intro OB3.1 (OB3.2.on PV)
  replace OB4 := And.intro OB4.1 (OB4.2.on PV)
  replace OB5 := And.intro OB5.1 (OB5.2.on PV)
  replace B := B.trans PV
  clear PV
  clear HSM
  have y3_0 : wv2.cell? ⟨w.heap.size, 0, none⟩ = some (.bool ba0) := OB3.2.cell 0
  have y3_1 : wv2.cell? ⟨w.heap.size, 1, none⟩ = some (.slice Aa0 na0 ca0) := OB3.2.cell 1
  have y3_2 : wv2.cell? ⟨w.heap.size, 2, none⟩ = some (.slice Ba0 ma0 oa0) := OB3.2.cell 2
  have y3_3 : wv2.cell? ⟨w.heap.size, 3, none⟩ = some (.bool bb0) := OB3.2.cell 3
  have y3_4 : wv2.cell? ⟨w.heap.size, 4, none⟩ = some (.slice Ab0 nb0 cb0) := OB3.2.cell 4
  have y3_5 : wv2.cell? ⟨w.heap.size, 5, none⟩ = some (.slice Bb0 mb0 ob0) := OB3.2.cell 5
  have y3_f0 := OB3.2.frozen 0
  have y3_f1 := OB3.2.frozen 1
  have y3_f2 := OB3.2.frozen 2
  have y3_f3 := OB3.2.frozen 3
  have y3_f4 := OB3.2.frozen 4
  have y3_f5 := OB3.2.frozen 5
  have y4_0 : wv2.cell? ⟨w.heap.size + 1, 0, none⟩ = some (.bool ba1) := OB4.2.cell 0
  have y4_1 : wv2.cell? ⟨w.heap.size + 1, 1, none⟩ = some (.slice Aa1 na1 ca1) := OB4.2.cell 1
  have y4_2 : wv2.cell? ⟨w.heap.size + 1, 2, none⟩ = some (.slice Ba1 ma1 oa1) := OB4.2.cell 2
  have y4_3 : wv2.cell? ⟨w.heap.size + 1, 3, none⟩ = some (.bool bb1) := OB4.2.cell 3
  have y4_4 : wv2.cell? ⟨w.heap.size + 1, 4, none⟩ = some (.slice Ab1 nb1 cb1) := OB4.2.cell 4
  have y4_5 : wv2.cell? ⟨w.heap.size + 1, 5, none⟩ = some (.slice Bb1 mb1 ob1) := OB4.2.cell 5
  have y4_f0 := OB4.2.frozen 0
  have y4_f1 := OB4.2.frozen 1
  have y4_f2 := OB4.2.frozen 2
  have y4_f3 := OB4.2.frozen 3
  have y4_f4 := OB4.2.frozen 4
  have y4_f5 := OB4.2.frozen 5
  go_wp2_with fail
  refine (sphull_any _ _ _ lo0 hi0 lo1 hi1 6 (T0.on B) (T1.on B) (by decide) (by decide)).mono ?_
  rintro e w7 ⟨u7, rfl, I7, P7⟩
  have le7 := hull_le le0 le1
  obtain ⟨ba7, Aa7, na7, ca7, Ba7, ma7, oa7, bb7, Ab7, nb7, cb7, Bb7, mb7, ob7, rfl, IL7, IH7⟩ := id I7
  clear y3_0 y3_f0 y3_1 y3_f1 y3_2 y3_f2 y3_3 y3_f3 y3_4 y3_f4 y3_5 y3_f5
  clear y4_0 y4_f0 y4_1 y4_f1 y4_2 y4_f2 y4_3 y4_f3 y4_4 y4_f4 y4_5 y4_f5
  replace OB3 := And.intro OB3.1 (OB3.2.on P7)
  replace OB4 := And.intro OB4.1 (OB4.2.on P7)
  replace OB5 := And.intro OB5.1 (OB5.2.on P7)
  replace B := B.trans P7
  have PA := (On.refl w7).alloc (.cells #[.bool ba7, .slice Aa7 na7 ca7, .slice Ba7 ma7 oa7, .bool bb7, .slice Ab7 nb7 cb7, .slice Bb7 mb7 ob7] 38)
  have B0_7 := B.size
  replace OB3 := And.intro OB3.1 (OB3.2.on PA)
  replace OB4 := And.intro OB4.1 (OB4.2.on PA)
  replace OB5 := And.intro OB5.1 (OB5.2.on PA)
  replace B := B.trans PA
  replace I7 := I7.on PA
  have OB7 : w.heap.size ≤ w7.heap.size ∧ _ := ⟨B0_7, Own.new w7 38 #[.bool ba7, .slice Aa7 na7 ca7, .slice Ba7 ma7 oa7, .bool bb7, .slice Ab7 nb7 cb7, .slice Bb7 mb7 ob7]⟩
  clear PA P7 IL7 IH7
  go_wp2
  cases q0
  · refine wp_region_facts (by kernel_rfl) w [Fact.eq (.agg #[.bool ba0, .slice Aa0 na0 ca0, .slice Ba0 ma0 oa0, .bool bb0, .slice Ab0 nb0 cb0, .slice Bb0 mb0 ob0]), Fact.eq (.agg #[.bool ba7, .slice Aa7 na7 ca7, .slice Ba7 ma7 oa7, .bool bb7, .slice Ab7 nb7 cb7, .slice Bb7 mb7 ob7]), Fact.eq (.bool true), Fact.eq (.bool false), Fact.eq (.bool false), Fact.eq (.agg #[.bool ba1, .slice Aa1 na1 ca1, .slice Ba1 ma1 oa1, .bool bb1, .slice Ab1 nb1 cb1, .slice Bb1 mb1 ob1]), Fact.eq (.agg #[.bool ba7, .slice Aa7 na7 ca7, .slice Ba7 ma7 oa7, .bool bb7, .slice Ab7 nb7 cb7, .slice Bb7 mb7 ob7]), Fact.eq (.bool true), Fact.eq (.bool false), Fact.eq (.bool false), Fact.eq (.bool false), Fact.eq (.agg #[.bool ba7, .slice Aa7 na7 ca7, .slice Ba7 ma7 oa7, .bool bb7, .slice Ab7 nb7 cb7, .slice Bb7 mb7 ob7]), Fact.eq (.agg #[.bool ba2, .slice Aa2 na2 ca2, .slice Ba2 ma2 oa2, .bool bb2, .slice Ab2 nb2 cb2, .slice Bb2 mb2 ob2]), Fact.eq (.bool false), Fact.eq (.agg #[.bool ba0, .slice Aa0 na0 ca0, .slice Ba0 ma0 oa0, .bool bb0, .slice Ab0 nb0 cb0, .slice Bb0 mb0 ob0]), Fact.eq (.agg #[.bool ba2, .slice Aa2 na2 ca2, .slice Ba2 ma2 oa2, .bool bb2, .slice Ab2 nb2 cb2, .slice Bb2 mb2 ob2]), Fact.eq (.bool false), Fact.eq (.bool false), Fact.eq (undef), Fact.eq (undef), Fact.eq (undef), Fact.eq (.bool false), Fact.eq (.bool false), Fact.eq (.bool false)] [Fact.any, Fact.any, Fact.any, Fact.any] [⟨24, 3, 38, 24, #[.bool ba0, .slice Aa0 na0 ca0, .slice Ba0 ma0 oa0, .bool bb0, .slice Ab0 nb0 cb0, .slice Bb0 mb0 ob0]⟩, ⟨24, 4, 38, 24, #[.bool ba1, .slice Aa1 na1 ca1, .slice Ba1 ma1 oa1, .bool bb1, .slice Ab1 nb1 cb1, .slice Bb1 mb1 ob1]⟩, ⟨24, 5, 38, 24, #[.bool ba2, .slice Aa2 na2 ca2, .slice Ba2 ma2 oa2, .bool bb2, .slice Ab2 nb2 cb2, .slice Bb2 mb2 ob2]⟩, ⟨24, 7, 38, 24, #[.bool ba7, .slice Aa7 na7 ca7, .slice Ba7 ma7 oa7, .bool bb7, .slice Ab7 nb7 cb7, .slice Bb7 mb7 ob7]⟩] [w.heap.size, w.heap.size + 1, w.heap.size + 2, w7.heap.size] [none, none, none, none, none, none, none, none, none, none, none, none, none, none, none, none, none, none, none, none, none, none, none, none, none, none, none, none, none, none, none, none, none, none, none, none, none, none, some 38, some 39, some 40, some 41, some 42, some 43, some 44, some 45, some 46, some 47, some 48, some 49, some 50, some 51, some 52, some 53, some 54, some 55, some 56, some 57, some 58, some 59, some 60, some 61, none, none, none, none, none, none, none, none, none, none, none, none, none, none, none, none, none, none, none, none, none, none, none, none, none, none, none, none, none, none, none, none, none, none, none, none, none, none, none, none, none, none, none] (by kernel_rfl) (by kernel_rfl) (by kernel_rfl) rfl B ?_ ?_ ?_ ?_ ?_
    · exact ⟨fun _ => ⟨by simp, rfl, OB3⟩, fun _ => ⟨by simp, rfl, OB4⟩, fun _ => ⟨by simp, rfl, OB5⟩, fun _ => ⟨by simp, rfl, OB7⟩, trivial⟩
    · exact .inl ⟨Nat.le_refl _, Nat.le_refl _, Nat.le_refl _, Nat.le_refl _, trivial⟩
    · exact ⟨⟨noWords_S _ _ _ _ _ _ _ _ _ _ _ _ _ _, (.inl (Nat.le_refl _)), (.inl (Nat.le_refl _))⟩, ⟨noWords_S _ _ _ _ _ _ _ _ _ _ _ _ _ _, (.inl (Nat.le_refl _)), (.inl (Nat.le_refl _))⟩, ⟨noWords_S _ _ _ _ _ _ _ _ _ _ _ _ _ _, (.inl (Nat.le_refl _)), (.inl (Nat.le_refl _))⟩, ⟨noWords_S _ _ _ _ _ _ _ _ _ _ _ _ _ _, (.inl (Nat.le_refl _)), (.inl (Nat.le_refl _))⟩, trivial⟩
    · refine ⟨?_, ?_, ?_, ?_, ?_, ?_, ?_, ?_, ?_, ?_, ?_, ?_, ?_, ?_, ?_, ?_, ?_, ?_, ?_, ?_, ?_, ?_, ?_, ?_, trivial⟩
      · exact .inr fun a w hp => ob_yes rfl (ob_loadSp (hp.box (k := 0) rfl (Nat.le_refl _) (.inl (Nat.le_refl _)) (by kernel_rfl) rfl).1 (hp.box (k := 0) rfl (Nat.le_refl _) (.inl (Nat.le_refl _)) (by kernel_rfl) rfl).2 rfl)
      · exact .inr fun a w hp => ob_yes rfl (ob_loadSp (hp.box (k := 3) rfl (Nat.le_refl _) (.inl (Nat.le_refl _)) (by kernel_rfl) rfl).1 (hp.box (k := 3) rfl (Nat.le_refl _) (.inl (Nat.le_refl _)) (by kernel_rfl) rfl).2 rfl)
      · refine .inr fun a w hp => ob_yes rfl ?_
        have h38 : a.tmps.getD 38 undef = .agg #[.bool ba0, .slice Aa0 na0 ca0, .slice Ba0 ma0 oa0, .bool bb0, .slice Ab0 nb0 cb0, .slice Bb0 mb0 ob0] := (hp.fact 0 38 (by kernel_rfl) rfl)
        have h39 : a.tmps.getD 39 undef = .agg #[.bool ba7, .slice Aa7 na7 ca7, .slice Ba7 ma7 oa7, .bool bb7, .slice Ab7 nb7 cb7, .slice Bb7 mb7 ob7] := (hp.fact 1 39 (by kernel_rfl) rfl)
        unfold Does
        go_simp
        refine (spins_any _ _ _ lo0 hi0 (rmin lo0 lo1) (rmax hi0 hi1) 6 (T0.on hp.on) ((I7.kept hp.kept).sp le7) (by decide) (by decide)).mono ?_
        rintro e w' ⟨rfl, P8⟩
        exact ⟨_, rfl, P8, congrArg Value.bool (ins_true (rmin_le_l _ _) (le_rmax_l _ _))⟩
      · refine .inr fun a w hp => ob_yes rfl ?_
        have h40 : a.tmps.getD 40 undef = .bool true := (hp.fact 2 40 (by kernel_rfl) rfl)
        unfold Does
        go_simp
        exact ⟨_, rfl, On.refl _, by show Value.bool _ = Value.bool _; first | rfl | (simp; done)⟩
      · exact .inr fun a w hp => ob_yes rfl (ob_move (hp.fact 3 41 (by kernel_rfl) rfl))
      · exact .inr fun a w hp => ob_yes (wanted_yes (P := Try.prog) (j := 4) (d := 42) (b := false) rfl rfl (hp.fact 4 42 (by kernel_rfl) rfl)) (ob_loadSp (hp.box (k := 1) rfl (Nat.le_refl _) (.inl (Nat.le_refl _)) (by kernel_rfl) rfl).1 (hp.box (k := 1) rfl (Nat.le_refl _) (.inl (Nat.le_refl _)) (by kernel_rfl) rfl).2 rfl)
      · exact .inr fun a w hp => ob_yes (wanted_yes (P := Try.prog) (j := 4) (d := 42) (b := false) rfl rfl (hp.fact 4 42 (by kernel_rfl) rfl)) (ob_loadSp (hp.box (k := 3) rfl (Nat.le_refl _) (.inl (Nat.le_refl _)) (by kernel_rfl) rfl).1 (hp.box (k := 3) rfl (Nat.le_refl _) (.inl (Nat.le_refl _)) (by kernel_rfl) rfl).2 rfl)
      · refine .inr fun a w hp => ob_yes (wanted_yes (P := Try.prog) (j := 4) (d := 42) (b := false) rfl rfl (hp.fact 4 42 (by kernel_rfl) rfl)) ?_
        have h43 : a.tmps.getD 43 undef = .agg #[.bool ba1, .slice Aa1 na1 ca1, .slice Ba1 ma1 oa1, .bool bb1, .slice Ab1 nb1 cb1, .slice Bb1 mb1 ob1] := (hp.fact 5 43 (by kernel_rfl) rfl)
        have h44 : a.tmps.getD 44 undef = .agg #[.bool ba7, .slice Aa7 na7 ca7, .slice Ba7 ma7 oa7, .bool bb7, .slice Ab7 nb7 cb7, .slice Bb7 mb7 ob7] := (hp.fact 6 44 (by kernel_rfl) rfl)
        unfold Does
        go_simp
        refine (spins_any _ _ _ lo1 hi1 (rmin lo0 lo1) (rmax hi0 hi1) 6 (T1.on hp.on) ((I7.kept hp.kept).sp le7) (by decide) (by decide)).mono ?_
        rintro e w' ⟨rfl, P8⟩
        exact ⟨_, rfl, P8, congrArg Value.bool (ins_true (rmin_le_r _ _) (le_rmax_r _ _))⟩
      · refine .inr fun a w hp => ob_yes (wanted_yes (P := Try.prog) (j := 4) (d := 42) (b := false) rfl rfl (hp.fact 4 42 (by kernel_rfl) rfl)) ?_
        have h45 : a.tmps.getD 45 undef = .bool true := (hp.fact 7 45 (by kernel_rfl) rfl)
        unfold Does
        go_simp
        exact ⟨_, rfl, On.refl _, by show Value.bool _ = Value.bool _; first | rfl | (simp; done)⟩
      · refine .inr fun a w hp => ob_yes rfl ?_
        have h42 : a.tmps.getD 42 undef = .bool false := (hp.fact 4 42 (by kernel_rfl) rfl)
        have h46 : a.tmps.getD 46 undef = .bool false := (hp.fact 8 46 (by kernel_rfl) rfl)
        unfold Does
        go_simp
        exact ⟨_, rfl, On.refl _, rfl⟩
      · exact .inr fun a w hp => ob_yes rfl (ob_move (hp.fact 9 47 (by kernel_rfl) rfl))
      · exact .inr fun a w hp => ob_yes (wanted_yes (P := Try.prog) (j := 10) (d := 48) (b := false) rfl rfl (hp.fact 10 48 (by kernel_rfl) rfl)) (ob_loadSp (hp.box (k := 3) rfl (Nat.le_refl _) (.inl (Nat.le_refl _)) (by kernel_rfl) rfl).1 (hp.box (k := 3) rfl (Nat.le_refl _) (.inl (Nat.le_refl _)) (by kernel_rfl) rfl).2 rfl)
      · exact .inr fun a w hp => ob_yes (wanted_yes (P := Try.prog) (j := 10) (d := 48) (b := false) rfl rfl (hp.fact 10 48 (by kernel_rfl) rfl)) (ob_loadSp (hp.box (k := 2) rfl (Nat.le_refl _) (.inl (Nat.le_refl _)) (by kernel_rfl) rfl).1 (hp.box (k := 2) rfl (Nat.le_refl _) (.inl (Nat.le_refl _)) (by kernel_rfl) rfl).2 rfl)
      · refine .inr fun a w hp => ob_yes (wanted_yes (P := Try.prog) (j := 10) (d := 48) (b := false) rfl rfl (hp.fact 10 48 (by kernel_rfl) rfl)) ?_
        have h49 : a.tmps.getD 49 undef = .agg #[.bool ba7, .slice Aa7 na7 ca7, .slice Ba7 ma7 oa7, .bool bb7, .slice Ab7 nb7 cb7, .slice Bb7 mb7 ob7] := (hp.fact 11 49 (by kernel_rfl) rfl)
        have h50 : a.tmps.getD 50 undef = .agg #[.bool ba2, .slice Aa2 na2 ca2, .slice Ba2 ma2 oa2, .bool bb2, .slice Ab2 nb2 cb2, .slice Bb2 mb2 ob2] := (hp.fact 12 50 (by kernel_rfl) rfl)
        unfold Does
        go_simp
        refine (spins_any _ _ _ (rmin lo0 lo1) (rmax hi0 hi1) lo2 hi2 6 ((I7.kept hp.kept).sp le7) (T2.on hp.on) (by decide) (by decide)).mono ?_
        rintro e w' ⟨rfl, P8⟩
        exact ⟨_, rfl, P8, congrArg Value.bool (HQH.out)⟩
      · exact .inr fun a w hp => ob_yes (wanted_yes (P := Try.prog) (j := 10) (d := 48) (b := false) rfl rfl (hp.fact 10 48 (by kernel_rfl) rfl)) (ob_loadSp (hp.box (k := 0) rfl (Nat.le_refl _) (.inl (Nat.le_refl _)) (by kernel_rfl) rfl).1 (hp.box (k := 0) rfl (Nat.le_refl _) (.inl (Nat.le_refl _)) (by kernel_rfl) rfl).2 rfl)
      · exact .inr fun a w hp => ob_yes (wanted_yes (P := Try.prog) (j := 10) (d := 48) (b := false) rfl rfl (hp.fact 10 48 (by kernel_rfl) rfl)) (ob_loadSp (hp.box (k := 2) rfl (Nat.le_refl _) (.inl (Nat.le_refl _)) (by kernel_rfl) rfl).1 (hp.box (k := 2) rfl (Nat.le_refl _) (.inl (Nat.le_refl _)) (by kernel_rfl) rfl).2 rfl)
      · refine .inr fun a w hp => ob_yes (wanted_yes (P := Try.prog) (j := 10) (d := 48) (b := false) rfl rfl (hp.fact 10 48 (by kernel_rfl) rfl)) ?_
        have h52 : a.tmps.getD 52 undef = .agg #[.bool ba0, .slice Aa0 na0 ca0, .slice Ba0 ma0 oa0, .bool bb0, .slice Ab0 nb0 cb0, .slice Bb0 mb0 ob0] := (hp.fact 14 52 (by kernel_rfl) rfl)
        have h53 : a.tmps.getD 53 undef = .agg #[.bool ba2, .slice Aa2 na2 ca2, .slice Ba2 ma2 oa2, .bool bb2, .slice Ab2 nb2 cb2, .slice Bb2 mb2 ob2] := (hp.fact 15 53 (by kernel_rfl) rfl)
        unfold Does
        go_simp
        refine (spins_any _ _ _ lo0 hi0 lo2 hi2 6 (T0.on hp.on) (T2.on hp.on) (by decide) (by decide)).mono ?_
        rintro e w' ⟨rfl, P8⟩
        exact ⟨_, rfl, P8, congrArg Value.bool HQ0.out⟩
      · exact .inr fun a w hp => ob_yes (wanted_yes (P := Try.prog) (j := 10) (d := 48) (b := false) rfl rfl (hp.fact 10 48 (by kernel_rfl) rfl)) (ob_move (hp.fact 16 54 (by kernel_rfl) rfl))
      · exact .inr fun a w hp => ob_no (wanted_no (P := Try.prog) (j := 17) (d := 55) (b := false) rfl rfl (hp.fact 17 55 (by kernel_rfl) rfl)) rfl
      · exact .inr fun a w hp => ob_no (wanted_no (P := Try.prog) (j := 17) (d := 55) (b := false) rfl rfl (hp.fact 17 55 (by kernel_rfl) rfl)) rfl
      · exact .inr fun a w hp => ob_no (wanted_no (P := Try.prog) (j := 17) (d := 55) (b := false) rfl rfl (hp.fact 17 55 (by kernel_rfl) rfl)) rfl
      · refine .inr fun a w hp => ob_yes (wanted_yes (P := Try.prog) (j := 10) (d := 48) (b := false) rfl rfl (hp.fact 10 48 (by kernel_rfl) rfl)) ?_
        have h55 : a.tmps.getD 55 undef = .bool false := (hp.fact 17 55 (by kernel_rfl) rfl)
        have h58 : a.tmps.getD 58 undef = undef := (hp.fact 20 58 (by kernel_rfl) rfl)
        unfold Does
        go_simp
        exact ⟨_, rfl, On.refl _, rfl⟩
      · refine .inr fun a w hp => ob_yes (wanted_yes (P := Try.prog) (j := 10) (d := 48) (b := false) rfl rfl (hp.fact 10 48 (by kernel_rfl) rfl)) ?_
        have h51 : a.tmps.getD 51 undef = .bool false := (hp.fact 13 51 (by kernel_rfl) rfl)
        have h59 : a.tmps.getD 59 undef = .bool false := (hp.fact 21 59 (by kernel_rfl) rfl)
        unfold Does
        go_simp
        exact ⟨_, rfl, On.refl _, by show Value.bool _ = Value.bool _; first | rfl | (simp; done)⟩
      · refine .inr fun a w hp => ob_yes rfl ?_
        have h48 : a.tmps.getD 48 undef = .bool false := (hp.fact 10 48 (by kernel_rfl) rfl)
        have h60 : a.tmps.getD 60 undef = .bool false := (hp.fact 22 60 (by kernel_rfl) rfl)
        unfold Does
        go_simp
        exact ⟨_, rfl, On.refl _, rfl⟩
    · intro f wr hon hk hf hb hap
      obtain ⟨q0, q1, q2, q3, qz⟩ := hb
      clear qz
      have O3 : Own wr (w.heap.size) 38 #[.bool ba0, .slice Aa0 na0 ca0, .slice Ba0 ma0 oa0, .bool bb0, .slice Ab0 nb0 cb0, .slice Bb0 mb0 ob0] := q0
      have c3_0 : wr.cell? ⟨w.heap.size, 0, none⟩ = some (.bool ba0) := O3.cell 0
      have z3_0 := O3.frozen 0
      have c3_1 : wr.cell? ⟨w.heap.size, 1, none⟩ = some (.slice Aa0 na0 ca0) := O3.cell 1
      have z3_1 := O3.frozen 1
      have c3_2 : wr.cell? ⟨w.heap.size, 2, none⟩ = some (.slice Ba0 ma0 oa0) := O3.cell 2
      have z3_2 := O3.frozen 2
      have c3_3 : wr.cell? ⟨w.heap.size, 3, none⟩ = some (.bool bb0) := O3.cell 3
      have z3_3 := O3.frozen 3
      have c3_4 : wr.cell? ⟨w.heap.size, 4, none⟩ = some (.slice Ab0 nb0 cb0) := O3.cell 4
      have z3_4 := O3.frozen 4
      have c3_5 : wr.cell? ⟨w.heap.size, 5, none⟩ = some (.slice Bb0 mb0 ob0) := O3.cell 5
      have z3_5 := O3.frozen 5
      clear q0
      have O4 : Own wr (w.heap.size + 1) 38 #[.bool ba1, .slice Aa1 na1 ca1, .slice Ba1 ma1 oa1, .bool bb1, .slice Ab1 nb1 cb1, .slice Bb1 mb1 ob1] := q1
      have c4_0 : wr.cell? ⟨w.heap.size + 1, 0, none⟩ = some (.bool ba1) := O4.cell 0
      have z4_0 := O4.frozen 0
      have c4_1 : wr.cell? ⟨w.heap.size + 1, 1, none⟩ = some (.slice Aa1 na1 ca1) := O4.cell 1
      have z4_1 := O4.frozen 1
      have c4_2 : wr.cell? ⟨w.heap.size + 1, 2, none⟩ = some (.slice Ba1 ma1 oa1) := O4.cell 2
      have z4_2 := O4.frozen 2
      have c4_3 : wr.cell? ⟨w.heap.size + 1, 3, none⟩ = some (.bool bb1) := O4.cell 3
      have z4_3 := O4.frozen 3
      have c4_4 : wr.cell? ⟨w.heap.size + 1, 4, none⟩ = some (.slice Ab1 nb1 cb1) := O4.cell 4
      have z4_4 := O4.frozen 4
      have c4_5 : wr.cell? ⟨w.heap.size + 1, 5, none⟩ = some (.slice Bb1 mb1 ob1) := O4.cell 5
      have z4_5 := O4.frozen 5
      clear q1
      have O5 : Own wr (w.heap.size + 2) 38 #[.bool ba2, .slice Aa2 na2 ca2, .slice Ba2 ma2 oa2, .bool bb2, .slice Ab2 nb2 cb2, .slice Bb2 mb2 ob2] := q2
      have c5_0 : wr.cell? ⟨w.heap.size + 2, 0, none⟩ = some (.bool ba2) := O5.cell 0
      have z5_0 := O5.frozen 0
      have c5_1 : wr.cell? ⟨w.heap.size + 2, 1, none⟩ = some (.slice Aa2 na2 ca2) := O5.cell 1
      have z5_1 := O5.frozen 1
      have c5_2 : wr.cell? ⟨w.heap.size + 2, 2, none⟩ = some (.slice Ba2 ma2 oa2) := O5.cell 2
      have z5_2 := O5.frozen 2
      have c5_3 : wr.cell? ⟨w.heap.size + 2, 3, none⟩ = some (.bool bb2) := O5.cell 3
      have z5_3 := O5.frozen 3
      have c5_4 : wr.cell? ⟨w.heap.size + 2, 4, none⟩ = some (.slice Ab2 nb2 cb2) := O5.cell 4
      have z5_4 := O5.frozen 4
      have c5_5 : wr.cell? ⟨w.heap.size + 2, 5, none⟩ = some (.slice Bb2 mb2 ob2) := O5.cell 5
      have z5_5 := O5.frozen 5
      clear q2
      have O7 : Own wr (w7.heap.size) 38 #[.bool ba7, .slice Aa7 na7 ca7, .slice Ba7 ma7 oa7, .bool bb7, .slice Ab7 nb7 cb7, .slice Bb7 mb7 ob7] := q3
      have c7_0 : wr.cell? ⟨w7.heap.size, 0, none⟩ = some (.bool ba7) := O7.cell 0
      have z7_0 := O7.frozen 0
      have c7_1 : wr.cell? ⟨w7.heap.size, 1, none⟩ = some (.slice Aa7 na7 ca7) := O7.cell 1
      have z7_1 := O7.frozen 1
      have c7_2 : wr.cell? ⟨w7.heap.size, 2, none⟩ = some (.slice Ba7 ma7 oa7) := O7.cell 2
      have z7_2 := O7.frozen 2
      have c7_3 : wr.cell? ⟨w7.heap.size, 3, none⟩ = some (.bool bb7) := O7.cell 3
      have z7_3 := O7.frozen 3
      have c7_4 : wr.cell? ⟨w7.heap.size, 4, none⟩ = some (.slice Ab7 nb7 cb7) := O7.cell 4
      have z7_4 := O7.frozen 4
      have c7_5 : wr.cell? ⟨w7.heap.size, 5, none⟩ = some (.slice Bb7 mb7 ob7) := O7.cell 5
      have z7_5 := O7.frozen 5
      clear q3
      have e61 : f 61 = .bool false := hf 23 61 rfl
      clear hf hap
      simp only [fillL, e61]
      clear e61
      have OB3 : w.heap.size ≤ w.heap.size ∧ Own wr (w.heap.size) 38 #[.bool ba0, .slice Aa0 na0 ca0, .slice Ba0 ma0 oa0, .bool bb0, .slice Ab0 nb0 cb0, .slice Bb0 mb0 ob0] := ⟨by omega, O3⟩
      clear c3_0 z3_0 c3_1 z3_1 c3_2 z3_2 c3_3 z3_3 c3_4 z3_4 c3_5 z3_5 O3
      have OB4 : w.heap.size ≤ w.heap.size + 1 ∧ Own wr (w.heap.size + 1) 38 #[.bool ba1, .slice Aa1 na1 ca1, .slice Ba1 ma1 oa1, .bool bb1, .slice Ab1 nb1 cb1, .slice Bb1 mb1 ob1] := ⟨by omega, O4⟩
      clear c4_0 z4_0 c4_1 z4_1 c4_2 z4_2 c4_3 z4_3 c4_4 z4_4 c4_5 z4_5 O4
      have OB5 : w.heap.size ≤ w.heap.size + 2 ∧ Own wr (w.heap.size + 2) 38 #[.bool ba2, .slice Aa2 na2 ca2, .slice Ba2 ma2 oa2, .bool bb2, .slice Ab2 nb2 cb2, .slice Bb2 mb2 ob2] := ⟨by omega, O5⟩
      clear c5_0 z5_0 c5_1 z5_1 c5_2 z5_2 c5_3 z5_3 c5_4 z5_4 c5_5 z5_5 O5
      clear c7_0 z7_0 c7_1 z7_1 c7_2 z7_2 c7_3 z7_3 c7_4 z7_4 c7_5 z7_5 O7 OB7 I7
      clear B
      have B := hon
      clear hon hk
      have y3_0 : wr.cell? ⟨w.heap.size, 0, none⟩ = some (.bool ba0) := OB3.2.cell 0
      have y3_1 : wr.cell? ⟨w.heap.size, 1, none⟩ = some (.slice Aa0 na0 ca0) := OB3.2.cell 1
      have y3_2 : wr.cell? ⟨w.heap.size, 2, none⟩ = some (.slice Ba0 ma0 oa0) := OB3.2.cell 2
      have y3_3 : wr.cell? ⟨w.heap.size, 3, none⟩ = some (.bool bb0) := OB3.2.cell 3
      have y3_4 : wr.cell? ⟨w.heap.size, 4, none⟩ = some (.slice Ab0 nb0 cb0) := OB3.2.cell 4
      have y3_5 : wr.cell? ⟨w.heap.size, 5, none⟩ = some (.slice Bb0 mb0 ob0) := OB3.2.cell 5
      have y3_f0 := OB3.2.frozen 0
      have y3_f1 := OB3.2.frozen 1
      have y3_f2 := OB3.2.frozen 2
      have y3_f3 := OB3.2.frozen 3
      have y3_f4 := OB3.2.frozen 4
      have y3_f5 := OB3.2.frozen 5
      have y4_0 : wr.cell? ⟨w.heap.size + 1, 0, none⟩ = some (.bool ba1) := OB4.2.cell 0
      have y4_1 : wr.cell? ⟨w.heap.size + 1, 1, none⟩ = some (.slice Aa1 na1 ca1) := OB4.2.cell 1
      have y4_2 : wr.cell? ⟨w.heap.size + 1, 2, none⟩ = some (.slice Ba1 ma1 oa1) := OB4.2.cell 2
      have y4_3 : wr.cell? ⟨w.heap.size + 1, 3, none⟩ = some (.bool bb1) := OB4.2.cell 3
      have y4_4 : wr.cell? ⟨w.heap.size + 1, 4, none⟩ = some (.slice Ab1 nb1 cb1) := OB4.2.cell 4
      have y4_5 : wr.cell? ⟨w.heap.size + 1, 5, none⟩ = some (.slice Bb1 mb1 ob1) := OB4.2.cell 5
      have y4_f0 := OB4.2.frozen 0
      have y4_f1 := OB4.2.frozen 1
      have y4_f2 := OB4.2.frozen 2
      have y4_f3 := OB4.2.frozen 3
      have y4_f4 := OB4.2.frozen 4
      have y4_f5 := OB4.2.frozen 5
      go_wp2_with fail
      refine (spmeet_no _ _ _ lo0 hi0 lo1 hi1 6 (T0.on B) (T1.on B) (by decide) (by decide) HC.out).mono ?_
      rintro e w8 ⟨u8, rfl, I8, P8⟩
      obtain ⟨ba8, Aa8, na8, ca8, Ba8, ma8, oa8, bb8, Ab8, nb8, cb8, Bb8, mb8, ob8, rfl, IL8, IH8⟩ := id I8
      clear y3_0 y3_f0 y3_1 y3_f1 y3_2 y3_f2 y3_3 y3_f3 y3_4 y3_f4 y3_5 y3_f5
      clear y4_0 y4_f0 y4_1 y4_f1 y4_2 y4_f2 y4_3 y4_f3 y4_4 y4_f4 y4_5 y4_f5
      replace OB3 := And.intro OB3.1 (OB3.2.on P8)
      replace OB4 := And.intro OB4.1 (OB4.2.on P8)
      replace OB5 := And.intro OB5.1 (OB5.2.on P8)
      replace B := B.trans P8
      have PA := (On.refl w8).alloc (.cells #[.bool ba8, .slice Aa8 na8 ca8, .slice Ba8 ma8 oa8, .bool bb8, .slice Ab8 nb8 cb8, .slice Bb8 mb8 ob8] 38)
      have B0_8 := B.size
      replace OB3 := And.intro OB3.1 (OB3.2.on PA)
      replace OB4 := And.intro OB4.1 (OB4.2.on PA)
      replace OB5 := And.intro OB5.1 (OB5.2.on PA)
      replace B := B.trans PA
      replace I8 := I8.on PA
      have OB8 : w.heap.size ≤ w8.heap.size ∧ _ := ⟨B0_8, Own.new w8 38 #[.bool ba8, .slice Aa8 na8 ca8, .slice Ba8 ma8 oa8, .bool bb8, .slice Ab8 nb8 cb8, .slice Bb8 mb8 ob8]⟩
      clear PA P8 IL8 IH8
      have y3_0 : (w8.alloc (.cells #[.bool ba8, .slice Aa8 na8 ca8, .slice Ba8 ma8 oa8, .bool bb8, .slice Ab8 nb8 cb8, .slice Bb8 mb8 ob8] 38)).cell? ⟨w.heap.size, 0, none⟩ = some (.bool ba0) := OB3.2.cell 0
      have y3_1 : (w8.alloc (.cells #[.bool ba8, .slice Aa8 na8 ca8, .slice Ba8 ma8 oa8, .bool bb8, .slice Ab8 nb8 cb8, .slice Bb8 mb8 ob8] 38)).cell? ⟨w.heap.size, 1, none⟩ = some (.slice Aa0 na0 ca0) := OB3.2.cell 1
      have y3_2 : (w8.alloc (.cells #[.bool ba8, .slice Aa8 na8 ca8, .slice Ba8 ma8 oa8, .bool bb8, .slice Ab8 nb8 cb8, .slice Bb8 mb8 ob8] 38)).cell? ⟨w.heap.size, 2, none⟩ = some (.slice Ba0 ma0 oa0) := OB3.2.cell 2
      have y3_3 : (w8.alloc (.cells #[.bool ba8, .slice Aa8 na8 ca8, .slice Ba8 ma8 oa8, .bool bb8, .slice Ab8 nb8 cb8, .slice Bb8 mb8 ob8] 38)).cell? ⟨w.heap.size, 3, none⟩ = some (.bool bb0) := OB3.2.cell 3
      have y3_4 : (w8.alloc (.cells #[.bool ba8, .slice Aa8 na8 ca8, .slice Ba8 ma8 oa8, .bool bb8, .slice Ab8 nb8 cb8, .slice Bb8 mb8 ob8] 38)).cell? ⟨w.heap.size, 4, none⟩ = some (.slice Ab0 nb0 cb0) := OB3.2.cell 4
      have y3_5 : (w8.alloc (.cells #[.bool ba8, .slice Aa8 na8 ca8, .slice Ba8 ma8 oa8, .bool bb8, .slice Ab8 nb8 cb8, .slice Bb8 mb8 ob8] 38)).cell? ⟨w.heap.size, 5, none⟩ = some (.slice Bb0 mb0 ob0) := OB3.2.cell 5
      have y3_f0 := OB3.2.frozen 0
      have y3_f1 := OB3.2.frozen 1
      have y3_f2 := OB3.2.frozen 2
      have y3_f3 := OB3.2.frozen 3
      have y3_f4 := OB3.2.frozen 4
      have y3_f5 := OB3.2.frozen 5
      have y4_0 : (w8.alloc (.cells #[.bool ba8, .slice Aa8 na8 ca8, .slice Ba8 ma8 oa8, .bool bb8, .slice Ab8 nb8 cb8, .slice Bb8 mb8 ob8] 38)).cell? ⟨w.heap.size + 1, 0, none⟩ = some (.bool ba1) := OB4.2.cell 0
      have y4_1 : (w8.alloc (.cells #[.bool ba8, .slice Aa8 na8 ca8, .slice Ba8 ma8 oa8, .bool bb8, .slice Ab8 nb8 cb8, .slice Bb8 mb8 ob8] 38)).cell? ⟨w.heap.size + 1, 1, none⟩ = some (.slice Aa1 na1 ca1) := OB4.2.cell 1
      have y4_2 : (w8.alloc (.cells #[.bool ba8, .slice Aa8 na8 ca8, .slice Ba8 ma8 oa8, .bool bb8, .slice Ab8 nb8 cb8, .slice Bb8 mb8 ob8] 38)).cell? ⟨w.heap.size + 1, 2, none⟩ = some (.slice Ba1 ma1 oa1) := OB4.2.cell 2
      have y4_3 : (w8.alloc (.cells #[.bool ba8, .slice Aa8 na8 ca8, .slice Ba8 ma8 oa8, .bool bb8, .slice Ab8 nb8 cb8, .slice Bb8 mb8 ob8] 38)).cell? ⟨w.heap.size + 1, 3, none⟩ = some (.bool bb1) := OB4.2.cell 3
      have y4_4 : (w8.alloc (.cells #[.bool ba8, .slice Aa8 na8 ca8, .slice Ba8 ma8 oa8, .bool bb8, .slice Ab8 nb8 cb8, .slice Bb8 mb8 ob8] 38)).cell? ⟨w.heap.size + 1, 4, none⟩ = some (.slice Ab1 nb1 cb1) := OB4.2.cell 4
      have y4_5 : (w8.alloc (.cells #[.bool ba8, .slice Aa8 na8 ca8, .slice Ba8 ma8 oa8, .bool bb8, .slice Ab8 nb8 cb8, .slice Bb8 mb8 ob8] 38)).cell? ⟨w.heap.size + 1, 5, none⟩ = some (.slice Bb1 mb1 ob1) := OB4.2.cell 5
      have y4_f0 := OB4.2.frozen 0
      have y4_f1 := OB4.2.frozen 1
      have y4_f2 := OB4.2.frozen 2
      have y4_f3 := OB4.2.frozen 3
      have y4_f4 := OB4.2.frozen 4
      have y4_f5 := OB4.2.frozen 5
      have y5_0 : (w8.alloc (.cells #[.bool ba8, .slice Aa8 na8 ca8, .slice Ba8 ma8 oa8, .bool bb8, .slice Ab8 nb8 cb8, .slice Bb8 mb8 ob8] 38)).cell? ⟨w.heap.size + 2, 0, none⟩ = some (.bool ba2) := OB5.2.cell 0
      have y5_1 : (w8.alloc (.cells #[.bool ba8, .slice Aa8 na8 ca8, .slice Ba8 ma8 oa8, .bool bb8, .slice Ab8 nb8 cb8, .slice Bb8 mb8 ob8] 38)).cell? ⟨w.heap.size + 2, 1, none⟩ = some (.slice Aa2 na2 ca2) := OB5.2.cell 1
      have y5_2 : (w8.alloc (.cells #[.bool ba8, .slice Aa8 na8 ca8, .slice Ba8 ma8 oa8, .bool bb8, .slice Ab8 nb8 cb8, .slice Bb8 mb8 ob8] 38)).cell? ⟨w.heap.size + 2, 2, none⟩ = some (.slice Ba2 ma2 oa2) := OB5.2.cell 2
      have y5_3 : (w8.alloc (.cells #[.bool ba8, .slice Aa8 na8 ca8, .slice Ba8 ma8 oa8, .bool bb8, .slice Ab8 nb8 cb8, .slice Bb8 mb8 ob8] 38)).cell? ⟨w.heap.size + 2, 3, none⟩ = some (.bool bb2) := OB5.2.cell 3
      have y5_4 : (w8.alloc (.cells #[.bool ba8, .slice Aa8 na8 ca8, .slice Ba8 ma8 oa8, .bool bb8, .slice Ab8 nb8 cb8, .slice Bb8 mb8 ob8] 38)).cell? ⟨w.heap.size + 2, 4, none⟩ = some (.slice Ab2 nb2 cb2) := OB5.2.cell 4
      have y5_5 : (w8.alloc (.cells #[.bool ba8, .slice Aa8 na8 ca8, .slice Ba8 ma8 oa8, .bool bb8, .slice Ab8 nb8 cb8, .slice Bb8 mb8 ob8] 38)).cell? ⟨w.heap.size + 2, 5, none⟩ = some (.slice Bb2 mb2 ob2) := OB5.2.cell 5
      have y5_f0 := OB5.2.frozen 0
      have y5_f1 := OB5.2.frozen 1
      have y5_f2 := OB5.2.frozen 2
      have y5_f3 := OB5.2.frozen 3
      have y5_f4 := OB5.2.frozen 4
      have y5_f5 := OB5.2.frozen 5
      go_wp2_with fail
      refine (is_err _ 17).mono ?_
      rintro e w9 ⟨rfl, rfl⟩
      go_wp2_with fail
      refine (spins_any _ _ _ lo2 hi2 lo0 hi0 6 (T2.on B) (T0.on B) (by decide) (by decide)).mono ?_
      rintro e w9 ⟨rfl, P9⟩
      rw [show (decide (lo0 ≤ lo2) && decide (hi2 ≤ hi0)) = p0 from HP0.out]
      clear y3_0 y3_f0 y3_1 y3_f1 y3_2 y3_f2 y3_3 y3_f3 y3_4 y3_f4 y3_5 y3_f5
      clear y4_0 y4_f0 y4_1 y4_f1 y4_2 y4_f2 y4_3 y4_f3 y4_4 y4_f4 y4_5 y4_f5
      clear y5_0 y5_f0 y5_1 y5_f1 y5_2 y5_f2 y5_3 y5_f3 y5_4 y5_f4 y5_5 y5_f5
      replace OB3 := And.intro OB3.1 (OB3.2.on P9)
      replace OB4 := And.intro OB4.1 (OB4.2.on P9)
      replace OB5 := And.intro OB5.1 (OB5.2.on P9)
      replace B := B.trans P9
      have y4_0 : w9.cell? ⟨w.heap.size + 1, 0, none⟩ = some (.bool ba1) := OB4.2.cell 0
      have y4_1 : w9.cell? ⟨w.heap.size + 1, 1, none⟩ = some (.slice Aa1 na1 ca1) := OB4.2.cell 1
      have y4_2 : w9.cell? ⟨w.heap.size + 1, 2, none⟩ = some (.slice Ba1 ma1 oa1) := OB4.2.cell 2
      have y4_3 : w9.cell? ⟨w.heap.size + 1, 3, none⟩ = some (.bool bb1) := OB4.2.cell 3
      have y4_4 : w9.cell? ⟨w.heap.size + 1, 4, none⟩ = some (.slice Ab1 nb1 cb1) := OB4.2.cell 4
      have y4_5 : w9.cell? ⟨w.heap.size + 1, 5, none⟩ = some (.slice Bb1 mb1 ob1) := OB4.2.cell 5
      have y4_f0 := OB4.2.frozen 0
      have y4_f1 := OB4.2.frozen 1
      have y4_f2 := OB4.2.frozen 2
      have y4_f3 := OB4.2.frozen 3
      have y4_f4 := OB4.2.frozen 4
      have y4_f5 := OB4.2.frozen 5
      have y5_0 : w9.cell? ⟨w.heap.size + 2, 0, none⟩ = some (.bool ba2) := OB5.2.cell 0
      have y5_1 : w9.cell? ⟨w.heap.size + 2, 1, none⟩ = some (.slice Aa2 na2 ca2) := OB5.2.cell 1
      have y5_2 : w9.cell? ⟨w.heap.size + 2, 2, none⟩ = some (.slice Ba2 ma2 oa2) := OB5.2.cell 2
      have y5_3 : w9.cell? ⟨w.heap.size + 2, 3, none⟩ = some (.bool bb2) := OB5.2.cell 3
      have y5_4 : w9.cell? ⟨w.heap.size + 2, 4, none⟩ = some (.slice Ab2 nb2 cb2) := OB5.2.cell 4
      have y5_5 : w9.cell? ⟨w.heap.size + 2, 5, none⟩ = some (.slice Bb2 mb2 ob2) := OB5.2.cell 5
      have y5_f0 := OB5.2.frozen 0
      have y5_f1 := OB5.2.frozen 1
      have y5_f2 := OB5.2.frozen 2
      have y5_f3 := OB5.2.frozen 3
      have y5_f4 := OB5.2.frozen 4
      have y5_f5 := OB5.2.frozen 5
      have hpn := HPN.out
      cases p0
      · go_wp2
        go_ret
        exact ⟨rfl, B⟩
      · simp at hpn
        subst hpn
        go_wp2_with fail
        refine (spins_any _ _ _ lo2 hi2 lo1 hi1 6 (T2.on B) (T1.on B) (by decide) (by decide)).mono ?_
        rintro e w10 ⟨rfl, P10⟩
        rw [show (decide (lo1 ≤ lo2) && decide (hi2 ≤ hi1)) = false from HP1.out]
        go_wp2
        go_ret
        exact ⟨rfl, B.trans P10⟩
  · refine wp_region_facts (by kernel_rfl) w [Fact.eq (.agg #[.bool ba0, .slice Aa0 na0 ca0, .slice Ba0 ma0 oa0, .bool bb0, .slice Ab0 nb0 cb0, .slice Bb0 mb0 ob0]), Fact.eq (.agg #[.bool ba7, .slice Aa7 na7 ca7, .slice Ba7 ma7 oa7, .bool bb7, .slice Ab7 nb7 cb7, .slice Bb7 mb7 ob7]), Fact.eq (.bool true), Fact.eq (.bool false), Fact.eq (.bool false), Fact.eq (.agg #[.bool ba1, .slice Aa1 na1 ca1, .slice Ba1 ma1 oa1, .bool bb1, .slice Ab1 nb1 cb1, .slice Bb1 mb1 ob1]), Fact.eq (.agg #[.bool ba7, .slice Aa7 na7 ca7, .slice Ba7 ma7 oa7, .bool bb7, .slice Ab7 nb7 cb7, .slice Bb7 mb7 ob7]), Fact.eq (.bool true), Fact.eq (.bool false), Fact.eq (.bool false), Fact.eq (.bool false), Fact.eq (.agg #[.bool ba7, .slice Aa7 na7 ca7, .slice Ba7 ma7 oa7, .bool bb7, .slice Ab7 nb7 cb7, .slice Bb7 mb7 ob7]), Fact.eq (.agg #[.bool ba2, .slice Aa2 na2 ca2, .slice Ba2 ma2 oa2, .bool bb2, .slice Ab2 nb2 cb2, .slice Bb2 mb2 ob2]), Fact.eq (.bool q1), Fact.eq (.agg #[.bool ba0, .slice Aa0 na0 ca0, .slice Ba0 ma0 oa0, .bool bb0, .slice Ab0 nb0 cb0, .slice Bb0 mb0 ob0]), Fact.eq (.agg #[.bool ba2, .slice Aa2 na2 ca2, .slice Ba2 ma2 oa2, .bool bb2, .slice Ab2 nb2 cb2, .slice Bb2 mb2 ob2]), Fact.eq (.bool true), Fact.eq (.bool true), Fact.eq (.agg #[.bool ba1, .slice Aa1 na1 ca1, .slice Ba1 ma1 oa1, .bool bb1, .slice Ab1 nb1 cb1, .slice Bb1 mb1 ob1]), Fact.eq (.agg #[.bool ba2, .slice Aa2 na2 ca2, .slice Ba2 ma2 oa2, .bool bb2, .slice Ab2 nb2 cb2, .slice Bb2 mb2 ob2]), Fact.eq (.bool q1), Fact.eq (.bool q1), Fact.eq (.bool false), Fact.eq (.bool false)] [Fact.any, Fact.any, Fact.any, Fact.any] [⟨24, 3, 38, 24, #[.bool ba0, .slice Aa0 na0 ca0, .slice Ba0 ma0 oa0, .bool bb0, .slice Ab0 nb0 cb0, .slice Bb0 mb0 ob0]⟩, ⟨24, 4, 38, 24, #[.bool ba1, .slice Aa1 na1 ca1, .slice Ba1 ma1 oa1, .bool bb1, .slice Ab1 nb1 cb1, .slice Bb1 mb1 ob1]⟩, ⟨24, 5, 38, 24, #[.bool ba2, .slice Aa2 na2 ca2, .slice Ba2 ma2 oa2, .bool bb2, .slice Ab2 nb2 cb2, .slice Bb2 mb2 ob2]⟩, ⟨24, 7, 38, 24, #[.bool ba7, .slice Aa7 na7 ca7, .slice Ba7 ma7 oa7, .bool bb7, .slice Ab7 nb7 cb7, .slice Bb7 mb7 ob7]⟩] [w.heap.size, w.heap.size + 1, w.heap.size + 2, w7.heap.size] [none, none, none, none, none, none, none, none, none, none, none, none, none, none, none, none, none, none, none, none, none, none, none, none, none, none, none, none, none, none, none, none, none, none, none, none, none, none, some 38, some 39, some 40, some 41, some 42, some 43, some 44, some 45, some 46, some 47, some 48, some 49, some 50, some 51, some 52, some 53, some 54, some 55, some 56, some 57, some 58, some 59, some 60, some 61, none, none, none, none, none, none, none, none, none, none, none, none, none, none, none, none, none, none, none, none, none, none, none, none, none, none, none, none, none, none, none, none, none, none, none, none, none, none, none, none, none, none, none] (by kernel_rfl) (by kernel_rfl) (by kernel_rfl) rfl B ?_ ?_ ?_ ?_ ?_
    · exact ⟨fun _ => ⟨by simp, rfl, OB3⟩, fun _ => ⟨by simp, rfl, OB4⟩, fun _ => ⟨by simp, rfl, OB5⟩, fun _ => ⟨by simp, rfl, OB7⟩, trivial⟩
    · exact .inl ⟨Nat.le_refl _, Nat.le_refl _, Nat.le_refl _, Nat.le_refl _, trivial⟩
    · exact ⟨⟨noWords_S _ _ _ _ _ _ _ _ _ _ _ _ _ _, (.inl (Nat.le_refl _)), (.inl (Nat.le_refl _))⟩, ⟨noWords_S _ _ _ _ _ _ _ _ _ _ _ _ _ _, (.inl (Nat.le_refl _)), (.inl (Nat.le_refl _))⟩, ⟨noWords_S _ _ _ _ _ _ _ _ _ _ _ _ _ _, (.inl (Nat.le_refl _)), (.inl (Nat.le_refl _))⟩, ⟨noWords_S _ _ _ _ _ _ _ _ _ _ _ _ _ _, (.inl (Nat.le_refl _)), (.inl (Nat.le_refl _))⟩, trivial⟩
    · refine ⟨?_, ?_, ?_, ?_, ?_, ?_, ?_, ?_, ?_, ?_, ?_, ?_, ?_, ?_, ?_, ?_, ?_, ?_, ?_, ?_, ?_, ?_, ?_, ?_, trivial⟩
      · exact .inr fun a w hp => ob_yes rfl (ob_loadSp (hp.box (k := 0) rfl (Nat.le_refl _) (.inl (Nat.le_refl _)) (by kernel_rfl) rfl).1 (hp.box (k := 0) rfl (Nat.le_refl _) (.inl (Nat.le_refl _)) (by kernel_rfl) rfl).2 rfl)
      · exact .inr fun a w hp => ob_yes rfl (ob_loadSp (hp.box (k := 3) rfl (Nat.le_refl _) (.inl (Nat.le_refl _)) (by kernel_rfl) rfl).1 (hp.box (k := 3) rfl (Nat.le_refl _) (.inl (Nat.le_refl _)) (by kernel_rfl) rfl).2 rfl)
      · refine .inr fun a w hp => ob_yes rfl ?_
        have h38 : a.tmps.getD 38 undef = .agg #[.bool ba0, .slice Aa0 na0 ca0, .slice Ba0 ma0 oa0, .bool bb0, .slice Ab0 nb0 cb0, .slice Bb0 mb0 ob0] := (hp.fact 0 38 (by kernel_rfl) rfl)
        have h39 : a.tmps.getD 39 undef = .agg #[.bool ba7, .slice Aa7 na7 ca7, .slice Ba7 ma7 oa7, .bool bb7, .slice Ab7 nb7 cb7, .slice Bb7 mb7 ob7] := (hp.fact 1 39 (by kernel_rfl) rfl)
        unfold Does
        go_simp
        refine (spins_any _ _ _ lo0 hi0 (rmin lo0 lo1) (rmax hi0 hi1) 6 (T0.on hp.on) ((I7.kept hp.kept).sp le7) (by decide) (by decide)).mono ?_
        rintro e w' ⟨rfl, P8⟩
        exact ⟨_, rfl, P8, congrArg Value.bool (ins_true (rmin_le_l _ _) (le_rmax_l _ _))⟩
      · refine .inr fun a w hp => ob_yes rfl ?_
        have h40 : a.tmps.getD 40 undef = .bool true := (hp.fact 2 40 (by kernel_rfl) rfl)
        unfold Does
        go_simp
        exact ⟨_, rfl, On.refl _, by show Value.bool _ = Value.bool _; first | rfl | (simp; done)⟩
      · exact .inr fun a w hp => ob_yes rfl (ob_move (hp.fact 3 41 (by kernel_rfl) rfl))
      · exact .inr fun a w hp => ob_yes (wanted_yes (P := Try.prog) (j := 4) (d := 42) (b := false) rfl rfl (hp.fact 4 42 (by kernel_rfl) rfl)) (ob_loadSp (hp.box (k := 1) rfl (Nat.le_refl _) (.inl (Nat.le_refl _)) (by kernel_rfl) rfl).1 (hp.box (k := 1) rfl (Nat.le_refl _) (.inl (Nat.le_refl _)) (by kernel_rfl) rfl).2 rfl)
      · exact .inr fun a w hp => ob_yes (wanted_yes (P := Try.prog) (j := 4) (d := 42) (b := false) rfl rfl (hp.fact 4 42 (by kernel_rfl) rfl)) (ob_loadSp (hp.box (k := 3) rfl (Nat.le_refl _) (.inl (Nat.le_refl _)) (by kernel_rfl) rfl).1 (hp.box (k := 3) rfl (Nat.le_refl _) (.inl (Nat.le_refl _)) (by kernel_rfl) rfl).2 rfl)
      · refine .inr fun a w hp => ob_yes (wanted_yes (P := Try.prog) (j := 4) (d := 42) (b := false) rfl rfl (hp.fact 4 42 (by kernel_rfl) rfl)) ?_
        have h43 : a.tmps.getD 43 undef = .agg #[.bool ba1, .slice Aa1 na1 ca1, .slice Ba1 ma1 oa1, .bool bb1, .slice Ab1 nb1 cb1, .slice Bb1 mb1 ob1] := (hp.fact 5 43 (by kernel_rfl) rfl)
        have h44 : a.tmps.getD 44 undef = .agg #[.bool ba7, .slice Aa7 na7 ca7, .slice Ba7 ma7 oa7, .bool bb7, .slice Ab7 nb7 cb7, .slice Bb7 mb7 ob7] := (hp.fact 6 44 (by kernel_rfl) rfl)
        unfold Does
        go_simp
        refine (spins_any _ _ _ lo1 hi1 (rmin lo0 lo1) (rmax hi0 hi1) 6 (T1.on hp.on) ((I7.kept hp.kept).sp le7) (by decide) (by decide)).mono ?_
        rintro e w' ⟨rfl, P8⟩
        exact ⟨_, rfl, P8, congrArg Value.bool (ins_true (rmin_le_r _ _) (le_rmax_r _ _))⟩
      · refine .inr fun a w hp => ob_yes (wanted_yes (P := Try.prog) (j := 4) (d := 42) (b := false) rfl rfl (hp.fact 4 42 (by kernel_rfl) rfl)) ?_
        have h45 : a.tmps.getD 45 undef = .bool true := (hp.fact 7 45 (by kernel_rfl) rfl)
        unfold Does
        go_simp
        exact ⟨_, rfl, On.refl _, by show Value.bool _ = Value.bool _; first | rfl | (simp; done)⟩
      · refine .inr fun a w hp => ob_yes rfl ?_
        have h42 : a.tmps.getD 42 undef = .bool false := (hp.fact 4 42 (by kernel_rfl) rfl)
        have h46 : a.tmps.getD 46 undef = .bool false := (hp.fact 8 46 (by kernel_rfl) rfl)
        unfold Does
        go_simp
        exact ⟨_, rfl, On.refl _, rfl⟩
      · exact .inr fun a w hp => ob_yes rfl (ob_move (hp.fact 9 47 (by kernel_rfl) rfl))
      · exact .inr fun a w hp => ob_yes (wanted_yes (P := Try.prog) (j := 10) (d := 48) (b := false) rfl rfl (hp.fact 10 48 (by kernel_rfl) rfl)) (ob_loadSp (hp.box (k := 3) rfl (Nat.le_refl _) (.inl (Nat.le_refl _)) (by kernel_rfl) rfl).1 (hp.box (k := 3) rfl (Nat.le_refl _) (.inl (Nat.le_refl _)) (by kernel_rfl) rfl).2 rfl)
      · exact .inr fun a w hp => ob_yes (wanted_yes (P := Try.prog) (j := 10) (d := 48) (b := false) rfl rfl (hp.fact 10 48 (by kernel_rfl) rfl)) (ob_loadSp (hp.box (k := 2) rfl (Nat.le_refl _) (.inl (Nat.le_refl _)) (by kernel_rfl) rfl).1 (hp.box (k := 2) rfl (Nat.le_refl _) (.inl (Nat.le_refl _)) (by kernel_rfl) rfl).2 rfl)
      · refine .inr fun a w hp => ob_yes (wanted_yes (P := Try.prog) (j := 10) (d := 48) (b := false) rfl rfl (hp.fact 10 48 (by kernel_rfl) rfl)) ?_
        have h49 : a.tmps.getD 49 undef = .agg #[.bool ba7, .slice Aa7 na7 ca7, .slice Ba7 ma7 oa7, .bool bb7, .slice Ab7 nb7 cb7, .slice Bb7 mb7 ob7] := (hp.fact 11 49 (by kernel_rfl) rfl)
        have h50 : a.tmps.getD 50 undef = .agg #[.bool ba2, .slice Aa2 na2 ca2, .slice Ba2 ma2 oa2, .bool bb2, .slice Ab2 nb2 cb2, .slice Bb2 mb2 ob2] := (hp.fact 12 50 (by kernel_rfl) rfl)
        unfold Does
        go_simp
        refine (spins_any _ _ _ (rmin lo0 lo1) (rmax hi0 hi1) lo2 hi2 6 ((I7.kept hp.kept).sp le7) (T2.on hp.on) (by decide) (by decide)).mono ?_
        rintro e w' ⟨rfl, P8⟩
        exact ⟨_, rfl, P8, congrArg Value.bool (HQH.out.trans (Bool.true_and _))⟩
      · exact .inr fun a w hp => ob_yes (wanted_yes (P := Try.prog) (j := 10) (d := 48) (b := false) rfl rfl (hp.fact 10 48 (by kernel_rfl) rfl)) (ob_loadSp (hp.box (k := 0) rfl (Nat.le_refl _) (.inl (Nat.le_refl _)) (by kernel_rfl) rfl).1 (hp.box (k := 0) rfl (Nat.le_refl _) (.inl (Nat.le_refl _)) (by kernel_rfl) rfl).2 rfl)
      · exact .inr fun a w hp => ob_yes (wanted_yes (P := Try.prog) (j := 10) (d := 48) (b := false) rfl rfl (hp.fact 10 48 (by kernel_rfl) rfl)) (ob_loadSp (hp.box (k := 2) rfl (Nat.le_refl _) (.inl (Nat.le_refl _)) (by kernel_rfl) rfl).1 (hp.box (k := 2) rfl (Nat.le_refl _) (.inl (Nat.le_refl _)) (by kernel_rfl) rfl).2 rfl)
      · refine .inr fun a w hp => ob_yes (wanted_yes (P := Try.prog) (j := 10) (d := 48) (b := false) rfl rfl (hp.fact 10 48 (by kernel_rfl) rfl)) ?_
        have h52 : a.tmps.getD 52 undef = .agg #[.bool ba0, .slice Aa0 na0 ca0, .slice Ba0 ma0 oa0, .bool bb0, .slice Ab0 nb0 cb0, .slice Bb0 mb0 ob0] := (hp.fact 14 52 (by kernel_rfl) rfl)
        have h53 : a.tmps.getD 53 undef = .agg #[.bool ba2, .slice Aa2 na2 ca2, .slice Ba2 ma2 oa2, .bool bb2, .slice Ab2 nb2 cb2, .slice Bb2 mb2 ob2] := (hp.fact 15 53 (by kernel_rfl) rfl)
        unfold Does
        go_simp
        refine (spins_any _ _ _ lo0 hi0 lo2 hi2 6 (T0.on hp.on) (T2.on hp.on) (by decide) (by decide)).mono ?_
        rintro e w' ⟨rfl, P8⟩
        exact ⟨_, rfl, P8, congrArg Value.bool HQ0.out⟩
      · exact .inr fun a w hp => ob_yes (wanted_yes (P := Try.prog) (j := 10) (d := 48) (b := false) rfl rfl (hp.fact 10 48 (by kernel_rfl) rfl)) (ob_move (hp.fact 16 54 (by kernel_rfl) rfl))
      · exact .inr fun a w hp => ob_yes (wanted_yes (P := Try.prog) (j := 17) (d := 55) (b := true) rfl rfl (hp.fact 17 55 (by kernel_rfl) rfl)) (ob_loadSp (hp.box (k := 1) rfl (Nat.le_refl _) (.inl (Nat.le_refl _)) (by kernel_rfl) rfl).1 (hp.box (k := 1) rfl (Nat.le_refl _) (.inl (Nat.le_refl _)) (by kernel_rfl) rfl).2 rfl)
      · exact .inr fun a w hp => ob_yes (wanted_yes (P := Try.prog) (j := 17) (d := 55) (b := true) rfl rfl (hp.fact 17 55 (by kernel_rfl) rfl)) (ob_loadSp (hp.box (k := 2) rfl (Nat.le_refl _) (.inl (Nat.le_refl _)) (by kernel_rfl) rfl).1 (hp.box (k := 2) rfl (Nat.le_refl _) (.inl (Nat.le_refl _)) (by kernel_rfl) rfl).2 rfl)
      · refine .inr fun a w hp => ob_yes (wanted_yes (P := Try.prog) (j := 17) (d := 55) (b := true) rfl rfl (hp.fact 17 55 (by kernel_rfl) rfl)) ?_
        have h56 : a.tmps.getD 56 undef = .agg #[.bool ba1, .slice Aa1 na1 ca1, .slice Ba1 ma1 oa1, .bool bb1, .slice Ab1 nb1 cb1, .slice Bb1 mb1 ob1] := (hp.fact 18 56 (by kernel_rfl) rfl)
        have h57 : a.tmps.getD 57 undef = .agg #[.bool ba2, .slice Aa2 na2 ca2, .slice Ba2 ma2 oa2, .bool bb2, .slice Ab2 nb2 cb2, .slice Bb2 mb2 ob2] := (hp.fact 19 57 (by kernel_rfl) rfl)
        unfold Does
        go_simp
        refine (spins_any _ _ _ lo1 hi1 lo2 hi2 6 (T1.on hp.on) (T2.on hp.on) (by decide) (by decide)).mono ?_
        rintro e w' ⟨rfl, P8⟩
        exact ⟨_, rfl, P8, congrArg Value.bool HQ1.out⟩
      · refine .inr fun a w hp => ob_yes (wanted_yes (P := Try.prog) (j := 10) (d := 48) (b := false) rfl rfl (hp.fact 10 48 (by kernel_rfl) rfl)) ?_
        have h55 : a.tmps.getD 55 undef = .bool true := (hp.fact 17 55 (by kernel_rfl) rfl)
        have h58 : a.tmps.getD 58 undef = .bool q1 := (hp.fact 20 58 (by kernel_rfl) rfl)
        unfold Does
        go_simp
        exact ⟨_, rfl, On.refl _, rfl⟩
      · refine .inr fun a w hp => ob_yes (wanted_yes (P := Try.prog) (j := 10) (d := 48) (b := false) rfl rfl (hp.fact 10 48 (by kernel_rfl) rfl)) ?_
        have h51 : a.tmps.getD 51 undef = .bool q1 := (hp.fact 13 51 (by kernel_rfl) rfl)
        have h59 : a.tmps.getD 59 undef = .bool q1 := (hp.fact 21 59 (by kernel_rfl) rfl)
        unfold Does
        go_simp
        exact ⟨_, rfl, On.refl _, by show Value.bool _ = Value.bool _; first | rfl | (simp; done)⟩
      · refine .inr fun a w hp => ob_yes rfl ?_
        have h48 : a.tmps.getD 48 undef = .bool false := (hp.fact 10 48 (by kernel_rfl) rfl)
        have h60 : a.tmps.getD 60 undef = .bool false := (hp.fact 22 60 (by kernel_rfl) rfl)
        unfold Does
        go_simp
        exact ⟨_, rfl, On.refl _, rfl⟩
    · intro f wr hon hk hf hb hap
      obtain ⟨q0, q1, q2, q3, qz⟩ := hb
      clear qz
      have O3 : Own wr (w.heap.size) 38 #[.bool ba0, .slice Aa0 na0 ca0, .slice Ba0 ma0 oa0, .bool bb0, .slice Ab0 nb0 cb0, .slice Bb0 mb0 ob0] := q0
      have c3_0 : wr.cell? ⟨w.heap.size, 0, none⟩ = some (.bool ba0) := O3.cell 0
      have z3_0 := O3.frozen 0
      have c3_1 : wr.cell? ⟨w.heap.size, 1, none⟩ = some (.slice Aa0 na0 ca0) := O3.cell 1
      have z3_1 := O3.frozen 1
      have c3_2 : wr.cell? ⟨w.heap.size, 2, none⟩ = some (.slice Ba0 ma0 oa0) := O3.cell 2
      have z3_2 := O3.frozen 2
      have c3_3 : wr.cell? ⟨w.heap.size, 3, none⟩ = some (.bool bb0) := O3.cell 3
      have z3_3 := O3.frozen 3
      have c3_4 : wr.cell? ⟨w.heap.size, 4, none⟩ = some (.slice Ab0 nb0 cb0) := O3.cell 4
      have z3_4 := O3.frozen 4
      have c3_5 : wr.cell? ⟨w.heap.size, 5, none⟩ = some (.slice Bb0 mb0 ob0) := O3.cell 5
      have z3_5 := O3.frozen 5
      clear q0
      have O4 : Own wr (w.heap.size + 1) 38 #[.bool ba1, .slice Aa1 na1 ca1, .slice Ba1 ma1 oa1, .bool bb1, .slice Ab1 nb1 cb1, .slice Bb1 mb1 ob1] := q1
      have c4_0 : wr.cell? ⟨w.heap.size + 1, 0, none⟩ = some (.bool ba1) := O4.cell 0
      have z4_0 := O4.frozen 0
      have c4_1 : wr.cell? ⟨w.heap.size + 1, 1, none⟩ = some (.slice Aa1 na1 ca1) := O4.cell 1
      have z4_1 := O4.frozen 1
      have c4_2 : wr.cell? ⟨w.heap.size + 1, 2, none⟩ = some (.slice Ba1 ma1 oa1) := O4.cell 2
      have z4_2 := O4.frozen 2
      have c4_3 : wr.cell? ⟨w.heap.size + 1, 3, none⟩ = some (.bool bb1) := O4.cell 3
      have z4_3 := O4.frozen 3
      have c4_4 : wr.cell? ⟨w.heap.size + 1, 4, none⟩ = some (.slice Ab1 nb1 cb1) := O4.cell 4
      have z4_4 := O4.frozen 4
      have c4_5 : wr.cell? ⟨w.heap.size + 1, 5, none⟩ = some (.slice Bb1 mb1 ob1) := O4.cell 5
      have z4_5 := O4.frozen 5
      clear q1
      have O5 : Own wr (w.heap.size + 2) 38 #[.bool ba2, .slice Aa2 na2 ca2, .slice Ba2 ma2 oa2, .bool bb2, .slice Ab2 nb2 cb2, .slice Bb2 mb2 ob2] := q2
      have c5_0 : wr.cell? ⟨w.heap.size + 2, 0, none⟩ = some (.bool ba2) := O5.cell 0
      have z5_0 := O5.frozen 0
      have c5_1 : wr.cell? ⟨w.heap.size + 2, 1, none⟩ = some (.slice Aa2 na2 ca2) := O5.cell 1
      have z5_1 := O5.frozen 1
      have c5_2 : wr.cell? ⟨w.heap.size + 2, 2, none⟩ = some (.slice Ba2 ma2 oa2) := O5.cell 2
      have z5_2 := O5.frozen 2
      have c5_3 : wr.cell? ⟨w.heap.size + 2, 3, none⟩ = some (.bool bb2) := O5.cell 3
      have z5_3 := O5.frozen 3
      have c5_4 : wr.cell? ⟨w.heap.size + 2, 4, none⟩ = some (.slice Ab2 nb2 cb2) := O5.cell 4
      have z5_4 := O5.frozen 4
      have c5_5 : wr.cell? ⟨w.heap.size + 2, 5, none⟩ = some (.slice Bb2 mb2 ob2) := O5.cell 5
      have z5_5 := O5.frozen 5
      clear q2
      have O7 : Own wr (w7.heap.size) 38 #[.bool ba7, .slice Aa7 na7 ca7, .slice Ba7 ma7 oa7, .bool bb7, .slice Ab7 nb7 cb7, .slice Bb7 mb7 ob7] := q3
      have c7_0 : wr.cell? ⟨w7.heap.size, 0, none⟩ = some (.bool ba7) := O7.cell 0
      have z7_0 := O7.frozen 0
      have c7_1 : wr.cell? ⟨w7.heap.size, 1, none⟩ = some (.slice Aa7 na7 ca7) := O7.cell 1
      have z7_1 := O7.frozen 1
      have c7_2 : wr.cell? ⟨w7.heap.size, 2, none⟩ = some (.slice Ba7 ma7 oa7) := O7.cell 2
      have z7_2 := O7.frozen 2
      have c7_3 : wr.cell? ⟨w7.heap.size, 3, none⟩ = some (.bool bb7) := O7.cell 3
      have z7_3 := O7.frozen 3
      have c7_4 : wr.cell? ⟨w7.heap.size, 4, none⟩ = some (.slice Ab7 nb7 cb7) := O7.cell 4
      have z7_4 := O7.frozen 4
      have c7_5 : wr.cell? ⟨w7.heap.size, 5, none⟩ = some (.slice Bb7 mb7 ob7) := O7.cell 5
      have z7_5 := O7.frozen 5
      clear q3
      have e61 : f 61 = .bool false := hf 23 61 rfl
      clear hf hap
      simp only [fillL, e61]
      clear e61
      have OB3 : w.heap.size ≤ w.heap.size ∧ Own wr (w.heap.size) 38 #[.bool ba0, .slice Aa0 na0 ca0, .slice Ba0 ma0 oa0, .bool bb0, .slice Ab0 nb0 cb0, .slice Bb0 mb0 ob0] := ⟨by omega, O3⟩
      clear c3_0 z3_0 c3_1 z3_1 c3_2 z3_2 c3_3 z3_3 c3_4 z3_4 c3_5 z3_5 O3
      have OB4 : w.heap.size ≤ w.heap.size + 1 ∧ Own wr (w.heap.size + 1) 38 #[.bool ba1, .slice Aa1 na1 ca1, .slice Ba1 ma1 oa1, .bool bb1, .slice Ab1 nb1 cb1, .slice Bb1 mb1 ob1] := ⟨by omega, O4⟩
      clear c4_0 z4_0 c4_1 z4_1 c4_2 z4_2 c4_3 z4_3 c4_4 z4_4 c4_5 z4_5 O4
      have OB5 : w.heap.size ≤ w.heap.size + 2 ∧ Own wr (w.heap.size + 2) 38 #[.bool ba2, .slice Aa2 na2 ca2, .slice Ba2 ma2 oa2, .bool bb2, .slice Ab2 nb2 cb2, .slice Bb2 mb2 ob2] := ⟨by omega, O5⟩
      clear c5_0 z5_0 c5_1 z5_1 c5_2 z5_2 c5_3 z5_3 c5_4 z5_4 c5_5 z5_5 O5
      clear c7_0 z7_0 c7_1 z7_1 c7_2 z7_2 c7_3 z7_3 c7_4 z7_4 c7_5 z7_5 O7 OB7 I7
      clear B
      have B := hon
      clear hon hk
      have y3_0 : wr.cell? ⟨w.heap.size, 0, none⟩ = some (.bool ba0) := OB3.2.cell 0
      have y3_1 : wr.cell? ⟨w.heap.size, 1, none⟩ = some (.slice Aa0 na0 ca0) := OB3.2.cell 1
      have y3_2 : wr.cell? ⟨w.heap.size, 2, none⟩ = some (.slice Ba0 ma0 oa0) := OB3.2.cell 2
      have y3_3 : wr.cell? ⟨w.heap.size, 3, none⟩ = some (.bool bb0) := OB3.2.cell 3
      have y3_4 : wr.cell? ⟨w.heap.size, 4, none⟩ = some (.slice Ab0 nb0 cb0) := OB3.2.cell 4
      have y3_5 : wr.cell? ⟨w.heap.size, 5, none⟩ = some (.slice Bb0 mb0 ob0) := OB3.2.cell 5
      have y3_f0 := OB3.2.frozen 0
      have y3_f1 := OB3.2.frozen 1
      have y3_f2 := OB3.2.frozen 2
      have y3_f3 := OB3.2.frozen 3
      have y3_f4 := OB3.2.frozen 4
      have y3_f5 := OB3.2.frozen 5
      have y4_0 : wr.cell? ⟨w.heap.size + 1, 0, none⟩ = some (.bool ba1) := OB4.2.cell 0
      have y4_1 : wr.cell? ⟨w.heap.size + 1, 1, none⟩ = some (.slice Aa1 na1 ca1) := OB4.2.cell 1
      have y4_2 : wr.cell? ⟨w.heap.size + 1, 2, none⟩ = some (.slice Ba1 ma1 oa1) := OB4.2.cell 2
      have y4_3 : wr.cell? ⟨w.heap.size + 1, 3, none⟩ = some (.bool bb1) := OB4.2.cell 3
      have y4_4 : wr.cell? ⟨w.heap.size + 1, 4, none⟩ = some (.slice Ab1 nb1 cb1) := OB4.2.cell 4
      have y4_5 : wr.cell? ⟨w.heap.size + 1, 5, none⟩ = some (.slice Bb1 mb1 ob1) := OB4.2.cell 5
      have y4_f0 := OB4.2.frozen 0
      have y4_f1 := OB4.2.frozen 1
      have y4_f2 := OB4.2.frozen 2
      have y4_f3 := OB4.2.frozen 3
      have y4_f4 := OB4.2.frozen 4
      have y4_f5 := OB4.2.frozen 5
      go_wp2_with fail
      refine (spmeet_no _ _ _ lo0 hi0 lo1 hi1 6 (T0.on B) (T1.on B) (by decide) (by decide) HC.out).mono ?_
      rintro e w8 ⟨u8, rfl, I8, P8⟩
      obtain ⟨ba8, Aa8, na8, ca8, Ba8, ma8, oa8, bb8, Ab8, nb8, cb8, Bb8, mb8, ob8, rfl, IL8, IH8⟩ := id I8
      clear y3_0 y3_f0 y3_1 y3_f1 y3_2 y3_f2 y3_3 y3_f3 y3_4 y3_f4 y3_5 y3_f5
      clear y4_0 y4_f0 y4_1 y4_f1 y4_2 y4_f2 y4_3 y4_f3 y4_4 y4_f4 y4_5 y4_f5
      replace OB3 := And.intro OB3.1 (OB3.2.on P8)
      replace OB4 := And.intro OB4.1 (OB4.2.on P8)
      replace OB5 := And.intro OB5.1 (OB5.2.on P8)
      replace B := B.trans P8
      have PA := (On.refl w8).alloc (.cells #[.bool ba8, .slice Aa8 na8 ca8, .slice Ba8 ma8 oa8, .bool bb8, .slice Ab8 nb8 cb8, .slice Bb8 mb8 ob8] 38)
      have B0_8 := B.size
      replace OB3 := And.intro OB3.1 (OB3.2.on PA)
      replace OB4 := And.intro OB4.1 (OB4.2.on PA)
      replace OB5 := And.intro OB5.1 (OB5.2.on PA)
      replace B := B.trans PA
      replace I8 := I8.on PA
      have OB8 : w.heap.size ≤ w8.heap.size ∧ _ := ⟨B0_8, Own.new w8 38 #[.bool ba8, .slice Aa8 na8 ca8, .slice Ba8 ma8 oa8, .bool bb8, .slice Ab8 nb8 cb8, .slice Bb8 mb8 ob8]⟩
      clear PA P8 IL8 IH8
      have y3_0 : (w8.alloc (.cells #[.bool ba8, .slice Aa8 na8 ca8, .slice Ba8 ma8 oa8, .bool bb8, .slice Ab8 nb8 cb8, .slice Bb8 mb8 ob8] 38)).cell? ⟨w.heap.size, 0, none⟩ = some (.bool ba0) := OB3.2.cell 0
      have y3_1 : (w8.alloc (.cells #[.bool ba8, .slice Aa8 na8 ca8, .slice Ba8 ma8 oa8, .bool bb8, .slice Ab8 nb8 cb8, .slice Bb8 mb8 ob8] 38)).cell? ⟨w.heap.size, 1, none⟩ = some (.slice Aa0 na0 ca0) := OB3.2.cell 1
      have y3_2 : (w8.alloc (.cells #[.bool ba8, .slice Aa8 na8 ca8, .slice Ba8 ma8 oa8, .bool bb8, .slice Ab8 nb8 cb8, .slice Bb8 mb8 ob8] 38)).cell? ⟨w.heap.size, 2, none⟩ = some (.slice Ba0 ma0 oa0) := OB3.2.cell 2
      have y3_3 : (w8.alloc (.cells #[.bool ba8, .slice Aa8 na8 ca8, .slice Ba8 ma8 oa8, .bool bb8, .slice Ab8 nb8 cb8, .slice Bb8 mb8 ob8] 38)).cell? ⟨w.heap.size, 3, none⟩ = some (.bool bb0) := OB3.2.cell 3
      have y3_4 : (w8.alloc (.cells #[.bool ba8, .slice Aa8 na8 ca8, .slice Ba8 ma8 oa8, .bool bb8, .slice Ab8 nb8 cb8, .slice Bb8 mb8 ob8] 38)).cell? ⟨w.heap.size, 4, none⟩ = some (.slice Ab0 nb0 cb0) := OB3.2.cell 4
      have y3_5 : (w8.alloc (.cells #[.bool ba8, .slice Aa8 na8 ca8, .slice Ba8 ma8 oa8, .bool bb8, .slice Ab8 nb8 cb8, .slice Bb8 mb8 ob8] 38)).cell? ⟨w.heap.size, 5, none⟩ = some (.slice Bb0 mb0 ob0) := OB3.2.cell 5
      have y3_f0 := OB3.2.frozen 0
      have y3_f1 := OB3.2.frozen 1
      have y3_f2 := OB3.2.frozen 2
      have y3_f3 := OB3.2.frozen 3
      have y3_f4 := OB3.2.frozen 4
      have y3_f5 := OB3.2.frozen 5
      have y4_0 : (w8.alloc (.cells #[.bool ba8, .slice Aa8 na8 ca8, .slice Ba8 ma8 oa8, .bool bb8, .slice Ab8 nb8 cb8, .slice Bb8 mb8 ob8] 38)).cell? ⟨w.heap.size + 1, 0, none⟩ = some (.bool ba1) := OB4.2.cell 0
      have y4_1 : (w8.alloc (.cells #[.bool ba8, .slice Aa8 na8 ca8, .slice Ba8 ma8 oa8, .bool bb8, .slice Ab8 nb8 cb8, .slice Bb8 mb8 ob8] 38)).cell? ⟨w.heap.size + 1, 1, none⟩ = some (.slice Aa1 na1 ca1) := OB4.2.cell 1
      have y4_2 : (w8.alloc (.cells #[.bool ba8, .slice Aa8 na8 ca8, .slice Ba8 ma8 oa8, .bool bb8, .slice Ab8 nb8 cb8, .slice Bb8 mb8 ob8] 38)).cell? ⟨w.heap.size + 1, 2, none⟩ = some (.slice Ba1 ma1 oa1) := OB4.2.cell 2
      have y4_3 : (w8.alloc (.cells #[.bool ba8, .slice Aa8 na8 ca8, .slice Ba8 ma8 oa8, .bool bb8, .slice Ab8 nb8 cb8, .slice Bb8 mb8 ob8] 38)).cell? ⟨w.heap.size + 1, 3, none⟩ = some (.bool bb1) := OB4.2.cell 3
      have y4_4 : (w8.alloc (.cells #[.bool ba8, .slice Aa8 na8 ca8, .slice Ba8 ma8 oa8, .bool bb8, .slice Ab8 nb8 cb8, .slice Bb8 mb8 ob8] 38)).cell? ⟨w.heap.size + 1, 4, none⟩ = some (.slice Ab1 nb1 cb1) := OB4.2.cell 4
      have y4_5 : (w8.alloc (.cells #[.bool ba8, .slice Aa8 na8 ca8, .slice Ba8 ma8 oa8, .bool bb8, .slice Ab8 nb8 cb8, .slice Bb8 mb8 ob8] 38)).cell? ⟨w.heap.size + 1, 5, none⟩ = some (.slice Bb1 mb1 ob1) := OB4.2.cell 5
      have y4_f0 := OB4.2.frozen 0
      have y4_f1 := OB4.2.frozen 1
      have y4_f2 := OB4.2.frozen 2
      have y4_f3 := OB4.2.frozen 3
      have y4_f4 := OB4.2.frozen 4
      have y4_f5 := OB4.2.frozen 5
      have y5_0 : (w8.alloc (.cells #[.bool ba8, .slice Aa8 na8 ca8, .slice Ba8 ma8 oa8, .bool bb8, .slice Ab8 nb8 cb8, .slice Bb8 mb8 ob8] 38)).cell? ⟨w.heap.size + 2, 0, none⟩ = some (.bool ba2) := OB5.2.cell 0
      have y5_1 : (w8.alloc (.cells #[.bool ba8, .slice Aa8 na8 ca8, .slice Ba8 ma8 oa8, .bool bb8, .slice Ab8 nb8 cb8, .slice Bb8 mb8 ob8] 38)).cell? ⟨w.heap.size + 2, 1, none⟩ = some (.slice Aa2 na2 ca2) := OB5.2.cell 1
      have y5_2 : (w8.alloc (.cells #[.bool ba8, .slice Aa8 na8 ca8, .slice Ba8 ma8 oa8, .bool bb8, .slice Ab8 nb8 cb8, .slice Bb8 mb8 ob8] 38)).cell? ⟨w.heap.size + 2, 2, none⟩ = some (.slice Ba2 ma2 oa2) := OB5.2.cell 2
      have y5_3 : (w8.alloc (.cells #[.bool ba8, .slice Aa8 na8 ca8, .slice Ba8 ma8 oa8, .bool bb8, .slice Ab8 nb8 cb8, .slice Bb8 mb8 ob8] 38)).cell? ⟨w.heap.size + 2, 3, none⟩ = some (.bool bb2) := OB5.2.cell 3
      have y5_4 : (w8.alloc (.cells #[.bool ba8, .slice Aa8 na8 ca8, .slice Ba8 ma8 oa8, .bool bb8, .slice Ab8 nb8 cb8, .slice Bb8 mb8 ob8] 38)).cell? ⟨w.heap.size + 2, 4, none⟩ = some (.slice Ab2 nb2 cb2) := OB5.2.cell 4
      have y5_5 : (w8.alloc (.cells #[.bool ba8, .slice Aa8 na8 ca8, .slice Ba8 ma8 oa8, .bool bb8, .slice Ab8 nb8 cb8, .slice Bb8 mb8 ob8] 38)).cell? ⟨w.heap.size + 2, 5, none⟩ = some (.slice Bb2 mb2 ob2) := OB5.2.cell 5
      have y5_f0 := OB5.2.frozen 0
      have y5_f1 := OB5.2.frozen 1
      have y5_f2 := OB5.2.frozen 2
      have y5_f3 := OB5.2.frozen 3
      have y5_f4 := OB5.2.frozen 4
      have y5_f5 := OB5.2.frozen 5
      go_wp2_with fail
      refine (is_err _ 17).mono ?_
      rintro e w9 ⟨rfl, rfl⟩
      go_wp2_with fail
      refine (spins_any _ _ _ lo2 hi2 lo0 hi0 6 (T2.on B) (T0.on B) (by decide) (by decide)).mono ?_
      rintro e w9 ⟨rfl, P9⟩
      rw [show (decide (lo0 ≤ lo2) && decide (hi2 ≤ hi0)) = p0 from HP0.out]
      clear y3_0 y3_f0 y3_1 y3_f1 y3_2 y3_f2 y3_3 y3_f3 y3_4 y3_f4 y3_5 y3_f5
      clear y4_0 y4_f0 y4_1 y4_f1 y4_2 y4_f2 y4_3 y4_f3 y4_4 y4_f4 y4_5 y4_f5
      clear y5_0 y5_f0 y5_1 y5_f1 y5_2 y5_f2 y5_3 y5_f3 y5_4 y5_f4 y5_5 y5_f5
      replace OB3 := And.intro OB3.1 (OB3.2.on P9)
      replace OB4 := And.intro OB4.1 (OB4.2.on P9)
      replace OB5 := And.intro OB5.1 (OB5.2.on P9)
      replace B := B.trans P9
      have y4_0 : w9.cell? ⟨w.heap.size + 1, 0, none⟩ = some (.bool ba1) := OB4.2.cell 0
      have y4_1 : w9.cell? ⟨w.heap.size + 1, 1, none⟩ = some (.slice Aa1 na1 ca1) := OB4.2.cell 1
      have y4_2 : w9.cell? ⟨w.heap.size + 1, 2, none⟩ = some (.slice Ba1 ma1 oa1) := OB4.2.cell 2
      have y4_3 : w9.cell? ⟨w.heap.size + 1, 3, none⟩ = some (.bool bb1) := OB4.2.cell 3
      have y4_4 : w9.cell? ⟨w.heap.size + 1, 4, none⟩ = some (.slice Ab1 nb1 cb1) := OB4.2.cell 4
      have y4_5 : w9.cell? ⟨w.heap.size + 1, 5, none⟩ = some (.slice Bb1 mb1 ob1) := OB4.2.cell 5
      have y4_f0 := OB4.2.frozen 0
      have y4_f1 := OB4.2.frozen 1
      have y4_f2 := OB4.2.frozen 2
      have y4_f3 := OB4.2.frozen 3
      have y4_f4 := OB4.2.frozen 4
      have y4_f5 := OB4.2.frozen 5
      have y5_0 : w9.cell? ⟨w.heap.size + 2, 0, none⟩ = some (.bool ba2) := OB5.2.cell 0
      have y5_1 : w9.cell? ⟨w.heap.size + 2, 1, none⟩ = some (.slice Aa2 na2 ca2) := OB5.2.cell 1
      have y5_2 : w9.cell? ⟨w.heap.size + 2, 2, none⟩ = some (.slice Ba2 ma2 oa2) := OB5.2.cell 2
      have y5_3 : w9.cell? ⟨w.heap.size + 2, 3, none⟩ = some (.bool bb2) := OB5.2.cell 3
      have y5_4 : w9.cell? ⟨w.heap.size + 2, 4, none⟩ = some (.slice Ab2 nb2 cb2) := OB5.2.cell 4
      have y5_5 : w9.cell? ⟨w.heap.size + 2, 5, none⟩ = some (.slice Bb2 mb2 ob2) := OB5.2.cell 5
      have y5_f0 := OB5.2.frozen 0
      have y5_f1 := OB5.2.frozen 1
      have y5_f2 := OB5.2.frozen 2
      have y5_f3 := OB5.2.frozen 3
      have y5_f4 := OB5.2.frozen 4
      have y5_f5 := OB5.2.frozen 5
      have hpn := HPN.out
      cases p0
      · go_wp2
        go_ret
        exact ⟨rfl, B⟩
      · simp at hpn
        subst hpn
        go_wp2_with fail
        refine (spins_any _ _ _ lo2 hi2 lo1 hi1 6 (T2.on B) (T1.on B) (by decide) (by decide)).mono ?_
        rintro e w10 ⟨rfl, P10⟩
        rw [show (decide (lo1 ≤ lo2) && decide (hi2 ≤ hi1)) = false from HP1.out]
        go_wp2
        go_ret
        exact ⟨rfl, B.trans P10⟩
set_option maxRecDepth 100000 in
set_option maxHeartbeats 1600000 in
theorem lattice_ok (w : World) (ba0 : Bool) (Aa0 : Option Addr) (na0 ca0 : Nat) (Ba0 : Option Addr) (ma0 oa0 : Nat) (bb0 : Bool) (Ab0 : Option Addr) (nb0 cb0 : Nat) (Bb0 : Option Addr) (mb0 ob0 : Nat) (xs0 ys0 us0 vs0 : List Nat) (R0 : Rd w Aa0 na0 ca0 xs0) (S0 : Rd w Ba0 ma0 oa0 ys0) (U0 : Rd w Ab0 nb0 cb0 us0) (V0 : Rd w Bb0 mb0 ob0 vs0) (ba1 : Bool) (Aa1 : Option Addr) (na1 ca1 : Nat) (Ba1 : Option Addr) (ma1 oa1 : Nat) (bb1 : Bool) (Ab1 : Option Addr) (nb1 cb1 : Nat) (Bb1 : Option Addr) (mb1 ob1 : Nat) (xs1 ys1 us1 vs1 : List Nat) (R1 : Rd w Aa1 na1 ca1 xs1) (S1 : Rd w Ba1 ma1 oa1 ys1) (U1 : Rd w Ab1 nb1 cb1 us1) (V1 : Rd w Bb1 mb1 ob1 vs1) (ba2 : Bool) (Aa2 : Option Addr) (na2 ca2 : Nat) (Ba2 : Option Addr) (ma2 oa2 : Nat) (bb2 : Bool) (Ab2 : Option Addr) (nb2 cb2 : Nat) (Bb2 : Option Addr) (mb2 ob2 : Nat) (xs2 ys2 us2 vs2 : List Nat) (R2 : Rd w Aa2 na2 ca2 xs2) (S2 : Rd w Ba2 ma2 oa2 ys2) (U2 : Rd w Ab2 nb2 cb2 us2) (V2 : Rd w Bb2 mb2 ob2 vs2)  (hs : na0 ≤ 6 ∧ ma0 ≤ 6 ∧ nb0 ≤ 6 ∧ mb0 ≤ 6 ∧ na1 ≤ 6 ∧ ma1 ≤ 6 ∧ nb1 ≤ 6 ∧ mb1 ≤ 6 ∧ na2 ≤ 6 ∧ ma2 ≤ 6 ∧ nb2 ≤ 6 ∧ mb2 ≤ 6) (lo0 hi0 : Rat) (Q0 : SRaw w (.agg #[.bool ba0, .slice Aa0 na0 ca0, .slice Ba0 ma0 oa0, .bool bb0, .slice Ab0 nb0 cb0, .slice Bb0 mb0 ob0]) lo0 hi0 true 6) (lo1 hi1 : Rat) (Q1 : SRaw w (.agg #[.bool ba1, .slice Aa1 na1 ca1, .slice Ba1 ma1 oa1, .bool bb1, .slice Ab1 nb1 cb1, .slice Bb1 mb1 ob1]) lo1 hi1 true 6) (lo2 hi2 : Rat) (Q2 : SRaw w (.agg #[.bool ba2, .slice Aa2 na2 ca2, .slice Ba2 ma2 oa2, .bool bb2, .slice Ab2 nb2 cb2, .slice Bb2 mb2 ob2]) lo2 hi2 true 6) (hc : rmax lo0 lo1 ≤ rmin hi0 hi1) :
    Calls Try.prog 6 #[.agg #[.bool ba0, .slice Aa0 na0 ca0, .slice Ba0 ma0 oa0, .bool bb0, .slice Ab0 nb0 cb0, .slice Bb0 mb0 ob0], .agg #[.bool ba1, .slice Aa1 na1 ca1, .slice Ba1 ma1 oa1, .bool bb1, .slice Ab1 nb1 cb1, .slice Bb1 mb1 ob1], .agg #[.bool ba2, .slice Aa2 na2 ca2, .slice Ba2 ma2 oa2, .bool bb2, .slice Ab2 nb2 cb2, .slice Bb2 mb2 ob2]] w fun e w' => e = .returned (.bool true) ∧ On w w' := by
  obtain ⟨I0, le0⟩ := raw_isS Q0
  have T0 := I0.sp le0
  obtain ⟨I1, le1⟩ := raw_isS Q1
  have T1 := I1.sp le1
  obtain ⟨I2, le2⟩ := raw_isS Q2
  have T2 := I2.sp le2
  have HC := Lib.hid hc
  clear hc
  obtain ⟨q0, e0⟩ : ∃ q, ins lo0 hi0 lo2 hi2 = q := ⟨_, rfl⟩
  obtain ⟨q1, e1⟩ : ∃ q, ins lo1 hi1 lo2 hi2 = q := ⟨_, rfl⟩
  have HQ0 := Lib.hid e0
  have HQ1 := Lib.hid e1
  have HQH : Hid (ins (rmin lo0 lo1) (rmax hi0 hi1) lo2 hi2 = (q0 && q1)) := Lib.hid (by rw [hull_ins, e0, e1])
  clear e0 e1
  obtain ⟨p0, e0⟩ : ∃ q, ins lo2 hi2 lo0 hi0 = q := ⟨_, rfl⟩
  obtain ⟨p1, e1⟩ : ∃ q, ins lo2 hi2 lo1 hi1 = q := ⟨_, rfl⟩
  have HP0 := Lib.hid e0
  have HP1 := Lib.hid e1
  have HPM : Hid (ins lo2 hi2 (rmax lo0 lo1) (rmin hi0 hi1) = (p0 && p1)) := Lib.hid (by rw [meet_ins, e0, e1])
  clear e0 e1
  have HSM : Hid (∀ p ∈ [(na0, ma0, nb0, mb0), (na1, ma1, nb1, mb1), (na2, ma2, nb2, mb2)], ¬ Big p) := Lib.hid (by intro p hp; simp at hp; rcases hp with rfl | rfl | rfl <;> (unfold Big; simp only; omega))
  have B : On w (((w.alloc (.cells #[.bool ba0, .slice Aa0 na0 ca0, .slice Ba0 ma0 oa0, .bool bb0, .slice Ab0 nb0 cb0, .slice Bb0 mb0 ob0] 38)).alloc (.cells #[.bool ba1, .slice Aa1 na1 ca1, .slice Ba1 ma1 oa1, .bool bb1, .slice Ab1 nb1 cb1, .slice Bb1 mb1 ob1] 38)).alloc (.cells #[.bool ba2, .slice Aa2 na2 ca2, .slice Ba2 ma2 oa2, .bool bb2, .slice Ab2 nb2 cb2, .slice Bb2 mb2 ob2] 38)) := On.alloc (On.alloc (On.alloc (On.refl w) _) _) _
  have OB3 : w.heap.size ≤ w.heap.size ∧ Own (((w.alloc (.cells #[.bool ba0, .slice Aa0 na0 ca0, .slice Ba0 ma0 oa0, .bool bb0, .slice Ab0 nb0 cb0, .slice Bb0 mb0 ob0] 38)).alloc (.cells #[.bool ba1, .slice Aa1 na1 ca1, .slice Ba1 ma1 oa1, .bool bb1, .slice Ab1 nb1 cb1, .slice Bb1 mb1 ob1] 38)).alloc (.cells #[.bool ba2, .slice Aa2 na2 ca2, .slice Ba2 ma2 oa2, .bool bb2, .slice Ab2 nb2 cb2, .slice Bb2 mb2 ob2] 38)) (w.heap.size) 38 #[.bool ba0, .slice Aa0 na0 ca0, .slice Ba0 ma0 oa0, .bool bb0, .slice Ab0 nb0 cb0, .slice Bb0 mb0 ob0] := ⟨by omega, (((Own.at_ w (w.heap.size) (by simp) 38 #[.bool ba0, .slice Aa0 na0 ca0, .slice Ba0 ma0 oa0, .bool bb0, .slice Ab0 nb0 cb0, .slice Bb0 mb0 ob0]).alloc (.cells #[.bool ba1, .slice Aa1 na1 ca1, .slice Ba1 ma1 oa1, .bool bb1, .slice Ab1 nb1 cb1, .slice Bb1 mb1 ob1] 38)).alloc (.cells #[.bool ba2, .slice Aa2 na2 ca2, .slice Ba2 ma2 oa2, .bool bb2, .slice Ab2 nb2 cb2, .slice Bb2 mb2 ob2] 38))⟩
  have OB4 : w.heap.size ≤ w.heap.size + 1 ∧ Own (((w.alloc (.cells #[.bool ba0, .slice Aa0 na0 ca0, .slice Ba0 ma0 oa0, .bool bb0, .slice Ab0 nb0 cb0, .slice Bb0 mb0 ob0] 38)).alloc (.cells #[.bool ba1, .slice Aa1 na1 ca1, .slice Ba1 ma1 oa1, .bool bb1, .slice Ab1 nb1 cb1, .slice Bb1 mb1 ob1] 38)).alloc (.cells #[.bool ba2, .slice Aa2 na2 ca2, .slice Ba2 ma2 oa2, .bool bb2, .slice Ab2 nb2 cb2, .slice Bb2 mb2 ob2] 38)) (w.heap.size + 1) 38 #[.bool ba1, .slice Aa1 na1 ca1, .slice Ba1 ma1 oa1, .bool bb1, .slice Ab1 nb1 cb1, .slice Bb1 mb1 ob1] := ⟨by omega, ((Own.at_ (w.alloc (.cells #[.bool ba0, .slice Aa0 na0 ca0, .slice Ba0 ma0 oa0, .bool bb0, .slice Ab0 nb0 cb0, .slice Bb0 mb0 ob0] 38)) (w.heap.size + 1) (by simp) 38 #[.bool ba1, .slice Aa1 na1 ca1, .slice Ba1 ma1 oa1, .bool bb1, .slice Ab1 nb1 cb1, .slice Bb1 mb1 ob1]).alloc (.cells #[.bool ba2, .slice Aa2 na2 ca2, .slice Ba2 ma2 oa2, .bool bb2, .slice Ab2 nb2 cb2, .slice Bb2 mb2 ob2] 38))⟩
  have OB5 : w.heap.size ≤ w.heap.size + 2 ∧ Own (((w.alloc (.cells #[.bool ba0, .slice Aa0 na0 ca0, .slice Ba0 ma0 oa0, .bool bb0, .slice Ab0 nb0 cb0, .slice Bb0 mb0 ob0] 38)).alloc (.cells #[.bool ba1, .slice Aa1 na1 ca1, .slice Ba1 ma1 oa1, .bool bb1, .slice Ab1 nb1 cb1, .slice Bb1 mb1 ob1] 38)).alloc (.cells #[.bool ba2, .slice Aa2 na2 ca2, .slice Ba2 ma2 oa2, .bool bb2, .slice Ab2 nb2 cb2, .slice Bb2 mb2 ob2] 38)) (w.heap.size + 2) 38 #[.bool ba2, .slice Aa2 na2 ca2, .slice Ba2 ma2 oa2, .bool bb2, .slice Ab2 nb2 cb2, .slice Bb2 mb2 ob2] := ⟨by omega, (Own.at_ ((w.alloc (.cells #[.bool ba0, .slice Aa0 na0 ca0, .slice Ba0 ma0 oa0, .bool bb0, .slice Ab0 nb0 cb0, .slice Bb0 mb0 ob0] 38)).alloc (.cells #[.bool ba1, .slice Aa1 na1 ca1, .slice Ba1 ma1 oa1, .bool bb1, .slice Ab1 nb1 cb1, .slice Bb1 mb1 ob1] 38)) (w.heap.size + 2) (by simp) 38 #[.bool ba2, .slice Aa2 na2 ca2, .slice Ba2 ma2 oa2, .bool bb2, .slice Ab2 nb2 cb2, .slice Bb2 mb2 ob2])⟩
  go_enter Try.func6, Try.ntmps6
  go_wp2_with fail
  refine (awake03 _).mono ?_
  rintro e w1 ⟨rfl, P1⟩
  replace OB3 := And.intro OB3.1 (OB3.2.on P1)
  replace OB4 := And.intro OB4.1 (OB4.2.on P1)
  replace OB5 := And.intro OB5.1 (OB5.2.on P1)
  replace B := B.trans P1
  have y3_0 : w1.cell? ⟨w.heap.size, 0, none⟩ = some (.bool ba0) := OB3.2.cell 0
  have y3_1 : w1.cell? ⟨w.heap.size, 1, none⟩ = some (.slice Aa0 na0 ca0) := OB3.2.cell 1
  have y3_2 : w1.cell? ⟨w.heap.size, 2, none⟩ = some (.slice Ba0 ma0 oa0) := OB3.2.cell 2
  have y3_3 : w1.cell? ⟨w.heap.size, 3, none⟩ = some (.bool bb0) := OB3.2.cell 3
  have y3_4 : w1.cell? ⟨w.heap.size, 4, none⟩ = some (.slice Ab0 nb0 cb0) := OB3.2.cell 4
  have y3_5 : w1.cell? ⟨w.heap.size, 5, none⟩ = some (.slice Bb0 mb0 ob0) := OB3.2.cell 5
  have y3_f0 := OB3.2.frozen 0
  have y3_f1 := OB3.2.frozen 1
  have y3_f2 := OB3.2.frozen 2
  have y3_f3 := OB3.2.frozen 3
  have y3_f4 := OB3.2.frozen 4
  have y3_f5 := OB3.2.frozen 5
  have y4_0 : w1.cell? ⟨w.heap.size + 1, 0, none⟩ = some (.bool ba1) := OB4.2.cell 0
  have y4_1 : w1.cell? ⟨w.heap.size + 1, 1, none⟩ = some (.slice Aa1 na1 ca1) := OB4.2.cell 1
  have y4_2 : w1.cell? ⟨w.heap.size + 1, 2, none⟩ = some (.slice Ba1 ma1 oa1) := OB4.2.cell 2
  have y4_3 : w1.cell? ⟨w.heap.size + 1, 3, none⟩ = some (.bool bb1) := OB4.2.cell 3
  have y4_4 : w1.cell? ⟨w.heap.size + 1, 4, none⟩ = some (.slice Ab1 nb1 cb1) := OB4.2.cell 4
  have y4_5 : w1.cell? ⟨w.heap.size + 1, 5, none⟩ = some (.slice Bb1 mb1 ob1) := OB4.2.cell 5
  have y4_f0 := OB4.2.frozen 0
  have y4_f1 := OB4.2.frozen 1
  have y4_f2 := OB4.2.frozen 2
  have y4_f3 := OB4.2.frozen 3
  have y4_f4 := OB4.2.frozen 4
  have y4_f5 := OB4.2.frozen 5
  have y5_0 : w1.cell? ⟨w.heap.size + 2, 0, none⟩ = some (.bool ba2) := OB5.2.cell 0
  have y5_1 : w1.cell? ⟨w.heap.size + 2, 1, none⟩ = some (.slice Aa2 na2 ca2) := OB5.2.cell 1
  have y5_2 : w1.cell? ⟨w.heap.size + 2, 2, none⟩ = some (.slice Ba2 ma2 oa2) := OB5.2.cell 2
  have y5_3 : w1.cell? ⟨w.heap.size + 2, 3, none⟩ = some (.bool bb2) := OB5.2.cell 3
  have y5_4 : w1.cell? ⟨w.heap.size + 2, 4, none⟩ = some (.slice Ab2 nb2 cb2) := OB5.2.cell 4
  have y5_5 : w1.cell? ⟨w.heap.size + 2, 5, none⟩ = some (.slice Bb2 mb2 ob2) := OB5.2.cell 5
  have y5_f0 := OB5.2.frozen 0
  have y5_f1 := OB5.2.frozen 1
  have y5_f2 := OB5.2.frozen 2
  have y5_f3 := OB5.2.frozen 3
  have y5_f4 := OB5.2.frozen 4
  have y5_f5 := OB5.2.frozen 5
  go_wp2_with fail
  clear y3_0 y3_f0 y3_1 y3_f1 y3_2 y3_f2 y3_3 y3_f3 y3_4 y3_f4 y3_5 y3_f5
  clear y4_0 y4_f0 y4_1 y4_f1 y4_2 y4_f2 y4_3 y4_f3 y4_4 y4_f4 y4_5 y4_f5
  clear y5_0 y5_f0 y5_1 y5_f1 y5_2 y5_f2 y5_3 y5_f3 y5_4 y5_f4 y5_5 y5_f5
  have B1 := (On.refl w1).alloc (.cells #[.bool ba0, .slice Aa0 na0 ca0, .slice Ba0 ma0 oa0, .bool bb0, .slice Ab0 nb0 cb0, .slice Bb0 mb0 ob0, .bool ba1, .slice Aa1 na1 ca1, .slice Ba1 ma1 oa1, .bool bb1, .slice Ab1 nb1 cb1, .slice Bb1 mb1 ob1, .bool ba2, .slice Aa2 na2 ca2, .slice Ba2 ma2 oa2, .bool bb2, .slice Ab2 nb2 cb2, .slice Bb2 mb2 ob2] 38)
  replace OB3 := And.intro OB3.1 (OB3.2.on B1)
  replace OB4 := And.intro OB4.1 (OB4.2.on B1)
  replace OB5 := And.intro OB5.1 (OB5.2.on B1)
  replace B := B.trans B1
  have hlens := slens3 ba0 Aa0 na0 ca0 Ba0 ma0 oa0 bb0 Ab0 nb0 cb0 Bb0 mb0 ob0 xs0 ys0 us0 vs0 (R0.on B) (S0.on B) (U0.on B) (V0.on B) ba1 Aa1 na1 ca1 Ba1 ma1 oa1 bb1 Ab1 nb1 cb1 Bb1 mb1 ob1 xs1 ys1 us1 vs1 (R1.on B) (S1.on B) (U1.on B) (V1.on B) ba2 Aa2 na2 ca2 Ba2 ma2 oa2 bb2 Ab2 nb2 cb2 Bb2 mb2 ob2 xs2 ys2 us2 vs2 (R2.on B) (S2.on B) (U2.on B) (V2.on B) (Own.new w1 38 #[.bool ba0, .slice Aa0 na0 ca0, .slice Ba0 ma0 oa0, .bool bb0, .slice Ab0 nb0 cb0, .slice Bb0 mb0 ob0, .bool ba1, .slice Aa1 na1 ca1, .slice Ba1 ma1 oa1, .bool bb1, .slice Ab1 nb1 cb1, .slice Bb1 mb1 ob1, .bool ba2, .slice Aa2 na2 ca2, .slice Ba2 ma2 oa2, .bool bb2, .slice Ab2 nb2 cb2, .slice Bb2 mb2 ob2])
  refine (slarge_no _ _ 3 3 _ hlens rfl (by decide) (by decide) (by decide) HSM.out).mono ?_
  rintro e w2 ⟨rfl, P2⟩
  clear hlens B1 P1
  replace OB3 := And.intro OB3.1 (OB3.2.on P2)
  replace OB4 := And.intro OB4.1 (OB4.2.on P2)
  replace OB5 := And.intro OB5.1 (OB5.2.on P2)
  replace B := B.trans P2
  clear P2
  have y3_0 : w2.cell? ⟨w.heap.size, 0, none⟩ = some (.bool ba0) := OB3.2.cell 0
  have y3_1 : w2.cell? ⟨w.heap.size, 1, none⟩ = some (.slice Aa0 na0 ca0) := OB3.2.cell 1
  have y3_2 : w2.cell? ⟨w.heap.size, 2, none⟩ = some (.slice Ba0 ma0 oa0) := OB3.2.cell 2
  have y3_3 : w2.cell? ⟨w.heap.size, 3, none⟩ = some (.bool bb0) := OB3.2.cell 3
  have y3_4 : w2.cell? ⟨w.heap.size, 4, none⟩ = some (.slice Ab0 nb0 cb0) := OB3.2.cell 4
  have y3_5 : w2.cell? ⟨w.heap.size, 5, none⟩ = some (.slice Bb0 mb0 ob0) := OB3.2.cell 5
  have y3_f0 := OB3.2.frozen 0
  have y3_f1 := OB3.2.frozen 1
  have y3_f2 := OB3.2.frozen 2
  have y3_f3 := OB3.2.frozen 3
  have y3_f4 := OB3.2.frozen 4
  have y3_f5 := OB3.2.frozen 5
  go_wp2_with fail
  refine (svalid_any _ _ _ _ _ _ (Q0.on B) (by decide)).mono ?_
  rintro e wv0 ⟨rfl, PV⟩
  clear y3_0 y3_f0 y3_1 y3_f1 y3_2 y3_f2 y3_3 y3_f3 y3_4 y3_f4 y3_5 y3_f5
  replace OB3 := And.intro OB3.1 (OB3.2.on PV)
  replace OB4 := And.intro OB4.1 (OB4.2.on PV)
  replace OB5 := And.intro OB5.1 (OB5.2.on PV)
  replace B := B.trans PV
  clear PV
  have y4_0 : wv0.cell? ⟨w.heap.size + 1, 0, none⟩ = some (.bool ba1) := OB4.2.cell 0
  have y4_1 : wv0.cell? ⟨w.heap.size + 1, 1, none⟩ = some (.slice Aa1 na1 ca1) := OB4.2.cell 1
  have y4_2 : wv0.cell? ⟨w.heap.size + 1, 2, none⟩ = some (.slice Ba1 ma1 oa1) := OB4.2.cell 2
  have y4_3 : wv0.cell? ⟨w.heap.size + 1, 3, none⟩ = some (.bool bb1) := OB4.2.cell 3
  have y4_4 : wv0.cell? ⟨w.heap.size + 1, 4, none⟩ = some (.slice Ab1 nb1 cb1) := OB4.2.cell 4
  have y4_5 : wv0.cell? ⟨w.heap.size + 1, 5, none⟩ = some (.slice Bb1 mb1 ob1) := OB4.2.cell 5
  have y4_f0 := OB4.2.frozen 0
  have y4_f1 := OB4.2.frozen 1
  have y4_f2 := OB4.2.frozen 2
  have y4_f3 := OB4.2.frozen 3
  have y4_f4 := OB4.2.frozen 4
  have y4_f5 := OB4.2.frozen 5
  go_wp2_with fail
  refine (svalid_any _ _ _ _ _ _ (Q1.on B) (by decide)).mono ?_
  rintro e wv1 ⟨rfl, PV⟩
  clear y4_0 y4_f0 y4_1 y4_f1 y4_2 y4_f2 y4_3 y4_f3 y4_4 y4_f4 y4_5 y4_f5
  replace OB3 := And.intro OB3.1 (OB3.2.on PV)
  replace OB4 := And.intro OB4.1 (OB4.2.on PV)
  replace OB5 := And.intro OB5.1 (OB5.2.on PV)
  replace B := B.trans PV
  clear PV
  have y5_0 : wv1.cell? ⟨w.heap.size + 2, 0, none⟩ = some (.bool ba2) := OB5.2.cell 0
  have y5_1 : wv1.cell? ⟨w.heap.size + 2, 1, none⟩ = some (.slice Aa2 na2 ca2) := OB5.2.cell 1
  have y5_2 : wv1.cell? ⟨w.heap.size + 2, 2, none⟩ = some (.slice Ba2 ma2 oa2) := OB5.2.cell 2
  have y5_3 : wv1.cell? ⟨w.heap.size + 2, 3, none⟩ = some (.bool bb2) := OB5.2.cell 3
  have y5_4 : wv1.cell? ⟨w.heap.size + 2, 4, none⟩ = some (.slice Ab2 nb2 cb2) := OB5.2.cell 4
  have y5_5 : wv1.cell? ⟨w.heap.size + 2, 5, none⟩ = some (.slice Bb2 mb2 ob2) := OB5.2.cell 5
  have y5_f0 := OB5.2.frozen 0
  have y5_f1 := OB5.2.frozen 1
  have y5_f2 := OB5.2.frozen 2
  have y5_f3 := OB5.2.frozen 3
  have y5_f4 := OB5.2.frozen 4
  have y5_f5 := OB5.2.frozen 5
  go_wp2_with fail
  refine (svalid_any _ _ _ _ _ _ (Q2.on B) (by decide)).mono ?_
  rintro e wv2 ⟨rfl, PV⟩
  clear y5_0 y5_f0 y5_1 y5_f1 y5_2 y5_f2 y5_3 y5_f3 y5_4 y5_f4 y5_5 y5_f5
  replace OB3 := And.intro OB3.1 (OB3.2.on PV)
  replace OB4 := And.intro OB4.1 (OB4.2.on PV)
  replace OB5 := And.intro OB5.1 (OB5.2.on PV)
  replace B := B.trans PV
  clear PV
  clear HSM
  have y3_0 : wv2.cell? ⟨w.heap.size, 0, none⟩ = some (.bool ba0) := OB3.2.cell 0
  have y3_1 : wv2.cell? ⟨w.heap.size, 1, none⟩ = some (.slice Aa0 na0 ca0) := OB3.2.cell 1
  have y3_2 : wv2.cell? ⟨w.heap.size, 2, none⟩ = some (.slice Ba0 ma0 oa0) := OB3.2.cell 2
  have y3_3 : wv2.cell? ⟨w.heap.size, 3, none⟩ = some (.bool bb0) := OB3.2.cell 3
  have y3_4 : wv2.cell? ⟨w.heap.size, 4, none⟩ = some (.slice Ab0 nb0 cb0) := OB3.2.cell 4
  have y3_5 : wv2.cell? ⟨w.heap.size, 5, none⟩ = some (.slice Bb0 mb0 ob0) := OB3.2.cell 5
  have y3_f0 := OB3.2.frozen 0
  have y3_f1 := OB3.2.frozen 1
  have y3_f2 := OB3.2.frozen 2
  have y3_f3 := OB3.2.frozen 3
  have y3_f4 := OB3.2.frozen 4
  have y3_f5 := OB3.2.frozen 5
  have y4_0 : wv2.cell? ⟨w.heap.size + 1, 0, none⟩ = some (.bool ba1) := OB4.2.cell 0
  have y4_1 : wv2.cell? ⟨w.heap.size + 1, 1, none⟩ = some (.slice Aa1 na1 ca1) := OB4.2.cell 1
  have y4_2 : wv2.cell? ⟨w.heap.size + 1, 2, none⟩ = some (.slice Ba1 ma1 oa1) := OB4.2.cell 2
  have y4_3 : wv2.cell? ⟨w.heap.size + 1, 3, none⟩ = some (.bool bb1) := OB4.2.cell 3
  have y4_4 : wv2.cell? ⟨w.heap.size + 1, 4, none⟩ = some (.slice Ab1 nb1 cb1) := OB4.2.cell 4
  have y4_5 : wv2.cell? ⟨w.heap.size + 1, 5, none⟩ = some (.slice Bb1 mb1 ob1) := OB4.2.cell 5
  have y4_f0 := OB4.2.frozen 0
  have y4_f1 := OB4.2.frozen 1
  have y4_f2 := OB4.2.frozen 2
  have y4_f3 := OB4.2.frozen 3
  have y4_f4 := OB4.2.frozen 4
  have y4_f5 := OB4.2.frozen 5
  go_wp2_with fail
  refine (sphull_any _ _ _ lo0 hi0 lo1 hi1 6 (T0.on B) (T1.on B) (by decide) (by decide)).mono ?_
  rintro e w7 ⟨u7, rfl, I7, P7⟩
  have le7 := hull_le le0 le1
  obtain ⟨ba7, Aa7, na7, ca7, Ba7, ma7, oa7, bb7, Ab7, nb7, cb7, Bb7, mb7, ob7, rfl, IL7, IH7⟩ := id I7
  clear y3_0 y3_f0 y3_1 y3_f1 y3_2 y3_f2 y3_3 y3_f3 y3_4 y3_f4 y3_5 y3_f5
  clear y4_0 y4_f0 y4_1 y4_f1 y4_2 y4_f2 y4_3 y4_f3 y4_4 y4_f4 y4_5 y4_f5
  replace OB3 := And.intro OB3.1 (OB3.2.on P7)
  replace OB4 := And.intro OB4.1 (OB4.2.on P7)
  replace OB5 := And.intro OB5.1 (OB5.2.on P7)
  replace B := B.trans P7
  have PA := (On.refl w7).alloc (.cells #[.bool ba7, .slice Aa7 na7 ca7, .slice Ba7 ma7 oa7, .bool bb7, .slice Ab7 nb7 cb7, .slice Bb7 mb7 ob7] 38)
  have B0_7 := B.size
  replace OB3 := And.intro OB3.1 (OB3.2.on PA)
  replace OB4 := And.intro OB4.1 (OB4.2.on PA)
  replace OB5 := And.intro OB5.1 (OB5.2.on PA)
  replace B := B.trans PA
  replace I7 := I7.on PA
  have OB7 : w.heap.size ≤ w7.heap.size ∧ _ := ⟨B0_7, Own.new w7 38 #[.bool ba7, .slice Aa7 na7 ca7, .slice Ba7 ma7 oa7, .bool bb7, .slice Ab7 nb7 cb7, .slice Bb7 mb7 ob7]⟩
  clear PA P7 IL7 IH7
  go_wp2
  cases q0
  · refine wp_region_facts (by kernel_rfl) w [Fact.eq (.agg #[.bool ba0, .slice Aa0 na0 ca0, .slice Ba0 ma0 oa0, .bool bb0, .slice Ab0 nb0 cb0, .slice Bb0 mb0 ob0]), Fact.eq (.agg #[.bool ba7, .slice Aa7 na7 ca7, .slice Ba7 ma7 oa7, .bool bb7, .slice Ab7 nb7 cb7, .slice Bb7 mb7 ob7]), Fact.eq (.bool true), Fact.eq (.bool false), Fact.eq (.bool false), Fact.eq (.agg #[.bool ba1, .slice Aa1 na1 ca1, .slice Ba1 ma1 oa1, .bool bb1, .slice Ab1 nb1 cb1, .slice Bb1 mb1 ob1]), Fact.eq (.agg #[.bool ba7, .slice Aa7 na7 ca7, .slice Ba7 ma7 oa7, .bool bb7, .slice Ab7 nb7 cb7, .slice Bb7 mb7 ob7]), Fact.eq (.bool true), Fact.eq (.bool false), Fact.eq (.bool false), Fact.eq (.bool false), Fact.eq (.agg #[.bool ba7, .slice Aa7 na7 ca7, .slice Ba7 ma7 oa7, .bool bb7, .slice Ab7 nb7 cb7, .slice Bb7 mb7 ob7]), Fact.eq (.agg #[.bool ba2, .slice Aa2 na2 ca2, .slice Ba2 ma2 oa2, .bool bb2, .slice Ab2 nb2 cb2, .slice Bb2 mb2 ob2]), Fact.eq (.bool false), Fact.eq (.agg #[.bool ba0, .slice Aa0 na0 ca0, .slice Ba0 ma0 oa0, .bool bb0, .slice Ab0 nb0 cb0, .slice Bb0 mb0 ob0]), Fact.eq (.agg #[.bool ba2, .slice Aa2 na2 ca2, .slice Ba2 ma2 oa2, .bool bb2, .slice Ab2 nb2 cb2, .slice Bb2 mb2 ob2]), Fact.eq (.bool false), Fact.eq (.bool false), Fact.eq (undef), Fact.eq (undef), Fact.eq (undef), Fact.eq (.bool false), Fact.eq (.bool false), Fact.eq (.bool false)] [Fact.any, Fact.any, Fact.any, Fact.any] [⟨24, 3, 38, 24, #[.bool ba0, .slice Aa0 na0 ca0, .slice Ba0 ma0 oa0, .bool bb0, .slice Ab0 nb0 cb0, .slice Bb0 mb0 ob0]⟩, ⟨24, 4, 38, 24, #[.bool ba1, .slice Aa1 na1 ca1, .slice Ba1 ma1 oa1, .bool bb1, .slice Ab1 nb1 cb1, .slice Bb1 mb1 ob1]⟩, ⟨24, 5, 38, 24, #[.bool ba2, .slice Aa2 na2 ca2, .slice Ba2 ma2 oa2, .bool bb2, .slice Ab2 nb2 cb2, .slice Bb2 mb2 ob2]⟩, ⟨24, 7, 38, 24, #[.bool ba7, .slice Aa7 na7 ca7, .slice Ba7 ma7 oa7, .bool bb7, .slice Ab7 nb7 cb7, .slice Bb7 mb7 ob7]⟩] [w.heap.size, w.heap.size + 1, w.heap.size + 2, w7.heap.size] [none, none, none, none, none, none, none, none, none, none, none, none, none, none, none, none, none, none, none, none, none, none, none, none, none, none, none, none, none, none, none, none, none, none, none, none, none, none, some 38, some 39, some 40, some 41, some 42, some 43, some 44, some 45, some 46, some 47, some 48, some 49, some 50, some 51, some 52, some 53, some 54, some 55, some 56, some 57, some 58, some 59, some 60, some 61, none, none, none, none, none, none, none, none, none, none, none, none, none, none, none, none, none, none, none, none, none, none, none, none, none, none, none, none, none, none, none, none, none, none, none, none, none, none, none, none, none, none, none] (by kernel_rfl) (by kernel_rfl) (by kernel_rfl) rfl B ?_ ?_ ?_ ?_ ?_
    · exact ⟨fun _ => ⟨by simp, rfl, OB3⟩, fun _ => ⟨by simp, rfl, OB4⟩, fun _ => ⟨by simp, rfl, OB5⟩, fun _ => ⟨by simp, rfl, OB7⟩, trivial⟩
    · exact .inl ⟨Nat.le_refl _, Nat.le_refl _, Nat.le_refl _, Nat.le_refl _, trivial⟩
    · exact ⟨⟨noWords_S _ _ _ _ _ _ _ _ _ _ _ _ _ _, (.inl (Nat.le_refl _)), (.inl (Nat.le_refl _))⟩, ⟨noWords_S _ _ _ _ _ _ _ _ _ _ _ _ _ _, (.inl (Nat.le_refl _)), (.inl (Nat.le_refl _))⟩, ⟨noWords_S _ _ _ _ _ _ _ _ _ _ _ _ _ _, (.inl (Nat.le_refl _)), (.inl (Nat.le_refl _))⟩, ⟨noWords_S _ _ _ _ _ _ _ _ _ _ _ _ _ _, (.inl (Nat.le_refl _)), (.inl (Nat.le_refl _))⟩, trivial⟩
    · refine ⟨?_, ?_, ?_, ?_, ?_, ?_, ?_, ?_, ?_, ?_, ?_, ?_, ?_, ?_, ?_, ?_, ?_, ?_, ?_, ?_, ?_, ?_, ?_, ?_, trivial⟩
      · exact .inr fun a w hp => ob_yes rfl (ob_loadSp (hp.box (k := 0) rfl (Nat.le_refl _) (.inl (Nat.le_refl _)) (by kernel_rfl) rfl).1 (hp.box (k := 0) rfl (Nat.le_refl _) (.inl (Nat.le_refl _)) (by kernel_rfl) rfl).2 rfl)
      · exact .inr fun a w hp => ob_yes rfl (ob_loadSp (hp.box (k := 3) rfl (Nat.le_refl _) (.inl (Nat.le_refl _)) (by kernel_rfl) rfl).1 (hp.box (k := 3) rfl (Nat.le_refl _) (.inl (Nat.le_refl _)) (by kernel_rfl) rfl).2 rfl)
      · refine .inr fun a w hp => ob_yes rfl ?_
        have h38 : a.tmps.getD 38 undef = .agg #[.bool ba0, .slice Aa0 na0 ca0, .slice Ba0 ma0 oa0, .bool bb0, .slice Ab0 nb0 cb0, .slice Bb0 mb0 ob0] := (hp.fact 0 38 (by kernel_rfl) rfl)
        have h39 : a.tmps.getD 39 undef = .agg #[.bool ba7, .slice Aa7 na7 ca7, .slice Ba7 ma7 oa7, .bool bb7, .slice Ab7 nb7 cb7, .slice Bb7 mb7 ob7] := (hp.fact 1 39 (by kernel_rfl) rfl)
        unfold Does
        go_simp
        refine (spins_any _ _ _ lo0 hi0 (rmin lo0 lo1) (rmax hi0 hi1) 6 (T0.on hp.on) ((I7.kept hp.kept).sp le7) (by decide) (by decide)).mono ?_
        rintro e w' ⟨rfl, P8⟩
        exact ⟨_, rfl, P8, congrArg Value.bool (ins_true (rmin_le_l _ _) (le_rmax_l _ _))⟩
      · refine .inr fun a w hp => ob_yes rfl ?_
        have h40 : a.tmps.getD 40 undef = .bool true := (hp.fact 2 40 (by kernel_rfl) rfl)
        unfold Does
        go_simp
        exact ⟨_, rfl, On.refl _, by show Value.bool _ = Value.bool _; first | rfl | (simp; done)⟩
      · exact .inr fun a w hp => ob_yes rfl (ob_move (hp.fact 3 41 (by kernel_rfl) rfl))
      · exact .inr fun a w hp => ob_yes (wanted_yes (P := Try.prog) (j := 4) (d := 42) (b := false) rfl rfl (hp.fact 4 42 (by kernel_rfl) rfl)) (ob_loadSp (hp.box (k := 1) rfl (Nat.le_refl _) (.inl (Nat.le_refl _)) (by kernel_rfl) rfl).1 (hp.box (k := 1) rfl (Nat.le_refl _) (.inl (Nat.le_refl _)) (by kernel_rfl) rfl).2 rfl)
      · exact .inr fun a w hp => ob_yes (wanted_yes (P := Try.prog) (j := 4) (d := 42) (b := false) rfl rfl (hp.fact 4 42 (by kernel_rfl) rfl)) (ob_loadSp (hp.box (k := 3) rfl (Nat.le_refl _) (.inl (Nat.le_refl _)) (by kernel_rfl) rfl).1 (hp.box (k := 3) rfl (Nat.le_refl _) (.inl (Nat.le_refl _)) (by kernel_rfl) rfl).2 rfl)
      · refine .inr fun a w hp => ob_yes (wanted_yes (P := Try.prog) (j := 4) (d := 42) (b := false) rfl rfl (hp.fact 4 42 (by kernel_rfl) rfl)) ?_
        have h43 : a.tmps.getD 43 undef = .agg #[.bool ba1, .slice Aa1 na1 ca1, .slice Ba1 ma1 oa1, .bool bb1, .slice Ab1 nb1 cb1, .slice Bb1 mb1 ob1] := (hp.fact 5 43 (by kernel_rfl) rfl)
        have h44 : a.tmps.getD 44 undef = .agg #[.bool ba7, .slice Aa7 na7 ca7, .slice Ba7 ma7 oa7, .bool bb7, .slice Ab7 nb7 cb7, .slice Bb7 mb7 ob7] := (hp.fact 6 44 (by kernel_rfl) rfl)
        unfold Does
        go_simp
        refine (spins_any _ _ _ lo1 hi1 (rmin lo0 lo1) (rmax hi0 hi1) 6 (T1.on hp.on) ((I7.kept hp.kept).sp le7) (by decide) (by decide)).mono ?_
        rintro e w' ⟨rfl, P8⟩
        exact ⟨_, rfl, P8, congrArg Value.bool (ins_true (rmin_le_r _ _) (le_rmax_r _ _))⟩
      · refine .inr fun a w hp => ob_yes (wanted_yes (P := Try.prog) (j := 4) (d := 42) (b := false) rfl rfl (hp.fact 4 42 (by kernel_rfl) rfl)) ?_
        have h45 : a.tmps.getD 45 undef = .bool true := (hp.fact 7 45 (by kernel_rfl) rfl)
        unfold Does
        go_simp
        exact ⟨_, rfl, On.refl _, by show Value.bool _ = Value.bool _; first | rfl | (simp; done)⟩
      · refine .inr fun a w hp => ob_yes rfl ?_
        have h42 : a.tmps.getD 42 undef = .bool false := (hp.fact 4 42 (by kernel_rfl) rfl)
        have h46 : a.tmps.getD 46 undef = .bool false := (hp.fact 8 46 (by kernel_rfl) rfl)
        unfold Does
        go_simp
        exact ⟨_, rfl, On.refl _, rfl⟩
      · exact .inr fun a w hp => ob_yes rfl (ob_move (hp.fact 9 47 (by kernel_rfl) rfl))
      · exact .inr fun a w hp => ob_yes (wanted_yes (P := Try.prog) (j := 10) (d := 48) (b := false) rfl rfl (hp.fact 10 48 (by kernel_rfl) rfl)) (ob_loadSp (hp.box (k := 3) rfl (Nat.le_refl _) (.inl (Nat.le_refl _)) (by kernel_rfl) rfl).1 (hp.box (k := 3) rfl (Nat.le_refl _) (.inl (Nat.le_refl _)) (by kernel_rfl) rfl).2 rfl)
      · exact .inr fun a w hp => ob_yes (wanted_yes (P := Try.prog) (j := 10) (d := 48) (b := false) rfl rfl (hp.fact 10 48 (by kernel_rfl) rfl)) (ob_loadSp (hp.box (k := 2) rfl (Nat.le_refl _) (.inl (Nat.le_refl _)) (by kernel_rfl) rfl).1 (hp.box (k := 2) rfl (Nat.le_refl _) (.inl (Nat.le_refl _)) (by kernel_rfl) rfl).2 rfl)
      · refine .inr fun a w hp => ob_yes (wanted_yes (P := Try.prog) (j := 10) (d := 48) (b := false) rfl rfl (hp.fact 10 48 (by kernel_rfl) rfl)) ?_
        have h49 : a.tmps.getD 49 undef = .agg #[.bool ba7, .slice Aa7 na7 ca7, .slice Ba7 ma7 oa7, .bool bb7, .slice Ab7 nb7 cb7, .slice Bb7 mb7 ob7] := (hp.fact 11 49 (by kernel_rfl) rfl)
        have h50 : a.tmps.getD 50 undef = .agg #[.bool ba2, .slice Aa2 na2 ca2, .slice Ba2 ma2 oa2, .bool bb2, .slice Ab2 nb2 cb2, .slice Bb2 mb2 ob2] := (hp.fact 12 50 (by kernel_rfl) rfl)
        unfold Does
        go_simp
        refine (spins_any _ _ _ (rmin lo0 lo1) (rmax hi0 hi1) lo2 hi2 6 ((I7.kept hp.kept).sp le7) (T2.on hp.on) (by decide) (by decide)).mono ?_
        rintro e w' ⟨rfl, P8⟩
        exact ⟨_, rfl, P8, congrArg Value.bool (HQH.out)⟩
      · exact .inr fun a w hp => ob_yes (wanted_yes (P := Try.prog) (j := 10) (d := 48) (b := false) rfl rfl (hp.fact 10 48 (by kernel_rfl) rfl)) (ob_loadSp (hp.box (k := 0) rfl (Nat.le_refl _) (.inl (Nat.le_refl _)) (by kernel_rfl) rfl).1 (hp.box (k := 0) rfl (Nat.le_refl _) (.inl (Nat.le_refl _)) (by kernel_rfl) rfl).2 rfl)
      · exact .inr fun a w hp => ob_yes (wanted_yes (P := Try.prog) (j := 10) (d := 48) (b := false) rfl rfl (hp.fact 10 48 (by kernel_rfl) rfl)) (ob_loadSp (hp.box (k := 2) rfl (Nat.le_refl _) (.inl (Nat.le_refl _)) (by kernel_rfl) rfl).1 (hp.box (k := 2) rfl (Nat.le_refl _) (.inl (Nat.le_refl _)) (by kernel_rfl) rfl).2 rfl)
      · refine .inr fun a w hp => ob_yes (wanted_yes (P := Try.prog) (j := 10) (d := 48) (b := false) rfl rfl (hp.fact 10 48 (by kernel_rfl) rfl)) ?_
        have h52 : a.tmps.getD 52 undef = .agg #[.bool ba0, .slice Aa0 na0 ca0, .slice Ba0 ma0 oa0, .bool bb0, .slice Ab0 nb0 cb0, .slice Bb0 mb0 ob0] := (hp.fact 14 52 (by kernel_rfl) rfl)
        have h53 : a.tmps.getD 53 undef = .agg #[.bool ba2, .slice Aa2 na2 ca2, .slice Ba2 ma2 oa2, .bool bb2, .slice Ab2 nb2 cb2, .slice Bb2 mb2 ob2] := (hp.fact 15 53 (by kernel_rfl) rfl)
        unfold Does
        go_simp
        refine (spins_any _ _ _ lo0 hi0 lo2 hi2 6 (T0.on hp.on) (T2.on hp.on) (by decide) (by decide)).mono ?_
        rintro e w' ⟨rfl, P8⟩
        exact ⟨_, rfl, P8, congrArg Value.bool HQ0.out⟩
      · exact .inr fun a w hp => ob_yes (wanted_yes (P := Try.prog) (j := 10) (d := 48) (b := false) rfl rfl (hp.fact 10 48 (by kernel_rfl) rfl)) (ob_move (hp.fact 16 54 (by kernel_rfl) rfl))
      · exact .inr fun a w hp => ob_no (wanted_no (P := Try.prog) (j := 17) (d := 55) (b := false) rfl rfl (hp.fact 17 55 (by kernel_rfl) rfl)) rfl
      · exact .inr fun a w hp => ob_no (wanted_no (P := Try.prog) (j := 17) (d := 55) (b := false) rfl rfl (hp.fact 17 55 (by kernel_rfl) rfl)) rfl
      · exact .inr fun a w hp => ob_no (wanted_no (P := Try.prog) (j := 17) (d := 55) (b := false) rfl rfl (hp.fact 17 55 (by kernel_rfl) rfl)) rfl
      · refine .inr fun a w hp => ob_yes (wanted_yes (P := Try.prog) (j := 10) (d := 48) (b := false) rfl rfl (hp.fact 10 48 (by kernel_rfl) rfl)) ?_
        have h55 : a.tmps.getD 55 undef = .bool false := (hp.fact 17 55 (by kernel_rfl) rfl)
        have h58 : a.tmps.getD 58 undef = undef := (hp.fact 20 58 (by kernel_rfl) rfl)
        unfold Does
        go_simp
        exact ⟨_, rfl, On.refl _, rfl⟩
      · refine .inr fun a w hp => ob_yes (wanted_yes (P := Try.prog) (j := 10) (d := 48) (b := false) rfl rfl (hp.fact 10 48 (by kernel_rfl) rfl)) ?_
        have h51 : a.tmps.getD 51 undef = .bool false := (hp.fact 13 51 (by kernel_rfl) rfl)
        have h59 : a.tmps.getD 59 undef = .bool false := (hp.fact 21 59 (by kernel_rfl) rfl)
        unfold Does
        go_simp
        exact ⟨_, rfl, On.refl _, by show Value.bool _ = Value.bool _; first | rfl | (simp; done)⟩
      · refine .inr fun a w hp => ob_yes rfl ?_
        have h48 : a.tmps.getD 48 undef = .bool false := (hp.fact 10 48 (by kernel_rfl) rfl)
        have h60 : a.tmps.getD 60 undef = .bool false := (hp.fact 22 60 (by kernel_rfl) rfl)
        unfold Does
        go_simp
        exact ⟨_, rfl, On.refl _, rfl⟩
    · intro f wr hon hk hf hb hap
      obtain ⟨q0, q1, q2, q3, qz⟩ := hb
      clear qz
      have O3 : Own wr (w.heap.size) 38 #[.bool ba0, .slice Aa0 na0 ca0, .slice Ba0 ma0 oa0, .bool bb0, .slice Ab0 nb0 cb0, .slice Bb0 mb0 ob0] := q0
      have c3_0 : wr.cell? ⟨w.heap.size, 0, none⟩ = some (.bool ba0) := O3.cell 0
      have z3_0 := O3.frozen 0
      have c3_1 : wr.cell? ⟨w.heap.size, 1, none⟩ = some (.slice Aa0 na0 ca0) := O3.cell 1
      have z3_1 := O3.frozen 1
      have c3_2 : wr.cell? ⟨w.heap.size, 2, none⟩ = some (.slice Ba0 ma0 oa0) := O3.cell 2
      have z3_2 := O3.frozen 2
      have c3_3 : wr.cell? ⟨w.heap.size, 3, none⟩ = some (.bool bb0) := O3.cell 3
      have z3_3 := O3.frozen 3
      have c3_4 : wr.cell? ⟨w.heap.size, 4, none⟩ = some (.slice Ab0 nb0 cb0) := O3.cell 4
      have z3_4 := O3.frozen 4
      have c3_5 : wr.cell? ⟨w.heap.size, 5, none⟩ = some (.slice Bb0 mb0 ob0) := O3.cell 5
      have z3_5 := O3.frozen 5
      clear q0
      have O4 : Own wr (w.heap.size + 1) 38 #[.bool ba1, .slice Aa1 na1 ca1, .slice Ba1 ma1 oa1, .bool bb1, .slice Ab1 nb1 cb1, .slice Bb1 mb1 ob1] := q1
      have c4_0 : wr.cell? ⟨w.heap.size + 1, 0, none⟩ = some (.bool ba1) := O4.cell 0
      have z4_0 := O4.frozen 0
      have c4_1 : wr.cell? ⟨w.heap.size + 1, 1, none⟩ = some (.slice Aa1 na1 ca1) := O4.cell 1
      have z4_1 := O4.frozen 1
      have c4_2 : wr.cell? ⟨w.heap.size + 1, 2, none⟩ = some (.slice Ba1 ma1 oa1) := O4.cell 2
      have z4_2 := O4.frozen 2
      have c4_3 : wr.cell? ⟨w.heap.size + 1, 3, none⟩ = some (.bool bb1) := O4.cell 3
      have z4_3 := O4.frozen 3
      have c4_4 : wr.cell? ⟨w.heap.size + 1, 4, none⟩ = some (.slice Ab1 nb1 cb1) := O4.cell 4
      have z4_4 := O4.frozen 4
      have c4_5 : wr.cell? ⟨w.heap.size + 1, 5, none⟩ = some (.slice Bb1 mb1 ob1) := O4.cell 5
      have z4_5 := O4.frozen 5
      clear q1
      have O5 : Own wr (w.heap.size + 2) 38 #[.bool ba2, .slice Aa2 na2 ca2, .slice Ba2 ma2 oa2, .bool bb2, .slice Ab2 nb2 cb2, .slice Bb2 mb2 ob2] := q2
      have c5_0 : wr.cell? ⟨w.heap.size + 2, 0, none⟩ = some (.bool ba2) := O5.cell 0
      have z5_0 := O5.frozen 0
      have c5_1 : wr.cell? ⟨w.heap.size + 2, 1, none⟩ = some (.slice Aa2 na2 ca2) := O5.cell 1
      have z5_1 := O5.frozen 1
      have c5_2 : wr.cell? ⟨w.heap.size + 2, 2, none⟩ = some (.slice Ba2 ma2 oa2) := O5.cell 2
      have z5_2 := O5.frozen 2
      have c5_3 : wr.cell? ⟨w.heap.size + 2, 3, none⟩ = some (.bool bb2) := O5.cell 3
      have z5_3 := O5.frozen 3
      have c5_4 : wr.cell? ⟨w.heap.size + 2, 4, none⟩ = some (.slice Ab2 nb2 cb2) := O5.cell 4
      have z5_4 := O5.frozen 4
      have c5_5 : wr.cell? ⟨w.heap.size + 2, 5, none⟩ = some (.slice Bb2 mb2 ob2) := O5.cell 5
      have z5_5 := O5.frozen 5
      clear q2
      have O7 : Own wr (w7.heap.size) 38 #[.bool ba7, .slice Aa7 na7 ca7, .slice Ba7 ma7 oa7, .bool bb7, .slice Ab7 nb7 cb7, .slice Bb7 mb7 ob7] := q3
      have c7_0 : wr.cell? ⟨w7.heap.size, 0, none⟩ = some (.bool ba7) := O7.cell 0
      have z7_0 := O7.frozen 0
      have c7_1 : wr.cell? ⟨w7.heap.size, 1, none⟩ = some (.slice Aa7 na7 ca7) := O7.cell 1
      have z7_1 := O7.frozen 1
      have c7_2 : wr.cell? ⟨w7.heap.size, 2, none⟩ = some (.slice Ba7 ma7 oa7) := O7.cell 2
      have z7_2 := O7.frozen 2
      have c7_3 : wr.cell? ⟨w7.heap.size, 3, none⟩ = some (.bool bb7) := O7.cell 3
      have z7_3 := O7.frozen 3
      have c7_4 : wr.cell? ⟨w7.heap.size, 4, none⟩ = some (.slice Ab7 nb7 cb7) := O7.cell 4
      have z7_4 := O7.frozen 4
      have c7_5 : wr.cell? ⟨w7.heap.size, 5, none⟩ = some (.slice Bb7 mb7 ob7) := O7.cell 5
      have z7_5 := O7.frozen 5
      clear q3
      have e61 : f 61 = .bool false := hf 23 61 rfl
      clear hf hap
      simp only [fillL, e61]
      clear e61
      have OB3 : w.heap.size ≤ w.heap.size ∧ Own wr (w.heap.size) 38 #[.bool ba0, .slice Aa0 na0 ca0, .slice Ba0 ma0 oa0, .bool bb0, .slice Ab0 nb0 cb0, .slice Bb0 mb0 ob0] := ⟨by omega, O3⟩
      clear c3_0 z3_0 c3_1 z3_1 c3_2 z3_2 c3_3 z3_3 c3_4 z3_4 c3_5 z3_5 O3
      have OB4 : w.heap.size ≤ w.heap.size + 1 ∧ Own wr (w.heap.size + 1) 38 #[.bool ba1, .slice Aa1 na1 ca1, .slice Ba1 ma1 oa1, .bool bb1, .slice Ab1 nb1 cb1, .slice Bb1 mb1 ob1] := ⟨by omega, O4⟩
      clear c4_0 z4_0 c4_1 z4_1 c4_2 z4_2 c4_3 z4_3 c4_4 z4_4 c4_5 z4_5 O4
      have OB5 : w.heap.size ≤ w.heap.size + 2 ∧ Own wr (w.heap.size + 2) 38 #[.bool ba2, .slice Aa2 na2 ca2, .slice Ba2 ma2 oa2, .bool bb2, .slice Ab2 nb2 cb2, .slice Bb2 mb2 ob2] := ⟨by omega, O5⟩
      clear c5_0 z5_0 c5_1 z5_1 c5_2 z5_2 c5_3 z5_3 c5_4 z5_4 c5_5 z5_5 O5
      clear c7_0 z7_0 c7_1 z7_1 c7_2 z7_2 c7_3 z7_3 c7_4 z7_4 c7_5 z7_5 O7 OB7 I7
      clear B
      have B := hon
      clear hon hk
      have y3_0 : wr.cell? ⟨w.heap.size, 0, none⟩ = some (.bool ba0) := OB3.2.cell 0
      have y3_1 : wr.cell? ⟨w.heap.size, 1, none⟩ = some (.slice Aa0 na0 ca0) := OB3.2.cell 1
      have y3_2 : wr.cell? ⟨w.heap.size, 2, none⟩ = some (.slice Ba0 ma0 oa0) := OB3.2.cell 2
      have y3_3 : wr.cell? ⟨w.heap.size, 3, none⟩ = some (.bool bb0) := OB3.2.cell 3
      have y3_4 : wr.cell? ⟨w.heap.size, 4, none⟩ = some (.slice Ab0 nb0 cb0) := OB3.2.cell 4
      have y3_5 : wr.cell? ⟨w.heap.size, 5, none⟩ = some (.slice Bb0 mb0 ob0) := OB3.2.cell 5
      have y3_f0 := OB3.2.frozen 0
      have y3_f1 := OB3.2.frozen 1
      have y3_f2 := OB3.2.frozen 2
      have y3_f3 := OB3.2.frozen 3
      have y3_f4 := OB3.2.frozen 4
      have y3_f5 := OB3.2.frozen 5
      have y4_0 : wr.cell? ⟨w.heap.size + 1, 0, none⟩ = some (.bool ba1) := OB4.2.cell 0
      have y4_1 : wr.cell? ⟨w.heap.size + 1, 1, none⟩ = some (.slice Aa1 na1 ca1) := OB4.2.cell 1
      have y4_2 : wr.cell? ⟨w.heap.size + 1, 2, none⟩ = some (.slice Ba1 ma1 oa1) := OB4.2.cell 2
      have y4_3 : wr.cell? ⟨w.heap.size + 1, 3, none⟩ = some (.bool bb1) := OB4.2.cell 3
      have y4_4 : wr.cell? ⟨w.heap.size + 1, 4, none⟩ = some (.slice Ab1 nb1 cb1) := OB4.2.cell 4
      have y4_5 : wr.cell? ⟨w.heap.size + 1, 5, none⟩ = some (.slice Bb1 mb1 ob1) := OB4.2.cell 5
      have y4_f0 := OB4.2.frozen 0
      have y4_f1 := OB4.2.frozen 1
      have y4_f2 := OB4.2.frozen 2
      have y4_f3 := OB4.2.frozen 3
      have y4_f4 := OB4.2.frozen 4
      have y4_f5 := OB4.2.frozen 5
      go_wp2_with fail
      refine (spmeet_ok _ _ _ lo0 hi0 lo1 hi1 6 (T0.on B) (T1.on B) (by decide) (by decide) HC.out).mono ?_
      rintro e w8 ⟨u8, rfl, I8, P8⟩
      obtain ⟨ba8, Aa8, na8, ca8, Ba8, ma8, oa8, bb8, Ab8, nb8, cb8, Bb8, mb8, ob8, rfl, IL8, IH8⟩ := id I8
      clear y3_0 y3_f0 y3_1 y3_f1 y3_2 y3_f2 y3_3 y3_f3 y3_4 y3_f4 y3_5 y3_f5
      clear y4_0 y4_f0 y4_1 y4_f1 y4_2 y4_f2 y4_3 y4_f3 y4_4 y4_f4 y4_5 y4_f5
      replace OB3 := And.intro OB3.1 (OB3.2.on P8)
      replace OB4 := And.intro OB4.1 (OB4.2.on P8)
      replace OB5 := And.intro OB5.1 (OB5.2.on P8)
      replace B := B.trans P8
      have PA := (On.refl w8).alloc (.cells #[.bool ba8, .slice Aa8 na8 ca8, .slice Ba8 ma8 oa8, .bool bb8, .slice Ab8 nb8 cb8, .slice Bb8 mb8 ob8] 38)
      have B0_8 := B.size
      replace OB3 := And.intro OB3.1 (OB3.2.on PA)
      replace OB4 := And.intro OB4.1 (OB4.2.on PA)
      replace OB5 := And.intro OB5.1 (OB5.2.on PA)
      replace B := B.trans PA
      replace I8 := I8.on PA
      have OB8 : w.heap.size ≤ w8.heap.size ∧ _ := ⟨B0_8, Own.new w8 38 #[.bool ba8, .slice Aa8 na8 ca8, .slice Ba8 ma8 oa8, .bool bb8, .slice Ab8 nb8 cb8, .slice Bb8 mb8 ob8]⟩
      clear PA P8 IL8 IH8
      have le8 := HC.out
      go_wp2
      cases p0
      · refine wp_region_facts (by kernel_rfl) w [Fact.eq (.agg #[.bool ba8, .slice Aa8 na8 ca8, .slice Ba8 ma8 oa8, .bool bb8, .slice Ab8 nb8 cb8, .slice Bb8 mb8 ob8]), Fact.eq (.agg #[.bool ba0, .slice Aa0 na0 ca0, .slice Ba0 ma0 oa0, .bool bb0, .slice Ab0 nb0 cb0, .slice Bb0 mb0 ob0]), Fact.eq (.bool true), Fact.eq (.bool true), Fact.eq (.agg #[.bool ba8, .slice Aa8 na8 ca8, .slice Ba8 ma8 oa8, .bool bb8, .slice Ab8 nb8 cb8, .slice Bb8 mb8 ob8]), Fact.eq (.agg #[.bool ba1, .slice Aa1 na1 ca1, .slice Ba1 ma1 oa1, .bool bb1, .slice Ab1 nb1 cb1, .slice Bb1 mb1 ob1]), Fact.eq (.bool true), Fact.eq (.bool true), Fact.eq (.bool true), Fact.eq (.agg #[.bool ba2, .slice Aa2 na2 ca2, .slice Ba2 ma2 oa2, .bool bb2, .slice Ab2 nb2 cb2, .slice Bb2 mb2 ob2]), Fact.eq (.agg #[.bool ba8, .slice Aa8 na8 ca8, .slice Ba8 ma8 oa8, .bool bb8, .slice Ab8 nb8 cb8, .slice Bb8 mb8 ob8]), Fact.eq (.bool false), Fact.eq (.agg #[.bool ba2, .slice Aa2 na2 ca2, .slice Ba2 ma2 oa2, .bool bb2, .slice Ab2 nb2 cb2, .slice Bb2 mb2 ob2]), Fact.eq (.agg #[.bool ba0, .slice Aa0 na0 ca0, .slice Ba0 ma0 oa0, .bool bb0, .slice Ab0 nb0 cb0, .slice Bb0 mb0 ob0]), Fact.eq (.bool false), Fact.eq (.bool false), Fact.eq (undef), Fact.eq (undef), Fact.eq (undef), Fact.eq (.bool false), Fact.eq (.bool true), Fact.eq (.bool true), Fact.eq (.bool true)] [Fact.any, Fact.any, Fact.any, Fact.any] [⟨23, 3, 38, 23, #[.bool ba0, .slice Aa0 na0 ca0, .slice Ba0 ma0 oa0, .bool bb0, .slice Ab0 nb0 cb0, .slice Bb0 mb0 ob0]⟩, ⟨23, 4, 38, 23, #[.bool ba1, .slice Aa1 na1 ca1, .slice Ba1 ma1 oa1, .bool bb1, .slice Ab1 nb1 cb1, .slice Bb1 mb1 ob1]⟩, ⟨23, 5, 38, 23, #[.bool ba2, .slice Aa2 na2 ca2, .slice Ba2 ma2 oa2, .bool bb2, .slice Ab2 nb2 cb2, .slice Bb2 mb2 ob2]⟩, ⟨23, 8, 38, 23, #[.bool ba8, .slice Aa8 na8 ca8, .slice Ba8 ma8 oa8, .bool bb8, .slice Ab8 nb8 cb8, .slice Bb8 mb8 ob8]⟩] [w.heap.size, w.heap.size + 1, w.heap.size + 2, w8.heap.size] [none, none, none, none, none, none, some 6, none, none, none, none, none, none, none, none, none, none, none, none, none, none, none, none, none, none, none, none, none, none, none, none, none, none, none, none, none, none, none, none, none, none, none, none, none, none, none, none, none, none, none, none, none, none, none, none, none, none, none, none, none, none, none, none, none, none, none, none, none, none, none, none, none, none, none, none, none, none, none, none, none, none, none, none, some 83, some 84, some 85, some 86, some 87, some 88, some 89, some 90, some 91, some 92, some 93, some 94, some 95, some 96, some 97, some 98, some 99, some 100, some 101, some 102, some 103, some 104] (by kernel_rfl) (by kernel_rfl) (by kernel_rfl) rfl B ?_ ?_ ?_ ?_ ?_
        · exact ⟨fun _ => ⟨by simp, rfl, OB3⟩, fun _ => ⟨by simp, rfl, OB4⟩, fun _ => ⟨by simp, rfl, OB5⟩, fun _ => ⟨by simp, rfl, OB8⟩, trivial⟩
        · exact .inl ⟨Nat.le_refl _, Nat.le_refl _, Nat.le_refl _, Nat.le_refl _, trivial⟩
        · exact ⟨⟨noWords_S _ _ _ _ _ _ _ _ _ _ _ _ _ _, (.inl (Nat.le_refl _)), (.inl (Nat.le_refl _))⟩, ⟨noWords_S _ _ _ _ _ _ _ _ _ _ _ _ _ _, (.inl (Nat.le_refl _)), (.inl (Nat.le_refl _))⟩, ⟨noWords_S _ _ _ _ _ _ _ _ _ _ _ _ _ _, (.inl (Nat.le_refl _)), (.inl (Nat.le_refl _))⟩, ⟨noWords_S _ _ _ _ _ _ _ _ _ _ _ _ _ _, (.inl (Nat.le_refl _)), (.inl (Nat.le_refl _))⟩, trivial⟩
        · refine ⟨?_, ?_, ?_, ?_, ?_, ?_, ?_, ?_, ?_, ?_, ?_, ?_, ?_, ?_, ?_, ?_, ?_, ?_, ?_, ?_, ?_, ?_, ?_, trivial⟩
          · exact .inr fun a w hp => ob_yes rfl (ob_loadSp (hp.box (k := 3) rfl (Nat.le_refl _) (.inl (Nat.le_refl _)) (by kernel_rfl) rfl).1 (hp.box (k := 3) rfl (Nat.le_refl _) (.inl (Nat.le_refl _)) (by kernel_rfl) rfl).2 rfl)
          · exact .inr fun a w hp => ob_yes rfl (ob_loadSp (hp.box (k := 0) rfl (Nat.le_refl _) (.inl (Nat.le_refl _)) (by kernel_rfl) rfl).1 (hp.box (k := 0) rfl (Nat.le_refl _) (.inl (Nat.le_refl _)) (by kernel_rfl) rfl).2 rfl)
          · refine .inr fun a w hp => ob_yes rfl ?_
            have h83 : a.tmps.getD 83 undef = .agg #[.bool ba8, .slice Aa8 na8 ca8, .slice Ba8 ma8 oa8, .bool bb8, .slice Ab8 nb8 cb8, .slice Bb8 mb8 ob8] := (hp.fact 0 83 (by kernel_rfl) rfl)
            have h84 : a.tmps.getD 84 undef = .agg #[.bool ba0, .slice Aa0 na0 ca0, .slice Ba0 ma0 oa0, .bool bb0, .slice Ab0 nb0 cb0, .slice Bb0 mb0 ob0] := (hp.fact 1 84 (by kernel_rfl) rfl)
            unfold Does
            go_simp
            refine (spins_any _ _ _ (rmax lo0 lo1) (rmin hi0 hi1) lo0 hi0 6 ((I8.kept hp.kept).sp le8) (T0.on hp.on) (by decide) (by decide)).mono ?_
            rintro e w' ⟨rfl, P8⟩
            exact ⟨_, rfl, P8, congrArg Value.bool (ins_true (le_rmax_l _ _) (rmin_le_l _ _))⟩
          · exact .inr fun a w hp => ob_yes rfl (ob_move (hp.fact 2 85 (by kernel_rfl) rfl))
          · exact .inr fun a w hp => ob_yes (wanted_yes (P := Try.prog) (j := 3) (d := 86) (b := true) rfl rfl (hp.fact 3 86 (by kernel_rfl) rfl)) (ob_loadSp (hp.box (k := 3) rfl (Nat.le_refl _) (.inl (Nat.le_refl _)) (by kernel_rfl) rfl).1 (hp.box (k := 3) rfl (Nat.le_refl _) (.inl (Nat.le_refl _)) (by kernel_rfl) rfl).2 rfl)
          · exact .inr fun a w hp => ob_yes (wanted_yes (P := Try.prog) (j := 3) (d := 86) (b := true) rfl rfl (hp.fact 3 86 (by kernel_rfl) rfl)) (ob_loadSp (hp.box (k := 1) rfl (Nat.le_refl _) (.inl (Nat.le_refl _)) (by kernel_rfl) rfl).1 (hp.box (k := 1) rfl (Nat.le_refl _) (.inl (Nat.le_refl _)) (by kernel_rfl) rfl).2 rfl)
          · refine .inr fun a w hp => ob_yes (wanted_yes (P := Try.prog) (j := 3) (d := 86) (b := true) rfl rfl (hp.fact 3 86 (by kernel_rfl) rfl)) ?_
            have h87 : a.tmps.getD 87 undef = .agg #[.bool ba8, .slice Aa8 na8 ca8, .slice Ba8 ma8 oa8, .bool bb8, .slice Ab8 nb8 cb8, .slice Bb8 mb8 ob8] := (hp.fact 4 87 (by kernel_rfl) rfl)
            have h88 : a.tmps.getD 88 undef = .agg #[.bool ba1, .slice Aa1 na1 ca1, .slice Ba1 ma1 oa1, .bool bb1, .slice Ab1 nb1 cb1, .slice Bb1 mb1 ob1] := (hp.fact 5 88 (by kernel_rfl) rfl)
            unfold Does
            go_simp
            refine (spins_any _ _ _ (rmax lo0 lo1) (rmin hi0 hi1) lo1 hi1 6 ((I8.kept hp.kept).sp le8) (T1.on hp.on) (by decide) (by decide)).mono ?_
            rintro e w' ⟨rfl, P8⟩
            exact ⟨_, rfl, P8, congrArg Value.bool (ins_true (le_rmax_r _ _) (rmin_le_r _ _))⟩
          · refine .inr fun a w hp => ob_yes rfl ?_
            have h86 : a.tmps.getD 86 undef = .bool true := (hp.fact 3 86 (by kernel_rfl) rfl)
            have h89 : a.tmps.getD 89 undef = .bool true := (hp.fact 6 89 (by kernel_rfl) rfl)
            unfold Does
            go_simp
            exact ⟨_, rfl, On.refl _, rfl⟩
          · exact .inr fun a w hp => ob_yes rfl (ob_move (hp.fact 7 90 (by kernel_rfl) rfl))
          · exact .inr fun a w hp => ob_yes (wanted_yes (P := Try.prog) (j := 8) (d := 91) (b := true) rfl rfl (hp.fact 8 91 (by kernel_rfl) rfl)) (ob_loadSp (hp.box (k := 2) rfl (Nat.le_refl _) (.inl (Nat.le_refl _)) (by kernel_rfl) rfl).1 (hp.box (k := 2) rfl (Nat.le_refl _) (.inl (Nat.le_refl _)) (by kernel_rfl) rfl).2 rfl)
          · exact .inr fun a w hp => ob_yes (wanted_yes (P := Try.prog) (j := 8) (d := 91) (b := true) rfl rfl (hp.fact 8 91 (by kernel_rfl) rfl)) (ob_loadSp (hp.box (k := 3) rfl (Nat.le_refl _) (.inl (Nat.le_refl _)) (by kernel_rfl) rfl).1 (hp.box (k := 3) rfl (Nat.le_refl _) (.inl (Nat.le_refl _)) (by kernel_rfl) rfl).2 rfl)
          · refine .inr fun a w hp => ob_yes (wanted_yes (P := Try.prog) (j := 8) (d := 91) (b := true) rfl rfl (hp.fact 8 91 (by kernel_rfl) rfl)) ?_
            have h92 : a.tmps.getD 92 undef = .agg #[.bool ba2, .slice Aa2 na2 ca2, .slice Ba2 ma2 oa2, .bool bb2, .slice Ab2 nb2 cb2, .slice Bb2 mb2 ob2] := (hp.fact 9 92 (by kernel_rfl) rfl)
            have h93 : a.tmps.getD 93 undef = .agg #[.bool ba8, .slice Aa8 na8 ca8, .slice Ba8 ma8 oa8, .bool bb8, .slice Ab8 nb8 cb8, .slice Bb8 mb8 ob8] := (hp.fact 10 93 (by kernel_rfl) rfl)
            unfold Does
            go_simp
            refine (spins_any _ _ _ lo2 hi2 (rmax lo0 lo1) (rmin hi0 hi1) 6 (T2.on hp.on) ((I8.kept hp.kept).sp le8) (by decide) (by decide)).mono ?_
            rintro e w' ⟨rfl, P8⟩
            exact ⟨_, rfl, P8, congrArg Value.bool (HPM.out)⟩
          · exact .inr fun a w hp => ob_yes (wanted_yes (P := Try.prog) (j := 8) (d := 91) (b := true) rfl rfl (hp.fact 8 91 (by kernel_rfl) rfl)) (ob_loadSp (hp.box (k := 2) rfl (Nat.le_refl _) (.inl (Nat.le_refl _)) (by kernel_rfl) rfl).1 (hp.box (k := 2) rfl (Nat.le_refl _) (.inl (Nat.le_refl _)) (by kernel_rfl) rfl).2 rfl)
          · exact .inr fun a w hp => ob_yes (wanted_yes (P := Try.prog) (j := 8) (d := 91) (b := true) rfl rfl (hp.fact 8 91 (by kernel_rfl) rfl)) (ob_loadSp (hp.box (k := 0) rfl (Nat.le_refl _) (.inl (Nat.le_refl _)) (by kernel_rfl) rfl).1 (hp.box (k := 0) rfl (Nat.le_refl _) (.inl (Nat.le_refl _)) (by kernel_rfl) rfl).2 rfl)
          · refine .inr fun a w hp => ob_yes (wanted_yes (P := Try.prog) (j := 8) (d := 91) (b := true) rfl rfl (hp.fact 8 91 (by kernel_rfl) rfl)) ?_
            have h95 : a.tmps.getD 95 undef = .agg #[.bool ba2, .slice Aa2 na2 ca2, .slice Ba2 ma2 oa2, .bool bb2, .slice Ab2 nb2 cb2, .slice Bb2 mb2 ob2] := (hp.fact 12 95 (by kernel_rfl) rfl)
            have h96 : a.tmps.getD 96 undef = .agg #[.bool ba0, .slice Aa0 na0 ca0, .slice Ba0 ma0 oa0, .bool bb0, .slice Ab0 nb0 cb0, .slice Bb0 mb0 ob0] := (hp.fact 13 96 (by kernel_rfl) rfl)
            unfold Does
            go_simp
            refine (spins_any _ _ _ lo2 hi2 lo0 hi0 6 (T2.on hp.on) (T0.on hp.on) (by decide) (by decide)).mono ?_
            rintro e w' ⟨rfl, P8⟩
            exact ⟨_, rfl, P8, congrArg Value.bool HP0.out⟩
          · exact .inr fun a w hp => ob_yes (wanted_yes (P := Try.prog) (j := 8) (d := 91) (b := true) rfl rfl (hp.fact 8 91 (by kernel_rfl) rfl)) (ob_move (hp.fact 14 97 (by kernel_rfl) rfl))
          · exact .inr fun a w hp => ob_no (wanted_no (P := Try.prog) (j := 15) (d := 98) (b := false) rfl rfl (hp.fact 15 98 (by kernel_rfl) rfl)) rfl
          · exact .inr fun a w hp => ob_no (wanted_no (P := Try.prog) (j := 15) (d := 98) (b := false) rfl rfl (hp.fact 15 98 (by kernel_rfl) rfl)) rfl
          · exact .inr fun a w hp => ob_no (wanted_no (P := Try.prog) (j := 15) (d := 98) (b := false) rfl rfl (hp.fact 15 98 (by kernel_rfl) rfl)) rfl
          · refine .inr fun a w hp => ob_yes (wanted_yes (P := Try.prog) (j := 8) (d := 91) (b := true) rfl rfl (hp.fact 8 91 (by kernel_rfl) rfl)) ?_
            have h98 : a.tmps.getD 98 undef = .bool false := (hp.fact 15 98 (by kernel_rfl) rfl)
            have h101 : a.tmps.getD 101 undef = undef := (hp.fact 18 101 (by kernel_rfl) rfl)
            unfold Does
            go_simp
            exact ⟨_, rfl, On.refl _, rfl⟩
          · refine .inr fun a w hp => ob_yes (wanted_yes (P := Try.prog) (j := 8) (d := 91) (b := true) rfl rfl (hp.fact 8 91 (by kernel_rfl) rfl)) ?_
            have h94 : a.tmps.getD 94 undef = .bool false := (hp.fact 11 94 (by kernel_rfl) rfl)
            have h102 : a.tmps.getD 102 undef = .bool false := (hp.fact 19 102 (by kernel_rfl) rfl)
            unfold Does
            go_simp
            exact ⟨_, rfl, On.refl _, by show Value.bool _ = Value.bool _; first | rfl | (simp; done)⟩
          · refine .inr fun a w hp => ob_yes rfl ?_
            have h91 : a.tmps.getD 91 undef = .bool true := (hp.fact 8 91 (by kernel_rfl) rfl)
            have h103 : a.tmps.getD 103 undef = .bool true := (hp.fact 20 103 (by kernel_rfl) rfl)
            unfold Does
            go_simp
            exact ⟨_, rfl, On.refl _, rfl⟩
          · exact .inr fun a w hp => ob_yes rfl (ob_assign (hp.fact 21 104 (by kernel_rfl) rfl))
        · intro f wd hon hk hf hb hap
          obtain ⟨q0, q1, q2, q3, qz⟩ := hb
          clear qz
          have O3 : Own wd (w.heap.size) 38 #[.bool ba0, .slice Aa0 na0 ca0, .slice Ba0 ma0 oa0, .bool bb0, .slice Ab0 nb0 cb0, .slice Bb0 mb0 ob0] := q0
          have c3_0 : wd.cell? ⟨w.heap.size, 0, none⟩ = some (.bool ba0) := O3.cell 0
          have z3_0 := O3.frozen 0
          have c3_1 : wd.cell? ⟨w.heap.size, 1, none⟩ = some (.slice Aa0 na0 ca0) := O3.cell 1
          have z3_1 := O3.frozen 1
          have c3_2 : wd.cell? ⟨w.heap.size, 2, none⟩ = some (.slice Ba0 ma0 oa0) := O3.cell 2
          have z3_2 := O3.frozen 2
          have c3_3 : wd.cell? ⟨w.heap.size, 3, none⟩ = some (.bool bb0) := O3.cell 3
          have z3_3 := O3.frozen 3
          have c3_4 : wd.cell? ⟨w.heap.size, 4, none⟩ = some (.slice Ab0 nb0 cb0) := O3.cell 4
          have z3_4 := O3.frozen 4
          have c3_5 : wd.cell? ⟨w.heap.size, 5, none⟩ = some (.slice Bb0 mb0 ob0) := O3.cell 5
          have z3_5 := O3.frozen 5
          clear q0
          have O4 : Own wd (w.heap.size + 1) 38 #[.bool ba1, .slice Aa1 na1 ca1, .slice Ba1 ma1 oa1, .bool bb1, .slice Ab1 nb1 cb1, .slice Bb1 mb1 ob1] := q1
          have c4_0 : wd.cell? ⟨w.heap.size + 1, 0, none⟩ = some (.bool ba1) := O4.cell 0
          have z4_0 := O4.frozen 0
          have c4_1 : wd.cell? ⟨w.heap.size + 1, 1, none⟩ = some (.slice Aa1 na1 ca1) := O4.cell 1
          have z4_1 := O4.frozen 1
          have c4_2 : wd.cell? ⟨w.heap.size + 1, 2, none⟩ = some (.slice Ba1 ma1 oa1) := O4.cell 2
          have z4_2 := O4.frozen 2
          have c4_3 : wd.cell? ⟨w.heap.size + 1, 3, none⟩ = some (.bool bb1) := O4.cell 3
          have z4_3 := O4.frozen 3
          have c4_4 : wd.cell? ⟨w.heap.size + 1, 4, none⟩ = some (.slice Ab1 nb1 cb1) := O4.cell 4
          have z4_4 := O4.frozen 4
          have c4_5 : wd.cell? ⟨w.heap.size + 1, 5, none⟩ = some (.slice Bb1 mb1 ob1) := O4.cell 5
          have z4_5 := O4.frozen 5
          clear q1
          have O5 : Own wd (w.heap.size + 2) 38 #[.bool ba2, .slice Aa2 na2 ca2, .slice Ba2 ma2 oa2, .bool bb2, .slice Ab2 nb2 cb2, .slice Bb2 mb2 ob2] := q2
          have c5_0 : wd.cell? ⟨w.heap.size + 2, 0, none⟩ = some (.bool ba2) := O5.cell 0
          have z5_0 := O5.frozen 0
          have c5_1 : wd.cell? ⟨w.heap.size + 2, 1, none⟩ = some (.slice Aa2 na2 ca2) := O5.cell 1
          have z5_1 := O5.frozen 1
          have c5_2 : wd.cell? ⟨w.heap.size + 2, 2, none⟩ = some (.slice Ba2 ma2 oa2) := O5.cell 2
          have z5_2 := O5.frozen 2
          have c5_3 : wd.cell? ⟨w.heap.size + 2, 3, none⟩ = some (.bool bb2) := O5.cell 3
          have z5_3 := O5.frozen 3
          have c5_4 : wd.cell? ⟨w.heap.size + 2, 4, none⟩ = some (.slice Ab2 nb2 cb2) := O5.cell 4
          have z5_4 := O5.frozen 4
          have c5_5 : wd.cell? ⟨w.heap.size + 2, 5, none⟩ = some (.slice Bb2 mb2 ob2) := O5.cell 5
          have z5_5 := O5.frozen 5
          clear q2
          have O8 : Own wd (w8.heap.size) 38 #[.bool ba8, .slice Aa8 na8 ca8, .slice Ba8 ma8 oa8, .bool bb8, .slice Ab8 nb8 cb8, .slice Bb8 mb8 ob8] := q3
          have c8_0 : wd.cell? ⟨w8.heap.size, 0, none⟩ = some (.bool ba8) := O8.cell 0
          have z8_0 := O8.frozen 0
          have c8_1 : wd.cell? ⟨w8.heap.size, 1, none⟩ = some (.slice Aa8 na8 ca8) := O8.cell 1
          have z8_1 := O8.frozen 1
          have c8_2 : wd.cell? ⟨w8.heap.size, 2, none⟩ = some (.slice Ba8 ma8 oa8) := O8.cell 2
          have z8_2 := O8.frozen 2
          have c8_3 : wd.cell? ⟨w8.heap.size, 3, none⟩ = some (.bool bb8) := O8.cell 3
          have z8_3 := O8.frozen 3
          have c8_4 : wd.cell? ⟨w8.heap.size, 4, none⟩ = some (.slice Ab8 nb8 cb8) := O8.cell 4
          have z8_4 := O8.frozen 4
          have c8_5 : wd.cell? ⟨w8.heap.size, 5, none⟩ = some (.slice Bb8 mb8 ob8) := O8.cell 5
          have z8_5 := O8.frozen 5
          clear q3
          have e6 : f 6 = .bool true := hf 22 6 rfl
          clear hf hap
          simp only [fillL, e6]
          clear e6
          go_wp2
          go_ret
          exact ⟨rfl, hon⟩
      · refine wp_region_facts (by kernel_rfl) w [Fact.eq (.agg #[.bool ba8, .slice Aa8 na8 ca8, .slice Ba8 ma8 oa8, .bool bb8, .slice Ab8 nb8 cb8, .slice Bb8 mb8 ob8]), Fact.eq (.agg #[.bool ba0, .slice Aa0 na0 ca0, .slice Ba0 ma0 oa0, .bool bb0, .slice Ab0 nb0 cb0, .slice Bb0 mb0 ob0]), Fact.eq (.bool true), Fact.eq (.bool true), Fact.eq (.agg #[.bool ba8, .slice Aa8 na8 ca8, .slice Ba8 ma8 oa8, .bool bb8, .slice Ab8 nb8 cb8, .slice Bb8 mb8 ob8]), Fact.eq (.agg #[.bool ba1, .slice Aa1 na1 ca1, .slice Ba1 ma1 oa1, .bool bb1, .slice Ab1 nb1 cb1, .slice Bb1 mb1 ob1]), Fact.eq (.bool true), Fact.eq (.bool true), Fact.eq (.bool true), Fact.eq (.agg #[.bool ba2, .slice Aa2 na2 ca2, .slice Ba2 ma2 oa2, .bool bb2, .slice Ab2 nb2 cb2, .slice Bb2 mb2 ob2]), Fact.eq (.agg #[.bool ba8, .slice Aa8 na8 ca8, .slice Ba8 ma8 oa8, .bool bb8, .slice Ab8 nb8 cb8, .slice Bb8 mb8 ob8]), Fact.eq (.bool p1), Fact.eq (.agg #[.bool ba2, .slice Aa2 na2 ca2, .slice Ba2 ma2 oa2, .bool bb2, .slice Ab2 nb2 cb2, .slice Bb2 mb2 ob2]), Fact.eq (.agg #[.bool ba0, .slice Aa0 na0 ca0, .slice Ba0 ma0 oa0, .bool bb0, .slice Ab0 nb0 cb0, .slice Bb0 mb0 ob0]), Fact.eq (.bool true), Fact.eq (.bool true), Fact.eq (.agg #[.bool ba2, .slice Aa2 na2 ca2, .slice Ba2 ma2 oa2, .bool bb2, .slice Ab2 nb2 cb2, .slice Bb2 mb2 ob2]), Fact.eq (.agg #[.bool ba1, .slice Aa1 na1 ca1, .slice Ba1 ma1 oa1, .bool bb1, .slice Ab1 nb1 cb1, .slice Bb1 mb1 ob1]), Fact.eq (.bool p1), Fact.eq (.bool p1), Fact.eq (.bool true), Fact.eq (.bool true), Fact.eq (.bool true)] [Fact.any, Fact.any, Fact.any, Fact.any] [⟨23, 3, 38, 23, #[.bool ba0, .slice Aa0 na0 ca0, .slice Ba0 ma0 oa0, .bool bb0, .slice Ab0 nb0 cb0, .slice Bb0 mb0 ob0]⟩, ⟨23, 4, 38, 23, #[.bool ba1, .slice Aa1 na1 ca1, .slice Ba1 ma1 oa1, .bool bb1, .slice Ab1 nb1 cb1, .slice Bb1 mb1 ob1]⟩, ⟨23, 5, 38, 23, #[.bool ba2, .slice Aa2 na2 ca2, .slice Ba2 ma2 oa2, .bool bb2, .slice Ab2 nb2 cb2, .slice Bb2 mb2 ob2]⟩, ⟨23, 8, 38, 23, #[.bool ba8, .slice Aa8 na8 ca8, .slice Ba8 ma8 oa8, .bool bb8, .slice Ab8 nb8 cb8, .slice Bb8 mb8 ob8]⟩] [w.heap.size, w.heap.size + 1, w.heap.size + 2, w8.heap.size] [none, none, none, none, none, none, some 6, none, none, none, none, none, none, none, none, none, none, none, none, none, none, none, none, none, none, none, none, none, none, none, none, none, none, none, none, none, none, none, none, none, none, none, none, none, none, none, none, none, none, none, none, none, none, none, none, none, none, none, none, none, none, none, none, none, none, none, none, none, none, none, none, none, none, none, none, none, none, none, none, none, none, none, none, some 83, some 84, some 85, some 86, some 87, some 88, some 89, some 90, some 91, some 92, some 93, some 94, some 95, some 96, some 97, some 98, some 99, some 100, some 101, some 102, some 103, some 104] (by kernel_rfl) (by kernel_rfl) (by kernel_rfl) rfl B ?_ ?_ ?_ ?_ ?_
        · exact ⟨fun _ => ⟨by simp, rfl, OB3⟩, fun _ => ⟨by simp, rfl, OB4⟩, fun _ => ⟨by simp, rfl, OB5⟩, fun _ => ⟨by simp, rfl, OB8⟩, trivial⟩
        · exact .inl ⟨Nat.le_refl _, Nat.le_refl _, Nat.le_refl _, Nat.le_refl _, trivial⟩
        · exact ⟨⟨noWords_S _ _ _ _ _ _ _ _ _ _ _ _ _ _, (.inl (Nat.le_refl _)), (.inl (Nat.le_refl _))⟩, ⟨noWords_S _ _ _ _ _ _ _ _ _ _ _ _ _ _, (.inl (Nat.le_refl _)), (.inl (Nat.le_refl _))⟩, ⟨noWords_S _ _ _ _ _ _ _ _ _ _ _ _ _ _, (.inl (Nat.le_refl _)), (.inl (Nat.le_refl _))⟩, ⟨noWords_S _ _ _ _ _ _ _ _ _ _ _ _ _ _, (.inl (Nat.le_refl _)), (.inl (Nat.le_refl _))⟩, trivial⟩
        · refine ⟨?_, ?_, ?_, ?_, ?_, ?_, ?_, ?_, ?_, ?_, ?_, ?_, ?_, ?_, ?_, ?_, ?_, ?_, ?_, ?_, ?_, ?_, ?_, trivial⟩
          · exact .inr fun a w hp => ob_yes rfl (ob_loadSp (hp.box (k := 3) rfl (Nat.le_refl _) (.inl (Nat.le_refl _)) (by kernel_rfl) rfl).1 (hp.box (k := 3) rfl (Nat.le_refl _) (.inl (Nat.le_refl _)) (by kernel_rfl) rfl).2 rfl)
          · exact .inr fun a w hp => ob_yes rfl (ob_loadSp (hp.box (k := 0) rfl (Nat.le_refl _) (.inl (Nat.le_refl _)) (by kernel_rfl) rfl).1 (hp.box (k := 0) rfl (Nat.le_refl _) (.inl (Nat.le_refl _)) (by kernel_rfl) rfl).2 rfl)
          · refine .inr fun a w hp => ob_yes rfl ?_
            have h83 : a.tmps.getD 83 undef = .agg #[.bool ba8, .slice Aa8 na8 ca8, .slice Ba8 ma8 oa8, .bool bb8, .slice Ab8 nb8 cb8, .slice Bb8 mb8 ob8] := (hp.fact 0 83 (by kernel_rfl) rfl)
            have h84 : a.tmps.getD 84 undef = .agg #[.bool ba0, .slice Aa0 na0 ca0, .slice Ba0 ma0 oa0, .bool bb0, .slice Ab0 nb0 cb0, .slice Bb0 mb0 ob0] := (hp.fact 1 84 (by kernel_rfl) rfl)
            unfold Does
            go_simp
            refine (spins_any _ _ _ (rmax lo0 lo1) (rmin hi0 hi1) lo0 hi0 6 ((I8.kept hp.kept).sp le8) (T0.on hp.on) (by decide) (by decide)).mono ?_
            rintro e w' ⟨rfl, P8⟩
            exact ⟨_, rfl, P8, congrArg Value.bool (ins_true (le_rmax_l _ _) (rmin_le_l _ _))⟩
          · exact .inr fun a w hp => ob_yes rfl (ob_move (hp.fact 2 85 (by kernel_rfl) rfl))
          · exact .inr fun a w hp => ob_yes (wanted_yes (P := Try.prog) (j := 3) (d := 86) (b := true) rfl rfl (hp.fact 3 86 (by kernel_rfl) rfl)) (ob_loadSp (hp.box (k := 3) rfl (Nat.le_refl _) (.inl (Nat.le_refl _)) (by kernel_rfl) rfl).1 (hp.box (k := 3) rfl (Nat.le_refl _) (.inl (Nat.le_refl _)) (by kernel_rfl) rfl).2 rfl)
          · exact .inr fun a w hp => ob_yes (wanted_yes (P := Try.prog) (j := 3) (d := 86) (b := true) rfl rfl (hp.fact 3 86 (by kernel_rfl) rfl)) (ob_loadSp (hp.box (k := 1) rfl (Nat.le_refl _) (.inl (Nat.le_refl _)) (by kernel_rfl) rfl).1 (hp.box (k := 1) rfl (Nat.le_refl _) (.inl (Nat.le_refl _)) (by kernel_rfl) rfl).2 rfl)
          · refine .inr fun a w hp => ob_yes (wanted_yes (P := Try.prog) (j := 3) (d := 86) (b := true) rfl rfl (hp.fact 3 86 (by kernel_rfl) rfl)) ?_
            have h87 : a.tmps.getD 87 undef = .agg #[.bool ba8, .slice Aa8 na8 ca8, .slice Ba8 ma8 oa8, .bool bb8, .slice Ab8 nb8 cb8, .slice Bb8 mb8 ob8] := (hp.fact 4 87 (by kernel_rfl) rfl)
            have h88 : a.tmps.getD 88 undef = .agg #[.bool ba1, .slice Aa1 na1 ca1, .slice Ba1 ma1 oa1, .bool bb1, .slice Ab1 nb1 cb1, .slice Bb1 mb1 ob1] := (hp.fact 5 88 (by kernel_rfl) rfl)
            unfold Does
            go_simp
            refine (spins_any _ _ _ (rmax lo0 lo1) (rmin hi0 hi1) lo1 hi1 6 ((I8.kept hp.kept).sp le8) (T1.on hp.on) (by decide) (by decide)).mono ?_
            rintro e w' ⟨rfl, P8⟩
            exact ⟨_, rfl, P8, congrArg Value.bool (ins_true (le_rmax_r _ _) (rmin_le_r _ _))⟩
          · refine .inr fun a w hp => ob_yes rfl ?_
            have h86 : a.tmps.getD 86 undef = .bool true := (hp.fact 3 86 (by kernel_rfl) rfl)
            have h89 : a.tmps.getD 89 undef = .bool true := (hp.fact 6 89 (by kernel_rfl) rfl)
            unfold Does
            go_simp
            exact ⟨_, rfl, On.refl _, rfl⟩
          · exact .inr fun a w hp => ob_yes rfl (ob_move (hp.fact 7 90 (by kernel_rfl) rfl))
          · exact .inr fun a w hp => ob_yes (wanted_yes (P := Try.prog) (j := 8) (d := 91) (b := true) rfl rfl (hp.fact 8 91 (by kernel_rfl) rfl)) (ob_loadSp (hp.box (k := 2) rfl (Nat.le_refl _) (.inl (Nat.le_refl _)) (by kernel_rfl) rfl).1 (hp.box (k := 2) rfl (Nat.le_refl _) (.inl (Nat.le_refl _)) (by kernel_rfl) rfl).2 rfl)
          · exact .inr fun a w hp => ob_yes (wanted_yes (P := Try.prog) (j := 8) (d := 91) (b := true) rfl rfl (hp.fact 8 91 (by kernel_rfl) rfl)) (ob_loadSp (hp.box (k := 3) rfl (Nat.le_refl _) (.inl (Nat.le_refl _)) (by kernel_rfl) rfl).1 (hp.box (k := 3) rfl (Nat.le_refl _) (.inl (Nat.le_refl _)) (by kernel_rfl) rfl).2 rfl)
          · refine .inr fun a w hp => ob_yes (wanted_yes (P := Try.prog) (j := 8) (d := 91) (b := true) rfl rfl (hp.fact 8 91 (by kernel_rfl) rfl)) ?_
            have h92 : a.tmps.getD 92 undef = .agg #[.bool ba2, .slice Aa2 na2 ca2, .slice Ba2 ma2 oa2, .bool bb2, .slice Ab2 nb2 cb2, .slice Bb2 mb2 ob2] := (hp.fact 9 92 (by kernel_rfl) rfl)
            have h93 : a.tmps.getD 93 undef = .agg #[.bool ba8, .slice Aa8 na8 ca8, .slice Ba8 ma8 oa8, .bool bb8, .slice Ab8 nb8 cb8, .slice Bb8 mb8 ob8] := (hp.fact 10 93 (by kernel_rfl) rfl)
            unfold Does
            go_simp
            refine (spins_any _ _ _ lo2 hi2 (rmax lo0 lo1) (rmin hi0 hi1) 6 (T2.on hp.on) ((I8.kept hp.kept).sp le8) (by decide) (by decide)).mono ?_
            rintro e w' ⟨rfl, P8⟩
            exact ⟨_, rfl, P8, congrArg Value.bool (HPM.out.trans (Bool.true_and _))⟩
          · exact .inr fun a w hp => ob_yes (wanted_yes (P := Try.prog) (j := 8) (d := 91) (b := true) rfl rfl (hp.fact 8 91 (by kernel_rfl) rfl)) (ob_loadSp (hp.box (k := 2) rfl (Nat.le_refl _) (.inl (Nat.le_refl _)) (by kernel_rfl) rfl).1 (hp.box (k := 2) rfl (Nat.le_refl _) (.inl (Nat.le_refl _)) (by kernel_rfl) rfl).2 rfl)
          · exact .inr fun a w hp => ob_yes (wanted_yes (P := Try.prog) (j := 8) (d := 91) (b := true) rfl rfl (hp.fact 8 91 (by kernel_rfl) rfl)) (ob_loadSp (hp.box (k := 0) rfl (Nat.le_refl _) (.inl (Nat.le_refl _)) (by kernel_rfl) rfl).1 (hp.box (k := 0) rfl (Nat.le_refl _) (.inl (Nat.le_refl _)) (by kernel_rfl) rfl).2 rfl)
          · refine .inr fun a w hp => ob_yes (wanted_yes (P := Try.prog) (j := 8) (d := 91) (b := true) rfl rfl (hp.fact 8 91 (by kernel_rfl) rfl)) ?_
            have h95 : a.tmps.getD 95 undef = .agg #[.bool ba2, .slice Aa2 na2 ca2, .slice Ba2 ma2 oa2, .bool bb2, .slice Ab2 nb2 cb2, .slice Bb2 mb2 ob2] := (hp.fact 12 95 (by kernel_rfl) rfl)
            have h96 : a.tmps.getD 96 undef = .agg #[.bool ba0, .slice Aa0 na0 ca0, .slice Ba0 ma0 oa0, .bool bb0, .slice Ab0 nb0 cb0, .slice Bb0 mb0 ob0] := (hp.fact 13 96 (by kernel_rfl) rfl)
            unfold Does
            go_simp
            refine (spins_any _ _ _ lo2 hi2 lo0 hi0 6 (T2.on hp.on) (T0.on hp.on) (by decide) (by decide)).mono ?_
            rintro e w' ⟨rfl, P8⟩
            exact ⟨_, rfl, P8, congrArg Value.bool HP0.out⟩
          · exact .inr fun a w hp => ob_yes (wanted_yes (P := Try.prog) (j := 8) (d := 91) (b := true) rfl rfl (hp.fact 8 91 (by kernel_rfl) rfl)) (ob_move (hp.fact 14 97 (by kernel_rfl) rfl))
          · exact .inr fun a w hp => ob_yes (wanted_yes (P := Try.prog) (j := 15) (d := 98) (b := true) rfl rfl (hp.fact 15 98 (by kernel_rfl) rfl)) (ob_loadSp (hp.box (k := 2) rfl (Nat.le_refl _) (.inl (Nat.le_refl _)) (by kernel_rfl) rfl).1 (hp.box (k := 2) rfl (Nat.le_refl _) (.inl (Nat.le_refl _)) (by kernel_rfl) rfl).2 rfl)
          · exact .inr fun a w hp => ob_yes (wanted_yes (P := Try.prog) (j := 15) (d := 98) (b := true) rfl rfl (hp.fact 15 98 (by kernel_rfl) rfl)) (ob_loadSp (hp.box (k := 1) rfl (Nat.le_refl _) (.inl (Nat.le_refl _)) (by kernel_rfl) rfl).1 (hp.box (k := 1) rfl (Nat.le_refl _) (.inl (Nat.le_refl _)) (by kernel_rfl) rfl).2 rfl)
          · refine .inr fun a w hp => ob_yes (wanted_yes (P := Try.prog) (j := 15) (d := 98) (b := true) rfl rfl (hp.fact 15 98 (by kernel_rfl) rfl)) ?_
            have h99 : a.tmps.getD 99 undef = .agg #[.bool ba2, .slice Aa2 na2 ca2, .slice Ba2 ma2 oa2, .bool bb2, .slice Ab2 nb2 cb2, .slice Bb2 mb2 ob2] := (hp.fact 16 99 (by kernel_rfl) rfl)
            have h100 : a.tmps.getD 100 undef = .agg #[.bool ba1, .slice Aa1 na1 ca1, .slice Ba1 ma1 oa1, .bool bb1, .slice Ab1 nb1 cb1, .slice Bb1 mb1 ob1] := (hp.fact 17 100 (by kernel_rfl) rfl)
            unfold Does
            go_simp
            refine (spins_any _ _ _ lo2 hi2 lo1 hi1 6 (T2.on hp.on) (T1.on hp.on) (by decide) (by decide)).mono ?_
            rintro e w' ⟨rfl, P8⟩
            exact ⟨_, rfl, P8, congrArg Value.bool HP1.out⟩
          · refine .inr fun a w hp => ob_yes (wanted_yes (P := Try.prog) (j := 8) (d := 91) (b := true) rfl rfl (hp.fact 8 91 (by kernel_rfl) rfl)) ?_
            have h98 : a.tmps.getD 98 undef = .bool true := (hp.fact 15 98 (by kernel_rfl) rfl)
            have h101 : a.tmps.getD 101 undef = .bool p1 := (hp.fact 18 101 (by kernel_rfl) rfl)
            unfold Does
            go_simp
            exact ⟨_, rfl, On.refl _, rfl⟩
          · refine .inr fun a w hp => ob_yes (wanted_yes (P := Try.prog) (j := 8) (d := 91) (b := true) rfl rfl (hp.fact 8 91 (by kernel_rfl) rfl)) ?_
            have h94 : a.tmps.getD 94 undef = .bool p1 := (hp.fact 11 94 (by kernel_rfl) rfl)
            have h102 : a.tmps.getD 102 undef = .bool p1 := (hp.fact 19 102 (by kernel_rfl) rfl)
            unfold Does
            go_simp
            exact ⟨_, rfl, On.refl _, by show Value.bool _ = Value.bool _; first | rfl | (simp; done)⟩
          · refine .inr fun a w hp => ob_yes rfl ?_
            have h91 : a.tmps.getD 91 undef = .bool true := (hp.fact 8 91 (by kernel_rfl) rfl)
            have h103 : a.tmps.getD 103 undef = .bool true := (hp.fact 20 103 (by kernel_rfl) rfl)
            unfold Does
            go_simp
            exact ⟨_, rfl, On.refl _, rfl⟩
          · exact .inr fun a w hp => ob_yes rfl (ob_assign (hp.fact 21 104 (by kernel_rfl) rfl))
        · intro f wd hon hk hf hb hap
          obtain ⟨q0, q1, q2, q3, qz⟩ := hb
          clear qz
          have O3 : Own wd (w.heap.size) 38 #[.bool ba0, .slice Aa0 na0 ca0, .slice Ba0 ma0 oa0, .bool bb0, .slice Ab0 nb0 cb0, .slice Bb0 mb0 ob0] := q0
          have c3_0 : wd.cell? ⟨w.heap.size, 0, none⟩ = some (.bool ba0) := O3.cell 0
          have z3_0 := O3.frozen 0
          have c3_1 : wd.cell? ⟨w.heap.size, 1, none⟩ = some (.slice Aa0 na0 ca0) := O3.cell 1
          have z3_1 := O3.frozen 1
          have c3_2 : wd.cell? ⟨w.heap.size, 2, none⟩ = some (.slice Ba0 ma0 oa0) := O3.cell 2
          have z3_2 := O3.frozen 2
          have c3_3 : wd.cell? ⟨w.heap.size, 3, none⟩ = some (.bool bb0) := O3.cell 3
          have z3_3 := O3.frozen 3
          have c3_4 : wd.cell? ⟨w.heap.size, 4, none⟩ = some (.slice Ab0 nb0 cb0) := O3.cell 4
          have z3_4 := O3.frozen 4
          have c3_5 : wd.cell? ⟨w.heap.size, 5, none⟩ = some (.slice Bb0 mb0 ob0) := O3.cell 5
          have z3_5 := O3.frozen 5
          clear q0
          have O4 : Own wd (w.heap.size + 1) 38 #[.bool ba1, .slice Aa1 na1 ca1, .slice Ba1 ma1 oa1, .bool bb1, .slice Ab1 nb1 cb1, .slice Bb1 mb1 ob1] := q1
          have c4_0 : wd.cell? ⟨w.heap.size + 1, 0, none⟩ = some (.bool ba1) := O4.cell 0
          have z4_0 := O4.frozen 0
          have c4_1 : wd.cell? ⟨w.heap.size + 1, 1, none⟩ = some (.slice Aa1 na1 ca1) := O4.cell 1
          have z4_1 := O4.frozen 1
          have c4_2 : wd.cell? ⟨w.heap.size + 1, 2, none⟩ = some (.slice Ba1 ma1 oa1) := O4.cell 2
          have z4_2 := O4.frozen 2
          have c4_3 : wd.cell? ⟨w.heap.size + 1, 3, none⟩ = some (.bool bb1) := O4.cell 3
          have z4_3 := O4.frozen 3
          have c4_4 : wd.cell? ⟨w.heap.size + 1, 4, none⟩ = some (.slice Ab1 nb1 cb1) := O4.cell 4
          have z4_4 := O4.frozen 4
          have c4_5 : wd.cell? ⟨w.heap.size + 1, 5, none⟩ = some (.slice Bb1 mb1 ob1) := O4.cell 5
          have z4_5 := O4.frozen 5
          clear q1
          have O5 : Own wd (w.heap.size + 2) 38 #[.bool ba2, .slice Aa2 na2 ca2, .slice Ba2 ma2 oa2, .bool bb2, .slice Ab2 nb2 cb2, .slice Bb2 mb2 ob2] := q2
          have c5_0 : wd.cell? ⟨w.heap.size + 2, 0, none⟩ = some (.bool ba2) := O5.cell 0
          have z5_0 := O5.frozen 0
          have c5_1 : wd.cell? ⟨w.heap.size + 2, 1, none⟩ = some (.slice Aa2 na2 ca2) := O5.cell 1
          have z5_1 := O5.frozen 1
          have c5_2 : wd.cell? ⟨w.heap.size + 2, 2, none⟩ = some (.slice Ba2 ma2 oa2) := O5.cell 2
          have z5_2 := O5.frozen 2
          have c5_3 : wd.cell? ⟨w.heap.size + 2, 3, none⟩ = some (.bool bb2) := O5.cell 3
          have z5_3 := O5.frozen 3
          have c5_4 : wd.cell? ⟨w.heap.size + 2, 4, none⟩ = some (.slice Ab2 nb2 cb2) := O5.cell 4
          have z5_4 := O5.frozen 4
          have c5_5 : wd.cell? ⟨w.heap.size + 2, 5, none⟩ = some (.slice Bb2 mb2 ob2) := O5.cell 5
          have z5_5 := O5.frozen 5
          clear q2
          have O8 : Own wd (w8.heap.size) 38 #[.bool ba8, .slice Aa8 na8 ca8, .slice Ba8 ma8 oa8, .bool bb8, .slice Ab8 nb8 cb8, .slice Bb8 mb8 ob8] := q3
          have c8_0 : wd.cell? ⟨w8.heap.size, 0, none⟩ = some (.bool ba8) := O8.cell 0
          have z8_0 := O8.frozen 0
          have c8_1 : wd.cell? ⟨w8.heap.size, 1, none⟩ = some (.slice Aa8 na8 ca8) := O8.cell 1
          have z8_1 := O8.frozen 1
          have c8_2 : wd.cell? ⟨w8.heap.size, 2, none⟩ = some (.slice Ba8 ma8 oa8) := O8.cell 2
          have z8_2 := O8.frozen 2
          have c8_3 : wd.cell? ⟨w8.heap.size, 3, none⟩ = some (.bool bb8) := O8.cell 3
          have z8_3 := O8.frozen 3
          have c8_4 : wd.cell? ⟨w8.heap.size, 4, none⟩ = some (.slice Ab8 nb8 cb8) := O8.cell 4
          have z8_4 := O8.frozen 4
          have c8_5 : wd.cell? ⟨w8.heap.size, 5, none⟩ = some (.slice Bb8 mb8 ob8) := O8.cell 5
          have z8_5 := O8.frozen 5
          clear q3
          have e6 : f 6 = .bool true := hf 22 6 rfl
          clear hf hap
          simp only [fillL, e6]
          clear e6
          go_wp2
          go_ret
          exact ⟨rfl, hon⟩
  · refine wp_region_facts (by kernel_rfl) w [Fact.eq (.agg #[.bool ba0, .slice Aa0 na0 ca0, .slice Ba0 ma0 oa0, .bool bb0, .slice Ab0 nb0 cb0, .slice Bb0 mb0 ob0]), Fact.eq (.agg #[.bool ba7, .slice Aa7 na7 ca7, .slice Ba7 ma7 oa7, .bool bb7, .slice Ab7 nb7 cb7, .slice Bb7 mb7 ob7]), Fact.eq (.bool true), Fact.eq (.bool false), Fact.eq (.bool false), Fact.eq (.agg #[.bool ba1, .slice Aa1 na1 ca1, .slice Ba1 ma1 oa1, .bool bb1, .slice Ab1 nb1 cb1, .slice Bb1 mb1 ob1]), Fact.eq (.agg #[.bool ba7, .slice Aa7 na7 ca7, .slice Ba7 ma7 oa7, .bool bb7, .slice Ab7 nb7 cb7, .slice Bb7 mb7 ob7]), Fact.eq (.bool true), Fact.eq (.bool false), Fact.eq (.bool false), Fact.eq (.bool false), Fact.eq (.agg #[.bool ba7, .slice Aa7 na7 ca7, .slice Ba7 ma7 oa7, .bool bb7, .slice Ab7 nb7 cb7, .slice Bb7 mb7 ob7]), Fact.eq (.agg #[.bool ba2, .slice Aa2 na2 ca2, .slice Ba2 ma2 oa2, .bool bb2, .slice Ab2 nb2 cb2, .slice Bb2 mb2 ob2]), Fact.eq (.bool q1), Fact.eq (.agg #[.bool ba0, .slice Aa0 na0 ca0, .slice Ba0 ma0 oa0, .bool bb0, .slice Ab0 nb0 cb0, .slice Bb0 mb0 ob0]), Fact.eq (.agg #[.bool ba2, .slice Aa2 na2 ca2, .slice Ba2 ma2 oa2, .bool bb2, .slice Ab2 nb2 cb2, .slice Bb2 mb2 ob2]), Fact.eq (.bool true), Fact.eq (.bool true), Fact.eq (.agg #[.bool ba1, .slice Aa1 na1 ca1, .slice Ba1 ma1 oa1, .bool bb1, .slice Ab1 nb1 cb1, .slice Bb1 mb1 ob1]), Fact.eq (.agg #[.bool ba2, .slice Aa2 na2 ca2, .slice Ba2 ma2 oa2, .bool bb2, .slice Ab2 nb2 cb2, .slice Bb2 mb2 ob2]), Fact.eq (.bool q1), Fact.eq (.bool q1), Fact.eq (.bool false), Fact.eq (.bool false)] [Fact.any, Fact.any, Fact.any, Fact.any] [⟨24, 3, 38, 24, #[.bool ba0, .slice Aa0 na0 ca0, .slice Ba0 ma0 oa0, .bool bb0, .slice Ab0 nb0 cb0, .slice Bb0 mb0 ob0]⟩, ⟨24, 4, 38, 24, #[.bool ba1, .slice Aa1 na1 ca1, .slice Ba1 ma1 oa1, .bool bb1, .slice Ab1 nb1 cb1, .slice Bb1 mb1 ob1]⟩, ⟨24, 5, 38, 24, #[.bool ba2, .slice Aa2 na2 ca2, .slice Ba2 ma2 oa2, .bool bb2, .slice Ab2 nb2 cb2, .slice Bb2 mb2 ob2]⟩, ⟨24, 7, 38, 24, #[.bool ba7, .slice Aa7 na7 ca7, .slice Ba7 ma7 oa7, .bool bb7, .slice Ab7 nb7 cb7, .slice Bb7 mb7 ob7]⟩] [w.heap.size, w.heap.size + 1, w.heap.size + 2, w7.heap.size] [none, none, none, none, none, none, none, none, none, none, none, none, none, none, none, none, none, none, none, none, none, none, none, none, none, none, none, none, none, none, none, none, none, none, none, none, none, none, some 38, some 39, some 40, some 41, some 42, some 43, some 44, some 45, some 46, some 47, some 48, some 49, some 50, some 51, some 52, some 53, some 54, some 55, some 56, some 57, some 58, some 59, some 60, some 61, none, none, none, none, none, none, none, none, none, none, none, none, none, none, none, none, none, none, none, none, none, none, none, none, none, none, none, none, none, none, none, none, none, none, none, none, none, none, none, none, none, none, none] (by kernel_rfl) (by kernel_rfl) (by kernel_rfl) rfl B ?_ ?_ ?_ ?_ ?_
    · exact ⟨fun _ => ⟨by simp, rfl, OB3⟩, fun _ => ⟨by simp, rfl, OB4⟩, fun _ => ⟨by simp, rfl, OB5⟩, fun _ => ⟨by simp, rfl, OB7⟩, trivial⟩
    · exact .inl ⟨Nat.le_refl _, Nat.le_refl _, Nat.le_refl _, Nat.le_refl _, trivial⟩
    · exact ⟨⟨noWords_S _ _ _ _ _ _ _ _ _ _ _ _ _ _, (.inl (Nat.le_refl _)), (.inl (Nat.le_refl _))⟩, ⟨noWords_S _ _ _ _ _ _ _ _ _ _ _ _ _ _, (.inl (Nat.le_refl _)), (.inl (Nat.le_refl _))⟩, ⟨noWords_S _ _ _ _ _ _ _ _ _ _ _ _ _ _, (.inl (Nat.le_refl _)), (.inl (Nat.le_refl _))⟩, ⟨noWords_S _ _ _ _ _ _ _ _ _ _ _ _ _ _, (.inl (Nat.le_refl _)), (.inl (Nat.le_refl _))⟩, trivial⟩
    · refine ⟨?_, ?_, ?_, ?_, ?_, ?_, ?_, ?_, ?_, ?_, ?_, ?_, ?_, ?_, ?_, ?_, ?_, ?_, ?_, ?_, ?_, ?_, ?_, ?_, trivial⟩
      · exact .inr fun a w hp => ob_yes rfl (ob_loadSp (hp.box (k := 0) rfl (Nat.le_refl _) (.inl (Nat.le_refl _)) (by kernel_rfl) rfl).1 (hp.box (k := 0) rfl (Nat.le_refl _) (.inl (Nat.le_refl _)) (by kernel_rfl) rfl).2 rfl)
      · exact .inr fun a w hp => ob_yes rfl (ob_loadSp (hp.box (k := 3) rfl (Nat.le_refl _) (.inl (Nat.le_refl _)) (by kernel_rfl) rfl).1 (hp.box (k := 3) rfl (Nat.le_refl _) (.inl (Nat.le_refl _)) (by kernel_rfl) rfl).2 rfl)
      · refine .inr fun a w hp => ob_yes rfl ?_
        have h38 : a.tmps.getD 38 undef = .agg #[.bool ba0, .slice Aa0 na0 ca0, .slice Ba0 ma0 oa0, .bool bb0, .slice Ab0 nb0 cb0, .slice Bb0 mb0 ob0] := (hp.fact 0 38 (by kernel_rfl) rfl)
        have h39 : a.tmps.getD 39 undef = .agg #[.bool ba7, .slice Aa7 na7 ca7, .slice Ba7 ma7 oa7, .bool bb7, .slice Ab7 nb7 cb7, .slice Bb7 mb7 ob7] := (hp.fact 1 39 (by kernel_rfl) rfl)
        unfold Does
        go_simp
        refine (spins_any _ _ _ lo0 hi0 (rmin lo0 lo1) (rmax hi0 hi1) 6 (T0.on hp.on) ((I7.kept hp.kept).sp le7) (by decide) (by decide)).mono ?_
        rintro e w' ⟨rfl, P8⟩
        exact ⟨_, rfl, P8, congrArg Value.bool (ins_true (rmin_le_l _ _) (le_rmax_l _ _))⟩
      · refine .inr fun a w hp => ob_yes rfl ?_
        have h40 : a.tmps.getD 40 undef = .bool true := (hp.fact 2 40 (by kernel_rfl) rfl)
        unfold Does
        go_simp
        exact ⟨_, rfl, On.refl _, by show Value.bool _ = Value.bool _; first | rfl | (simp; done)⟩
      · exact .inr fun a w hp => ob_yes rfl (ob_move (hp.fact 3 41 (by kernel_rfl) rfl))
      · exact .inr fun a w hp => ob_yes (wanted_yes (P := Try.prog) (j := 4) (d := 42) (b := false) rfl rfl (hp.fact 4 42 (by kernel_rfl) rfl)) (ob_loadSp (hp.box (k := 1) rfl (Nat.le_refl _) (.inl (Nat.le_refl _)) (by kernel_rfl) rfl).1 (hp.box (k := 1) rfl (Nat.le_refl _) (.inl (Nat.le_refl _)) (by kernel_rfl) rfl).2 rfl)
      · exact .inr fun a w hp => ob_yes (wanted_yes (P := Try.prog) (j := 4) (d := 42) (b := false) rfl rfl (hp.fact 4 42 (by kernel_rfl) rfl)) (ob_loadSp (hp.box (k := 3) rfl (Nat.le_refl _) (.inl (Nat.le_refl _)) (by kernel_rfl) rfl).1 (hp.box (k := 3) rfl (Nat.le_refl _) (.inl (Nat.le_refl _)) (by kernel_rfl) rfl).2 rfl)
      · refine .inr fun a w hp => ob_yes (wanted_yes (P := Try.prog) (j := 4) (d := 42) (b := false) rfl rfl (hp.fact 4 42 (by kernel_rfl) rfl)) ?_
        have h43 : a.tmps.getD 43 undef = .agg #[.bool ba1, .slice Aa1 na1 ca1, .slice Ba1 ma1 oa1, .bool bb1, .slice Ab1 nb1 cb1, .slice Bb1 mb1 ob1] := (hp.fact 5 43 (by kernel_rfl) rfl)
        have h44 : a.tmps.getD 44 undef = .agg #[.bool ba7, .slice Aa7 na7 ca7, .slice Ba7 ma7 oa7, .bool bb7, .slice Ab7 nb7 cb7, .slice Bb7 mb7 ob7] := (hp.fact 6 44 (by kernel_rfl) rfl)
        unfold Does
        go_simp
        refine (spins_any _ _ _ lo1 hi1 (rmin lo0 lo1) (rmax hi0 hi1) 6 (T1.on hp.on) ((I7.kept hp.kept).sp le7) (by decide) (by decide)).mono ?_
        rintro e w' ⟨rfl, P8⟩
        exact ⟨_, rfl, P8, congrArg Value.bool (ins_true (rmin_le_r _ _) (le_rmax_r _ _))⟩
      · refine .inr fun a w hp => ob_yes (wanted_yes (P := Try.prog) (j := 4) (d := 42) (b := false) rfl rfl (hp.fact 4 42 (by kernel_rfl) rfl)) ?_
        have h45 : a.tmps.getD 45 undef = .bool true := (hp.fact 7 45 (by kernel_rfl) rfl)
        unfold Does
        go_simp
        exact ⟨_, rfl, On.refl _, by show Value.bool _ = Value.bool _; first | rfl | (simp; done)⟩
      · refine .inr fun a w hp => ob_yes rfl ?_
        have h42 : a.tmps.getD 42 undef = .bool false := (hp.fact 4 42 (by kernel_rfl) rfl)
        have h46 : a.tmps.getD 46 undef = .bool false := (hp.fact 8 46 (by kernel_rfl) rfl)
        unfold Does
        go_simp
        exact ⟨_, rfl, On.refl _, rfl⟩
      · exact .inr fun a w hp => ob_yes rfl (ob_move (hp.fact 9 47 (by kernel_rfl) rfl))
      · exact .inr fun a w hp => ob_yes (wanted_yes (P := Try.prog) (j := 10) (d := 48) (b := false) rfl rfl (hp.fact 10 48 (by kernel_rfl) rfl)) (ob_loadSp (hp.box (k := 3) rfl (Nat.le_refl _) (.inl (Nat.le_refl _)) (by kernel_rfl) rfl).1 (hp.box (k := 3) rfl (Nat.le_refl _) (.inl (Nat.le_refl _)) (by kernel_rfl) rfl).2 rfl)
      · exact .inr fun a w hp => ob_yes (wanted_yes (P := Try.prog) (j := 10) (d := 48) (b := false) rfl rfl (hp.fact 10 48 (by kernel_rfl) rfl)) (ob_loadSp (hp.box (k := 2) rfl (Nat.le_refl _) (.inl (Nat.le_refl _)) (by kernel_rfl) rfl).1 (hp.box (k := 2) rfl (Nat.le_refl _) (.inl (Nat.le_refl _)) (by kernel_rfl) rfl).2 rfl)
      · refine .inr fun a w hp => ob_yes (wanted_yes (P := Try.prog) (j := 10) (d := 48) (b := false) rfl rfl (hp.fact 10 48 (by kernel_rfl) rfl)) ?_
        have h49 : a.tmps.getD 49 undef = .agg #[.bool ba7, .slice Aa7 na7 ca7, .slice Ba7 ma7 oa7, .bool bb7, .slice Ab7 nb7 cb7, .slice Bb7 mb7 ob7] := (hp.fact 11 49 (by kernel_rfl) rfl)
        have h50 : a.tmps.getD 50 undef = .agg #[.bool ba2, .slice Aa2 na2 ca2, .slice Ba2 ma2 oa2, .bool bb2, .slice Ab2 nb2 cb2, .slice Bb2 mb2 ob2] := (hp.fact 12 50 (by kernel_rfl) rfl)
        unfold Does
        go_simp
        refine (spins_any _ _ _ (rmin lo0 lo1) (rmax hi0 hi1) lo2 hi2 6 ((I7.kept hp.kept).sp le7) (T2.on hp.on) (by decide) (by decide)).mono ?_
        rintro e w' ⟨rfl, P8⟩
        exact ⟨_, rfl, P8, congrArg Value.bool (HQH.out.trans (Bool.true_and _))⟩
      · exact .inr fun a w hp => ob_yes (wanted_yes (P := Try.prog) (j := 10) (d := 48) (b := false) rfl rfl (hp.fact 10 48 (by kernel_rfl) rfl)) (ob_loadSp (hp.box (k := 0) rfl (Nat.le_refl _) (.inl (Nat.le_refl _)) (by kernel_rfl) rfl).1 (hp.box (k := 0) rfl (Nat.le_refl _) (.inl (Nat.le_refl _)) (by kernel_rfl) rfl).2 rfl)
      · exact .inr fun a w hp => ob_yes (wanted_yes (P := Try.prog) (j := 10) (d := 48) (b := false) rfl rfl (hp.fact 10 48 (by kernel_rfl) rfl)) (ob_loadSp (hp.box (k := 2) rfl (Nat.le_refl _) (.inl (Nat.le_refl _)) (by kernel_rfl) rfl).1 (hp.box (k := 2) rfl (Nat.le_refl _) (.inl (Nat.le_refl _)) (by kernel_rfl) rfl).2 rfl)
      · refine .inr fun a w hp => ob_yes (wanted_yes (P := Try.prog) (j := 10) (d := 48) (b := false) rfl rfl (hp.fact 10 48 (by kernel_rfl) rfl)) ?_
        have h52 : a.tmps.getD 52 undef = .agg #[.bool ba0, .slice Aa0 na0 ca0, .slice Ba0 ma0 oa0, .bool bb0, .slice Ab0 nb0 cb0, .slice Bb0 mb0 ob0] := (hp.fact 14 52 (by kernel_rfl) rfl)
        have h53 : a.tmps.getD 53 undef = .agg #[.bool ba2, .slice Aa2 na2 ca2, .slice Ba2 ma2 oa2, .bool bb2, .slice Ab2 nb2 cb2, .slice Bb2 mb2 ob2] := (hp.fact 15 53 (by kernel_rfl) rfl)
        unfold Does
        go_simp
        refine (spins_any _ _ _ lo0 hi0 lo2 hi2 6 (T0.on hp.on) (T2.on hp.on) (by decide) (by decide)).mono ?_
        rintro e w' ⟨rfl, P8⟩
        exact ⟨_, rfl, P8, congrArg Value.bool HQ0.out⟩
      · exact .inr fun a w hp => ob_yes (wanted_yes (P := Try.prog) (j := 10) (d := 48) (b := false) rfl rfl (hp.fact 10 48 (by kernel_rfl) rfl)) (ob_move (hp.fact 16 54 (by kernel_rfl) rfl))
      · exact .inr fun a w hp => ob_yes (wanted_yes (P := Try.prog) (j := 17) (d := 55) (b := true) rfl rfl (hp.fact 17 55 (by kernel_rfl) rfl)) (ob_loadSp (hp.box (k := 1) rfl (Nat.le_refl _) (.inl (Nat.le_refl _)) (by kernel_rfl) rfl).1 (hp.box (k := 1) rfl (Nat.le_refl _) (.inl (Nat.le_refl _)) (by kernel_rfl) rfl).2 rfl)
      · exact .inr fun a w hp => ob_yes (wanted_yes (P := Try.prog) (j := 17) (d := 55) (b := true) rfl rfl (hp.fact 17 55 (by kernel_rfl) rfl)) (ob_loadSp (hp.box (k := 2) rfl (Nat.le_refl _) (.inl (Nat.le_refl _)) (by kernel_rfl) rfl).1 (hp.box (k := 2) rfl (Nat.le_refl _) (.inl (Nat.le_refl _)) (by kernel_rfl) rfl).2 rfl)
      · refine .inr fun a w hp => ob_yes (wanted_yes (P := Try.prog) (j := 17) (d := 55) (b := true) rfl rfl (hp.fact 17 55 (by kernel_rfl) rfl)) ?_
        have h56 : a.tmps.getD 56 undef = .agg #[.bool ba1, .slice Aa1 na1 ca1, .slice Ba1 ma1 oa1, .bool bb1, .slice Ab1 nb1 cb1, .slice Bb1 mb1 ob1] := (hp.fact 18 56 (by kernel_rfl) rfl)
        have h57 : a.tmps.getD 57 undef = .agg #[.bool ba2, .slice Aa2 na2 ca2, .slice Ba2 ma2 oa2, .bool bb2, .slice Ab2 nb2 cb2, .slice Bb2 mb2 ob2] := (hp.fact 19 57 (by kernel_rfl) rfl)
        unfold Does
        go_simp
        refine (spins_any _ _ _ lo1 hi1 lo2 hi2 6 (T1.on hp.on) (T2.on hp.on) (by decide) (by decide)).mono ?_
        rintro e w' ⟨rfl, P8⟩
        exact ⟨_, rfl, P8, congrArg Value.bool HQ1.out⟩
      · refine .inr fun a w hp => ob_yes (wanted_yes (P := Try.prog) (j := 10) (d := 48) (b := false) rfl rfl (hp.fact 10 48 (by kernel_rfl) rfl)) ?_
        have h55 : a.tmps.getD 55 undef = .bool true := (hp.fact 17 55 (by kernel_rfl) rfl)
        have h58 : a.tmps.getD 58 undef = .bool q1 := (hp.fact 20 58 (by kernel_rfl) rfl)
        unfold Does
        go_simp
        exact ⟨_, rfl, On.refl _, rfl⟩
      · refine .inr fun a w hp => ob_yes (wanted_yes (P := Try.prog) (j := 10) (d := 48) (b := false) rfl rfl (hp.fact 10 48 (by kernel_rfl) rfl)) ?_
        have h51 : a.tmps.getD 51 undef = .bool q1 := (hp.fact 13 51 (by kernel_rfl) rfl)
        have h59 : a.tmps.getD 59 undef = .bool q1 := (hp.fact 21 59 (by kernel_rfl) rfl)
        unfold Does
        go_simp
        exact ⟨_, rfl, On.refl _, by show Value.bool _ = Value.bool _; first | rfl | (simp; done)⟩
      · refine .inr fun a w hp => ob_yes rfl ?_
        have h48 : a.tmps.getD 48 undef = .bool false := (hp.fact 10 48 (by kernel_rfl) rfl)
        have h60 : a.tmps.getD 60 undef = .bool false := (hp.fact 22 60 (by kernel_rfl) rfl)
        unfold Does
        go_simp
        exact ⟨_, rfl, On.refl _, rfl⟩
    · intro f wr hon hk hf hb hap
      obtain ⟨q0, q1, q2, q3, qz⟩ := hb
      clear qz
      have O3 : Own wr (w.heap.size) 38 #[.bool ba0, .slice Aa0 na0 ca0, .slice Ba0 ma0 oa0, .bool bb0, .slice Ab0 nb0 cb0, .slice Bb0 mb0 ob0] := q0
      have c3_0 : wr.cell? ⟨w.heap.size, 0, none⟩ = some (.bool ba0) := O3.cell 0
      have z3_0 := O3.frozen 0
      have c3_1 : wr.cell? ⟨w.heap.size, 1, none⟩ = some (.slice Aa0 na0 ca0) := O3.cell 1
      have z3_1 := O3.frozen 1
      have c3_2 : wr.cell? ⟨w.heap.size, 2, none⟩ = some (.slice Ba0 ma0 oa0) := O3.cell 2
      have z3_2 := O3.frozen 2
      have c3_3 : wr.cell? ⟨w.heap.size, 3, none⟩ = some (.bool bb0) := O3.cell 3
      have z3_3 := O3.frozen 3
      have c3_4 : wr.cell? ⟨w.heap.size, 4, none⟩ = some (.slice Ab0 nb0 cb0) := O3.cell 4
      have z3_4 := O3.frozen 4
      have c3_5 : wr.cell? ⟨w.heap.size, 5, none⟩ = some (.slice Bb0 mb0 ob0) := O3.cell 5
      have z3_5 := O3.frozen 5
      clear q0
      have O4 : Own wr (w.heap.size + 1) 38 #[.bool ba1, .slice Aa1 na1 ca1, .slice Ba1 ma1 oa1, .bool bb1, .slice Ab1 nb1 cb1, .slice Bb1 mb1 ob1] := q1
      have c4_0 : wr.cell? ⟨w.heap.size + 1, 0, none⟩ = some (.bool ba1) := O4.cell 0
      have z4_0 := O4.frozen 0
      have c4_1 : wr.cell? ⟨w.heap.size + 1, 1, none⟩ = some (.slice Aa1 na1 ca1) := O4.cell 1
      have z4_1 := O4.frozen 1
      have c4_2 : wr.cell? ⟨w.heap.size + 1, 2, none⟩ = some (.slice Ba1 ma1 oa1) := O4.cell 2
      have z4_2 := O4.frozen 2
      have c4_3 : wr.cell? ⟨w.heap.size + 1, 3, none⟩ = some (.bool bb1) := O4.cell 3
      have z4_3 := O4.frozen 3
      have c4_4 : wr.cell? ⟨w.heap.size + 1, 4, none⟩ = some (.slice Ab1 nb1 cb1) := O4.cell 4
      have z4_4 := O4.frozen 4
      have c4_5 : wr.cell? ⟨w.heap.size + 1, 5, none⟩ = some (.slice Bb1 mb1 ob1) := O4.cell 5
      have z4_5 := O4.frozen 5
      clear q1
      have O5 : Own wr (w.heap.size + 2) 38 #[.bool ba2, .slice Aa2 na2 ca2, .slice Ba2 ma2 oa2, .bool bb2, .slice Ab2 nb2 cb2, .slice Bb2 mb2 ob2] := q2
      have c5_0 : wr.cell? ⟨w.heap.size + 2, 0, none⟩ = some (.bool ba2) := O5.cell 0
      have z5_0 := O5.frozen 0
      have c5_1 : wr.cell? ⟨w.heap.size + 2, 1, none⟩ = some (.slice Aa2 na2 ca2) := O5.cell 1
      have z5_1 := O5.frozen 1
      have c5_2 : wr.cell? ⟨w.heap.size + 2, 2, none⟩ = some (.slice Ba2 ma2 oa2) := O5.cell 2
      have z5_2 := O5.frozen 2
      have c5_3 : wr.cell? ⟨w.heap.size + 2, 3, none⟩ = some (.bool bb2) := O5.cell 3
      have z5_3 := O5.frozen 3
      have c5_4 : wr.cell? ⟨w.heap.size + 2, 4, none⟩ = some (.slice Ab2 nb2 cb2) := O5.cell 4
      have z5_4 := O5.frozen 4
      have c5_5 : wr.cell? ⟨w.heap.size + 2, 5, none⟩ = some (.slice Bb2 mb2 ob2) := O5.cell 5
      have z5_5 := O5.frozen 5
      clear q2
      have O7 : Own wr (w7.heap.size) 38 #[.bool ba7, .slice Aa7 na7 ca7, .slice Ba7 ma7 oa7, .bool bb7, .slice Ab7 nb7 cb7, .slice Bb7 mb7 ob7] := q3
      have c7_0 : wr.cell? ⟨w7.heap.size, 0, none⟩ = some (.bool ba7) := O7.cell 0
      have z7_0 := O7.frozen 0
      have c7_1 : wr.cell? ⟨w7.heap.size, 1, none⟩ = some (.slice Aa7 na7 ca7) := O7.cell 1
      have z7_1 := O7.frozen 1
      have c7_2 : wr.cell? ⟨w7.heap.size, 2, none⟩ = some (.slice Ba7 ma7 oa7) := O7.cell 2
      have z7_2 := O7.frozen 2
      have c7_3 : wr.cell? ⟨w7.heap.size, 3, none⟩ = some (.bool bb7) := O7.cell 3
      have z7_3 := O7.frozen 3
      have c7_4 : wr.cell? ⟨w7.heap.size, 4, none⟩ = some (.slice Ab7 nb7 cb7) := O7.cell 4
      have z7_4 := O7.frozen 4
      have c7_5 : wr.cell? ⟨w7.heap.size, 5, none⟩ = some (.slice Bb7 mb7 ob7) := O7.cell 5
      have z7_5 := O7.frozen 5
      clear q3
      have e61 : f 61 = .bool false := hf 23 61 rfl
      clear hf hap
      simp only [fillL, e61]
      clear e61
      have OB3 : w.heap.size ≤ w.heap.size ∧ Own wr (w.heap.size) 38 #[.bool ba0, .slice Aa0 na0 ca0, .slice Ba0 ma0 oa0, .bool bb0, .slice Ab0 nb0 cb0, .slice Bb0 mb0 ob0] := ⟨by omega, O3⟩
      clear c3_0 z3_0 c3_1 z3_1 c3_2 z3_2 c3_3 z3_3 c3_4 z3_4 c3_5 z3_5 O3
      have OB4 : w.heap.size ≤ w.heap.size + 1 ∧ Own wr (w.heap.size + 1) 38 #[.bool ba1, .slice Aa1 na1 ca1, .slice Ba1 ma1 oa1, .bool bb1, .slice Ab1 nb1 cb1, .slice Bb1 mb1 ob1] := ⟨by omega, O4⟩
      clear c4_0 z4_0 c4_1 z4_1 c4_2 z4_2 c4_3 z4_3 c4_4 z4_4 c4_5 z4_5 O4
      have OB5 : w.heap.size ≤ w.heap.size + 2 ∧ Own wr (w.heap.size + 2) 38 #[.bool ba2, .slice Aa2 na2 ca2, .slice Ba2 ma2 oa2, .bool bb2, .slice Ab2 nb2 cb2, .slice Bb2 mb2 ob2] := ⟨by omega, O5⟩
      clear c5_0 z5_0 c5_1 z5_1 c5_2 z5_2 c5_3 z5_3 c5_4 z5_4 c5_5 z5_5 O5
      clear c7_0 z7_0 c7_1 z7_1 c7_2 z7_2 c7_3 z7_3 c7_4 z7_4 c7_5 z7_5 O7 OB7 I7
      clear B
      have B := hon
      clear hon hk
      have y3_0 : wr.cell? ⟨w.heap.size, 0, none⟩ = some (.bool ba0) := OB3.2.cell 0
      have y3_1 : wr.cell? ⟨w.heap.size, 1, none⟩ = some (.slice Aa0 na0 ca0) := OB3.2.cell 1
      have y3_2 : wr.cell? ⟨w.heap.size, 2, none⟩ = some (.slice Ba0 ma0 oa0) := OB3.2.cell 2
      have y3_3 : wr.cell? ⟨w.heap.size, 3, none⟩ = some (.bool bb0) := OB3.2.cell 3
      have y3_4 : wr.cell? ⟨w.heap.size, 4, none⟩ = some (.slice Ab0 nb0 cb0) := OB3.2.cell 4
      have y3_5 : wr.cell? ⟨w.heap.size, 5, none⟩ = some (.slice Bb0 mb0 ob0) := OB3.2.cell 5
      have y3_f0 := OB3.2.frozen 0
      have y3_f1 := OB3.2.frozen 1
      have y3_f2 := OB3.2.frozen 2
      have y3_f3 := OB3.2.frozen 3
      have y3_f4 := OB3.2.frozen 4
      have y3_f5 := OB3.2.frozen 5
      have y4_0 : wr.cell? ⟨w.heap.size + 1, 0, none⟩ = some (.bool ba1) := OB4.2.cell 0
      have y4_1 : wr.cell? ⟨w.heap.size + 1, 1, none⟩ = some (.slice Aa1 na1 ca1) := OB4.2.cell 1
      have y4_2 : wr.cell? ⟨w.heap.size + 1, 2, none⟩ = some (.slice Ba1 ma1 oa1) := OB4.2.cell 2
      have y4_3 : wr.cell? ⟨w.heap.size + 1, 3, none⟩ = some (.bool bb1) := OB4.2.cell 3
      have y4_4 : wr.cell? ⟨w.heap.size + 1, 4, none⟩ = some (.slice Ab1 nb1 cb1) := OB4.2.cell 4
      have y4_5 : wr.cell? ⟨w.heap.size + 1, 5, none⟩ = some (.slice Bb1 mb1 ob1) := OB4.2.cell 5
      have y4_f0 := OB4.2.frozen 0
      have y4_f1 := OB4.2.frozen 1
      have y4_f2 := OB4.2.frozen 2
      have y4_f3 := OB4.2.frozen 3
      have y4_f4 := OB4.2.frozen 4
      have y4_f5 := OB4.2.frozen 5
      go_wp2_with fail
      refine (spmeet_ok _ _ _ lo0 hi0 lo1 hi1 6 (T0.on B) (T1.on B) (by decide) (by decide) HC.out).mono ?_
      rintro e w8 ⟨u8, rfl, I8, P8⟩
      obtain ⟨ba8, Aa8, na8, ca8, Ba8, ma8, oa8, bb8, Ab8, nb8, cb8, Bb8, mb8, ob8, rfl, IL8, IH8⟩ := id I8
      clear y3_0 y3_f0 y3_1 y3_f1 y3_2 y3_f2 y3_3 y3_f3 y3_4 y3_f4 y3_5 y3_f5
      clear y4_0 y4_f0 y4_1 y4_f1 y4_2 y4_f2 y4_3 y4_f3 y4_4 y4_f4 y4_5 y4_f5
      replace OB3 := And.intro OB3.1 (OB3.2.on P8)
      replace OB4 := And.intro OB4.1 (OB4.2.on P8)
      replace OB5 := And.intro OB5.1 (OB5.2.on P8)
      replace B := B.trans P8
      have PA := (On.refl w8).alloc (.cells #[.bool ba8, .slice Aa8 na8 ca8, .slice Ba8 ma8 oa8, .bool bb8, .slice Ab8 nb8 cb8, .slice Bb8 mb8 ob8] 38)
      have B0_8 := B.size
      replace OB3 := And.intro OB3.1 (OB3.2.on PA)
      replace OB4 := And.intro OB4.1 (OB4.2.on PA)
      replace OB5 := And.intro OB5.1 (OB5.2.on PA)
      replace B := B.trans PA
      replace I8 := I8.on PA
      have OB8 : w.heap.size ≤ w8.heap.size ∧ _ := ⟨B0_8, Own.new w8 38 #[.bool ba8, .slice Aa8 na8 ca8, .slice Ba8 ma8 oa8, .bool bb8, .slice Ab8 nb8 cb8, .slice Bb8 mb8 ob8]⟩
      clear PA P8 IL8 IH8
      have le8 := HC.out
      go_wp2
      cases p0
      · refine wp_region_facts (by kernel_rfl) w [Fact.eq (.agg #[.bool ba8, .slice Aa8 na8 ca8, .slice Ba8 ma8 oa8, .bool bb8, .slice Ab8 nb8 cb8, .slice Bb8 mb8 ob8]), Fact.eq (.agg #[.bool ba0, .slice Aa0 na0 ca0, .slice Ba0 ma0 oa0, .bool bb0, .slice Ab0 nb0 cb0, .slice Bb0 mb0 ob0]), Fact.eq (.bool true), Fact.eq (.bool true), Fact.eq (.agg #[.bool ba8, .slice Aa8 na8 ca8, .slice Ba8 ma8 oa8, .bool bb8, .slice Ab8 nb8 cb8, .slice Bb8 mb8 ob8]), Fact.eq (.agg #[.bool ba1, .slice Aa1 na1 ca1, .slice Ba1 ma1 oa1, .bool bb1, .slice Ab1 nb1 cb1, .slice Bb1 mb1 ob1]), Fact.eq (.bool true), Fact.eq (.bool true), Fact.eq (.bool true), Fact.eq (.agg #[.bool ba2, .slice Aa2 na2 ca2, .slice Ba2 ma2 oa2, .bool bb2, .slice Ab2 nb2 cb2, .slice Bb2 mb2 ob2]), Fact.eq (.agg #[.bool ba8, .slice Aa8 na8 ca8, .slice Ba8 ma8 oa8, .bool bb8, .slice Ab8 nb8 cb8, .slice Bb8 mb8 ob8]), Fact.eq (.bool false), Fact.eq (.agg #[.bool ba2, .slice Aa2 na2 ca2, .slice Ba2 ma2 oa2, .bool bb2, .slice Ab2 nb2 cb2, .slice Bb2 mb2 ob2]), Fact.eq (.agg #[.bool ba0, .slice Aa0 na0 ca0, .slice Ba0 ma0 oa0, .bool bb0, .slice Ab0 nb0 cb0, .slice Bb0 mb0 ob0]), Fact.eq (.bool false), Fact.eq (.bool false), Fact.eq (undef), Fact.eq (undef), Fact.eq (undef), Fact.eq (.bool false), Fact.eq (.bool true), Fact.eq (.bool true), Fact.eq (.bool true)] [Fact.any, Fact.any, Fact.any, Fact.any] [⟨23, 3, 38, 23, #[.bool ba0, .slice Aa0 na0 ca0, .slice Ba0 ma0 oa0, .bool bb0, .slice Ab0 nb0 cb0, .slice Bb0 mb0 ob0]⟩, ⟨23, 4, 38, 23, #[.bool ba1, .slice Aa1 na1 ca1, .slice Ba1 ma1 oa1, .bool bb1, .slice Ab1 nb1 cb1, .slice Bb1 mb1 ob1]⟩, ⟨23, 5, 38, 23, #[.bool ba2, .slice Aa2 na2 ca2, .slice Ba2 ma2 oa2, .bool bb2, .slice Ab2 nb2 cb2, .slice Bb2 mb2 ob2]⟩, ⟨23, 8, 38, 23, #[.bool ba8, .slice Aa8 na8 ca8, .slice Ba8 ma8 oa8, .bool bb8, .slice Ab8 nb8 cb8, .slice Bb8 mb8 ob8]⟩] [w.heap.size, w.heap.size + 1, w.heap.size + 2, w8.heap.size] [none, none, none, none, none, none, some 6, none, none, none, none, none, none, none, none, none, none, none, none, none, none, none, none, none, none, none, none, none, none, none, none, none, none, none, none, none, none, none, none, none, none, none, none, none, none, none, none, none, none, none, none, none, none, none, none, none, none, none, none, none, none, none, none, none, none, none, none, none, none, none, none, none, none, none, none, none, none, none, none, none, none, none, none, some 83, some 84, some 85, some 86, some 87, some 88, some 89, some 90, some 91, some 92, some 93, some 94, some 95, some 96, some 97, some 98, some 99, some 100, some 101, some 102, some 103, some 104] (by kernel_rfl) (by kernel_rfl) (by kernel_rfl) rfl B ?_ ?_ ?_ ?_ ?_
        · exact ⟨fun _ => ⟨by simp, rfl, OB3⟩, fun _ => ⟨by simp, rfl, OB4⟩, fun _ => ⟨by simp, rfl, OB5⟩, fun _ => ⟨by simp, rfl, OB8⟩, trivial⟩
        · exact .inl ⟨Nat.le_refl _, Nat.le_refl _, Nat.le_refl _, Nat.le_refl _, trivial⟩
        · exact ⟨⟨noWords_S _ _ _ _ _ _ _ _ _ _ _ _ _ _, (.inl (Nat.le_refl _)), (.inl (Nat.le_refl _))⟩, ⟨noWords_S _ _ _ _ _ _ _ _ _ _ _ _ _ _, (.inl (Nat.le_refl _)), (.inl (Nat.le_refl _))⟩, ⟨noWords_S _ _ _ _ _ _ _ _ _ _ _ _ _ _, (.inl (Nat.le_refl _)), (.inl (Nat.le_refl _))⟩, ⟨noWords_S _ _ _ _ _ _ _ _ _ _ _ _ _ _, (.inl (Nat.le_refl _)), (.inl (Nat.le_refl _))⟩, trivial⟩
        · refine ⟨?_, ?_, ?_, ?_, ?_, ?_, ?_, ?_, ?_, ?_, ?_, ?_, ?_, ?_, ?_, ?_, ?_, ?_, ?_, ?_, ?_, ?_, ?_, trivial⟩
          · exact .inr fun a w hp => ob_yes rfl (ob_loadSp (hp.box (k := 3) rfl (Nat.le_refl _) (.inl (Nat.le_refl _)) (by kernel_rfl) rfl).1 (hp.box (k := 3) rfl (Nat.le_refl _) (.inl (Nat.le_refl _)) (by kernel_rfl) rfl).2 rfl)
          · exact .inr fun a w hp => ob_yes rfl (ob_loadSp (hp.box (k := 0) rfl (Nat.le_refl _) (.inl (Nat.le_refl _)) (by kernel_rfl) rfl).1 (hp.box (k := 0) rfl (Nat.le_refl _) (.inl (Nat.le_refl _)) (by kernel_rfl) rfl).2 rfl)
          · refine .inr fun a w hp => ob_yes rfl ?_
            have h83 : a.tmps.getD 83 undef = .agg #[.bool ba8, .slice Aa8 na8 ca8, .slice Ba8 ma8 oa8, .bool bb8, .slice Ab8 nb8 cb8, .slice Bb8 mb8 ob8] := (hp.fact 0 83 (by kernel_rfl) rfl)
            have h84 : a.tmps.getD 84 undef = .agg #[.bool ba0, .slice Aa0 na0 ca0, .slice Ba0 ma0 oa0, .bool bb0, .slice Ab0 nb0 cb0, .slice Bb0 mb0 ob0] := (hp.fact 1 84 (by kernel_rfl) rfl)
            unfold Does
            go_simp
            refine (spins_any _ _ _ (rmax lo0 lo1) (rmin hi0 hi1) lo0 hi0 6 ((I8.kept hp.kept).sp le8) (T0.on hp.on) (by decide) (by decide)).mono ?_
            rintro e w' ⟨rfl, P8⟩
            exact ⟨_, rfl, P8, congrArg Value.bool (ins_true (le_rmax_l _ _) (rmin_le_l _ _))⟩
          · exact .inr fun a w hp => ob_yes rfl (ob_move (hp.fact 2 85 (by kernel_rfl) rfl))
          · exact .inr fun a w hp => ob_yes (wanted_yes (P := Try.prog) (j := 3) (d := 86) (b := true) rfl rfl (hp.fact 3 86 (by kernel_rfl) rfl)) (ob_loadSp (hp.box (k := 3) rfl (Nat.le_refl _) (.inl (Nat.le_refl _)) (by kernel_rfl) rfl).1 (hp.box (k := 3) rfl (Nat.le_refl _) (.inl (Nat.le_refl _)) (by kernel_rfl) rfl).2 rfl)
          · exact .inr fun a w hp => ob_yes (wanted_yes (P := Try.prog) (j := 3) (d := 86) (b := true) rfl rfl (hp.fact 3 86 (by kernel_rfl) rfl)) (ob_loadSp (hp.box (k := 1) rfl (Nat.le_refl _) (.inl (Nat.le_refl _)) (by kernel_rfl) rfl).1 (hp.box (k := 1) rfl (Nat.le_refl _) (.inl (Nat.le_refl _)) (by kernel_rfl) rfl).2 rfl)
          · refine .inr fun a w hp => ob_yes (wanted_yes (P := Try.prog) (j := 3) (d := 86) (b := true) rfl rfl (hp.fact 3 86 (by kernel_rfl) rfl)) ?_
            have h87 : a.tmps.getD 87 undef = .agg #[.bool ba8, .slice Aa8 na8 ca8, .slice Ba8 ma8 oa8, .bool bb8, .slice Ab8 nb8 cb8, .slice Bb8 mb8 ob8] := (hp.fact 4 87 (by kernel_rfl) rfl)
            have h88 : a.tmps.getD 88 undef = .agg #[.bool ba1, .slice Aa1 na1 ca1, .slice Ba1 ma1 oa1, .bool bb1, .slice Ab1 nb1 cb1, .slice Bb1 mb1 ob1] := (hp.fact 5 88 (by kernel_rfl) rfl)
            unfold Does
            go_simp
            refine (spins_any _ _ _ (rmax lo0 lo1) (rmin hi0 hi1) lo1 hi1 6 ((I8.kept hp.kept).sp le8) (T1.on hp.on) (by decide) (by decide)).mono ?_
            rintro e w' ⟨rfl, P8⟩
            exact ⟨_, rfl, P8, congrArg Value.bool (ins_true (le_rmax_r _ _) (rmin_le_r _ _))⟩
          · refine .inr fun a w hp => ob_yes rfl ?_
            have h86 : a.tmps.getD 86 undef = .bool true := (hp.fact 3 86 (by kernel_rfl) rfl)
            have h89 : a.tmps.getD 89 undef = .bool true := (hp.fact 6 89 (by kernel_rfl) rfl)
            unfold Does
            go_simp
            exact ⟨_, rfl, On.refl _, rfl⟩
          · exact .inr fun a w hp => ob_yes rfl (ob_move (hp.fact 7 90 (by kernel_rfl) rfl))
          · exact .inr fun a w hp => ob_yes (wanted_yes (P := Try.prog) (j := 8) (d := 91) (b := true) rfl rfl (hp.fact 8 91 (by kernel_rfl) rfl)) (ob_loadSp (hp.box (k := 2) rfl (Nat.le_refl _) (.inl (Nat.le_refl _)) (by kernel_rfl) rfl).1 (hp.box (k := 2) rfl (Nat.le_refl _) (.inl (Nat.le_refl _)) (by kernel_rfl) rfl).2 rfl)
          · exact .inr fun a w hp => ob_yes (wanted_yes (P := Try.prog) (j := 8) (d := 91) (b := true) rfl rfl (hp.fact 8 91 (by kernel_rfl) rfl)) (ob_loadSp (hp.box (k := 3) rfl (Nat.le_refl _) (.inl (Nat.le_refl _)) (by kernel_rfl) rfl).1 (hp.box (k := 3) rfl (Nat.le_refl _) (.inl (Nat.le_refl _)) (by kernel_rfl) rfl).2 rfl)
          · refine .inr fun a w hp => ob_yes (wanted_yes (P := Try.prog) (j := 8) (d := 91) (b := true) rfl rfl (hp.fact 8 91 (by kernel_rfl) rfl)) ?_
            have h92 : a.tmps.getD 92 undef = .agg #[.bool ba2, .slice Aa2 na2 ca2, .slice Ba2 ma2 oa2, .bool bb2, .slice Ab2 nb2 cb2, .slice Bb2 mb2 ob2] := (hp.fact 9 92 (by kernel_rfl) rfl)
            have h93 : a.tmps.getD 93 undef = .agg #[.bool ba8, .slice Aa8 na8 ca8, .slice Ba8 ma8 oa8, .bool bb8, .slice Ab8 nb8 cb8, .slice Bb8 mb8 ob8] := (hp.fact 10 93 (by kernel_rfl) rfl)
            unfold Does
            go_simp
            refine (spins_any _ _ _ lo2 hi2 (rmax lo0 lo1) (rmin hi0 hi1) 6 (T2.on hp.on) ((I8.kept hp.kept).sp le8) (by decide) (by decide)).mono ?_
            rintro e w' ⟨rfl, P8⟩
            exact ⟨_, rfl, P8, congrArg Value.bool (HPM.out)⟩
          · exact .inr fun a w hp => ob_yes (wanted_yes (P := Try.prog) (j := 8) (d := 91) (b := true) rfl rfl (hp.fact 8 91 (by kernel_rfl) rfl)) (ob_loadSp (hp.box (k := 2) rfl (Nat.le_refl _) (.inl (Nat.le_refl _)) (by kernel_rfl) rfl).1 (hp.box (k := 2) rfl (Nat.le_refl _) (.inl (Nat.le_refl _)) (by kernel_rfl) rfl).2 rfl)
          · exact .inr fun a w hp => ob_yes (wanted_yes (P := Try.prog) (j := 8) (d := 91) (b := true) rfl rfl (hp.fact 8 91 (by kernel_rfl) rfl)) (ob_loadSp (hp.box (k := 0) rfl (Nat.le_refl _) (.inl (Nat.le_refl _)) (by kernel_rfl) rfl).1 (hp.box (k := 0) rfl (Nat.le_refl _) (.inl (Nat.le_refl _)) (by kernel_rfl) rfl).2 rfl)
          · refine .inr fun a w hp => ob_yes (wanted_yes (P := Try.prog) (j := 8) (d := 91) (b := true) rfl rfl (hp.fact 8 91 (by kernel_rfl) rfl)) ?_
            have h95 : a.tmps.getD 95 undef = .agg #[.bool ba2, .slice Aa2 na2 ca2, .slice Ba2 ma2 oa2, .bool bb2, .slice Ab2 nb2 cb2, .slice Bb2 mb2 ob2] := (hp.fact 12 95 (by kernel_rfl) rfl)
            have h96 : a.tmps.getD 96 undef = .agg #[.bool ba0, .slice Aa0 na0 ca0, .slice Ba0 ma0 oa0, .bool bb0, .slice Ab0 nb0 cb0, .slice Bb0 mb0 ob0] := (hp.fact 13 96 (by kernel_rfl) rfl)
            unfold Does
            go_simp
            refine (spins_any _ _ _ lo2 hi2 lo0 hi0 6 (T2.on hp.on) (T0.on hp.on) (by decide) (by decide)).mono ?_
            rintro e w' ⟨rfl, P8⟩
            exact ⟨_, rfl, P8, congrArg Value.bool HP0.out⟩
          · exact .inr fun a w hp => ob_yes (wanted_yes (P := Try.prog) (j := 8) (d := 91) (b := true) rfl rfl (hp.fact 8 91 (by kernel_rfl) rfl)) (ob_move (hp.fact 14 97 (by kernel_rfl) rfl))
          · exact .inr fun a w hp => ob_no (wanted_no (P := Try.prog) (j := 15) (d := 98) (b := false) rfl rfl (hp.fact 15 98 (by kernel_rfl) rfl)) rfl
          · exact .inr fun a w hp => ob_no (wanted_no (P := Try.prog) (j := 15) (d := 98) (b := false) rfl rfl (hp.fact 15 98 (by kernel_rfl) rfl)) rfl
          · exact .inr fun a w hp => ob_no (wanted_no (P := Try.prog) (j := 15) (d := 98) (b := false) rfl rfl (hp.fact 15 98 (by kernel_rfl) rfl)) rfl
          · refine .inr fun a w hp => ob_yes (wanted_yes (P := Try.prog) (j := 8) (d := 91) (b := true) rfl rfl (hp.fact 8 91 (by kernel_rfl) rfl)) ?_
            have h98 : a.tmps.getD 98 undef = .bool false := (hp.fact 15 98 (by kernel_rfl) rfl)
            have h101 : a.tmps.getD 101 undef = undef := (hp.fact 18 101 (by kernel_rfl) rfl)
            unfold Does
            go_simp
            exact ⟨_, rfl, On.refl _, rfl⟩
          · refine .inr fun a w hp => ob_yes (wanted_yes (P := Try.prog) (j := 8) (d := 91) (b := true) rfl rfl (hp.fact 8 91 (by kernel_rfl) rfl)) ?_
            have h94 : a.tmps.getD 94 undef = .bool false := (hp.fact 11 94 (by kernel_rfl) rfl)
            have h102 : a.tmps.getD 102 undef = .bool false := (hp.fact 19 102 (by kernel_rfl) rfl)
            unfold Does
            go_simp
            exact ⟨_, rfl, On.refl _, by show Value.bool _ = Value.bool _; first | rfl | (simp; done)⟩
          · refine .inr fun a w hp => ob_yes rfl ?_
            have h91 : a.tmps.getD 91 undef = .bool true := (hp.fact 8 91 (by kernel_rfl) rfl)
            have h103 : a.tmps.getD 103 undef = .bool true := (hp.fact 20 103 (by kernel_rfl) rfl)
            unfold Does
            go_simp
            exact ⟨_, rfl, On.refl _, rfl⟩
          · exact .inr fun a w hp => ob_yes rfl (ob_assign (hp.fact 21 104 (by kernel_rfl) rfl))
        · intro f wd hon hk hf hb hap
          obtain ⟨q0, q1, q2, q3, qz⟩ := hb
          clear qz
          have O3 : Own wd (w.heap.size) 38 #[.bool ba0, .slice Aa0 na0 ca0, .slice Ba0 ma0 oa0, .bool bb0, .slice Ab0 nb0 cb0, .slice Bb0 mb0 ob0] := q0
          have c3_0 : wd.cell? ⟨w.heap.size, 0, none⟩ = some (.bool ba0) := O3.cell 0
          have z3_0 := O3.frozen 0
          have c3_1 : wd.cell? ⟨w.heap.size, 1, none⟩ = some (.slice Aa0 na0 ca0) := O3.cell 1
          have z3_1 := O3.frozen 1
          have c3_2 : wd.cell? ⟨w.heap.size, 2, none⟩ = some (.slice Ba0 ma0 oa0) := O3.cell 2
          have z3_2 := O3.frozen 2
          have c3_3 : wd.cell? ⟨w.heap.size, 3, none⟩ = some (.bool bb0) := O3.cell 3
          have z3_3 := O3.frozen 3
          have c3_4 : wd.cell? ⟨w.heap.size, 4, none⟩ = some (.slice Ab0 nb0 cb0) := O3.cell 4
          have z3_4 := O3.frozen 4
          have c3_5 : wd.cell? ⟨w.heap.size, 5, none⟩ = some (.slice Bb0 mb0 ob0) := O3.cell 5
          have z3_5 := O3.frozen 5
          clear q0
          have O4 : Own wd (w.heap.size + 1) 38 #[.bool ba1, .slice Aa1 na1 ca1, .slice Ba1 ma1 oa1, .bool bb1, .slice Ab1 nb1 cb1, .slice Bb1 mb1 ob1] := q1
          have c4_0 : wd.cell? ⟨w.heap.size + 1, 0, none⟩ = some (.bool ba1) := O4.cell 0
          have z4_0 := O4.frozen 0
          have c4_1 : wd.cell? ⟨w.heap.size + 1, 1, none⟩ = some (.slice Aa1 na1 ca1) := O4.cell 1
          have z4_1 := O4.frozen 1
          have c4_2 : wd.cell? ⟨w.heap.size + 1, 2, none⟩ = some (.slice Ba1 ma1 oa1) := O4.cell 2
          have z4_2 := O4.frozen 2
          have c4_3 : wd.cell? ⟨w.heap.size + 1, 3, none⟩ = some (.bool bb1) := O4.cell 3
          have z4_3 := O4.frozen 3
          have c4_4 : wd.cell? ⟨w.heap.size + 1, 4, none⟩ = some (.slice Ab1 nb1 cb1) := O4.cell 4
          have z4_4 := O4.frozen 4
          have c4_5 : wd.cell? ⟨w.heap.size + 1, 5, none⟩ = some (.slice Bb1 mb1 ob1) := O4.cell 5
          have z4_5 := O4.frozen 5
          clear q1
          have O5 : Own wd (w.heap.size + 2) 38 #[.bool ba2, .slice Aa2 na2 ca2, .slice Ba2 ma2 oa2, .bool bb2, .slice Ab2 nb2 cb2, .slice Bb2 mb2 ob2] := q2
          have c5_0 : wd.cell? ⟨w.heap.size + 2, 0, none⟩ = some (.bool ba2) := O5.cell 0
          have z5_0 := O5.frozen 0
          have c5_1 : wd.cell? ⟨w.heap.size + 2, 1, none⟩ = some (.slice Aa2 na2 ca2) := O5.cell 1
          have z5_1 := O5.frozen 1
          have c5_2 : wd.cell? ⟨w.heap.size + 2, 2, none⟩ = some (.slice Ba2 ma2 oa2) := O5.cell 2
          have z5_2 := O5.frozen 2
          have c5_3 : wd.cell? ⟨w.heap.size + 2, 3, none⟩ = some (.bool bb2) := O5.cell 3
          have z5_3 := O5.frozen 3
          have c5_4 : wd.cell? ⟨w.heap.size + 2, 4, none⟩ = some (.slice Ab2 nb2 cb2) := O5.cell 4
          have z5_4 := O5.frozen 4
          have c5_5 : wd.cell? ⟨w.heap.size + 2, 5, none⟩ = some (.slice Bb2 mb2 ob2) := O5.cell 5
          have z5_5 := O5.frozen 5
          clear q2
          have O8 : Own wd (w8.heap.size) 38 #[.bool ba8, .slice Aa8 na8 ca8, .slice Ba8 ma8 oa8, .bool bb8, .slice Ab8 nb8 cb8, .slice Bb8 mb8 ob8] := q3
          have c8_0 : wd.cell? ⟨w8.heap.size, 0, none⟩ = some (.bool ba8) := O8.cell 0
          have z8_0 := O8.frozen 0
          have c8_1 : wd.cell? ⟨w8.heap.size, 1, none⟩ = some (.slice Aa8 na8 ca8) := O8.cell 1
          have z8_1 := O8.frozen 1
          have c8_2 : wd.cell? ⟨w8.heap.size, 2, none⟩ = some (.slice Ba8 ma8 oa8) := O8.cell 2
          have z8_2 := O8.frozen 2
          have c8_3 : wd.cell? ⟨w8.heap.size, 3, none⟩ = some (.bool bb8) := O8.cell 3
          have z8_3 := O8.frozen 3
          have c8_4 : wd.cell? ⟨w8.heap.size, 4, none⟩ = some (.slice Ab8 nb8 cb8) := O8.cell 4
          have z8_4 := O8.frozen 4
          have c8_5 : wd.cell? ⟨w8.heap.size, 5, none⟩ = some (.slice Bb8 mb8 ob8) := O8.cell 5
          have z8_5 := O8.frozen 5
          clear q3
          have e6 : f 6 = .bool true := hf 22 6 rfl
          clear hf hap
          simp only [fillL, e6]
          clear e6
          go_wp2
          go_ret
          exact ⟨rfl, hon⟩
      · refine wp_region_facts (by kernel_rfl) w [Fact.eq (.agg #[.bool ba8, .slice Aa8 na8 ca8, .slice Ba8 ma8 oa8, .bool bb8, .slice Ab8 nb8 cb8, .slice Bb8 mb8 ob8]), Fact.eq (.agg #[.bool ba0, .slice Aa0 na0 ca0, .slice Ba0 ma0 oa0, .bool bb0, .slice Ab0 nb0 cb0, .slice Bb0 mb0 ob0]), Fact.eq (.bool true), Fact.eq (.bool true), Fact.eq (.agg #[.bool ba8, .slice Aa8 na8 ca8, .slice Ba8 ma8 oa8, .bool bb8, .slice Ab8 nb8 cb8, .slice Bb8 mb8 ob8]), Fact.eq (.agg #[.bool ba1, .slice Aa1 na1 ca1, .slice Ba1 ma1 oa1, .bool bb1, .slice Ab1 nb1 cb1, .slice Bb1 mb1 ob1]), Fact.eq (.bool true), Fact.eq (.bool true), Fact.eq (.bool true), Fact.eq (.agg #[.bool ba2, .slice Aa2 na2 ca2, .slice Ba2 ma2 oa2, .bool bb2, .slice Ab2 nb2 cb2, .slice Bb2 mb2 ob2]), Fact.eq (.agg #[.bool ba8, .slice Aa8 na8 ca8, .slice Ba8 ma8 oa8, .bool bb8, .slice Ab8 nb8 cb8, .slice Bb8 mb8 ob8]), Fact.eq (.bool p1), Fact.eq (.agg #[.bool ba2, .slice Aa2 na2 ca2, .slice Ba2 ma2 oa2, .bool bb2, .slice Ab2 nb2 cb2, .slice Bb2 mb2 ob2]), Fact.eq (.agg #[.bool ba0, .slice Aa0 na0 ca0, .slice Ba0 ma0 oa0, .bool bb0, .slice Ab0 nb0 cb0, .slice Bb0 mb0 ob0]), Fact.eq (.bool true), Fact.eq (.bool true), Fact.eq (.agg #[.bool ba2, .slice Aa2 na2 ca2, .slice Ba2 ma2 oa2, .bool bb2, .slice Ab2 nb2 cb2, .slice Bb2 mb2 ob2]), Fact.eq (.agg #[.bool ba1, .slice Aa1 na1 ca1, .slice Ba1 ma1 oa1, .bool bb1, .slice Ab1 nb1 cb1, .slice Bb1 mb1 ob1]), Fact.eq (.bool p1), Fact.eq (.bool p1), Fact.eq (.bool true), Fact.eq (.bool true), Fact.eq (.bool true)] [Fact.any, Fact.any, Fact.any, Fact.any] [⟨23, 3, 38, 23, #[.bool ba0, .slice Aa0 na0 ca0, .slice Ba0 ma0 oa0, .bool bb0, .slice Ab0 nb0 cb0, .slice Bb0 mb0 ob0]⟩, ⟨23, 4, 38, 23, #[.bool ba1, .slice Aa1 na1 ca1, .slice Ba1 ma1 oa1, .bool bb1, .slice Ab1 nb1 cb1, .slice Bb1 mb1 ob1]⟩, ⟨23, 5, 38, 23, #[.bool ba2, .slice Aa2 na2 ca2, .slice Ba2 ma2 oa2, .bool bb2, .slice Ab2 nb2 cb2, .slice Bb2 mb2 ob2]⟩, ⟨23, 8, 38, 23, #[.bool ba8, .slice Aa8 na8 ca8, .slice Ba8 ma8 oa8, .bool bb8, .slice Ab8 nb8 cb8, .slice Bb8 mb8 ob8]⟩] [w.heap.size, w.heap.size + 1, w.heap.size + 2, w8.heap.size] [none, none, none, none, none, none, some 6, none, none, none, none, none, none, none, none, none, none, none, none, none, none, none, none, none, none, none, none, none, none, none, none, none, none, none, none, none, none, none, none, none, none, none, none, none, none, none, none, none, none, none, none, none, none, none, none, none, none, none, none, none, none, none, none, none, none, none, none, none, none, none, none, none, none, none, none, none, none, none, none, none, none, none, none, some 83, some 84, some 85, some 86, some 87, some 88, some 89, some 90, some 91, some 92, some 93, some 94, some 95, some 96, some 97, some 98, some 99, some 100, some 101, some 102, some 103, some 104] (by kernel_rfl) (by kernel_rfl) (by kernel_rfl) rfl B ?_ ?_ ?_ ?_ ?_
        · exact ⟨fun _ => ⟨by simp, rfl, OB3⟩, fun _ => ⟨by simp, rfl, OB4⟩, fun _ => ⟨by simp, rfl, OB5⟩, fun _ => ⟨by simp, rfl, OB8⟩, trivial⟩
        · exact .inl ⟨Nat.le_refl _, Nat.le_refl _, Nat.le_refl _, Nat.le_refl _, trivial⟩
        · exact ⟨⟨noWords_S _ _ _ _ _ _ _ _ _ _ _ _ _ _, (.inl (Nat.le_refl _)), (.inl (Nat.le_refl _))⟩, ⟨noWords_S _ _ _ _ _ _ _ _ _ _ _ _ _ _, (.inl (Nat.le_refl _)), (.inl (Nat.le_refl _))⟩, ⟨noWords_S _ _ _ _ _ _ _ _ _ _ _ _ _ _, (.inl (Nat.le_refl _)), (.inl (Nat.le_refl _))⟩, ⟨noWords_S _ _ _ _ _ _ _ _ _ _ _ _ _ _, (.inl (Nat.le_refl _)), (.inl (Nat.le_refl _))⟩, trivial⟩
        · refine ⟨?_, ?_, ?_, ?_, ?_, ?_, ?_, ?_, ?_, ?_, ?_, ?_, ?_, ?_, ?_, ?_, ?_, ?_, ?_, ?_, ?_, ?_, ?_, trivial⟩
          · exact .inr fun a w hp => ob_yes rfl (ob_loadSp (hp.box (k := 3) rfl (Nat.le_refl _) (.inl (Nat.le_refl _)) (by kernel_rfl) rfl).1 (hp.box (k := 3) rfl (Nat.le_refl _) (.inl (Nat.le_refl _)) (by kernel_rfl) rfl).2 rfl)
          · exact .inr fun a w hp => ob_yes rfl (ob_loadSp (hp.box (k := 0) rfl (Nat.le_refl _) (.inl (Nat.le_refl _)) (by kernel_rfl) rfl).1 (hp.box (k := 0) rfl (Nat.le_refl _) (.inl (Nat.le_refl _)) (by kernel_rfl) rfl).2 rfl)
          · refine .inr fun a w hp => ob_yes rfl ?_
            have h83 : a.tmps.getD 83 undef = .agg #[.bool ba8, .slice Aa8 na8 ca8, .slice Ba8 ma8 oa8, .bool bb8, .slice Ab8 nb8 cb8, .slice Bb8 mb8 ob8] := (hp.fact 0 83 (by kernel_rfl) rfl)
            have h84 : a.tmps.getD 84 undef = .agg #[.bool ba0, .slice Aa0 na0 ca0, .slice Ba0 ma0 oa0, .bool bb0, .slice Ab0 nb0 cb0, .slice Bb0 mb0 ob0] := (hp.fact 1 84 (by kernel_rfl) rfl)
            unfold Does
            go_simp
            refine (spins_any _ _ _ (rmax lo0 lo1) (rmin hi0 hi1) lo0 hi0 6 ((I8.kept hp.kept).sp le8) (T0.on hp.on) (by decide) (by decide)).mono ?_
            rintro e w' ⟨rfl, P8⟩
            exact ⟨_, rfl, P8, congrArg Value.bool (ins_true (le_rmax_l _ _) (rmin_le_l _ _))⟩
          · exact .inr fun a w hp => ob_yes rfl (ob_move (hp.fact 2 85 (by kernel_rfl) rfl))
          · exact .inr fun a w hp => ob_yes (wanted_yes (P := Try.prog) (j := 3) (d := 86) (b := true) rfl rfl (hp.fact 3 86 (by kernel_rfl) rfl)) (ob_loadSp (hp.box (k := 3) rfl (Nat.le_refl _) (.inl (Nat.le_refl _)) (by kernel_rfl) rfl).1 (hp.box (k := 3) rfl (Nat.le_refl _) (.inl (Nat.le_refl _)) (by kernel_rfl) rfl).2 rfl)
          · exact .inr fun a w hp => ob_yes (wanted_yes (P := Try.prog) (j := 3) (d := 86) (b := true) rfl rfl (hp.fact 3 86 (by kernel_rfl) rfl)) (ob_loadSp (hp.box (k := 1) rfl (Nat.le_refl _) (.inl (Nat.le_refl _)) (by kernel_rfl) rfl).1 (hp.box (k := 1) rfl (Nat.le_refl _) (.inl (Nat.le_refl _)) (by kernel_rfl) rfl).2 rfl)
          · refine .inr fun a w hp => ob_yes (wanted_yes (P := Try.prog) (j := 3) (d := 86) (b := true) rfl rfl (hp.fact 3 86 (by kernel_rfl) rfl)) ?_
            have h87 : a.tmps.getD 87 undef = .agg #[.bool ba8, .slice Aa8 na8 ca8, .slice Ba8 ma8 oa8, .bool bb8, .slice Ab8 nb8 cb8, .slice Bb8 mb8 ob8] := (hp.fact 4 87 (by kernel_rfl) rfl)
            have h88 : a.tmps.getD 88 undef = .agg #[.bool ba1, .slice Aa1 na1 ca1, .slice Ba1 ma1 oa1, .bool bb1, .slice Ab1 nb1 cb1, .slice Bb1 mb1 ob1] := (hp.fact 5 88 (by kernel_rfl) rfl)
            unfold Does
            go_simp
            refine (spins_any _ _ _ (rmax lo0 lo1) (rmin hi0 hi1) lo1 hi1 6 ((I8.kept hp.kept).sp le8) (T1.on hp.on) (by decide) (by decide)).mono ?_
            rintro e w' ⟨rfl, P8⟩
            exact ⟨_, rfl, P8, congrArg Value.bool (ins_true (le_rmax_r _ _) (rmin_le_r _ _))⟩
          · refine .inr fun a w hp => ob_yes rfl ?_
            have h86 : a.tmps.getD 86 undef = .bool true := (hp.fact 3 86 (by kernel_rfl) rfl)
            have h89 : a.tmps.getD 89 undef = .bool true := (hp.fact 6 89 (by kernel_rfl) rfl)
            unfold Does
            go_simp
            exact ⟨_, rfl, On.refl _, rfl⟩
          · exact .inr fun a w hp => ob_yes rfl (ob_move (hp.fact 7 90 (by kernel_rfl) rfl))
          · exact .inr fun a w hp => ob_yes (wanted_yes (P := Try.prog) (j := 8) (d := 91) (b := true) rfl rfl (hp.fact 8 91 (by kernel_rfl) rfl)) (ob_loadSp (hp.box (k := 2) rfl (Nat.le_refl _) (.inl (Nat.le_refl _)) (by kernel_rfl) rfl).1 (hp.box (k := 2) rfl (Nat.le_refl _) (.inl (Nat.le_refl _)) (by kernel_rfl) rfl).2 rfl)
          · exact .inr fun a w hp => ob_yes (wanted_yes (P := Try.prog) (j := 8) (d := 91) (b := true) rfl rfl (hp.fact 8 91 (by kernel_rfl) rfl)) (ob_loadSp (hp.box (k := 3) rfl (Nat.le_refl _) (.inl (Nat.le_refl _)) (by kernel_rfl) rfl).1 (hp.box (k := 3) rfl (Nat.le_refl _) (.inl (Nat.le_refl _)) (by kernel_rfl) rfl).2 rfl)
          · refine .inr fun a w hp => ob_yes (wanted_yes (P := Try.prog) (j := 8) (d := 91) (b := true) rfl rfl (hp.fact 8 91 (by kernel_rfl) rfl)) ?_
            have h92 : a.tmps.getD 92 undef = .agg #[.bool ba2, .slice Aa2 na2 ca2, .slice Ba2 ma2 oa2, .bool bb2, .slice Ab2 nb2 cb2, .slice Bb2 mb2 ob2] := (hp.fact 9 92 (by kernel_rfl) rfl)
            have h93 : a.tmps.getD 93 undef = .agg #[.bool ba8, .slice Aa8 na8 ca8, .slice Ba8 ma8 oa8, .bool bb8, .slice Ab8 nb8 cb8, .slice Bb8 mb8 ob8] := (hp.fact 10 93 (by kernel_rfl) rfl)
            unfold Does
            go_simp
            refine (spins_any _ _ _ lo2 hi2 (rmax lo0 lo1) (rmin hi0 hi1) 6 (T2.on hp.on) ((I8.kept hp.kept).sp le8) (by decide) (by decide)).mono ?_
            rintro e w' ⟨rfl, P8⟩
            exact ⟨_, rfl, P8, congrArg Value.bool (HPM.out.trans (Bool.true_and _))⟩
          · exact .inr fun a w hp => ob_yes (wanted_yes (P := Try.prog) (j := 8) (d := 91) (b := true) rfl rfl (hp.fact 8 91 (by kernel_rfl) rfl)) (ob_loadSp (hp.box (k := 2) rfl (Nat.le_refl _) (.inl (Nat.le_refl _)) (by kernel_rfl) rfl).1 (hp.box (k := 2) rfl (Nat.le_refl _) (.inl (Nat.le_refl _)) (by kernel_rfl) rfl).2 rfl)
          · exact .inr fun a w hp => ob_yes (wanted_yes (P := Try.prog) (j := 8) (d := 91) (b := true) rfl rfl (hp.fact 8 91 (by kernel_rfl) rfl)) (ob_loadSp (hp.box (k := 0) rfl (Nat.le_refl _) (.inl (Nat.le_refl _)) (by kernel_rfl) rfl).1 (hp.box (k := 0) rfl (Nat.le_refl _) (.inl (Nat.le_refl _)) (by kernel_rfl) rfl).2 rfl)
          · refine .inr fun a w hp => ob_yes (wanted_yes (P := Try.prog) (j := 8) (d := 91) (b := true) rfl rfl (hp.fact 8 91 (by kernel_rfl) rfl)) ?_
            have h95 : a.tmps.getD 95 undef = .agg #[.bool ba2, .slice Aa2 na2 ca2, .slice Ba2 ma2 oa2, .bool bb2, .slice Ab2 nb2 cb2, .slice Bb2 mb2 ob2] := (hp.fact 12 95 (by kernel_rfl) rfl)
            have h96 : a.tmps.getD 96 undef = .agg #[.bool ba0, .slice Aa0 na0 ca0, .slice Ba0 ma0 oa0, .bool bb0, .slice Ab0 nb0 cb0, .slice Bb0 mb0 ob0] := (hp.fact 13 96 (by kernel_rfl) rfl)
            unfold Does
            go_simp
            refine (spins_any _ _ _ lo2 hi2 lo0 hi0 6 (T2.on hp.on) (T0.on hp.on) (by decide) (by decide)).mono ?_
            rintro e w' ⟨rfl, P8⟩
            exact ⟨_, rfl, P8, congrArg Value.bool HP0.out⟩
          · exact .inr fun a w hp => ob_yes (wanted_yes (P := Try.prog) (j := 8) (d := 91) (b := true) rfl rfl (hp.fact 8 91 (by kernel_rfl) rfl)) (ob_move (hp.fact 14 97 (by kernel_rfl) rfl))
          · exact .inr fun a w hp => ob_yes (wanted_yes (P := Try.prog) (j := 15) (d := 98) (b := true) rfl rfl (hp.fact 15 98 (by kernel_rfl) rfl)) (ob_loadSp (hp.box (k := 2) rfl (Nat.le_refl _) (.inl (Nat.le_refl _)) (by kernel_rfl) rfl).1 (hp.box (k := 2) rfl (Nat.le_refl _) (.inl (Nat.le_refl _)) (by kernel_rfl) rfl).2 rfl)
          · exact .inr fun a w hp => ob_yes (wanted_yes (P := Try.prog) (j := 15) (d := 98) (b := true) rfl rfl (hp.fact 15 98 (by kernel_rfl) rfl)) (ob_loadSp (hp.box (k := 1) rfl (Nat.le_refl _) (.inl (Nat.le_refl _)) (by kernel_rfl) rfl).1 (hp.box (k := 1) rfl (Nat.le_refl _) (.inl (Nat.le_refl _)) (by kernel_rfl) rfl).2 rfl)
          · refine .inr fun a w hp => ob_yes (wanted_yes (P := Try.prog) (j := 15) (d := 98) (b := true) rfl rfl (hp.fact 15 98 (by kernel_rfl) rfl)) ?_
            have h99 : a.tmps.getD 99 undef = .agg #[.bool ba2, .slice Aa2 na2 ca2, .slice Ba2 ma2 oa2, .bool bb2, .slice Ab2 nb2 cb2, .slice Bb2 mb2 ob2] := (hp.fact 16 99 (by kernel_rfl) rfl)
            have h100 : a.tmps.getD 100 undef = .agg #[.bool ba1, .slice Aa1 na1 ca1, .slice Ba1 ma1 oa1, .bool bb1, .slice Ab1 nb1 cb1, .slice Bb1 mb1 ob1] := (hp.fact 17 100 (by kernel_rfl) rfl)
            unfold Does
            go_simp
            refine (spins_any _ _ _ lo2 hi2 lo1 hi1 6 (T2.on hp.on) (T1.on hp.on) (by decide) (by decide)).mono ?_
            rintro e w' ⟨rfl, P8⟩
            exact ⟨_, rfl, P8, congrArg Value.bool HP1.out⟩
          · refine .inr fun a w hp => ob_yes (wanted_yes (P := Try.prog) (j := 8) (d := 91) (b := true) rfl rfl (hp.fact 8 91 (by kernel_rfl) rfl)) ?_
            have h98 : a.tmps.getD 98 undef = .bool true := (hp.fact 15 98 (by kernel_rfl) rfl)
            have h101 : a.tmps.getD 101 undef = .bool p1 := (hp.fact 18 101 (by kernel_rfl) rfl)
            unfold Does
            go_simp
            exact ⟨_, rfl, On.refl _, rfl⟩
          · refine .inr fun a w hp => ob_yes (wanted_yes (P := Try.prog) (j := 8) (d := 91) (b := true) rfl rfl (hp.fact 8 91 (by kernel_rfl) rfl)) ?_
            have h94 : a.tmps.getD 94 undef = .bool p1 := (hp.fact 11 94 (by kernel_rfl) rfl)
            have h102 : a.tmps.getD 102 undef = .bool p1 := (hp.fact 19 102 (by kernel_rfl) rfl)
            unfold Does
            go_simp
            exact ⟨_, rfl, On.refl _, by show Value.bool _ = Value.bool _; first | rfl | (simp; done)⟩
          · refine .inr fun a w hp => ob_yes rfl ?_
            have h91 : a.tmps.getD 91 undef = .bool true := (hp.fact 8 91 (by kernel_rfl) rfl)
            have h103 : a.tmps.getD 103 undef = .bool true := (hp.fact 20 103 (by kernel_rfl) rfl)
            unfold Does
            go_simp
            exact ⟨_, rfl, On.refl _, rfl⟩
          · exact .inr fun a w hp => ob_yes rfl (ob_assign (hp.fact 21 104 (by kernel_rfl) rfl))
        · intro f wd hon hk hf hb hap
          obtain ⟨q0, q1, q2, q3, qz⟩ := hb
          clear qz
          have O3 : Own wd (w.heap.size) 38 #[.bool ba0, .slice Aa0 na0 ca0, .slice Ba0 ma0 oa0, .bool bb0, .slice Ab0 nb0 cb0, .slice Bb0 mb0 ob0] := q0
          have c3_0 : wd.cell? ⟨w.heap.size, 0, none⟩ = some (.bool ba0) := O3.cell 0
          have z3_0 := O3.frozen 0
          have c3_1 : wd.cell? ⟨w.heap.size, 1, none⟩ = some (.slice Aa0 na0 ca0) := O3.cell 1
          have z3_1 := O3.frozen 1
          have c3_2 : wd.cell? ⟨w.heap.size, 2, none⟩ = some (.slice Ba0 ma0 oa0) := O3.cell 2
          have z3_2 := O3.frozen 2
          have c3_3 : wd.cell? ⟨w.heap.size, 3, none⟩ = some (.bool bb0) := O3.cell 3
          have z3_3 := O3.frozen 3
          have c3_4 : wd.cell? ⟨w.heap.size, 4, none⟩ = some (.slice Ab0 nb0 cb0) := O3.cell 4
          have z3_4 := O3.frozen 4
          have c3_5 : wd.cell? ⟨w.heap.size, 5, none⟩ = some (.slice Bb0 mb0 ob0) := O3.cell 5
          have z3_5 := O3.frozen 5
          clear q0
          have O4 : Own wd (w.heap.size + 1) 38 #[.bool ba1, .slice Aa1 na1 ca1, .slice Ba1 ma1 oa1, .bool bb1, .slice Ab1 nb1 cb1, .slice Bb1 mb1 ob1] := q1
          have c4_0 : wd.cell? ⟨w.heap.size + 1, 0, none⟩ = some (.bool ba1) := O4.cell 0
          have z4_0 := O4.frozen 0
          have c4_1 : wd.cell? ⟨w.heap.size + 1, 1, none⟩ = some (.slice Aa1 na1 ca1) := O4.cell 1
          have z4_1 := O4.frozen 1
          have c4_2 : wd.cell? ⟨w.heap.size + 1, 2, none⟩ = some (.slice Ba1 ma1 oa1) := O4.cell 2
          have z4_2 := O4.frozen 2
          have c4_3 : wd.cell? ⟨w.heap.size + 1, 3, none⟩ = some (.bool bb1) := O4.cell 3
          have z4_3 := O4.frozen 3
          have c4_4 : wd.cell? ⟨w.heap.size + 1, 4, none⟩ = some (.slice Ab1 nb1 cb1) := O4.cell 4
          have z4_4 := O4.frozen 4
          have c4_5 : wd.cell? ⟨w.heap.size + 1, 5, none⟩ = some (.slice Bb1 mb1 ob1) := O4.cell 5
          have z4_5 := O4.frozen 5
          clear q1
          have O5 : Own wd (w.heap.size + 2) 38 #[.bool ba2, .slice Aa2 na2 ca2, .slice Ba2 ma2 oa2, .bool bb2, .slice Ab2 nb2 cb2, .slice Bb2 mb2 ob2] := q2
          have c5_0 : wd.cell? ⟨w.heap.size + 2, 0, none⟩ = some (.bool ba2) := O5.cell 0
          have z5_0 := O5.frozen 0
          have c5_1 : wd.cell? ⟨w.heap.size + 2, 1, none⟩ = some (.slice Aa2 na2 ca2) := O5.cell 1
          have z5_1 := O5.frozen 1
          have c5_2 : wd.cell? ⟨w.heap.size + 2, 2, none⟩ = some (.slice Ba2 ma2 oa2) := O5.cell 2
          have z5_2 := O5.frozen 2
          have c5_3 : wd.cell? ⟨w.heap.size + 2, 3, none⟩ = some (.bool bb2) := O5.cell 3
          have z5_3 := O5.frozen 3
          have c5_4 : wd.cell? ⟨w.heap.size + 2, 4, none⟩ = some (.slice Ab2 nb2 cb2) := O5.cell 4
          have z5_4 := O5.frozen 4
          have c5_5 : wd.cell? ⟨w.heap.size + 2, 5, none⟩ = some (.slice Bb2 mb2 ob2) := O5.cell 5
          have z5_5 := O5.frozen 5
          clear q2
          have O8 : Own wd (w8.heap.size) 38 #[.bool ba8, .slice Aa8 na8 ca8, .slice Ba8 ma8 oa8, .bool bb8, .slice Ab8 nb8 cb8, .slice Bb8 mb8 ob8] := q3
          have c8_0 : wd.cell? ⟨w8.heap.size, 0, none⟩ = some (.bool ba8) := O8.cell 0
          have z8_0 := O8.frozen 0
          have c8_1 : wd.cell? ⟨w8.heap.size, 1, none⟩ = some (.slice Aa8 na8 ca8) := O8.cell 1
          have z8_1 := O8.frozen 1
          have c8_2 : wd.cell? ⟨w8.heap.size, 2, none⟩ = some (.slice Ba8 ma8 oa8) := O8.cell 2
          have z8_2 := O8.frozen 2
          have c8_3 : wd.cell? ⟨w8.heap.size, 3, none⟩ = some (.bool bb8) := O8.cell 3
          have z8_3 := O8.frozen 3
          have c8_4 : wd.cell? ⟨w8.heap.size, 4, none⟩ = some (.slice Ab8 nb8 cb8) := O8.cell 4
          have z8_4 := O8.frozen 4
          have c8_5 : wd.cell? ⟨w8.heap.size, 5, none⟩ = some (.slice Bb8 mb8 ob8) := O8.cell 5
          have z8_5 := O8.frozen 5
          clear q3
          have e6 : f 6 = .bool true := hf 22 6 rfl
          clear hf hap
          simp only [fillL, e6]
          clear e6
          go_wp2
          go_ret
          exact ⟨rfl, hon⟩
theorem lattice_any (w : World) (ba0 : Bool) (Aa0 : Option Addr) (na0 ca0 : Nat) (Ba0 : Option Addr) (ma0 oa0 : Nat) (bb0 : Bool) (Ab0 : Option Addr) (nb0 cb0 : Nat) (Bb0 : Option Addr) (mb0 ob0 : Nat) (xs0 ys0 us0 vs0 : List Nat) (R0 : Rd w Aa0 na0 ca0 xs0) (S0 : Rd w Ba0 ma0 oa0 ys0) (U0 : Rd w Ab0 nb0 cb0 us0) (V0 : Rd w Bb0 mb0 ob0 vs0) (ba1 : Bool) (Aa1 : Option Addr) (na1 ca1 : Nat) (Ba1 : Option Addr) (ma1 oa1 : Nat) (bb1 : Bool) (Ab1 : Option Addr) (nb1 cb1 : Nat) (Bb1 : Option Addr) (mb1 ob1 : Nat) (xs1 ys1 us1 vs1 : List Nat) (R1 : Rd w Aa1 na1 ca1 xs1) (S1 : Rd w Ba1 ma1 oa1 ys1) (U1 : Rd w Ab1 nb1 cb1 us1) (V1 : Rd w Bb1 mb1 ob1 vs1) (ba2 : Bool) (Aa2 : Option Addr) (na2 ca2 : Nat) (Ba2 : Option Addr) (ma2 oa2 : Nat) (bb2 : Bool) (Ab2 : Option Addr) (nb2 cb2 : Nat) (Bb2 : Option Addr) (mb2 ob2 : Nat) (xs2 ys2 us2 vs2 : List Nat) (R2 : Rd w Aa2 na2 ca2 xs2) (S2 : Rd w Ba2 ma2 oa2 ys2) (U2 : Rd w Ab2 nb2 cb2 us2) (V2 : Rd w Bb2 mb2 ob2 vs2)  :
    Calls Try.prog 6 #[.agg #[.bool ba0, .slice Aa0 na0 ca0, .slice Ba0 ma0 oa0, .bool bb0, .slice Ab0 nb0 cb0, .slice Bb0 mb0 ob0], .agg #[.bool ba1, .slice Aa1 na1 ca1, .slice Ba1 ma1 oa1, .bool bb1, .slice Ab1 nb1 cb1, .slice Bb1 mb1 ob1], .agg #[.bool ba2, .slice Aa2 na2 ca2, .slice Ba2 ma2 oa2, .bool bb2, .slice Ab2 nb2 cb2, .slice Bb2 mb2 ob2]] w fun e w' => e = .returned (.bool true) ∧ On w w' := by
  by_cases hs : na0 ≤ 6 ∧ ma0 ≤ 6 ∧ nb0 ≤ 6 ∧ mb0 ≤ 6 ∧ na1 ≤ 6 ∧ ma1 ≤ 6 ∧ nb1 ≤ 6 ∧ mb1 ≤ 6 ∧ na2 ≤ 6 ∧ ma2 ≤ 6 ∧ nb2 ≤ 6 ∧ mb2 ≤ 6
  · obtain ⟨lo0, hi0, f0, Q0⟩ : ∃ lo hi f, SRaw w (.agg #[.bool ba0, .slice Aa0 na0 ca0, .slice Ba0 ma0 oa0, .bool bb0, .slice Ab0 nb0 cb0, .slice Bb0 mb0 ob0]) lo hi f 6 := ⟨_, _, _, ba0, Aa0, na0, ca0, Ba0, ma0, oa0, bb0, Ab0, nb0, cb0, Bb0, mb0, ob0, xs0, ys0, us0, vs0, rfl, R0, S0, U0, V0, by omega, by omega, by omega, by omega, rfl, rfl, rfl⟩
    obtain ⟨lo1, hi1, f1, Q1⟩ : ∃ lo hi f, SRaw w (.agg #[.bool ba1, .slice Aa1 na1 ca1, .slice Ba1 ma1 oa1, .bool bb1, .slice Ab1 nb1 cb1, .slice Bb1 mb1 ob1]) lo hi f 6 := ⟨_, _, _, ba1, Aa1, na1, ca1, Ba1, ma1, oa1, bb1, Ab1, nb1, cb1, Bb1, mb1, ob1, xs1, ys1, us1, vs1, rfl, R1, S1, U1, V1, by omega, by omega, by omega, by omega, rfl, rfl, rfl⟩
    obtain ⟨lo2, hi2, f2, Q2⟩ : ∃ lo hi f, SRaw w (.agg #[.bool ba2, .slice Aa2 na2 ca2, .slice Ba2 ma2 oa2, .bool bb2, .slice Ab2 nb2 cb2, .slice Bb2 mb2 ob2]) lo hi f 6 := ⟨_, _, _, ba2, Aa2, na2, ca2, Ba2, ma2, oa2, bb2, Ab2, nb2, cb2, Bb2, mb2, ob2, xs2, ys2, us2, vs2, rfl, R2, S2, U2, V2, by omega, by omega, by omega, by omega, rfl, rfl, rfl⟩
    cases f0
    · exact lattice_inv0 w ba0 Aa0 na0 ca0 Ba0 ma0 oa0 bb0 Ab0 nb0 cb0 Bb0 mb0 ob0 xs0 ys0 us0 vs0 R0 S0 U0 V0 ba1 Aa1 na1 ca1 Ba1 ma1 oa1 bb1 Ab1 nb1 cb1 Bb1 mb1 ob1 xs1 ys1 us1 vs1 R1 S1 U1 V1 ba2 Aa2 na2 ca2 Ba2 ma2 oa2 bb2 Ab2 nb2 cb2 Bb2 mb2 ob2 xs2 ys2 us2 vs2 R2 S2 U2 V2  hs _ _ Q0
    cases f1
    · exact lattice_inv1 w ba0 Aa0 na0 ca0 Ba0 ma0 oa0 bb0 Ab0 nb0 cb0 Bb0 mb0 ob0 xs0 ys0 us0 vs0 R0 S0 U0 V0 ba1 Aa1 na1 ca1 Ba1 ma1 oa1 bb1 Ab1 nb1 cb1 Bb1 mb1 ob1 xs1 ys1 us1 vs1 R1 S1 U1 V1 ba2 Aa2 na2 ca2 Ba2 ma2 oa2 bb2 Ab2 nb2 cb2 Bb2 mb2 ob2 xs2 ys2 us2 vs2 R2 S2 U2 V2  hs _ _ Q0 _ _ Q1
    cases f2
    · exact lattice_inv2 w ba0 Aa0 na0 ca0 Ba0 ma0 oa0 bb0 Ab0 nb0 cb0 Bb0 mb0 ob0 xs0 ys0 us0 vs0 R0 S0 U0 V0 ba1 Aa1 na1 ca1 Ba1 ma1 oa1 bb1 Ab1 nb1 cb1 Bb1 mb1 ob1 xs1 ys1 us1 vs1 R1 S1 U1 V1 ba2 Aa2 na2 ca2 Ba2 ma2 oa2 bb2 Ab2 nb2 cb2 Bb2 mb2 ob2 xs2 ys2 us2 vs2 R2 S2 U2 V2  hs _ _ Q0 _ _ Q1 _ _ Q2
    by_cases hc : rmin hi0 hi1 < rmax lo0 lo1
    · exact lattice_no w ba0 Aa0 na0 ca0 Ba0 ma0 oa0 bb0 Ab0 nb0 cb0 Bb0 mb0 ob0 xs0 ys0 us0 vs0 R0 S0 U0 V0 ba1 Aa1 na1 ca1 Ba1 ma1 oa1 bb1 Ab1 nb1 cb1 Bb1 mb1 ob1 xs1 ys1 us1 vs1 R1 S1 U1 V1 ba2 Aa2 na2 ca2 Ba2 ma2 oa2 bb2 Ab2 nb2 cb2 Bb2 mb2 ob2 xs2 ys2 us2 vs2 R2 S2 U2 V2 hs _ _ Q0 _ _ Q1 _ _ Q2 hc
    · exact lattice_ok w ba0 Aa0 na0 ca0 Ba0 ma0 oa0 bb0 Ab0 nb0 cb0 Bb0 mb0 ob0 xs0 ys0 us0 vs0 R0 S0 U0 V0 ba1 Aa1 na1 ca1 Ba1 ma1 oa1 bb1 Ab1 nb1 cb1 Bb1 mb1 ob1 xs1 ys1 us1 vs1 R1 S1 U1 V1 ba2 Aa2 na2 ca2 Ba2 ma2 oa2 bb2 Ab2 nb2 cb2 Bb2 mb2 ob2 xs2 ys2 us2 vs2 R2 S2 U2 V2 hs _ _ Q0 _ _ Q1 _ _ Q2 (Rat.not_lt.1 hc)
  · have : ∃ (mi : Nat) (qi : Nat × Nat × Nat × Nat), [(na0, ma0, nb0, mb0), (na1, ma1, nb1, mb1), (na2, ma2, nb2, mb2)][mi]? = some qi ∧ Big qi := by
      by_cases h0 : Big (na0, ma0, nb0, mb0)
      · exact ⟨0, _, rfl, h0⟩
      by_cases h1 : Big (na1, ma1, nb1, mb1)
      · exact ⟨1, _, rfl, h1⟩
      by_cases h2 : Big (na2, ma2, nb2, mb2)
      · exact ⟨2, _, rfl, h2⟩
      exfalso
      apply hs
      simp only [Big] at h0 h1 h2
      omega
    obtain ⟨mi, qi, h1, h2⟩ := this
    exact lattice_large w ba0 Aa0 na0 ca0 Ba0 ma0 oa0 bb0 Ab0 nb0 cb0 Bb0 mb0 ob0 xs0 ys0 us0 vs0 R0 S0 U0 V0 ba1 Aa1 na1 ca1 Ba1 ma1 oa1 bb1 Ab1 nb1 cb1 Bb1 mb1 ob1 xs1 ys1 us1 vs1 R1 S1 U1 V1 ba2 Aa2 na2 ca2 Ba2 ma2 oa2 bb2 Ab2 nb2 cb2 Bb2 mb2 ob2 xs2 ys2 us2 vs2 R2 S2 U2 V2  mi qi h1 h2
end Num
end Go.Proofs.Ytkchpagjkgmpmaa
