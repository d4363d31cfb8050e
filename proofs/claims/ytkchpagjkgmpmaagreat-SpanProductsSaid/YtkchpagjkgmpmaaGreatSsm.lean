/-
  The statements' same; lengths of lists of spans.
-/
import Derived.Test.YtkchpagjkgmpmaaGreatSaw
namespace Go.Proofs.YtkchpagjkgmpmaaGreat
open Go.RowKit
set_option linter.unusedVariables false
namespace Num
set_option maxRecDepth 100000 in
set_option maxHeartbeats 1600000 in
theorem ssame_any (w : World) (v v' : Value) (lo hi : Rat) (L L' : Nat) (h : IsS w v lo hi L) (k : IsS w v' lo hi L') :
    Calls Tryz.prog 13 #[v, v'] w fun e w' => e = .returned (.bool true) ∧ On w w' := by
  obtain ⟨ba0, Aa0, na0, ca0, Ba0, ma0, oa0, bb0, Ab0, nb0, cb0, Bb0, mb0, ob0, rfl, IL0, IH0⟩ := id h
  obtain ⟨ba1, Aa1, na1, ca1, Ba1, ma1, oa1, bb1, Ab1, nb1, cb1, Bb1, mb1, ob1, rfl, IL1, IH1⟩ := id k
  have B : On w ((w.alloc (.cells #[.bool ba0, .slice Aa0 na0 ca0, .slice Ba0 ma0 oa0, .bool bb0, .slice Ab0 nb0 cb0, .slice Bb0 mb0 ob0] 26)).alloc (.cells #[.bool ba1, .slice Aa1 na1 ca1, .slice Ba1 ma1 oa1, .bool bb1, .slice Ab1 nb1 cb1, .slice Bb1 mb1 ob1] 26)) := On.alloc (On.alloc (On.refl w) _) _
  have OB2 : w.heap.size ≤ w.heap.size ∧ Own ((w.alloc (.cells #[.bool ba0, .slice Aa0 na0 ca0, .slice Ba0 ma0 oa0, .bool bb0, .slice Ab0 nb0 cb0, .slice Bb0 mb0 ob0] 26)).alloc (.cells #[.bool ba1, .slice Aa1 na1 ca1, .slice Ba1 ma1 oa1, .bool bb1, .slice Ab1 nb1 cb1, .slice Bb1 mb1 ob1] 26)) (w.heap.size) 26 #[.bool ba0, .slice Aa0 na0 ca0, .slice Ba0 ma0 oa0, .bool bb0, .slice Ab0 nb0 cb0, .slice Bb0 mb0 ob0] := ⟨by omega, ((Own.at_ w (w.heap.size) (by simp) 26 #[.bool ba0, .slice Aa0 na0 ca0, .slice Ba0 ma0 oa0, .bool bb0, .slice Ab0 nb0 cb0, .slice Bb0 mb0 ob0]).alloc (.cells #[.bool ba1, .slice Aa1 na1 ca1, .slice Ba1 ma1 oa1, .bool bb1, .slice Ab1 nb1 cb1, .slice Bb1 mb1 ob1] 26))⟩
  have OB3 : w.heap.size ≤ w.heap.size + 1 ∧ Own ((w.alloc (.cells #[.bool ba0, .slice Aa0 na0 ca0, .slice Ba0 ma0 oa0, .bool bb0, .slice Ab0 nb0 cb0, .slice Bb0 mb0 ob0] 26)).alloc (.cells #[.bool ba1, .slice Aa1 na1 ca1, .slice Ba1 ma1 oa1, .bool bb1, .slice Ab1 nb1 cb1, .slice Bb1 mb1 ob1] 26)) (w.heap.size + 1) 26 #[.bool ba1, .slice Aa1 na1 ca1, .slice Ba1 ma1 oa1, .bool bb1, .slice Ab1 nb1 cb1, .slice Bb1 mb1 ob1] := ⟨by omega, (Own.at_ (w.alloc (.cells #[.bool ba0, .slice Aa0 na0 ca0, .slice Ba0 ma0 oa0, .bool bb0, .slice Ab0 nb0 cb0, .slice Bb0 mb0 ob0] 26)) (w.heap.size + 1) (by simp) 26 #[.bool ba1, .slice Aa1 na1 ca1, .slice Ba1 ma1 oa1, .bool bb1, .slice Ab1 nb1 cb1, .slice Bb1 mb1 ob1])⟩
  go_enter Tryz.func13, Tryz.ntmps13
  go_wp2_with fail
  refine (rat_same _ _ _ lo L L' (IL0.on B) (IL1.on B)).mono ?_
  rintro e w1 ⟨rfl, P1⟩
  replace OB2 := And.intro OB2.1 (OB2.2.on P1)
  replace OB3 := And.intro OB3.1 (OB3.2.on P1)
  replace B := B.trans P1
  have y2_0 : w1.cell? ⟨w.heap.size, 0, none⟩ = some (.bool ba0) := OB2.2.cell 0
  have y2_1 : w1.cell? ⟨w.heap.size, 1, none⟩ = some (.slice Aa0 na0 ca0) := OB2.2.cell 1
  have y2_2 : w1.cell? ⟨w.heap.size, 2, none⟩ = some (.slice Ba0 ma0 oa0) := OB2.2.cell 2
  have y2_3 : w1.cell? ⟨w.heap.size, 3, none⟩ = some (.bool bb0) := OB2.2.cell 3
  have y2_4 : w1.cell? ⟨w.heap.size, 4, none⟩ = some (.slice Ab0 nb0 cb0) := OB2.2.cell 4
  have y2_5 : w1.cell? ⟨w.heap.size, 5, none⟩ = some (.slice Bb0 mb0 ob0) := OB2.2.cell 5
  have y2_f0 := OB2.2.frozen 0
  have y2_f1 := OB2.2.frozen 1
  have y2_f2 := OB2.2.frozen 2
  have y2_f3 := OB2.2.frozen 3
  have y2_f4 := OB2.2.frozen 4
  have y2_f5 := OB2.2.frozen 5
  have y3_0 : w1.cell? ⟨w.heap.size + 1, 0, none⟩ = some (.bool ba1) := OB3.2.cell 0
  have y3_1 : w1.cell? ⟨w.heap.size + 1, 1, none⟩ = some (.slice Aa1 na1 ca1) := OB3.2.cell 1
  have y3_2 : w1.cell? ⟨w.heap.size + 1, 2, none⟩ = some (.slice Ba1 ma1 oa1) := OB3.2.cell 2
  have y3_3 : w1.cell? ⟨w.heap.size + 1, 3, none⟩ = some (.bool bb1) := OB3.2.cell 3
  have y3_4 : w1.cell? ⟨w.heap.size + 1, 4, none⟩ = some (.slice Ab1 nb1 cb1) := OB3.2.cell 4
  have y3_5 : w1.cell? ⟨w.heap.size + 1, 5, none⟩ = some (.slice Bb1 mb1 ob1) := OB3.2.cell 5
  have y3_f0 := OB3.2.frozen 0
  have y3_f1 := OB3.2.frozen 1
  have y3_f2 := OB3.2.frozen 2
  have y3_f3 := OB3.2.frozen 3
  have y3_f4 := OB3.2.frozen 4
  have y3_f5 := OB3.2.frozen 5
  go_wp2_with fail
  refine (rat_same _ _ _ hi L L' (IH0.on B) (IH1.on B)).mono ?_
  rintro e w2 ⟨rfl, P2⟩
  go_wp2
  go_ret
  exact ⟨rfl, B.trans P2⟩
theorem slens1 {w : World} {g t : Nat} (ba0 : Bool) (Aa0 : Option Addr) (na0 ca0 : Nat) (Ba0 : Option Addr) (ma0 oa0 : Nat) (bb0 : Bool) (Ab0 : Option Addr) (nb0 cb0 : Nat) (Bb0 : Option Addr) (mb0 ob0 : Nat) (xs0 ys0 us0 vs0 : List Nat) (R0 : Rd w Aa0 na0 ca0 xs0) (S0 : Rd w Ba0 ma0 oa0 ys0) (U0 : Rd w Ab0 nb0 cb0 us0) (V0 : Rd w Bb0 mb0 ob0 vs0) (h : Own w g t #[.bool ba0, .slice Aa0 na0 ca0, .slice Ba0 ma0 oa0, .bool bb0, .slice Ab0 nb0 cb0, .slice Bb0 mb0 ob0]) : SLens w g [(na0, ma0, nb0, mb0)] := by
  refine ⟨h.lt, fun i p hp => ?_⟩
  rcases i with _ | i
  · simp at hp; subst hp
    exact ⟨ba0, Aa0, ca0, Ba0, oa0, bb0, Ab0, cb0, Bb0, ob0, h.cell 0, h.cell 1, h.cell 2, h.cell 3, h.cell 4, h.cell 5, ⟨R0.cap, R0.max⟩, ⟨S0.cap, S0.max⟩, ⟨U0.cap, U0.max⟩, ⟨V0.cap, V0.max⟩⟩
  · simp at hp
theorem slens2 {w : World} {g t : Nat} (ba0 : Bool) (Aa0 : Option Addr) (na0 ca0 : Nat) (Ba0 : Option Addr) (ma0 oa0 : Nat) (bb0 : Bool) (Ab0 : Option Addr) (nb0 cb0 : Nat) (Bb0 : Option Addr) (mb0 ob0 : Nat) (xs0 ys0 us0 vs0 : List Nat) (R0 : Rd w Aa0 na0 ca0 xs0) (S0 : Rd w Ba0 ma0 oa0 ys0) (U0 : Rd w Ab0 nb0 cb0 us0) (V0 : Rd w Bb0 mb0 ob0 vs0) (ba1 : Bool) (Aa1 : Option Addr) (na1 ca1 : Nat) (Ba1 : Option Addr) (ma1 oa1 : Nat) (bb1 : Bool) (Ab1 : Option Addr) (nb1 cb1 : Nat) (Bb1 : Option Addr) (mb1 ob1 : Nat) (xs1 ys1 us1 vs1 : List Nat) (R1 : Rd w Aa1 na1 ca1 xs1) (S1 : Rd w Ba1 ma1 oa1 ys1) (U1 : Rd w Ab1 nb1 cb1 us1) (V1 : Rd w Bb1 mb1 ob1 vs1) (h : Own w g t #[.bool ba0, .slice Aa0 na0 ca0, .slice Ba0 ma0 oa0, .bool bb0, .slice Ab0 nb0 cb0, .slice Bb0 mb0 ob0, .bool ba1, .slice Aa1 na1 ca1, .slice Ba1 ma1 oa1, .bool bb1, .slice Ab1 nb1 cb1, .slice Bb1 mb1 ob1]) : SLens w g [(na0, ma0, nb0, mb0), (na1, ma1, nb1, mb1)] := by
  refine ⟨h.lt, fun i p hp => ?_⟩
  rcases i with _ | i
  · simp at hp; subst hp
    exact ⟨ba0, Aa0, ca0, Ba0, oa0, bb0, Ab0, cb0, Bb0, ob0, h.cell 0, h.cell 1, h.cell 2, h.cell 3, h.cell 4, h.cell 5, ⟨R0.cap, R0.max⟩, ⟨S0.cap, S0.max⟩, ⟨U0.cap, U0.max⟩, ⟨V0.cap, V0.max⟩⟩
  rcases i with _ | i
  · simp at hp; subst hp
    exact ⟨ba1, Aa1, ca1, Ba1, oa1, bb1, Ab1, cb1, Bb1, ob1, h.cell 6, h.cell 7, h.cell 8, h.cell 9, h.cell 10, h.cell 11, ⟨R1.cap, R1.max⟩, ⟨S1.cap, S1.max⟩, ⟨U1.cap, U1.max⟩, ⟨V1.cap, V1.max⟩⟩
  · simp at hp
theorem slens3 {w : World} {g t : Nat} (ba0 : Bool) (Aa0 : Option Addr) (na0 ca0 : Nat) (Ba0 : Option Addr) (ma0 oa0 : Nat) (bb0 : Bool) (Ab0 : Option Addr) (nb0 cb0 : Nat) (Bb0 : Option Addr) (mb0 ob0 : Nat) (xs0 ys0 us0 vs0 : List Nat) (R0 : Rd w Aa0 na0 ca0 xs0) (S0 : Rd w Ba0 ma0 oa0 ys0) (U0 : Rd w Ab0 nb0 cb0 us0) (V0 : Rd w Bb0 mb0 ob0 vs0) (ba1 : Bool) (Aa1 : Option Addr) (na1 ca1 : Nat) (Ba1 : Option Addr) (ma1 oa1 : Nat) (bb1 : Bool) (Ab1 : Option Addr) (nb1 cb1 : Nat) (Bb1 : Option Addr) (mb1 ob1 : Nat) (xs1 ys1 us1 vs1 : List Nat) (R1 : Rd w Aa1 na1 ca1 xs1) (S1 : Rd w Ba1 ma1 oa1 ys1) (U1 : Rd w Ab1 nb1 cb1 us1) (V1 : Rd w Bb1 mb1 ob1 vs1) (ba2 : Bool) (Aa2 : Option Addr) (na2 ca2 : Nat) (Ba2 : Option Addr) (ma2 oa2 : Nat) (bb2 : Bool) (Ab2 : Option Addr) (nb2 cb2 : Nat) (Bb2 : Option Addr) (mb2 ob2 : Nat) (xs2 ys2 us2 vs2 : List Nat) (R2 : Rd w Aa2 na2 ca2 xs2) (S2 : Rd w Ba2 ma2 oa2 ys2) (U2 : Rd w Ab2 nb2 cb2 us2) (V2 : Rd w Bb2 mb2 ob2 vs2) (h : Own w g t #[.bool ba0, .slice Aa0 na0 ca0, .slice Ba0 ma0 oa0, .bool bb0, .slice Ab0 nb0 cb0, .slice Bb0 mb0 ob0, .bool ba1, .slice Aa1 na1 ca1, .slice Ba1 ma1 oa1, .bool bb1, .slice Ab1 nb1 cb1, .slice Bb1 mb1 ob1, .bool ba2, .slice Aa2 na2 ca2, .slice Ba2 ma2 oa2, .bool bb2, .slice Ab2 nb2 cb2, .slice Bb2 mb2 ob2]) : SLens w g [(na0, ma0, nb0, mb0), (na1, ma1, nb1, mb1), (na2, ma2, nb2, mb2)] := by
  refine ⟨h.lt, fun i p hp => ?_⟩
  rcases i with _ | i
  · simp at hp; subst hp
    exact ⟨ba0, Aa0, ca0, Ba0, oa0, bb0, Ab0, cb0, Bb0, ob0, h.cell 0, h.cell 1, h.cell 2, h.cell 3, h.cell 4, h.cell 5, ⟨R0.cap, R0.max⟩, ⟨S0.cap, S0.max⟩, ⟨U0.cap, U0.max⟩, ⟨V0.cap, V0.max⟩⟩
  rcases i with _ | i
  · simp at hp; subst hp
    exact ⟨ba1, Aa1, ca1, Ba1, oa1, bb1, Ab1, cb1, Bb1, ob1, h.cell 6, h.cell 7, h.cell 8, h.cell 9, h.cell 10, h.cell 11, ⟨R1.cap, R1.max⟩, ⟨S1.cap, S1.max⟩, ⟨U1.cap, U1.max⟩, ⟨V1.cap, V1.max⟩⟩
  rcases i with _ | i
  · simp at hp; subst hp
    exact ⟨ba2, Aa2, ca2, Ba2, oa2, bb2, Ab2, cb2, Bb2, ob2, h.cell 12, h.cell 13, h.cell 14, h.cell 15, h.cell 16, h.cell 17, ⟨R2.cap, R2.max⟩, ⟨S2.cap, S2.max⟩, ⟨U2.cap, U2.max⟩, ⟨V2.cap, V2.max⟩⟩
  · simp at hp
end Num
end Go.Proofs.YtkchpagjkgmpmaaGreat
