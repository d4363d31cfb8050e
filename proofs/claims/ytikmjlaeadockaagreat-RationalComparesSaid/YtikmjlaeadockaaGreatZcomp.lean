/-
  RationalCompares, walked.
-/
import Derived.Test.YtikmjlaeadockaaGreatZprob
namespace Go.Proofs.YtikmjlaeadockaaGreat
open Go.RowKit
set_option linter.unusedVariables false
namespace Num
set_option maxRecDepth 100000 in
set_option maxHeartbeats 1600000 in
theorem compares_large (w : World) (hx : MX w) (b0 : Bool) (A0 D0 : Option Addr) (n0 c0 m0 e0 : Nat) (x0 y0 : List Nat) (R0 : Rd w A0 n0 c0 x0) (S0 : Rd w D0 m0 e0 y0) (b1 : Bool) (A1 D1 : Option Addr) (n1 c1 m1 e1 : Nat) (x1 y1 : List Nat) (R1 : Rd w A1 n1 c1 x1) (S1 : Rd w D1 m1 e1 y1)  (mi : Nat) (qi : Nat × Nat) (hmi : [(n0, m0), (n1, m1)][mi]? = some qi) (hyi : 12 < qi.1 ∨ 12 < qi.2) :
    Calls Tryz.prog 5 #[.agg #[.bool b0, .slice A0 n0 c0, .slice D0 m0 e0], .agg #[.bool b1, .slice A1 n1 c1, .slice D1 m1 e1]] w fun e w' => e = .returned (.bool true) ∧ On w w' := by
  have HMI := Lib.hid hmi
  have HYI := Lib.hid hyi
  clear hmi hyi
  have B : On w ((w.alloc (.cells #[.bool b0, .slice A0 n0 c0, .slice D0 m0 e0] 24)).alloc (.cells #[.bool b1, .slice A1 n1 c1, .slice D1 m1 e1] 24)) := On.alloc (On.alloc (On.refl w) _) _
  have OB2 : w.heap.size ≤ w.heap.size ∧ Own ((w.alloc (.cells #[.bool b0, .slice A0 n0 c0, .slice D0 m0 e0] 24)).alloc (.cells #[.bool b1, .slice A1 n1 c1, .slice D1 m1 e1] 24)) (w.heap.size) 24 #[.bool b0, .slice A0 n0 c0, .slice D0 m0 e0] := ⟨by omega, ((Own.at_ w (w.heap.size) (by simp) 24 #[.bool b0, .slice A0 n0 c0, .slice D0 m0 e0]).alloc (.cells #[.bool b1, .slice A1 n1 c1, .slice D1 m1 e1] 24))⟩
  have OB3 : w.heap.size ≤ w.heap.size + 1 ∧ Own ((w.alloc (.cells #[.bool b0, .slice A0 n0 c0, .slice D0 m0 e0] 24)).alloc (.cells #[.bool b1, .slice A1 n1 c1, .slice D1 m1 e1] 24)) (w.heap.size + 1) 24 #[.bool b1, .slice A1 n1 c1, .slice D1 m1 e1] := ⟨by omega, (Own.at_ (w.alloc (.cells #[.bool b0, .slice A0 n0 c0, .slice D0 m0 e0] 24)) (w.heap.size + 1) (by simp) 24 #[.bool b1, .slice A1 n1 c1, .slice D1 m1 e1])⟩
  go_enter Tryz.func5, Tryz.ntmps5
  go_wp2_with fail
  refine (awake02 _ (hx.on B)).mono ?_
  rintro e w1 ⟨rfl, P1⟩
  replace OB2 := And.intro OB2.1 (OB2.2.on P1)
  replace OB3 := And.intro OB3.1 (OB3.2.on P1)
  replace B := B.trans P1
  have y2_0 : w1.cell? ⟨w.heap.size, 0, none⟩ = some (.bool b0) := OB2.2.cell 0
  have y2_1 : w1.cell? ⟨w.heap.size, 1, none⟩ = some (.slice A0 n0 c0) := OB2.2.cell 1
  have y2_2 : w1.cell? ⟨w.heap.size, 2, none⟩ = some (.slice D0 m0 e0) := OB2.2.cell 2
  have y2_f0 := OB2.2.frozen 0
  have y2_f1 := OB2.2.frozen 1
  have y2_f2 := OB2.2.frozen 2
  have y3_0 : w1.cell? ⟨w.heap.size + 1, 0, none⟩ = some (.bool b1) := OB3.2.cell 0
  have y3_1 : w1.cell? ⟨w.heap.size + 1, 1, none⟩ = some (.slice A1 n1 c1) := OB3.2.cell 1
  have y3_2 : w1.cell? ⟨w.heap.size + 1, 2, none⟩ = some (.slice D1 m1 e1) := OB3.2.cell 2
  have y3_f0 := OB3.2.frozen 0
  have y3_f1 := OB3.2.frozen 1
  have y3_f2 := OB3.2.frozen 2
  go_wp2_with fail
  clear y2_0 y2_f0 y2_1 y2_f1 y2_2 y2_f2
  clear y3_0 y3_f0 y3_1 y3_f1 y3_2 y3_f2
  have B1 := (On.refl w1).alloc (.cells #[.bool b0, .slice A0 n0 c0, .slice D0 m0 e0, .bool b1, .slice A1 n1 c1, .slice D1 m1 e1] 24)
  replace OB2 := And.intro OB2.1 (OB2.2.on B1)
  replace OB3 := And.intro OB3.1 (OB3.2.on B1)
  replace B := B.trans B1
  have hlens := rlens2 b0 A0 D0 n0 c0 m0 e0 x0 y0 (R0.on B) (S0.on B) b1 A1 D1 n1 c1 m1 e1 x1 y1 (R1.on B) (S1.on B) (Own.new w1 24 #[.bool b0, .slice A0 n0 c0, .slice D0 m0 e0, .bool b1, .slice A1 n1 c1, .slice D1 m1 e1])
  refine (rlarge_yes _ _ 2 2 _ hlens rfl (by decide) (by decide) (by decide) mi qi HMI.out HYI.out).mono ?_
  rintro e w2 ⟨rfl, P2⟩
  clear hlens B1 P1
  replace OB2 := And.intro OB2.1 (OB2.2.on P2)
  replace OB3 := And.intro OB3.1 (OB3.2.on P2)
  replace B := B.trans P2
  clear P2
  go_wp2_with fail
  refine (awake02 _ (hx.on B)).mono ?_
  rintro e w3 ⟨rfl, P3⟩
  go_wp2
  go_ret
  exact ⟨rfl, B.trans P3⟩
set_option maxRecDepth 100000 in
set_option maxHeartbeats 1600000 in
theorem compares_small (w : World) (hx : MX w) (b0 : Bool) (A0 D0 : Option Addr) (n0 c0 m0 e0 : Nat) (x0 y0 : List Nat) (R0 : Rd w A0 n0 c0 x0) (S0 : Rd w D0 m0 e0 y0) (b1 : Bool) (A1 D1 : Option Addr) (n1 c1 m1 e1 : Nat) (x1 y1 : List Nat) (R1 : Rd w A1 n1 c1 x1) (S1 : Rd w D1 m1 e1 y1) (hs : n0 ≤ 12 ∧ m0 ≤ 12 ∧ n1 ≤ 12 ∧ m1 ≤ 12) :
    Calls Tryz.prog 5 #[.agg #[.bool b0, .slice A0 n0 c0, .slice D0 m0 e0], .agg #[.bool b1, .slice A1 n1 c1, .slice D1 m1 e1]] w fun e w' => e = .returned (.bool true) ∧ On w w' := by
  obtain ⟨r0, hr0⟩ : ∃ x, raw b0 x0 y0 = x := ⟨_, rfl⟩
  have F0 : Fld w (.agg #[.bool b0, .slice A0 n0 c0, .slice D0 m0 e0]) r0 12 := Fld.mk3 R0 S0 (by omega) (by omega) hr0
  obtain ⟨r1, hr1⟩ : ∃ x, raw b1 x1 y1 = x := ⟨_, rfl⟩
  have F1 : Fld w (.agg #[.bool b1, .slice A1 n1 c1, .slice D1 m1 e1]) r1 12 := Fld.mk3 R1 S1 (by omega) (by omega) hr1
  obtain ⟨sc, esc⟩ : ∃ x, rsg r0 = x := ⟨_, rfl⟩
  have Hsc := Lib.hid esc
  clear esc
  obtain ⟨kn, ekn⟩ : ∃ x, rsg (r0 - r1) = x := ⟨_, rfl⟩
  have Hkn := Lib.hid ekn
  clear ekn
  obtain ⟨pb, epb⟩ : ∃ x, probB b0 x0 y0 = x := ⟨_, rfl⟩
  have Hpb := Lib.hid epb
  clear epb
  clear hr0 hr1
  have B : On w ((w.alloc (.cells #[.bool b0, .slice A0 n0 c0, .slice D0 m0 e0] 24)).alloc (.cells #[.bool b1, .slice A1 n1 c1, .slice D1 m1 e1] 24)) := On.alloc (On.alloc (On.refl w) _) _
  have OB2 : w.heap.size ≤ w.heap.size ∧ Own ((w.alloc (.cells #[.bool b0, .slice A0 n0 c0, .slice D0 m0 e0] 24)).alloc (.cells #[.bool b1, .slice A1 n1 c1, .slice D1 m1 e1] 24)) (w.heap.size) 24 #[.bool b0, .slice A0 n0 c0, .slice D0 m0 e0] := ⟨by omega, ((Own.at_ w (w.heap.size) (by simp) 24 #[.bool b0, .slice A0 n0 c0, .slice D0 m0 e0]).alloc (.cells #[.bool b1, .slice A1 n1 c1, .slice D1 m1 e1] 24))⟩
  have OB3 : w.heap.size ≤ w.heap.size + 1 ∧ Own ((w.alloc (.cells #[.bool b0, .slice A0 n0 c0, .slice D0 m0 e0] 24)).alloc (.cells #[.bool b1, .slice A1 n1 c1, .slice D1 m1 e1] 24)) (w.heap.size + 1) 24 #[.bool b1, .slice A1 n1 c1, .slice D1 m1 e1] := ⟨by omega, (Own.at_ (w.alloc (.cells #[.bool b0, .slice A0 n0 c0, .slice D0 m0 e0] 24)) (w.heap.size + 1) (by simp) 24 #[.bool b1, .slice A1 n1 c1, .slice D1 m1 e1])⟩
  go_enter Tryz.func5, Tryz.ntmps5
  go_wp2_with fail
  refine (awake02 _ (hx.on B)).mono ?_
  rintro e w1 ⟨rfl, P1⟩
  replace OB2 := And.intro OB2.1 (OB2.2.on P1)
  replace OB3 := And.intro OB3.1 (OB3.2.on P1)
  replace B := B.trans P1
  have y2_0 : w1.cell? ⟨w.heap.size, 0, none⟩ = some (.bool b0) := OB2.2.cell 0
  have y2_1 : w1.cell? ⟨w.heap.size, 1, none⟩ = some (.slice A0 n0 c0) := OB2.2.cell 1
  have y2_2 : w1.cell? ⟨w.heap.size, 2, none⟩ = some (.slice D0 m0 e0) := OB2.2.cell 2
  have y2_f0 := OB2.2.frozen 0
  have y2_f1 := OB2.2.frozen 1
  have y2_f2 := OB2.2.frozen 2
  have y3_0 : w1.cell? ⟨w.heap.size + 1, 0, none⟩ = some (.bool b1) := OB3.2.cell 0
  have y3_1 : w1.cell? ⟨w.heap.size + 1, 1, none⟩ = some (.slice A1 n1 c1) := OB3.2.cell 1
  have y3_2 : w1.cell? ⟨w.heap.size + 1, 2, none⟩ = some (.slice D1 m1 e1) := OB3.2.cell 2
  have y3_f0 := OB3.2.frozen 0
  have y3_f1 := OB3.2.frozen 1
  have y3_f2 := OB3.2.frozen 2
  go_wp2_with fail
  clear y2_0 y2_f0 y2_1 y2_f1 y2_2 y2_f2
  clear y3_0 y3_f0 y3_1 y3_f1 y3_2 y3_f2
  have B1 := (On.refl w1).alloc (.cells #[.bool b0, .slice A0 n0 c0, .slice D0 m0 e0, .bool b1, .slice A1 n1 c1, .slice D1 m1 e1] 24)
  replace OB2 := And.intro OB2.1 (OB2.2.on B1)
  replace OB3 := And.intro OB3.1 (OB3.2.on B1)
  replace B := B.trans B1
  have hlens := rlens2 b0 A0 D0 n0 c0 m0 e0 x0 y0 (R0.on B) (S0.on B) b1 A1 D1 n1 c1 m1 e1 x1 y1 (R1.on B) (S1.on B) (Own.new w1 24 #[.bool b0, .slice A0 n0 c0, .slice D0 m0 e0, .bool b1, .slice A1 n1 c1, .slice D1 m1 e1])
  refine (rlarge_no _ _ 2 2 _ hlens rfl (by decide) (by decide) (by decide) (by simp; omega)).mono ?_
  rintro e w2 ⟨rfl, P2⟩
  clear hlens B1 P1
  replace OB2 := And.intro OB2.1 (OB2.2.on P2)
  replace OB3 := And.intro OB3.1 (OB3.2.on P2)
  replace B := B.trans P2
  clear P2
  clear hx
  go_wp2
  refine wp_region_facts (by kernel_rfl) w [Fact.eq (.agg #[.bool b0, .slice A0 n0 c0, .slice D0 m0 e0]), Fact.eq (.int .i64 sc), Fact.eq (.agg #[.bool b0, .slice A0 n0 c0, .slice D0 m0 e0]), Fact.eq (.int .i64 sc), Fact.eq (.bool true), Fact.eq (.bool true), Fact.eq (.agg #[.bool b0, .slice A0 n0 c0, .slice D0 m0 e0]), Fact.eq (.agg #[.bool b1, .slice A1 n1 c1, .slice D1 m1 e1]), Fact.eq (.int .i64 kn), Fact.eq (.agg #[.bool b0, .slice A0 n0 c0, .slice D0 m0 e0]), Fact.eq (.agg #[.bool b1, .slice A1 n1 c1, .slice D1 m1 e1]), Fact.eq (.int .i64 kn), Fact.eq (.bool true), Fact.eq (.bool true), Fact.eq (.bool true), Fact.eq (.agg #[.bool b0, .slice A0 n0 c0, .slice D0 m0 e0]), Fact.eq (.agg #[.bool b1, .slice A1 n1 c1, .slice D1 m1 e1]), Fact.rat (rmin r0 r1) (12), Fact.eq (.agg #[.bool b0, .slice A0 n0 c0, .slice D0 m0 e0]), Fact.eq (.agg #[.bool b1, .slice A1 n1 c1, .slice D1 m1 e1]), Fact.rat (rmin r0 r1) (12 + 12 + 1), Fact.eq (.bool true), Fact.eq (.bool true), Fact.eq (.bool true), Fact.eq (.agg #[.bool b0, .slice A0 n0 c0, .slice D0 m0 e0]), Fact.eq (.agg #[.bool b1, .slice A1 n1 c1, .slice D1 m1 e1]), Fact.rat (rmax r0 r1) (12), Fact.eq (.agg #[.bool b0, .slice A0 n0 c0, .slice D0 m0 e0]), Fact.eq (.agg #[.bool b1, .slice A1 n1 c1, .slice D1 m1 e1]), Fact.rat (rmax r0 r1) (12 + 12 + 1), Fact.eq (.bool true), Fact.eq (.bool true), Fact.eq (.bool true), Fact.eq (.agg #[.bool b0, .slice A0 n0 c0, .slice D0 m0 e0]), Fact.eq (.bool pb), Fact.eq (.agg #[.bool b0, .slice A0 n0 c0, .slice D0 m0 e0]), Fact.eq (.bool pb), Fact.eq (.bool true), Fact.eq (.bool true), Fact.eq (.bool true)] [Fact.any, Fact.any] [⟨40, 2, 24, 40, #[.bool b0, .slice A0 n0 c0, .slice D0 m0 e0]⟩, ⟨40, 3, 24, 40, #[.bool b1, .slice A1 n1 c1, .slice D1 m1 e1]⟩] [w.heap.size, w.heap.size + 1] [none, none, none, none, some 4, none, none, none, none, none, none, none, none, none, some 14, some 15, some 16, some 17, some 18, some 19, some 20, some 21, some 22, some 23, some 24, some 25, some 26, some 27, some 28, some 29, some 30, some 31, some 32, some 33, some 34, some 35, some 36, some 37, some 38, some 39, some 40, some 41, some 42, some 43, some 44, some 45, some 46, some 47, some 48, some 49, some 50, some 51, some 52] (by kernel_rfl) (by kernel_rfl) (by kernel_rfl) rfl B ?_ ?_ ?_ ?_ ?_
  · exact ⟨fun _ => ⟨by simp, rfl, OB2⟩, fun _ => ⟨by simp, rfl, OB3⟩, trivial⟩
  · exact .inl ⟨Nat.le_refl _, Nat.le_refl _, trivial⟩
  · exact ⟨⟨noWords_R _ _ _ _ _ _ _, (.inl (Nat.le_refl _)), (.inl (Nat.le_refl _))⟩, ⟨noWords_R _ _ _ _ _ _ _, (.inl (Nat.le_refl _)), (.inl (Nat.le_refl _))⟩, trivial⟩
  · refine ⟨?_, ?_, ?_, ?_, ?_, ?_, ?_, ?_, ?_, ?_, ?_, ?_, ?_, ?_, ?_, ?_, ?_, ?_, ?_, ?_, ?_, ?_, ?_, ?_, ?_, ?_, ?_, ?_, ?_, ?_, ?_, ?_, ?_, ?_, ?_, ?_, ?_, ?_, ?_, ?_, trivial⟩
    · exact .inr fun a w hp => ob_yes rfl (ob_loadR (hp.box (k := 0) rfl (Nat.le_refl _) (.inl (Nat.le_refl _)) (by kernel_rfl) rfl).1 (hp.box (k := 0) rfl (Nat.le_refl _) (.inl (Nat.le_refl _)) (by kernel_rfl) rfl).2 rfl)
    · refine .inr fun a w hp => ob_yes rfl ?_
      have h14 : a.tmps.getD 14 undef = .agg #[.bool b0, .slice A0 n0 c0, .slice D0 m0 e0] := (hp.fact 0 14 (by kernel_rfl) rfl)
      unfold Does
      go_simp
      refine (signr_any _ _ _ 12 (F0.on hp.on) (by decide)).mono ?_
      rintro e w' ⟨rfl, P8⟩
      rw [Hsc.out]
      exact ⟨_, rfl, P8, rfl⟩
    · exact .inr fun a w hp => ob_yes rfl (ob_loadR (hp.box (k := 0) rfl (Nat.le_refl _) (.inl (Nat.le_refl _)) (by kernel_rfl) rfl).1 (hp.box (k := 0) rfl (Nat.le_refl _) (.inl (Nat.le_refl _)) (by kernel_rfl) rfl).2 rfl)
    · refine .inr fun a w hp => ob_yes rfl ?_
      have h16 : a.tmps.getD 16 undef = .agg #[.bool b0, .slice A0 n0 c0, .slice D0 m0 e0] := (hp.fact 2 16 (by kernel_rfl) rfl)
      unfold Does
      go_simp
      refine (ssign_any _ _ _ 12 (F0.on hp.on) (by decide) (by decide)).mono ?_
      rintro e w' ⟨rfl, P8⟩
      rw [Hsc.out]
      exact ⟨_, rfl, P8, rfl⟩
    · refine .inr fun a w hp => ob_yes rfl ?_
      have h15 : a.tmps.getD 15 undef = .int .i64 sc := (hp.fact 1 15 (by kernel_rfl) rfl)
      have h17 : a.tmps.getD 17 undef = .int .i64 sc := (hp.fact 3 17 (by kernel_rfl) rfl)
      unfold Does
      go_simp
      exact ⟨_, rfl, On.refl _, by show Value.bool _ = Value.bool _; first | rfl | (simp; done)⟩
    · exact .inr fun a w hp => ob_yes rfl (ob_move (hp.fact 4 18 (by kernel_rfl) rfl))
    · exact .inr fun a w hp => ob_yes (wanted_yes (P := Tryz.prog) (j := 5) (d := 19) (b := true) rfl rfl (hp.fact 5 19 (by kernel_rfl) rfl)) (ob_loadR (hp.box (k := 0) rfl (Nat.le_refl _) (.inl (Nat.le_refl _)) (by kernel_rfl) rfl).1 (hp.box (k := 0) rfl (Nat.le_refl _) (.inl (Nat.le_refl _)) (by kernel_rfl) rfl).2 rfl)
    · exact .inr fun a w hp => ob_yes (wanted_yes (P := Tryz.prog) (j := 5) (d := 19) (b := true) rfl rfl (hp.fact 5 19 (by kernel_rfl) rfl)) (ob_loadR (hp.box (k := 1) rfl (Nat.le_refl _) (.inl (Nat.le_refl _)) (by kernel_rfl) rfl).1 (hp.box (k := 1) rfl (Nat.le_refl _) (.inl (Nat.le_refl _)) (by kernel_rfl) rfl).2 rfl)
    · refine .inr fun a w hp => ob_yes (wanted_yes (P := Tryz.prog) (j := 5) (d := 19) (b := true) rfl rfl (hp.fact 5 19 (by kernel_rfl) rfl)) ?_
      have h20 : a.tmps.getD 20 undef = .agg #[.bool b0, .slice A0 n0 c0, .slice D0 m0 e0] := (hp.fact 6 20 (by kernel_rfl) rfl)
      have h21 : a.tmps.getD 21 undef = .agg #[.bool b1, .slice A1 n1 c1, .slice D1 m1 e1] := (hp.fact 7 21 (by kernel_rfl) rfl)
      unfold Does
      go_simp
      refine (cmpr_any _ _ _ _ _ 12 (F0.on hp.on) (F1.on hp.on) (by decide)).mono ?_
      rintro e w' ⟨rfl, P8⟩
      rw [Hkn.out]
      exact ⟨_, rfl, P8, rfl⟩
    · exact .inr fun a w hp => ob_yes (wanted_yes (P := Tryz.prog) (j := 5) (d := 19) (b := true) rfl rfl (hp.fact 5 19 (by kernel_rfl) rfl)) (ob_loadR (hp.box (k := 0) rfl (Nat.le_refl _) (.inl (Nat.le_refl _)) (by kernel_rfl) rfl).1 (hp.box (k := 0) rfl (Nat.le_refl _) (.inl (Nat.le_refl _)) (by kernel_rfl) rfl).2 rfl)
    · exact .inr fun a w hp => ob_yes (wanted_yes (P := Tryz.prog) (j := 5) (d := 19) (b := true) rfl rfl (hp.fact 5 19 (by kernel_rfl) rfl)) (ob_loadR (hp.box (k := 1) rfl (Nat.le_refl _) (.inl (Nat.le_refl _)) (by kernel_rfl) rfl).1 (hp.box (k := 1) rfl (Nat.le_refl _) (.inl (Nat.le_refl _)) (by kernel_rfl) rfl).2 rfl)
    · refine .inr fun a w hp => ob_yes (wanted_yes (P := Tryz.prog) (j := 5) (d := 19) (b := true) rfl rfl (hp.fact 5 19 (by kernel_rfl) rfl)) ?_
      have h23 : a.tmps.getD 23 undef = .agg #[.bool b0, .slice A0 n0 c0, .slice D0 m0 e0] := (hp.fact 9 23 (by kernel_rfl) rfl)
      have h24 : a.tmps.getD 24 undef = .agg #[.bool b1, .slice A1 n1 c1, .slice D1 m1 e1] := (hp.fact 10 24 (by kernel_rfl) rfl)
      unfold Does
      go_simp
      refine (scmp_any _ _ _ _ _ 12 (F0.on hp.on) (F1.on hp.on) (by decide) (by decide)).mono ?_
      rintro e w' ⟨rfl, P8⟩
      rw [Hkn.out]
      exact ⟨_, rfl, P8, rfl⟩
    · refine .inr fun a w hp => ob_yes (wanted_yes (P := Tryz.prog) (j := 5) (d := 19) (b := true) rfl rfl (hp.fact 5 19 (by kernel_rfl) rfl)) ?_
      have h22 : a.tmps.getD 22 undef = .int .i64 kn := (hp.fact 8 22 (by kernel_rfl) rfl)
      have h25 : a.tmps.getD 25 undef = .int .i64 kn := (hp.fact 11 25 (by kernel_rfl) rfl)
      unfold Does
      go_simp
      exact ⟨_, rfl, On.refl _, by show Value.bool _ = Value.bool _; first | rfl | (simp; done)⟩
    · refine .inr fun a w hp => ob_yes rfl ?_
      have h19 : a.tmps.getD 19 undef = .bool true := (hp.fact 5 19 (by kernel_rfl) rfl)
      have h26 : a.tmps.getD 26 undef = .bool true := (hp.fact 12 26 (by kernel_rfl) rfl)
      unfold Does
      go_simp
      exact ⟨_, rfl, On.refl _, rfl⟩
    · exact .inr fun a w hp => ob_yes rfl (ob_move (hp.fact 13 27 (by kernel_rfl) rfl))
    · exact .inr fun a w hp => ob_yes (wanted_yes (P := Tryz.prog) (j := 14) (d := 28) (b := true) rfl rfl (hp.fact 14 28 (by kernel_rfl) rfl)) (ob_loadR (hp.box (k := 0) rfl (Nat.le_refl _) (.inl (Nat.le_refl _)) (by kernel_rfl) rfl).1 (hp.box (k := 0) rfl (Nat.le_refl _) (.inl (Nat.le_refl _)) (by kernel_rfl) rfl).2 rfl)
    · exact .inr fun a w hp => ob_yes (wanted_yes (P := Tryz.prog) (j := 14) (d := 28) (b := true) rfl rfl (hp.fact 14 28 (by kernel_rfl) rfl)) (ob_loadR (hp.box (k := 1) rfl (Nat.le_refl _) (.inl (Nat.le_refl _)) (by kernel_rfl) rfl).1 (hp.box (k := 1) rfl (Nat.le_refl _) (.inl (Nat.le_refl _)) (by kernel_rfl) rfl).2 rfl)
    · refine .inr fun a w hp => ob_yes (wanted_yes (P := Tryz.prog) (j := 14) (d := 28) (b := true) rfl rfl (hp.fact 14 28 (by kernel_rfl) rfl)) ?_
      have h29 : a.tmps.getD 29 undef = .agg #[.bool b0, .slice A0 n0 c0, .slice D0 m0 e0] := (hp.fact 15 29 (by kernel_rfl) rfl)
      have h30 : a.tmps.getD 30 undef = .agg #[.bool b1, .slice A1 n1 c1, .slice D1 m1 e1] := (hp.fact 16 30 (by kernel_rfl) rfl)
      unfold Does
      go_simp
      refine (minr_any _ _ _ _ _ 12 (F0.on hp.on) (F1.on hp.on) (by decide)).mono ?_
      rintro e w' ⟨u, rfl, I8, P8⟩
      exact ⟨_, rfl, P8, I8⟩
    · exact .inr fun a w hp => ob_yes (wanted_yes (P := Tryz.prog) (j := 14) (d := 28) (b := true) rfl rfl (hp.fact 14 28 (by kernel_rfl) rfl)) (ob_loadR (hp.box (k := 0) rfl (Nat.le_refl _) (.inl (Nat.le_refl _)) (by kernel_rfl) rfl).1 (hp.box (k := 0) rfl (Nat.le_refl _) (.inl (Nat.le_refl _)) (by kernel_rfl) rfl).2 rfl)
    · exact .inr fun a w hp => ob_yes (wanted_yes (P := Tryz.prog) (j := 14) (d := 28) (b := true) rfl rfl (hp.fact 14 28 (by kernel_rfl) rfl)) (ob_loadR (hp.box (k := 1) rfl (Nat.le_refl _) (.inl (Nat.le_refl _)) (by kernel_rfl) rfl).1 (hp.box (k := 1) rfl (Nat.le_refl _) (.inl (Nat.le_refl _)) (by kernel_rfl) rfl).2 rfl)
    · refine .inr fun a w hp => ob_yes (wanted_yes (P := Tryz.prog) (j := 14) (d := 28) (b := true) rfl rfl (hp.fact 14 28 (by kernel_rfl) rfl)) ?_
      have h32 : a.tmps.getD 32 undef = .agg #[.bool b0, .slice A0 n0 c0, .slice D0 m0 e0] := (hp.fact 18 32 (by kernel_rfl) rfl)
      have h33 : a.tmps.getD 33 undef = .agg #[.bool b1, .slice A1 n1 c1, .slice D1 m1 e1] := (hp.fact 19 33 (by kernel_rfl) rfl)
      unfold Does
      go_simp
      refine (smin_any _ _ _ _ _ 12 (F0.on hp.on) (F1.on hp.on) (by decide) (by decide)).mono ?_
      rintro e w' ⟨u, rfl, I8, P8⟩
      exact ⟨_, rfl, P8, I8⟩
    · refine .inr fun a w hp => ob_yes (wanted_yes (P := Tryz.prog) (j := 14) (d := 28) (b := true) rfl rfl (hp.fact 14 28 (by kernel_rfl) rfl)) ?_
      have h31 : IsR w (a.tmps.getD 31 undef) (rmin r0 r1) (12) := (hp.fact 17 31 (by kernel_rfl) rfl)
      obtain ⟨v31, e31⟩ : ∃ v, a.tmps.getD 31 undef = v := ⟨_, rfl⟩
      rw [e31] at h31
      have h34 : IsR w (a.tmps.getD 34 undef) (rmin r0 r1) (12 + 12 + 1) := (hp.fact 20 34 (by kernel_rfl) rfl)
      obtain ⟨v34, e34⟩ : ∃ v, a.tmps.getD 34 undef = v := ⟨_, rfl⟩
      rw [e34] at h34
      unfold Does
      go_simp
      refine (rat_same _ _ _ _ _ _ h31 h34).mono ?_
      rintro e w' ⟨rfl, P8⟩
      exact ⟨_, rfl, P8, rfl⟩
    · refine .inr fun a w hp => ob_yes rfl ?_
      have h28 : a.tmps.getD 28 undef = .bool true := (hp.fact 14 28 (by kernel_rfl) rfl)
      have h35 : a.tmps.getD 35 undef = .bool true := (hp.fact 21 35 (by kernel_rfl) rfl)
      unfold Does
      go_simp
      exact ⟨_, rfl, On.refl _, rfl⟩
    · exact .inr fun a w hp => ob_yes rfl (ob_move (hp.fact 22 36 (by kernel_rfl) rfl))
    · exact .inr fun a w hp => ob_yes (wanted_yes (P := Tryz.prog) (j := 23) (d := 37) (b := true) rfl rfl (hp.fact 23 37 (by kernel_rfl) rfl)) (ob_loadR (hp.box (k := 0) rfl (Nat.le_refl _) (.inl (Nat.le_refl _)) (by kernel_rfl) rfl).1 (hp.box (k := 0) rfl (Nat.le_refl _) (.inl (Nat.le_refl _)) (by kernel_rfl) rfl).2 rfl)
    · exact .inr fun a w hp => ob_yes (wanted_yes (P := Tryz.prog) (j := 23) (d := 37) (b := true) rfl rfl (hp.fact 23 37 (by kernel_rfl) rfl)) (ob_loadR (hp.box (k := 1) rfl (Nat.le_refl _) (.inl (Nat.le_refl _)) (by kernel_rfl) rfl).1 (hp.box (k := 1) rfl (Nat.le_refl _) (.inl (Nat.le_refl _)) (by kernel_rfl) rfl).2 rfl)
    · refine .inr fun a w hp => ob_yes (wanted_yes (P := Tryz.prog) (j := 23) (d := 37) (b := true) rfl rfl (hp.fact 23 37 (by kernel_rfl) rfl)) ?_
      have h38 : a.tmps.getD 38 undef = .agg #[.bool b0, .slice A0 n0 c0, .slice D0 m0 e0] := (hp.fact 24 38 (by kernel_rfl) rfl)
      have h39 : a.tmps.getD 39 undef = .agg #[.bool b1, .slice A1 n1 c1, .slice D1 m1 e1] := (hp.fact 25 39 (by kernel_rfl) rfl)
      unfold Does
      go_simp
      refine (maxr_any _ _ _ _ _ 12 (F0.on hp.on) (F1.on hp.on) (by decide)).mono ?_
      rintro e w' ⟨u, rfl, I8, P8⟩
      exact ⟨_, rfl, P8, I8⟩
    · exact .inr fun a w hp => ob_yes (wanted_yes (P := Tryz.prog) (j := 23) (d := 37) (b := true) rfl rfl (hp.fact 23 37 (by kernel_rfl) rfl)) (ob_loadR (hp.box (k := 0) rfl (Nat.le_refl _) (.inl (Nat.le_refl _)) (by kernel_rfl) rfl).1 (hp.box (k := 0) rfl (Nat.le_refl _) (.inl (Nat.le_refl _)) (by kernel_rfl) rfl).2 rfl)
    · exact .inr fun a w hp => ob_yes (wanted_yes (P := Tryz.prog) (j := 23) (d := 37) (b := true) rfl rfl (hp.fact 23 37 (by kernel_rfl) rfl)) (ob_loadR (hp.box (k := 1) rfl (Nat.le_refl _) (.inl (Nat.le_refl _)) (by kernel_rfl) rfl).1 (hp.box (k := 1) rfl (Nat.le_refl _) (.inl (Nat.le_refl _)) (by kernel_rfl) rfl).2 rfl)
    · refine .inr fun a w hp => ob_yes (wanted_yes (P := Tryz.prog) (j := 23) (d := 37) (b := true) rfl rfl (hp.fact 23 37 (by kernel_rfl) rfl)) ?_
      have h41 : a.tmps.getD 41 undef = .agg #[.bool b0, .slice A0 n0 c0, .slice D0 m0 e0] := (hp.fact 27 41 (by kernel_rfl) rfl)
      have h42 : a.tmps.getD 42 undef = .agg #[.bool b1, .slice A1 n1 c1, .slice D1 m1 e1] := (hp.fact 28 42 (by kernel_rfl) rfl)
      unfold Does
      go_simp
      refine (smax_any _ _ _ _ _ 12 (F0.on hp.on) (F1.on hp.on) (by decide) (by decide)).mono ?_
      rintro e w' ⟨u, rfl, I8, P8⟩
      exact ⟨_, rfl, P8, I8⟩
    · refine .inr fun a w hp => ob_yes (wanted_yes (P := Tryz.prog) (j := 23) (d := 37) (b := true) rfl rfl (hp.fact 23 37 (by kernel_rfl) rfl)) ?_
      have h40 : IsR w (a.tmps.getD 40 undef) (rmax r0 r1) (12) := (hp.fact 26 40 (by kernel_rfl) rfl)
      obtain ⟨v40, e40⟩ : ∃ v, a.tmps.getD 40 undef = v := ⟨_, rfl⟩
      rw [e40] at h40
      have h43 : IsR w (a.tmps.getD 43 undef) (rmax r0 r1) (12 + 12 + 1) := (hp.fact 29 43 (by kernel_rfl) rfl)
      obtain ⟨v43, e43⟩ : ∃ v, a.tmps.getD 43 undef = v := ⟨_, rfl⟩
      rw [e43] at h43
      unfold Does
      go_simp
      refine (rat_same _ _ _ _ _ _ h40 h43).mono ?_
      rintro e w' ⟨rfl, P8⟩
      exact ⟨_, rfl, P8, rfl⟩
    · refine .inr fun a w hp => ob_yes rfl ?_
      have h37 : a.tmps.getD 37 undef = .bool true := (hp.fact 23 37 (by kernel_rfl) rfl)
      have h44 : a.tmps.getD 44 undef = .bool true := (hp.fact 30 44 (by kernel_rfl) rfl)
      unfold Does
      go_simp
      exact ⟨_, rfl, On.refl _, rfl⟩
    · exact .inr fun a w hp => ob_yes rfl (ob_move (hp.fact 31 45 (by kernel_rfl) rfl))
    · exact .inr fun a w hp => ob_yes (wanted_yes (P := Tryz.prog) (j := 32) (d := 46) (b := true) rfl rfl (hp.fact 32 46 (by kernel_rfl) rfl)) (ob_loadR (hp.box (k := 0) rfl (Nat.le_refl _) (.inl (Nat.le_refl _)) (by kernel_rfl) rfl).1 (hp.box (k := 0) rfl (Nat.le_refl _) (.inl (Nat.le_refl _)) (by kernel_rfl) rfl).2 rfl)
    · refine .inr fun a w hp => ob_yes (wanted_yes (P := Tryz.prog) (j := 32) (d := 46) (b := true) rfl rfl (hp.fact 32 46 (by kernel_rfl) rfl)) ?_
      have h47 : a.tmps.getD 47 undef = .agg #[.bool b0, .slice A0 n0 c0, .slice D0 m0 e0] := (hp.fact 33 47 (by kernel_rfl) rfl)
      unfold Does
      go_simp
      refine (rprob_any _ _ _ _ _ _ _ _ _ _ (R0.on hp.on) (S0.on hp.on) (by omega) (by omega)).mono ?_
      rintro e w' ⟨rfl, P8⟩
      rw [Hpb.out]
      exact ⟨_, rfl, P8, rfl⟩
    · exact .inr fun a w hp => ob_yes (wanted_yes (P := Tryz.prog) (j := 32) (d := 46) (b := true) rfl rfl (hp.fact 32 46 (by kernel_rfl) rfl)) (ob_loadR (hp.box (k := 0) rfl (Nat.le_refl _) (.inl (Nat.le_refl _)) (by kernel_rfl) rfl).1 (hp.box (k := 0) rfl (Nat.le_refl _) (.inl (Nat.le_refl _)) (by kernel_rfl) rfl).2 rfl)
    · refine .inr fun a w hp => ob_yes (wanted_yes (P := Tryz.prog) (j := 32) (d := 46) (b := true) rfl rfl (hp.fact 32 46 (by kernel_rfl) rfl)) ?_
      have h49 : a.tmps.getD 49 undef = .agg #[.bool b0, .slice A0 n0 c0, .slice D0 m0 e0] := (hp.fact 35 49 (by kernel_rfl) rfl)
      unfold Does
      go_simp
      refine (sprob_any _ _ _ _ _ _ _ _ _ _ (R0.on hp.on) (S0.on hp.on) (by omega) (by omega)).mono ?_
      rintro e w' ⟨rfl, P8⟩
      rw [Hpb.out]
      exact ⟨_, rfl, P8, rfl⟩
    · refine .inr fun a w hp => ob_yes (wanted_yes (P := Tryz.prog) (j := 32) (d := 46) (b := true) rfl rfl (hp.fact 32 46 (by kernel_rfl) rfl)) ?_
      have h48 : a.tmps.getD 48 undef = .bool pb := (hp.fact 34 48 (by kernel_rfl) rfl)
      have h50 : a.tmps.getD 50 undef = .bool pb := (hp.fact 36 50 (by kernel_rfl) rfl)
      unfold Does
      go_simp
      exact ⟨_, rfl, On.refl _, by show Value.bool _ = Value.bool _; first | rfl | (simp; done)⟩
    · refine .inr fun a w hp => ob_yes rfl ?_
      have h46 : a.tmps.getD 46 undef = .bool true := (hp.fact 32 46 (by kernel_rfl) rfl)
      have h51 : a.tmps.getD 51 undef = .bool true := (hp.fact 37 51 (by kernel_rfl) rfl)
      unfold Does
      go_simp
      exact ⟨_, rfl, On.refl _, rfl⟩
    · exact .inr fun a w hp => ob_yes rfl (ob_assign (hp.fact 38 52 (by kernel_rfl) rfl))
  · intro f wr hon hk hf hb hap
    obtain ⟨q0, q1, qz⟩ := hb
    clear qz
    have O2 : Own wr (w.heap.size) 24 #[.bool b0, .slice A0 n0 c0, .slice D0 m0 e0] := q0
    have c2_0 : wr.cell? ⟨w.heap.size, 0, none⟩ = some (.bool b0) := O2.cell 0
    have z2_0 := O2.frozen 0
    have c2_1 : wr.cell? ⟨w.heap.size, 1, none⟩ = some (.slice A0 n0 c0) := O2.cell 1
    have z2_1 := O2.frozen 1
    have c2_2 : wr.cell? ⟨w.heap.size, 2, none⟩ = some (.slice D0 m0 e0) := O2.cell 2
    have z2_2 := O2.frozen 2
    clear q0
    have O3 : Own wr (w.heap.size + 1) 24 #[.bool b1, .slice A1 n1 c1, .slice D1 m1 e1] := q1
    have c3_0 : wr.cell? ⟨w.heap.size + 1, 0, none⟩ = some (.bool b1) := O3.cell 0
    have z3_0 := O3.frozen 0
    have c3_1 : wr.cell? ⟨w.heap.size + 1, 1, none⟩ = some (.slice A1 n1 c1) := O3.cell 1
    have z3_1 := O3.frozen 1
    have c3_2 : wr.cell? ⟨w.heap.size + 1, 2, none⟩ = some (.slice D1 m1 e1) := O3.cell 2
    have z3_2 := O3.frozen 2
    clear q1
    have e4 : f 4 = .bool true := hf 39 4 rfl
    clear hf hap
    simp only [fillL, e4]
    clear e4
    go_wp2
    go_ret
    exact ⟨rfl, hon⟩
theorem compares_any (w : World) (hx : MX w) (b0 : Bool) (A0 D0 : Option Addr) (n0 c0 m0 e0 : Nat) (x0 y0 : List Nat) (R0 : Rd w A0 n0 c0 x0) (S0 : Rd w D0 m0 e0 y0) (b1 : Bool) (A1 D1 : Option Addr) (n1 c1 m1 e1 : Nat) (x1 y1 : List Nat) (R1 : Rd w A1 n1 c1 x1) (S1 : Rd w D1 m1 e1 y1)  :
    Calls Tryz.prog 5 #[.agg #[.bool b0, .slice A0 n0 c0, .slice D0 m0 e0], .agg #[.bool b1, .slice A1 n1 c1, .slice D1 m1 e1]] w fun e w' => e = .returned (.bool true) ∧ On w w' := by
  by_cases hs : n0 ≤ 12 ∧ m0 ≤ 12 ∧ n1 ≤ 12 ∧ m1 ≤ 12
  · exact compares_small w hx b0 A0 D0 n0 c0 m0 e0 x0 y0 R0 S0 b1 A1 D1 n1 c1 m1 e1 x1 y1 R1 S1  hs
  · have : ∃ (mi : Nat) (qi : Nat × Nat), [(n0, m0), (n1, m1)][mi]? = some qi ∧ (12 < qi.1 ∨ 12 < qi.2) := by
      by_cases h0 : 12 < n0 ∨ 12 < m0
      · exact ⟨0, _, rfl, h0⟩
      by_cases h1 : 12 < n1 ∨ 12 < m1
      · exact ⟨1, _, rfl, h1⟩
      omega
    obtain ⟨mi, qi, h1, h2⟩ := this
    exact compares_large w hx b0 A0 D0 n0 c0 m0 e0 x0 y0 R0 S0 b1 A1 D1 n1 c1 m1 e1 x1 y1 R1 S1  mi qi h1 h2
end Num
end Go.Proofs.YtikmjlaeadockaaGreat
