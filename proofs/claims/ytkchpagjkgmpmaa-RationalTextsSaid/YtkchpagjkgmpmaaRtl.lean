/-
  RationalTexts, walked.
-/
import Derived.Test.YtkchpagjkgmpmaaRstw
import Derived.Test.YtkchpagjkgmpmaaSpb
namespace Go.Proofs.Ytkchpagjkgmpmaa
open Go.RowKit
set_option linter.unusedVariables false
namespace Num
set_option maxRecDepth 100000 in
set_option maxHeartbeats 1600000 in
theorem texts_large (w : World) (hx : MX w) (b0 : Bool) (A0 D0 : Option Addr) (n0 c0 m0 e0 : Nat) (x0 y0 : List Nat) (R0 : Rd w A0 n0 c0 x0) (S0 : Rd w D0 m0 e0 y0) (s : ByteArray) (hS : s.size ≤ 9223372036854775807) (mi : Nat) (qi : Nat × Nat) (hmi : [(n0, m0)][mi]? = some qi) (hyi : 12 < qi.1 ∨ 12 < qi.2) :
    Calls Try.prog 3 #[.agg #[.bool b0, .slice A0 n0 c0, .slice D0 m0 e0], .string s] w fun e w' => e = .returned (.bool true) ∧ On w w' := by
  have HMI := Lib.hid hmi
  have HYI := Lib.hid hyi
  clear hmi hyi
  have B : On w (w.alloc (.cells #[.bool b0, .slice A0 n0 c0, .slice D0 m0 e0] 24)) := On.alloc (On.refl w) _
  have OB2 : w.heap.size ≤ w.heap.size ∧ Own (w.alloc (.cells #[.bool b0, .slice A0 n0 c0, .slice D0 m0 e0] 24)) (w.heap.size) 24 #[.bool b0, .slice A0 n0 c0, .slice D0 m0 e0] := ⟨by omega, (Own.at_ w (w.heap.size) (by simp) 24 #[.bool b0, .slice A0 n0 c0, .slice D0 m0 e0])⟩
  go_enter Try.func3, Try.ntmps3
  go_wp2_with fail
  refine (awake02 _ (hx.on B)).mono ?_
  rintro e w1 ⟨rfl, P1⟩
  replace OB2 := And.intro OB2.1 (OB2.2.on P1)
  replace B := B.trans P1
  have y2_0 : w1.cell? ⟨w.heap.size, 0, none⟩ = some (.bool b0) := OB2.2.cell 0
  have y2_1 : w1.cell? ⟨w.heap.size, 1, none⟩ = some (.slice A0 n0 c0) := OB2.2.cell 1
  have y2_2 : w1.cell? ⟨w.heap.size, 2, none⟩ = some (.slice D0 m0 e0) := OB2.2.cell 2
  have y2_f0 := OB2.2.frozen 0
  have y2_f1 := OB2.2.frozen 1
  have y2_f2 := OB2.2.frozen 2
  go_wp2_with fail
  clear y2_0 y2_f0 y2_1 y2_f1 y2_2 y2_f2
  have B1 := (On.refl w1).alloc (.cells #[.bool b0, .slice A0 n0 c0, .slice D0 m0 e0] 24)
  replace OB2 := And.intro OB2.1 (OB2.2.on B1)
  replace B := B.trans B1
  have hlens := rlens1 b0 A0 D0 n0 c0 m0 e0 x0 y0 (R0.on B) (S0.on B) (Own.new w1 24 #[.bool b0, .slice A0 n0 c0, .slice D0 m0 e0])
  refine (rlarge_yes _ _ 1 1 _ hlens rfl (by decide) (by decide) (by decide) mi qi HMI.out HYI.out).mono ?_
  rintro e w2 ⟨rfl, P2⟩
  clear hlens B1 P1
  replace OB2 := And.intro OB2.1 (OB2.2.on P2)
  replace B := B.trans P2
  clear P2
  go_wp2_with fail
  refine (awake02 _ (hx.on B)).mono ?_
  rintro e w3 ⟨rfl, P3⟩
  go_wp2
  go_ret
  exact ⟨rfl, B.trans P3⟩
set_option maxRecDepth 100000 in
set_option maxHeartbeats 1600000 in
theorem texts_mid (w : World) (hx : MX w) (b0 : Bool) (A0 D0 : Option Addr) (n0 c0 m0 e0 : Nat) (x0 y0 : List Nat) (R0 : Rd w A0 n0 c0 x0) (S0 : Rd w D0 m0 e0 y0) (s : ByteArray) (hS : s.size ≤ 9223372036854775807) (hs : n0 ≤ 12 ∧ m0 ≤ 12) (hl : 200 < s.size) (hl2 : s.size ≤ 65536) :
    Calls Try.prog 3 #[.agg #[.bool b0, .slice A0 n0 c0, .slice D0 m0 e0], .string s] w fun e w' => e = .returned (.bool true) ∧ On w w' := by
  have B : On w (w.alloc (.cells #[.bool b0, .slice A0 n0 c0, .slice D0 m0 e0] 24)) := On.alloc (On.refl w) _
  have OB2 : w.heap.size ≤ w.heap.size ∧ Own (w.alloc (.cells #[.bool b0, .slice A0 n0 c0, .slice D0 m0 e0] 24)) (w.heap.size) 24 #[.bool b0, .slice A0 n0 c0, .slice D0 m0 e0] := ⟨by omega, (Own.at_ w (w.heap.size) (by simp) 24 #[.bool b0, .slice A0 n0 c0, .slice D0 m0 e0])⟩
  go_enter Try.func3, Try.ntmps3
  go_wp2_with fail
  refine (awake02 _ (hx.on B)).mono ?_
  rintro e w1 ⟨rfl, P1⟩
  replace OB2 := And.intro OB2.1 (OB2.2.on P1)
  replace B := B.trans P1
  have y2_0 : w1.cell? ⟨w.heap.size, 0, none⟩ = some (.bool b0) := OB2.2.cell 0
  have y2_1 : w1.cell? ⟨w.heap.size, 1, none⟩ = some (.slice A0 n0 c0) := OB2.2.cell 1
  have y2_2 : w1.cell? ⟨w.heap.size, 2, none⟩ = some (.slice D0 m0 e0) := OB2.2.cell 2
  have y2_f0 := OB2.2.frozen 0
  have y2_f1 := OB2.2.frozen 1
  have y2_f2 := OB2.2.frozen 2
  go_wp2_with fail
  clear y2_0 y2_f0 y2_1 y2_f1 y2_2 y2_f2
  have B1 := (On.refl w1).alloc (.cells #[.bool b0, .slice A0 n0 c0, .slice D0 m0 e0] 24)
  replace OB2 := And.intro OB2.1 (OB2.2.on B1)
  replace B := B.trans B1
  have hlens := rlens1 b0 A0 D0 n0 c0 m0 e0 x0 y0 (R0.on B) (S0.on B) (Own.new w1 24 #[.bool b0, .slice A0 n0 c0, .slice D0 m0 e0])
  refine (rlarge_no _ _ 1 1 _ hlens rfl (by decide) (by decide) (by decide) (by simp; omega)).mono ?_
  rintro e w2 ⟨rfl, P2⟩
  clear hlens B1 P1
  replace OB2 := And.intro OB2.1 (OB2.2.on P2)
  replace B := B.trans P2
  clear P2
  go_wp2_with fail
  refine (awake02 _ (hx.on B)).mono ?_
  rintro e w3 ⟨rfl, P3⟩
  go_wp2
  go_ret
  exact ⟨rfl, B.trans P3⟩
set_option maxRecDepth 100000 in
set_option maxHeartbeats 1600000 in
theorem texts_main_a (w : World) (hx : MX w) (b0 : Bool) (A0 D0 : Option Addr) (n0 c0 m0 e0 : Nat) (x0 y0 : List Nat) (R0 : Rd w A0 n0 c0 x0) (S0 : Rd w D0 m0 e0 y0) (s : ByteArray) (hS : s.size ≤ 9223372036854775807) (hs : n0 ≤ 12 ∧ m0 ≤ 12) (hl : s.size ≤ 200) :
    Calls Try.prog 3 #[.agg #[.bool b0, .slice A0 n0 c0, .slice D0 m0 e0], .string s] w fun e w' => e = .returned (.bool true) ∧ On w w' := by
  obtain ⟨r0, hr0⟩ : ∃ x, raw b0 x0 y0 = x := ⟨_, rfl⟩
  have F0 : Fld w (.agg #[.bool b0, .slice A0 n0 c0, .slice D0 m0 e0]) r0 12 := Fld.mk3 R0 S0 (by omega) (by omega) hr0
  clear hr0
  obtain ⟨rp, er, z, T1, T2, T3⟩ := parse_twin s (.inl hl) hS
  have HT1 := Lib.hid T1
  clear T1
  have HT2 := Lib.hid T2
  clear T2
  have HT3 := Lib.hid T3
  clear T3
  have B : On w (w.alloc (.cells #[.bool b0, .slice A0 n0 c0, .slice D0 m0 e0] 24)) := On.alloc (On.refl w) _
  have OB2 : w.heap.size ≤ w.heap.size ∧ Own (w.alloc (.cells #[.bool b0, .slice A0 n0 c0, .slice D0 m0 e0] 24)) (w.heap.size) 24 #[.bool b0, .slice A0 n0 c0, .slice D0 m0 e0] := ⟨by omega, (Own.at_ w (w.heap.size) (by simp) 24 #[.bool b0, .slice A0 n0 c0, .slice D0 m0 e0])⟩
  go_enter Try.func3, Try.ntmps3
  go_wp2_with fail
  refine (awake02 _ (hx.on B)).mono ?_
  rintro e w1 ⟨rfl, P1⟩
  replace OB2 := And.intro OB2.1 (OB2.2.on P1)
  replace B := B.trans P1
  have y2_0 : w1.cell? ⟨w.heap.size, 0, none⟩ = some (.bool b0) := OB2.2.cell 0
  have y2_1 : w1.cell? ⟨w.heap.size, 1, none⟩ = some (.slice A0 n0 c0) := OB2.2.cell 1
  have y2_2 : w1.cell? ⟨w.heap.size, 2, none⟩ = some (.slice D0 m0 e0) := OB2.2.cell 2
  have y2_f0 := OB2.2.frozen 0
  have y2_f1 := OB2.2.frozen 1
  have y2_f2 := OB2.2.frozen 2
  go_wp2_with fail
  clear y2_0 y2_f0 y2_1 y2_f1 y2_2 y2_f2
  have B1 := (On.refl w1).alloc (.cells #[.bool b0, .slice A0 n0 c0, .slice D0 m0 e0] 24)
  replace OB2 := And.intro OB2.1 (OB2.2.on B1)
  replace B := B.trans B1
  have hlens := rlens1 b0 A0 D0 n0 c0 m0 e0 x0 y0 (R0.on B) (S0.on B) (Own.new w1 24 #[.bool b0, .slice A0 n0 c0, .slice D0 m0 e0])
  refine (rlarge_no _ _ 1 1 _ hlens rfl (by decide) (by decide) (by decide) (by simp; omega)).mono ?_
  rintro e w2 ⟨rfl, P2⟩
  clear hlens B1 P1
  replace OB2 := And.intro OB2.1 (OB2.2.on P2)
  replace B := B.trans P2
  clear P2
  go_wp2_with fail
  refine (HT1.out _ (hx.on B)).mono ?_
  rintro e w3 ⟨v5, rfl, I5, P3⟩
  clear hx
  replace OB2 := And.intro OB2.1 (OB2.2.on P3)
  replace B := B.trans P3
  obtain ⟨s5, P5, Pn5, Pc5, R5, Rn5, Rc5, rfl⟩ := isR_form I5
  have PA := (On.refl w3).alloc (.cells #[.bool s5, .slice P5 Pn5 Pc5, .slice R5 Rn5 Rc5] 24)
  have B0_5 := B.size
  replace OB2 := And.intro OB2.1 (OB2.2.on PA)
  replace B := B.trans PA
  replace I5 := I5.on PA
  have OB5 : w.heap.size ≤ w3.heap.size ∧ _ := ⟨B0_5, Own.new w3 24 #[.bool s5, .slice P5 Pn5 Pc5, .slice R5 Rn5 Rc5]⟩
  clear PA
  go_wp2_with fail
  refine (HT2.out _).mono ?_
  rintro e w5 ⟨v7, rfl, I7, P5⟩
  replace OB2 := And.intro OB2.1 (OB2.2.on P5)
  replace OB5 := And.intro OB5.1 (OB5.2.on P5)
  replace B := B.trans P5
  replace I5 := I5.on P5
  obtain ⟨s7, P7, Pn7, Pc7, R7, Rn7, Rc7, rfl⟩ := isR_form I7
  have PA := (On.refl w5).alloc (.cells #[.bool s7, .slice P7 Pn7 Pc7, .slice R7 Rn7 Rc7] 24)
  have B0_7 := B.size
  replace OB2 := And.intro OB2.1 (OB2.2.on PA)
  replace OB5 := And.intro OB5.1 (OB5.2.on PA)
  replace B := B.trans PA
  replace I7 := I7.on PA
  have OB7 : w.heap.size ≤ w5.heap.size ∧ _ := ⟨B0_7, Own.new w5 24 #[.bool s7, .slice P7 Pn7 Pc7, .slice R7 Rn7 Rc7]⟩
  clear PA
  replace I5 := I5.on ((On.refl w5).alloc (.cells #[.bool s7, .slice P7 Pn7 Pc7, .slice R7 Rn7 Rc7] 24))
  clear P3 P5
  go_wp2
  refine wp_region_facts (by kernel_rfl) w [Fact.eq (.agg #[.bool b0, .slice A0 n0 c0, .slice D0 m0 e0]), Fact.strP (fun BS => RTx r0 BS), Fact.eq (.agg #[.bool b0, .slice A0 n0 c0, .slice D0 m0 e0]), Fact.strP (fun BS => RTx r0 BS), Fact.eq (.bool true), Fact.eq (.bool true), Fact.eq (.agg #[.bool s5, .slice P5 Pn5 Pc5, .slice R5 Rn5 Rc5]), Fact.eq (.agg #[.bool s7, .slice P7 Pn7 Pc7, .slice R7 Rn7 Rc7]), Fact.eq (.bool true), Fact.eq (.bool true), Fact.eq (.bool true), Fact.eq (er), Fact.eq (.int .i64 z), Fact.eq (.int .i64 z), Fact.eq (.bool true), Fact.eq (.bool true), Fact.eq (.bool true)] [Fact.any, Fact.any, Fact.any] [⟨17, 2, 24, 17, #[.bool b0, .slice A0 n0 c0, .slice D0 m0 e0]⟩, ⟨17, 5, 24, 17, #[.bool s5, .slice P5 Pn5 Pc5, .slice R5 Rn5 Rc5]⟩, ⟨17, 7, 24, 17, #[.bool s7, .slice P7 Pn7 Pc7, .slice R7 Rn7 Rc7]⟩] [w.heap.size, w3.heap.size, w5.heap.size] [none, none, none, none, some 4, none, none, none, none, none, none, none, none, none, none, none, none, none, none, none, none, none, none, none, none, none, none, none, none, none, none, none, none, none, none, none, none, some 37, some 38, some 39, some 40, some 41, some 42, some 43, some 44, some 45, some 46, some 47, some 48, some 49, some 50, some 51, some 52] (by kernel_rfl) (by kernel_rfl) (by kernel_rfl) rfl B ?_ ?_ ?_ ?_ ?_
  · exact ⟨fun _ => ⟨by simp, rfl, OB2⟩, fun _ => ⟨by simp, rfl, OB5⟩, fun _ => ⟨by simp, rfl, OB7⟩, trivial⟩
  · exact .inl ⟨Nat.le_refl _, Nat.le_refl _, Nat.le_refl _, trivial⟩
  · exact ⟨⟨noWords_R _ _ _ _ _ _ _, (.inl (Nat.le_refl _)), (.inl (Nat.le_refl _))⟩, ⟨noWords_R _ _ _ _ _ _ _, (.inl (Nat.le_refl _)), (.inl (Nat.le_refl _))⟩, ⟨noWords_R _ _ _ _ _ _ _, (.inl (Nat.le_refl _)), (.inl (Nat.le_refl _))⟩, trivial⟩
  · refine ⟨?_, ?_, ?_, ?_, ?_, ?_, ?_, ?_, ?_, ?_, ?_, ?_, ?_, ?_, ?_, ?_, ?_, trivial⟩
    · exact .inr fun a w hp => ob_yes rfl (ob_loadR (hp.box (k := 0) rfl (Nat.le_refl _) (.inl (Nat.le_refl _)) (by kernel_rfl) rfl).1 (hp.box (k := 0) rfl (Nat.le_refl _) (.inl (Nat.le_refl _)) (by kernel_rfl) rfl).2 rfl)
    · refine .inr fun a w hp => ob_yes rfl ?_
      have h37 : a.tmps.getD 37 undef = .agg #[.bool b0, .slice A0 n0 c0, .slice D0 m0 e0] := (hp.fact 0 37 (by kernel_rfl) rfl)
      unfold Does
      go_simp
      refine (fld_text _ _ r0 12 (F0.on hp.on) (by decide) (by decide)).mono ?_
      rintro e w' ⟨bs, rfl, HT, P8⟩
      exact ⟨_, rfl, P8, bs, rfl, HT⟩
    · exact .inr fun a w hp => ob_yes rfl (ob_loadR (hp.box (k := 0) rfl (Nat.le_refl _) (.inl (Nat.le_refl _)) (by kernel_rfl) rfl).1 (hp.box (k := 0) rfl (Nat.le_refl _) (.inl (Nat.le_refl _)) (by kernel_rfl) rfl).2 rfl)
    · refine .inr fun a w hp => ob_yes rfl ?_
      have h39 : a.tmps.getD 39 undef = .agg #[.bool b0, .slice A0 n0 c0, .slice D0 m0 e0] := (hp.fact 2 39 (by kernel_rfl) rfl)
      unfold Does
      go_simp
      refine (stext_any _ _ r0 12 (F0.on hp.on) (by decide) (by decide)).mono ?_
      rintro e w' ⟨bs, rfl, HT, P8⟩
      exact ⟨_, rfl, P8, bs, rfl, HT⟩
    · refine .inr fun a w hp => ob_yes rfl ?_
      obtain ⟨bs38, e38, h38⟩ : ∃ bs, a.tmps.getD 38 undef = .string (str bs) ∧ RTx r0 bs := (hp.fact 1 38 (by kernel_rfl) rfl)
      obtain ⟨bs40, e40, h40⟩ : ∃ bs, a.tmps.getD 40 undef = .string (str bs) ∧ RTx r0 bs := (hp.fact 3 40 (by kernel_rfl) rfl)
      obtain rfl : bs38 = bs40 := h38.unique h40
      unfold Does
      go_simp
      exact ⟨_, rfl, On.refl _, by show Value.bool _ = Value.bool _; first | rfl | (simp; done)⟩
    · exact .inr fun a w hp => ob_yes rfl (ob_move (hp.fact 4 41 (by kernel_rfl) rfl))
    · exact .inr fun a w hp => ob_yes (wanted_yes (P := Try.prog) (j := 5) (d := 42) (b := true) rfl rfl (hp.fact 5 42 (by kernel_rfl) rfl)) (ob_loadR (hp.box (k := 1) rfl (Nat.le_refl _) (.inl (Nat.le_refl _)) (by kernel_rfl) rfl).1 (hp.box (k := 1) rfl (Nat.le_refl _) (.inl (Nat.le_refl _)) (by kernel_rfl) rfl).2 rfl)
    · exact .inr fun a w hp => ob_yes (wanted_yes (P := Try.prog) (j := 5) (d := 42) (b := true) rfl rfl (hp.fact 5 42 (by kernel_rfl) rfl)) (ob_loadR (hp.box (k := 2) rfl (Nat.le_refl _) (.inl (Nat.le_refl _)) (by kernel_rfl) rfl).1 (hp.box (k := 2) rfl (Nat.le_refl _) (.inl (Nat.le_refl _)) (by kernel_rfl) rfl).2 rfl)
    · refine .inr fun a w hp => ob_yes (wanted_yes (P := Try.prog) (j := 5) (d := 42) (b := true) rfl rfl (hp.fact 5 42 (by kernel_rfl) rfl)) ?_
      have h43 : a.tmps.getD 43 undef = .agg #[.bool s5, .slice P5 Pn5 Pc5, .slice R5 Rn5 Rc5] := (hp.fact 6 43 (by kernel_rfl) rfl)
      have h44 : a.tmps.getD 44 undef = .agg #[.bool s7, .slice P7 Pn7 Pc7, .slice R7 Rn7 Rc7] := (hp.fact 7 44 (by kernel_rfl) rfl)
      unfold Does
      go_simp
      refine (rat_same _ _ _ _ _ _ (I5.kept hp.kept) (I7.kept hp.kept)).mono ?_
      rintro e w' ⟨rfl, P8⟩
      exact ⟨_, rfl, P8, rfl⟩
    · refine .inr fun a w hp => ob_yes rfl ?_
      have h42 : a.tmps.getD 42 undef = .bool true := (hp.fact 5 42 (by kernel_rfl) rfl)
      have h45 : a.tmps.getD 45 undef = .bool true := (hp.fact 8 45 (by kernel_rfl) rfl)
      unfold Does
      go_simp
      exact ⟨_, rfl, On.refl _, rfl⟩
    · exact .inr fun a w hp => ob_yes rfl (ob_move (hp.fact 9 46 (by kernel_rfl) rfl))
    · exact .inr fun a w hp => ob_yes (wanted_yes (P := Try.prog) (j := 10) (d := 47) (b := true) rfl rfl (hp.fact 10 47 (by kernel_rfl) rfl)) (ob_move (hp.same 6 (by kernel_rfl)))
    · refine .inr fun a w hp => ob_yes (wanted_yes (P := Try.prog) (j := 10) (d := 47) (b := true) rfl rfl (hp.fact 10 47 (by kernel_rfl) rfl)) ?_
      have h48 : a.tmps.getD 48 undef = er := (hp.fact 11 48 (by kernel_rfl) rfl)
      unfold Does
      go_simp
      refine (HT3.out _).mono ?_
      rintro e w' ⟨rfl, rfl⟩
      exact ⟨_, rfl, On.refl _, rfl⟩
    · exact .inr fun a w hp => ob_yes (wanted_yes (P := Try.prog) (j := 10) (d := 47) (b := true) rfl rfl (hp.fact 10 47 (by kernel_rfl) rfl)) (ob_move (hp.same 8 (by kernel_rfl)))
    · refine .inr fun a w hp => ob_yes (wanted_yes (P := Try.prog) (j := 10) (d := 47) (b := true) rfl rfl (hp.fact 10 47 (by kernel_rfl) rfl)) ?_
      have h49 : a.tmps.getD 49 undef = .int .i64 z := (hp.fact 12 49 (by kernel_rfl) rfl)
      have h50 : a.tmps.getD 50 undef = .int .i64 z := (hp.fact 13 50 (by kernel_rfl) rfl)
      unfold Does
      go_simp
      exact ⟨_, rfl, On.refl _, by show Value.bool _ = Value.bool _; first | rfl | (simp; done)⟩
    · refine .inr fun a w hp => ob_yes rfl ?_
      have h47 : a.tmps.getD 47 undef = .bool true := (hp.fact 10 47 (by kernel_rfl) rfl)
      have h51 : a.tmps.getD 51 undef = .bool true := (hp.fact 14 51 (by kernel_rfl) rfl)
      unfold Does
      go_simp
      exact ⟨_, rfl, On.refl _, rfl⟩
    · exact .inr fun a w hp => ob_yes rfl (ob_assign (hp.fact 15 52 (by kernel_rfl) rfl))
  · intro f wr hon hk hf hb hap
    obtain ⟨q0, q1, q2, qz⟩ := hb
    clear qz
    have O2 : Own wr (w.heap.size) 24 #[.bool b0, .slice A0 n0 c0, .slice D0 m0 e0] := q0
    have c2_0 : wr.cell? ⟨w.heap.size, 0, none⟩ = some (.bool b0) := O2.cell 0
    have z2_0 := O2.frozen 0
    have c2_1 : wr.cell? ⟨w.heap.size, 1, none⟩ = some (.slice A0 n0 c0) := O2.cell 1
    have z2_1 := O2.frozen 1
    have c2_2 : wr.cell? ⟨w.heap.size, 2, none⟩ = some (.slice D0 m0 e0) := O2.cell 2
    have z2_2 := O2.frozen 2
    clear q0
    have O5 : Own wr (w3.heap.size) 24 #[.bool s5, .slice P5 Pn5 Pc5, .slice R5 Rn5 Rc5] := q1
    have c5_0 : wr.cell? ⟨w3.heap.size, 0, none⟩ = some (.bool s5) := O5.cell 0
    have z5_0 := O5.frozen 0
    have c5_1 : wr.cell? ⟨w3.heap.size, 1, none⟩ = some (.slice P5 Pn5 Pc5) := O5.cell 1
    have z5_1 := O5.frozen 1
    have c5_2 : wr.cell? ⟨w3.heap.size, 2, none⟩ = some (.slice R5 Rn5 Rc5) := O5.cell 2
    have z5_2 := O5.frozen 2
    clear q1
    have O7 : Own wr (w5.heap.size) 24 #[.bool s7, .slice P7 Pn7 Pc7, .slice R7 Rn7 Rc7] := q2
    have c7_0 : wr.cell? ⟨w5.heap.size, 0, none⟩ = some (.bool s7) := O7.cell 0
    have z7_0 := O7.frozen 0
    have c7_1 : wr.cell? ⟨w5.heap.size, 1, none⟩ = some (.slice P7 Pn7 Pc7) := O7.cell 1
    have z7_1 := O7.frozen 1
    have c7_2 : wr.cell? ⟨w5.heap.size, 2, none⟩ = some (.slice R7 Rn7 Rc7) := O7.cell 2
    have z7_2 := O7.frozen 2
    clear q2
    have e4 : f 4 = .bool true := hf 16 4 rfl
    clear hf hap
    simp only [fillL, e4]
    clear e4
    go_wp2
    go_ret
    exact ⟨rfl, hon⟩
set_option maxRecDepth 100000 in
set_option maxHeartbeats 1600000 in
theorem texts_main_b (w : World) (hx : MX w) (b0 : Bool) (A0 D0 : Option Addr) (n0 c0 m0 e0 : Nat) (x0 y0 : List Nat) (R0 : Rd w A0 n0 c0 x0) (S0 : Rd w D0 m0 e0 y0) (s : ByteArray) (hS : s.size ≤ 9223372036854775807) (hs : n0 ≤ 12 ∧ m0 ≤ 12) (hl : 65536 < s.size) :
    Calls Try.prog 3 #[.agg #[.bool b0, .slice A0 n0 c0, .slice D0 m0 e0], .string s] w fun e w' => e = .returned (.bool true) ∧ On w w' := by
  obtain ⟨r0, hr0⟩ : ∃ x, raw b0 x0 y0 = x := ⟨_, rfl⟩
  have F0 : Fld w (.agg #[.bool b0, .slice A0 n0 c0, .slice D0 m0 e0]) r0 12 := Fld.mk3 R0 S0 (by omega) (by omega) hr0
  clear hr0
  obtain ⟨rp, er, z, T1, T2, T3⟩ := parse_twin s (.inr hl) hS
  have HT1 := Lib.hid T1
  clear T1
  have HT2 := Lib.hid T2
  clear T2
  have HT3 := Lib.hid T3
  clear T3
  have B : On w (w.alloc (.cells #[.bool b0, .slice A0 n0 c0, .slice D0 m0 e0] 24)) := On.alloc (On.refl w) _
  have OB2 : w.heap.size ≤ w.heap.size ∧ Own (w.alloc (.cells #[.bool b0, .slice A0 n0 c0, .slice D0 m0 e0] 24)) (w.heap.size) 24 #[.bool b0, .slice A0 n0 c0, .slice D0 m0 e0] := ⟨by omega, (Own.at_ w (w.heap.size) (by simp) 24 #[.bool b0, .slice A0 n0 c0, .slice D0 m0 e0])⟩
  go_enter Try.func3, Try.ntmps3
  go_wp2_with fail
  refine (awake02 _ (hx.on B)).mono ?_
  rintro e w1 ⟨rfl, P1⟩
  replace OB2 := And.intro OB2.1 (OB2.2.on P1)
  replace B := B.trans P1
  have y2_0 : w1.cell? ⟨w.heap.size, 0, none⟩ = some (.bool b0) := OB2.2.cell 0
  have y2_1 : w1.cell? ⟨w.heap.size, 1, none⟩ = some (.slice A0 n0 c0) := OB2.2.cell 1
  have y2_2 : w1.cell? ⟨w.heap.size, 2, none⟩ = some (.slice D0 m0 e0) := OB2.2.cell 2
  have y2_f0 := OB2.2.frozen 0
  have y2_f1 := OB2.2.frozen 1
  have y2_f2 := OB2.2.frozen 2
  go_wp2_with fail
  clear y2_0 y2_f0 y2_1 y2_f1 y2_2 y2_f2
  have B1 := (On.refl w1).alloc (.cells #[.bool b0, .slice A0 n0 c0, .slice D0 m0 e0] 24)
  replace OB2 := And.intro OB2.1 (OB2.2.on B1)
  replace B := B.trans B1
  have hlens := rlens1 b0 A0 D0 n0 c0 m0 e0 x0 y0 (R0.on B) (S0.on B) (Own.new w1 24 #[.bool b0, .slice A0 n0 c0, .slice D0 m0 e0])
  refine (rlarge_no _ _ 1 1 _ hlens rfl (by decide) (by decide) (by decide) (by simp; omega)).mono ?_
  rintro e w2 ⟨rfl, P2⟩
  clear hlens B1 P1
  replace OB2 := And.intro OB2.1 (OB2.2.on P2)
  replace B := B.trans P2
  clear P2
  go_wp2_with fail
  refine (HT1.out _ (hx.on B)).mono ?_
  rintro e w3 ⟨v5, rfl, I5, P3⟩
  clear hx
  replace OB2 := And.intro OB2.1 (OB2.2.on P3)
  replace B := B.trans P3
  obtain ⟨s5, P5, Pn5, Pc5, R5, Rn5, Rc5, rfl⟩ := isR_form I5
  have PA := (On.refl w3).alloc (.cells #[.bool s5, .slice P5 Pn5 Pc5, .slice R5 Rn5 Rc5] 24)
  have B0_5 := B.size
  replace OB2 := And.intro OB2.1 (OB2.2.on PA)
  replace B := B.trans PA
  replace I5 := I5.on PA
  have OB5 : w.heap.size ≤ w3.heap.size ∧ _ := ⟨B0_5, Own.new w3 24 #[.bool s5, .slice P5 Pn5 Pc5, .slice R5 Rn5 Rc5]⟩
  clear PA
  go_wp2_with fail
  refine (HT2.out _).mono ?_
  rintro e w5 ⟨v7, rfl, I7, P5⟩
  replace OB2 := And.intro OB2.1 (OB2.2.on P5)
  replace OB5 := And.intro OB5.1 (OB5.2.on P5)
  replace B := B.trans P5
  replace I5 := I5.on P5
  obtain ⟨s7, P7, Pn7, Pc7, R7, Rn7, Rc7, rfl⟩ := isR_form I7
  have PA := (On.refl w5).alloc (.cells #[.bool s7, .slice P7 Pn7 Pc7, .slice R7 Rn7 Rc7] 24)
  have B0_7 := B.size
  replace OB2 := And.intro OB2.1 (OB2.2.on PA)
  replace OB5 := And.intro OB5.1 (OB5.2.on PA)
  replace B := B.trans PA
  replace I7 := I7.on PA
  have OB7 : w.heap.size ≤ w5.heap.size ∧ _ := ⟨B0_7, Own.new w5 24 #[.bool s7, .slice P7 Pn7 Pc7, .slice R7 Rn7 Rc7]⟩
  clear PA
  replace I5 := I5.on ((On.refl w5).alloc (.cells #[.bool s7, .slice P7 Pn7 Pc7, .slice R7 Rn7 Rc7] 24))
  clear P3 P5
  go_wp2
  refine wp_region_facts (by kernel_rfl) w [Fact.eq (.agg #[.bool b0, .slice A0 n0 c0, .slice D0 m0 e0]), Fact.strP (fun BS => RTx r0 BS), Fact.eq (.agg #[.bool b0, .slice A0 n0 c0, .slice D0 m0 e0]), Fact.strP (fun BS => RTx r0 BS), Fact.eq (.bool true), Fact.eq (.bool true), Fact.eq (.agg #[.bool s5, .slice P5 Pn5 Pc5, .slice R5 Rn5 Rc5]), Fact.eq (.agg #[.bool s7, .slice P7 Pn7 Pc7, .slice R7 Rn7 Rc7]), Fact.eq (.bool true), Fact.eq (.bool true), Fact.eq (.bool true), Fact.eq (er), Fact.eq (.int .i64 z), Fact.eq (.int .i64 z), Fact.eq (.bool true), Fact.eq (.bool true), Fact.eq (.bool true)] [Fact.any, Fact.any, Fact.any] [⟨17, 2, 24, 17, #[.bool b0, .slice A0 n0 c0, .slice D0 m0 e0]⟩, ⟨17, 5, 24, 17, #[.bool s5, .slice P5 Pn5 Pc5, .slice R5 Rn5 Rc5]⟩, ⟨17, 7, 24, 17, #[.bool s7, .slice P7 Pn7 Pc7, .slice R7 Rn7 Rc7]⟩] [w.heap.size, w3.heap.size, w5.heap.size] [none, none, none, none, some 4, none, none, none, none, none, none, none, none, none, none, none, none, none, none, none, none, none, none, none, none, none, none, none, none, none, none, none, none, none, none, none, none, some 37, some 38, some 39, some 40, some 41, some 42, some 43, some 44, some 45, some 46, some 47, some 48, some 49, some 50, some 51, some 52] (by kernel_rfl) (by kernel_rfl) (by kernel_rfl) rfl B ?_ ?_ ?_ ?_ ?_
  · exact ⟨fun _ => ⟨by simp, rfl, OB2⟩, fun _ => ⟨by simp, rfl, OB5⟩, fun _ => ⟨by simp, rfl, OB7⟩, trivial⟩
  · exact .inl ⟨Nat.le_refl _, Nat.le_refl _, Nat.le_refl _, trivial⟩
  · exact ⟨⟨noWords_R _ _ _ _ _ _ _, (.inl (Nat.le_refl _)), (.inl (Nat.le_refl _))⟩, ⟨noWords_R _ _ _ _ _ _ _, (.inl (Nat.le_refl _)), (.inl (Nat.le_refl _))⟩, ⟨noWords_R _ _ _ _ _ _ _, (.inl (Nat.le_refl _)), (.inl (Nat.le_refl _))⟩, trivial⟩
  · refine ⟨?_, ?_, ?_, ?_, ?_, ?_, ?_, ?_, ?_, ?_, ?_, ?_, ?_, ?_, ?_, ?_, ?_, trivial⟩
    · exact .inr fun a w hp => ob_yes rfl (ob_loadR (hp.box (k := 0) rfl (Nat.le_refl _) (.inl (Nat.le_refl _)) (by kernel_rfl) rfl).1 (hp.box (k := 0) rfl (Nat.le_refl _) (.inl (Nat.le_refl _)) (by kernel_rfl) rfl).2 rfl)
    · refine .inr fun a w hp => ob_yes rfl ?_
      have h37 : a.tmps.getD 37 undef = .agg #[.bool b0, .slice A0 n0 c0, .slice D0 m0 e0] := (hp.fact 0 37 (by kernel_rfl) rfl)
      unfold Does
      go_simp
      refine (fld_text _ _ r0 12 (F0.on hp.on) (by decide) (by decide)).mono ?_
      rintro e w' ⟨bs, rfl, HT, P8⟩
      exact ⟨_, rfl, P8, bs, rfl, HT⟩
    · exact .inr fun a w hp => ob_yes rfl (ob_loadR (hp.box (k := 0) rfl (Nat.le_refl _) (.inl (Nat.le_refl _)) (by kernel_rfl) rfl).1 (hp.box (k := 0) rfl (Nat.le_refl _) (.inl (Nat.le_refl _)) (by kernel_rfl) rfl).2 rfl)
    · refine .inr fun a w hp => ob_yes rfl ?_
      have h39 : a.tmps.getD 39 undef = .agg #[.bool b0, .slice A0 n0 c0, .slice D0 m0 e0] := (hp.fact 2 39 (by kernel_rfl) rfl)
      unfold Does
      go_simp
      refine (stext_any _ _ r0 12 (F0.on hp.on) (by decide) (by decide)).mono ?_
      rintro e w' ⟨bs, rfl, HT, P8⟩
      exact ⟨_, rfl, P8, bs, rfl, HT⟩
    · refine .inr fun a w hp => ob_yes rfl ?_
      obtain ⟨bs38, e38, h38⟩ : ∃ bs, a.tmps.getD 38 undef = .string (str bs) ∧ RTx r0 bs := (hp.fact 1 38 (by kernel_rfl) rfl)
      obtain ⟨bs40, e40, h40⟩ : ∃ bs, a.tmps.getD 40 undef = .string (str bs) ∧ RTx r0 bs := (hp.fact 3 40 (by kernel_rfl) rfl)
      obtain rfl : bs38 = bs40 := h38.unique h40
      unfold Does
      go_simp
      exact ⟨_, rfl, On.refl _, by show Value.bool _ = Value.bool _; first | rfl | (simp; done)⟩
    · exact .inr fun a w hp => ob_yes rfl (ob_move (hp.fact 4 41 (by kernel_rfl) rfl))
    · exact .inr fun a w hp => ob_yes (wanted_yes (P := Try.prog) (j := 5) (d := 42) (b := true) rfl rfl (hp.fact 5 42 (by kernel_rfl) rfl)) (ob_loadR (hp.box (k := 1) rfl (Nat.le_refl _) (.inl (Nat.le_refl _)) (by kernel_rfl) rfl).1 (hp.box (k := 1) rfl (Nat.le_refl _) (.inl (Nat.le_refl _)) (by kernel_rfl) rfl).2 rfl)
    · exact .inr fun a w hp => ob_yes (wanted_yes (P := Try.prog) (j := 5) (d := 42) (b := true) rfl rfl (hp.fact 5 42 (by kernel_rfl) rfl)) (ob_loadR (hp.box (k := 2) rfl (Nat.le_refl _) (.inl (Nat.le_refl _)) (by kernel_rfl) rfl).1 (hp.box (k := 2) rfl (Nat.le_refl _) (.inl (Nat.le_refl _)) (by kernel_rfl) rfl).2 rfl)
    · refine .inr fun a w hp => ob_yes (wanted_yes (P := Try.prog) (j := 5) (d := 42) (b := true) rfl rfl (hp.fact 5 42 (by kernel_rfl) rfl)) ?_
      have h43 : a.tmps.getD 43 undef = .agg #[.bool s5, .slice P5 Pn5 Pc5, .slice R5 Rn5 Rc5] := (hp.fact 6 43 (by kernel_rfl) rfl)
      have h44 : a.tmps.getD 44 undef = .agg #[.bool s7, .slice P7 Pn7 Pc7, .slice R7 Rn7 Rc7] := (hp.fact 7 44 (by kernel_rfl) rfl)
      unfold Does
      go_simp
      refine (rat_same _ _ _ _ _ _ (I5.kept hp.kept) (I7.kept hp.kept)).mono ?_
      rintro e w' ⟨rfl, P8⟩
      exact ⟨_, rfl, P8, rfl⟩
    · refine .inr fun a w hp => ob_yes rfl ?_
      have h42 : a.tmps.getD 42 undef = .bool true := (hp.fact 5 42 (by kernel_rfl) rfl)
      have h45 : a.tmps.getD 45 undef = .bool true := (hp.fact 8 45 (by kernel_rfl) rfl)
      unfold Does
      go_simp
      exact ⟨_, rfl, On.refl _, rfl⟩
    · exact .inr fun a w hp => ob_yes rfl (ob_move (hp.fact 9 46 (by kernel_rfl) rfl))
    · exact .inr fun a w hp => ob_yes (wanted_yes (P := Try.prog) (j := 10) (d := 47) (b := true) rfl rfl (hp.fact 10 47 (by kernel_rfl) rfl)) (ob_move (hp.same 6 (by kernel_rfl)))
    · refine .inr fun a w hp => ob_yes (wanted_yes (P := Try.prog) (j := 10) (d := 47) (b := true) rfl rfl (hp.fact 10 47 (by kernel_rfl) rfl)) ?_
      have h48 : a.tmps.getD 48 undef = er := (hp.fact 11 48 (by kernel_rfl) rfl)
      unfold Does
      go_simp
      refine (HT3.out _).mono ?_
      rintro e w' ⟨rfl, rfl⟩
      exact ⟨_, rfl, On.refl _, rfl⟩
    · exact .inr fun a w hp => ob_yes (wanted_yes (P := Try.prog) (j := 10) (d := 47) (b := true) rfl rfl (hp.fact 10 47 (by kernel_rfl) rfl)) (ob_move (hp.same 8 (by kernel_rfl)))
    · refine .inr fun a w hp => ob_yes (wanted_yes (P := Try.prog) (j := 10) (d := 47) (b := true) rfl rfl (hp.fact 10 47 (by kernel_rfl) rfl)) ?_
      have h49 : a.tmps.getD 49 undef = .int .i64 z := (hp.fact 12 49 (by kernel_rfl) rfl)
      have h50 : a.tmps.getD 50 undef = .int .i64 z := (hp.fact 13 50 (by kernel_rfl) rfl)
      unfold Does
      go_simp
      exact ⟨_, rfl, On.refl _, by show Value.bool _ = Value.bool _; first | rfl | (simp; done)⟩
    · refine .inr fun a w hp => ob_yes rfl ?_
      have h47 : a.tmps.getD 47 undef = .bool true := (hp.fact 10 47 (by kernel_rfl) rfl)
      have h51 : a.tmps.getD 51 undef = .bool true := (hp.fact 14 51 (by kernel_rfl) rfl)
      unfold Does
      go_simp
      exact ⟨_, rfl, On.refl _, rfl⟩
    · exact .inr fun a w hp => ob_yes rfl (ob_assign (hp.fact 15 52 (by kernel_rfl) rfl))
  · intro f wr hon hk hf hb hap
    obtain ⟨q0, q1, q2, qz⟩ := hb
    clear qz
    have O2 : Own wr (w.heap.size) 24 #[.bool b0, .slice A0 n0 c0, .slice D0 m0 e0] := q0
    have c2_0 : wr.cell? ⟨w.heap.size, 0, none⟩ = some (.bool b0) := O2.cell 0
    have z2_0 := O2.frozen 0
    have c2_1 : wr.cell? ⟨w.heap.size, 1, none⟩ = some (.slice A0 n0 c0) := O2.cell 1
    have z2_1 := O2.frozen 1
    have c2_2 : wr.cell? ⟨w.heap.size, 2, none⟩ = some (.slice D0 m0 e0) := O2.cell 2
    have z2_2 := O2.frozen 2
    clear q0
    have O5 : Own wr (w3.heap.size) 24 #[.bool s5, .slice P5 Pn5 Pc5, .slice R5 Rn5 Rc5] := q1
    have c5_0 : wr.cell? ⟨w3.heap.size, 0, none⟩ = some (.bool s5) := O5.cell 0
    have z5_0 := O5.frozen 0
    have c5_1 : wr.cell? ⟨w3.heap.size, 1, none⟩ = some (.slice P5 Pn5 Pc5) := O5.cell 1
    have z5_1 := O5.frozen 1
    have c5_2 : wr.cell? ⟨w3.heap.size, 2, none⟩ = some (.slice R5 Rn5 Rc5) := O5.cell 2
    have z5_2 := O5.frozen 2
    clear q1
    have O7 : Own wr (w5.heap.size) 24 #[.bool s7, .slice P7 Pn7 Pc7, .slice R7 Rn7 Rc7] := q2
    have c7_0 : wr.cell? ⟨w5.heap.size, 0, none⟩ = some (.bool s7) := O7.cell 0
    have z7_0 := O7.frozen 0
    have c7_1 : wr.cell? ⟨w5.heap.size, 1, none⟩ = some (.slice P7 Pn7 Pc7) := O7.cell 1
    have z7_1 := O7.frozen 1
    have c7_2 : wr.cell? ⟨w5.heap.size, 2, none⟩ = some (.slice R7 Rn7 Rc7) := O7.cell 2
    have z7_2 := O7.frozen 2
    clear q2
    have e4 : f 4 = .bool true := hf 16 4 rfl
    clear hf hap
    simp only [fillL, e4]
    clear e4
    go_wp2
    go_ret
    exact ⟨rfl, hon⟩
theorem texts_any (w : World) (hx : MX w) (b0 : Bool) (A0 D0 : Option Addr) (n0 c0 m0 e0 : Nat) (x0 y0 : List Nat) (R0 : Rd w A0 n0 c0 x0) (S0 : Rd w D0 m0 e0 y0) (s : ByteArray) (hS : s.size ≤ 9223372036854775807) :
    Calls Try.prog 3 #[.agg #[.bool b0, .slice A0 n0 c0, .slice D0 m0 e0], .string s] w fun e w' => e = .returned (.bool true) ∧ On w w' := by
  by_cases hs : n0 ≤ 12 ∧ m0 ≤ 12
  · by_cases h1 : s.size ≤ 200
    · exact texts_main_a w hx b0 A0 D0 n0 c0 m0 e0 x0 y0 R0 S0 s hS hs h1
    · by_cases h2 : s.size ≤ 65536
      · exact texts_mid w hx b0 A0 D0 n0 c0 m0 e0 x0 y0 R0 S0 s hS hs (by omega) h2
      · exact texts_main_b w hx b0 A0 D0 n0 c0 m0 e0 x0 y0 R0 S0 s hS hs (by omega)
  · have : 12 < n0 ∨ 12 < m0 := by omega
    exact texts_large w hx b0 A0 D0 n0 c0 m0 e0 x0 y0 R0 S0 s hS 0 _ rfl this
end Num
end Go.Proofs.Ytkchpagjkgmpmaa
