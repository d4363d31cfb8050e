/-
  RationalRounds, walked.
-/
import Derived.Test.YtikmjlaeadockaaGreatZint
namespace Go.Proofs.YtikmjlaeadockaaGreat
open Go.RowKit
set_option linter.unusedVariables false
namespace Num
theorem rlens1 {w : World} {g t : Nat} (b0 : Bool) (A0 D0 : Option Addr) (n0 c0 m0 e0 : Nat) (x0 y0 : List Nat) (R0 : Rd w A0 n0 c0 x0) (S0 : Rd w D0 m0 e0 y0) (h : Own w g t #[.bool b0, .slice A0 n0 c0, .slice D0 m0 e0]) : RLens w g [(n0, m0)] := by
  refine ⟨h.lt, fun i p hp => ?_⟩
  rcases i with _ | i
  · simp at hp; subst hp
    exact ⟨b0, A0, c0, D0, e0, h.cell 0, h.cell 1, h.cell 2, R0.max, R0.cap, S0.max, S0.cap⟩
  · simp at hp
theorem RatPost2.wider {w : World} {r : Rat} {L M : Nat} {er : Value} {e : Ending} {w' : World} (h : RatPost2 w r L er e w') (k : L ≤ M) : RatPost2 w r M er e w' := by
  obtain ⟨v, h1, h2, h3⟩ := h
  exact ⟨v, h1, h2.wide k, h3⟩
theorem round_twin (r : Rat) (d : Int) : ∃ (p : Rat) (er : Value) (z : Int), (∀ w v, Fld w v r 12 → Calls Tryz.prog 35 #[v, .int .i64 d] w (RatPost2 w p 50 er)) ∧ (∀ w v, Fld w v r 12 → Calls Tryz.prog 36 #[v, .int .i64 d] w (RatPost2 w p 50 (.int .i64 z))) ∧ ∀ w, Calls Tryz.prog 22 #[er] w fun e w' => e = .returned (.int .i64 z) ∧ w = w' := by
  by_cases hd : d < 1 ∨ 2147483648 < d
  · exact ⟨0, _, 3, fun w v h => (pround_bad w v r 12 d h hd).mono fun e w' h => h.wider (by decide), fun w v h => (sround_bad w v r 12 d h hd).mono fun e w' h => h.wider (by decide), fun w => num_err w 3⟩
  · exact ⟨_, _, 0, fun w v h => round_ok w v r 12 d h (by decide) (by decide) (by omega) (by omega), fun w v h => sround_ok w v r 12 d h (by decide) (by decide) (by omega) (by omega), fun w => num_nil w⟩
set_option maxRecDepth 100000 in
set_option maxHeartbeats 1600000 in
theorem rounds_large (w : World) (hx : MX w) (b0 : Bool) (A0 D0 : Option Addr) (n0 c0 m0 e0 : Nat) (x0 y0 : List Nat) (R0 : Rd w A0 n0 c0 x0) (S0 : Rd w D0 m0 e0 y0) (a : Int) (ha0 : -9223372036854775808 ≤ a) (ha1 : a ≤ 9223372036854775807) (mi : Nat) (qi : Nat × Nat) (hmi : [(n0, m0)][mi]? = some qi) (hyi : 12 < qi.1 ∨ 12 < qi.2) :
    Calls Tryz.prog 6 #[.agg #[.bool b0, .slice A0 n0 c0, .slice D0 m0 e0], .int .i64 a] w fun e w' => e = .returned (.bool true) ∧ On w w' := by
  have HMI := Lib.hid hmi
  have HYI := Lib.hid hyi
  clear hmi hyi
  have B : On w (w.alloc (.cells #[.bool b0, .slice A0 n0 c0, .slice D0 m0 e0] 24)) := On.alloc (On.refl w) _
  have OB2 : w.heap.size ≤ w.heap.size ∧ Own (w.alloc (.cells #[.bool b0, .slice A0 n0 c0, .slice D0 m0 e0] 24)) (w.heap.size) 24 #[.bool b0, .slice A0 n0 c0, .slice D0 m0 e0] := ⟨by omega, (Own.at_ w (w.heap.size) (by simp) 24 #[.bool b0, .slice A0 n0 c0, .slice D0 m0 e0])⟩
  go_enter Tryz.func6, Tryz.ntmps6
  go_wp2_with fail
  refine (awake02 _ (hx.on B)).mono ?_
  rintro e w1 ⟨rfl, P1⟩
  replace OB2 := And.intro OB2.1 (OB2.2.on P1)
  replace B := B.trans P1
  have y2_0 : w1.cell? ⟨w.heap.size, 0, none⟩ = some (.bool b0) := OB2.2.cell 0
  have y2_1 : w1.cell? ⟨w.heap.size, 1, none⟩ = some (.slice A0 n0 c0) := OB2.2.cell 1
  have y2_2 : w1.cell? ⟨w.heap.size, 2, none⟩ = some (.slice D0 m0 e0) := OB2.2.cell 2
  have y2_f0 := OB2.2.frozen 0
  have y2_f1 := OB2.2.frozen 1
  have y2_f2 := OB2.2.frozen 2
  go_wp2_with fail
  clear y2_0 y2_f0 y2_1 y2_f1 y2_2 y2_f2
  have B1 := (On.refl w1).alloc (.cells #[.bool b0, .slice A0 n0 c0, .slice D0 m0 e0] 24)
  replace OB2 := And.intro OB2.1 (OB2.2.on B1)
  replace B := B.trans B1
  have hlens := rlens1 b0 A0 D0 n0 c0 m0 e0 x0 y0 (R0.on B) (S0.on B) (Own.new w1 24 #[.bool b0, .slice A0 n0 c0, .slice D0 m0 e0])
  refine (rlarge_yes _ _ 1 1 _ hlens rfl (by decide) (by decide) (by decide) mi qi HMI.out HYI.out).mono ?_
  rintro e w2 ⟨rfl, P2⟩
  clear hlens B1 P1
  replace OB2 := And.intro OB2.1 (OB2.2.on P2)
  replace B := B.trans P2
  clear P2
  go_wp2_with fail
  refine (awake02 _ (hx.on B)).mono ?_
  rintro e w3 ⟨rfl, P3⟩
  go_wp2
  go_ret
  exact ⟨rfl, B.trans P3⟩
set_option maxRecDepth 100000 in
set_option maxHeartbeats 1600000 in
theorem rounds_small (w : World) (hx : MX w) (b0 : Bool) (A0 D0 : Option Addr) (n0 c0 m0 e0 : Nat) (x0 y0 : List Nat) (R0 : Rd w A0 n0 c0 x0) (S0 : Rd w D0 m0 e0 y0) (a : Int) (ha0 : -9223372036854775808 ≤ a) (ha1 : a ≤ 9223372036854775807) (hs : n0 ≤ 12 ∧ m0 ≤ 12) :
    Calls Tryz.prog 6 #[.agg #[.bool b0, .slice A0 n0 c0, .slice D0 m0 e0], .int .i64 a] w fun e w' => e = .returned (.bool true) ∧ On w w' := by
  obtain ⟨r0, hr0⟩ : ∃ x, raw b0 x0 y0 = x := ⟨_, rfl⟩
  have F0 : Fld w (.agg #[.bool b0, .slice A0 n0 c0, .slice D0 m0 e0]) r0 12 := Fld.mk3 R0 S0 (by omega) (by omega) hr0
  clear hr0
  obtain ⟨dq, de, dz, TD1, TD2, TD3⟩ := round_twin r0 a
  obtain ⟨iz, iok, TI1, TI2⟩ := int_twin r0 12 (by decide) (by decide)
  have HTD1 := Lib.hid TD1
  clear TD1
  have HTD2 := Lib.hid TD2
  clear TD2
  have HTD3 := Lib.hid TD3
  clear TD3
  have HTI1 := Lib.hid TI1
  clear TI1
  have HTI2 := Lib.hid TI2
  clear TI2
  have B : On w (w.alloc (.cells #[.bool b0, .slice A0 n0 c0, .slice D0 m0 e0] 24)) := On.alloc (On.refl w) _
  have OB2 : w.heap.size ≤ w.heap.size ∧ Own (w.alloc (.cells #[.bool b0, .slice A0 n0 c0, .slice D0 m0 e0] 24)) (w.heap.size) 24 #[.bool b0, .slice A0 n0 c0, .slice D0 m0 e0] := ⟨by omega, (Own.at_ w (w.heap.size) (by simp) 24 #[.bool b0, .slice A0 n0 c0, .slice D0 m0 e0])⟩
  go_enter Tryz.func6, Tryz.ntmps6
  go_wp2_with fail
  refine (awake02 _ (hx.on B)).mono ?_
  rintro e w1 ⟨rfl, P1⟩
  replace OB2 := And.intro OB2.1 (OB2.2.on P1)
  replace B := B.trans P1
  have y2_0 : w1.cell? ⟨w.heap.size, 0, none⟩ = some (.bool b0) := OB2.2.cell 0
  have y2_1 : w1.cell? ⟨w.heap.size, 1, none⟩ = some (.slice A0 n0 c0) := OB2.2.cell 1
  have y2_2 : w1.cell? ⟨w.heap.size, 2, none⟩ = some (.slice D0 m0 e0) := OB2.2.cell 2
  have y2_f0 := OB2.2.frozen 0
  have y2_f1 := OB2.2.frozen 1
  have y2_f2 := OB2.2.frozen 2
  go_wp2_with fail
  clear y2_0 y2_f0 y2_1 y2_f1 y2_2 y2_f2
  have B1 := (On.refl w1).alloc (.cells #[.bool b0, .slice A0 n0 c0, .slice D0 m0 e0] 24)
  replace OB2 := And.intro OB2.1 (OB2.2.on B1)
  replace B := B.trans B1
  have hlens := rlens1 b0 A0 D0 n0 c0 m0 e0 x0 y0 (R0.on B) (S0.on B) (Own.new w1 24 #[.bool b0, .slice A0 n0 c0, .slice D0 m0 e0])
  refine (rlarge_no _ _ 1 1 _ hlens rfl (by decide) (by decide) (by decide) (by simp; omega)).mono ?_
  rintro e w2 ⟨rfl, P2⟩
  clear hlens B1 P1
  replace OB2 := And.intro OB2.1 (OB2.2.on P2)
  replace B := B.trans P2
  clear P2
  clear hx
  have y2_0 : w2.cell? ⟨w.heap.size, 0, none⟩ = some (.bool b0) := OB2.2.cell 0
  have y2_1 : w2.cell? ⟨w.heap.size, 1, none⟩ = some (.slice A0 n0 c0) := OB2.2.cell 1
  have y2_2 : w2.cell? ⟨w.heap.size, 2, none⟩ = some (.slice D0 m0 e0) := OB2.2.cell 2
  have y2_f0 := OB2.2.frozen 0
  have y2_f1 := OB2.2.frozen 1
  have y2_f2 := OB2.2.frozen 2
  go_wp2_with fail
  refine (HTD1.out _ _ (F0.on B)).mono ?_
  rintro e w3 ⟨v7, rfl, I7, P3⟩
  clear y2_0 y2_f0 y2_1 y2_f1 y2_2 y2_f2
  replace OB2 := And.intro OB2.1 (OB2.2.on P3)
  replace B := B.trans P3
  obtain ⟨P5, Pn5, Pc5, _, R5, Rn5, Rc5, _, rfl, _⟩ := id I7
  obtain ⟨s5, hs5⟩ : ∃ x, decide (dq < 0) = x := ⟨_, rfl⟩
  rw [hs5] at I7
  try rw [hs5]
  clear hs5
  have B0_5 := B.size
  have PA := (On.refl w3).alloc (.cells #[.bool s5, .slice P5 Pn5 Pc5, .slice R5 Rn5 Rc5] 24)
  replace OB2 := And.intro OB2.1 (OB2.2.on PA)
  replace B := B.trans PA
  replace I7 := I7.on PA
  have OB5 : w.heap.size ≤ w3.heap.size ∧ _ := ⟨B0_5, Own.new w3 24 #[.bool s5, .slice P5 Pn5 Pc5, .slice R5 Rn5 Rc5]⟩
  clear PA
  have y2_0 : (w3.alloc (.cells #[.bool s5, .slice P5 Pn5 Pc5, .slice R5 Rn5 Rc5] 24)).cell? ⟨w.heap.size, 0, none⟩ = some (.bool b0) := OB2.2.cell 0
  have y2_1 : (w3.alloc (.cells #[.bool s5, .slice P5 Pn5 Pc5, .slice R5 Rn5 Rc5] 24)).cell? ⟨w.heap.size, 1, none⟩ = some (.slice A0 n0 c0) := OB2.2.cell 1
  have y2_2 : (w3.alloc (.cells #[.bool s5, .slice P5 Pn5 Pc5, .slice R5 Rn5 Rc5] 24)).cell? ⟨w.heap.size, 2, none⟩ = some (.slice D0 m0 e0) := OB2.2.cell 2
  have y2_f0 := OB2.2.frozen 0
  have y2_f1 := OB2.2.frozen 1
  have y2_f2 := OB2.2.frozen 2
  go_wp2_with fail
  refine (HTD2.out _ _ (F0.on B)).mono ?_
  rintro e w5 ⟨v9, rfl, I9, PW5⟩
  clear y2_0 y2_f0 y2_1 y2_f1 y2_2 y2_f2
  replace OB2 := And.intro OB2.1 (OB2.2.on PW5)
  replace OB5 := And.intro OB5.1 (OB5.2.on PW5)
  replace B := B.trans PW5
  replace I7 := I7.on PW5
  obtain ⟨P7, Pn7, Pc7, _, R7, Rn7, Rc7, _, rfl, _⟩ := id I9
  obtain ⟨s7, hs7⟩ : ∃ x, decide (dq < 0) = x := ⟨_, rfl⟩
  rw [hs7] at I9
  try rw [hs7]
  clear hs7
  have B0_7 := B.size
  have PA := (On.refl w5).alloc (.cells #[.bool s7, .slice P7 Pn7 Pc7, .slice R7 Rn7 Rc7] 24)
  replace OB2 := And.intro OB2.1 (OB2.2.on PA)
  replace OB5 := And.intro OB5.1 (OB5.2.on PA)
  replace B := B.trans PA
  replace I9 := I9.on PA
  have OB7 : w.heap.size ≤ w5.heap.size ∧ _ := ⟨B0_7, Own.new w5 24 #[.bool s7, .slice P7 Pn7 Pc7, .slice R7 Rn7 Rc7]⟩
  clear PA
  replace I7 := I7.on ((On.refl w5).alloc (.cells #[.bool s7, .slice P7 Pn7 Pc7, .slice R7 Rn7 Rc7] 24))
  clear P3 PW5
  have y2_0 : (w5.alloc (.cells #[.bool s7, .slice P7 Pn7 Pc7, .slice R7 Rn7 Rc7] 24)).cell? ⟨w.heap.size, 0, none⟩ = some (.bool b0) := OB2.2.cell 0
  have y2_1 : (w5.alloc (.cells #[.bool s7, .slice P7 Pn7 Pc7, .slice R7 Rn7 Rc7] 24)).cell? ⟨w.heap.size, 1, none⟩ = some (.slice A0 n0 c0) := OB2.2.cell 1
  have y2_2 : (w5.alloc (.cells #[.bool s7, .slice P7 Pn7 Pc7, .slice R7 Rn7 Rc7] 24)).cell? ⟨w.heap.size, 2, none⟩ = some (.slice D0 m0 e0) := OB2.2.cell 2
  have y2_f0 := OB2.2.frozen 0
  have y2_f1 := OB2.2.frozen 1
  have y2_f2 := OB2.2.frozen 2
  go_wp2_with fail
  refine (HTI1.out _ _ (F0.on B)).mono ?_
  rintro e w6 ⟨rfl, PW6⟩
  clear y2_0 y2_f0 y2_1 y2_f1 y2_2 y2_f2
  replace OB2 := And.intro OB2.1 (OB2.2.on PW6)
  replace OB5 := And.intro OB5.1 (OB5.2.on PW6)
  replace OB7 := And.intro OB7.1 (OB7.2.on PW6)
  replace B := B.trans PW6
  replace I7 := I7.on PW6
  replace I9 := I9.on PW6
  have y2_0 : w6.cell? ⟨w.heap.size, 0, none⟩ = some (.bool b0) := OB2.2.cell 0
  have y2_1 : w6.cell? ⟨w.heap.size, 1, none⟩ = some (.slice A0 n0 c0) := OB2.2.cell 1
  have y2_2 : w6.cell? ⟨w.heap.size, 2, none⟩ = some (.slice D0 m0 e0) := OB2.2.cell 2
  have y2_f0 := OB2.2.frozen 0
  have y2_f1 := OB2.2.frozen 1
  have y2_f2 := OB2.2.frozen 2
  go_wp2_with fail
  refine (HTI2.out _ _ (F0.on B)).mono ?_
  rintro e w7 ⟨rfl, PW7⟩
  clear y2_0 y2_f0 y2_1 y2_f1 y2_2 y2_f2
  replace OB2 := And.intro OB2.1 (OB2.2.on PW7)
  replace OB5 := And.intro OB5.1 (OB5.2.on PW7)
  replace OB7 := And.intro OB7.1 (OB7.2.on PW7)
  replace B := B.trans PW7
  replace I7 := I7.on PW7
  replace I9 := I9.on PW7
  go_wp2
  refine wp_region_facts (by kernel_rfl) w [Fact.eq (.agg #[.bool b0, .slice A0 n0 c0, .slice D0 m0 e0]), Fact.rat (((flr r0 : Int) : Rat)) (13), Fact.eq (.agg #[.bool b0, .slice A0 n0 c0, .slice D0 m0 e0]), Fact.rat (((flr r0 : Int) : Rat)) (13), Fact.eq (.bool true), Fact.eq (.bool true), Fact.eq (.agg #[.bool s5, .slice P5 Pn5 Pc5, .slice R5 Rn5 Rc5]), Fact.eq (.agg #[.bool s7, .slice P7 Pn7 Pc7, .slice R7 Rn7 Rc7]), Fact.eq (.bool true), Fact.eq (.bool true), Fact.eq (.bool true), Fact.eq (de), Fact.eq (.int .i64 dz), Fact.eq (.int .i64 dz), Fact.eq (.bool true), Fact.eq (.bool true), Fact.eq (.bool true), Fact.eq (.int .i64 iz), Fact.eq (.int .i64 iz), Fact.eq (.bool true), Fact.eq (.bool true), Fact.eq (.bool true), Fact.eq (.bool iok), Fact.eq (.bool iok), Fact.eq (.bool true), Fact.eq (.bool true), Fact.eq (.bool true)] [Fact.any, Fact.any, Fact.any] [⟨27, 2, 24, 27, #[.bool b0, .slice A0 n0 c0, .slice D0 m0 e0]⟩, ⟨27, 5, 24, 27, #[.bool s5, .slice P5 Pn5 Pc5, .slice R5 Rn5 Rc5]⟩, ⟨27, 7, 24, 27, #[.bool s7, .slice P7 Pn7 Pc7, .slice R7 Rn7 Rc7]⟩] [w.heap.size, w3.heap.size, w5.heap.size] [none, none, none, none, some 4, none, none, none, none, none, none, none, none, none, none, none, none, none, none, none, none, none, none, none, none, none, none, none, none, none, none, none, none, none, none, none, none, none, none, none, none, none, none, some 43, some 44, some 45, some 46, some 47, some 48, some 49, some 50, some 51, some 52, some 53, some 54, some 55, some 56, some 57, some 58, some 59, some 60, some 61, some 62, some 63, some 64, some 65, some 66, some 67, some 68] (by kernel_rfl) (by kernel_rfl) (by kernel_rfl) rfl B ?_ ?_ ?_ ?_ ?_
  · exact ⟨fun _ => ⟨by simp, rfl, OB2⟩, fun _ => ⟨by simp, rfl, OB5⟩, fun _ => ⟨by simp, rfl, OB7⟩, trivial⟩
  · exact .inl ⟨Nat.le_refl _, Nat.le_refl _, Nat.le_refl _, trivial⟩
  · exact ⟨⟨noWords_R _ _ _ _ _ _ _, (.inl (Nat.le_refl _)), (.inl (Nat.le_refl _))⟩, ⟨noWords_R _ _ _ _ _ _ _, (.inl (Nat.le_refl _)), (.inl (Nat.le_refl _))⟩, ⟨noWords_R _ _ _ _ _ _ _, (.inl (Nat.le_refl _)), (.inl (Nat.le_refl _))⟩, trivial⟩
  · refine ⟨?_, ?_, ?_, ?_, ?_, ?_, ?_, ?_, ?_, ?_, ?_, ?_, ?_, ?_, ?_, ?_, ?_, ?_, ?_, ?_, ?_, ?_, ?_, ?_, ?_, ?_, ?_, trivial⟩
    · exact .inr fun a w hp => ob_yes rfl (ob_loadR (hp.box (k := 0) rfl (Nat.le_refl _) (.inl (Nat.le_refl _)) (by kernel_rfl) rfl).1 (hp.box (k := 0) rfl (Nat.le_refl _) (.inl (Nat.le_refl _)) (by kernel_rfl) rfl).2 rfl)
    · refine .inr fun a w hp => ob_yes rfl ?_
      have h43 : a.tmps.getD 43 undef = .agg #[.bool b0, .slice A0 n0 c0, .slice D0 m0 e0] := (hp.fact 0 43 (by kernel_rfl) rfl)
      unfold Does
      go_simp
      refine (floor_fld _ _ _ 12 (F0.on hp.on) (by decide) (by decide)).mono ?_
      rintro e w' ⟨u, rfl, I8, P8⟩
      exact ⟨_, rfl, P8, I8⟩
    · exact .inr fun a w hp => ob_yes rfl (ob_loadR (hp.box (k := 0) rfl (Nat.le_refl _) (.inl (Nat.le_refl _)) (by kernel_rfl) rfl).1 (hp.box (k := 0) rfl (Nat.le_refl _) (.inl (Nat.le_refl _)) (by kernel_rfl) rfl).2 rfl)
    · refine .inr fun a w hp => ob_yes rfl ?_
      have h45 : a.tmps.getD 45 undef = .agg #[.bool b0, .slice A0 n0 c0, .slice D0 m0 e0] := (hp.fact 2 45 (by kernel_rfl) rfl)
      unfold Does
      go_simp
      refine (sfloor_any _ _ _ 12 (F0.on hp.on) (by decide) (by decide)).mono ?_
      rintro e w' ⟨u, rfl, I8, P8⟩
      exact ⟨_, rfl, P8, I8⟩
    · refine .inr fun a w hp => ob_yes rfl ?_
      have h44 : IsR w (a.tmps.getD 44 undef) (((flr r0 : Int) : Rat)) (13) := (hp.fact 1 44 (by kernel_rfl) rfl)
      obtain ⟨v44, e44⟩ : ∃ v, a.tmps.getD 44 undef = v := ⟨_, rfl⟩
      rw [e44] at h44
      have h46 : IsR w (a.tmps.getD 46 undef) (((flr r0 : Int) : Rat)) (13) := (hp.fact 3 46 (by kernel_rfl) rfl)
      obtain ⟨v46, e46⟩ : ∃ v, a.tmps.getD 46 undef = v := ⟨_, rfl⟩
      rw [e46] at h46
      unfold Does
      go_simp
      refine (rat_same _ _ _ _ _ _ h44 h46).mono ?_
      rintro e w' ⟨rfl, P8⟩
      exact ⟨_, rfl, P8, rfl⟩
    · exact .inr fun a w hp => ob_yes rfl (ob_move (hp.fact 4 47 (by kernel_rfl) rfl))
    · exact .inr fun a w hp => ob_yes (wanted_yes (P := Tryz.prog) (j := 5) (d := 48) (b := true) rfl rfl (hp.fact 5 48 (by kernel_rfl) rfl)) (ob_loadR (hp.box (k := 1) rfl (Nat.le_refl _) (.inl (Nat.le_refl _)) (by kernel_rfl) rfl).1 (hp.box (k := 1) rfl (Nat.le_refl _) (.inl (Nat.le_refl _)) (by kernel_rfl) rfl).2 rfl)
    · exact .inr fun a w hp => ob_yes (wanted_yes (P := Tryz.prog) (j := 5) (d := 48) (b := true) rfl rfl (hp.fact 5 48 (by kernel_rfl) rfl)) (ob_loadR (hp.box (k := 2) rfl (Nat.le_refl _) (.inl (Nat.le_refl _)) (by kernel_rfl) rfl).1 (hp.box (k := 2) rfl (Nat.le_refl _) (.inl (Nat.le_refl _)) (by kernel_rfl) rfl).2 rfl)
    · refine .inr fun a w hp => ob_yes (wanted_yes (P := Tryz.prog) (j := 5) (d := 48) (b := true) rfl rfl (hp.fact 5 48 (by kernel_rfl) rfl)) ?_
      have h49 : a.tmps.getD 49 undef = .agg #[.bool s5, .slice P5 Pn5 Pc5, .slice R5 Rn5 Rc5] := (hp.fact 6 49 (by kernel_rfl) rfl)
      have h50 : a.tmps.getD 50 undef = .agg #[.bool s7, .slice P7 Pn7 Pc7, .slice R7 Rn7 Rc7] := (hp.fact 7 50 (by kernel_rfl) rfl)
      unfold Does
      go_simp
      refine (rat_same _ _ _ _ _ _ (I7.kept hp.kept) (I9.kept hp.kept)).mono ?_
      rintro e w' ⟨rfl, P8⟩
      exact ⟨_, rfl, P8, rfl⟩
    · refine .inr fun a w hp => ob_yes rfl ?_
      have h48 : a.tmps.getD 48 undef = .bool true := (hp.fact 5 48 (by kernel_rfl) rfl)
      have h51 : a.tmps.getD 51 undef = .bool true := (hp.fact 8 51 (by kernel_rfl) rfl)
      unfold Does
      go_simp
      exact ⟨_, rfl, On.refl _, rfl⟩
    · exact .inr fun a w hp => ob_yes rfl (ob_move (hp.fact 9 52 (by kernel_rfl) rfl))
    · exact .inr fun a w hp => ob_yes (wanted_yes (P := Tryz.prog) (j := 10) (d := 53) (b := true) rfl rfl (hp.fact 10 53 (by kernel_rfl) rfl)) (ob_move (hp.same 6 (by kernel_rfl)))
    · refine .inr fun a w hp => ob_yes (wanted_yes (P := Tryz.prog) (j := 10) (d := 53) (b := true) rfl rfl (hp.fact 10 53 (by kernel_rfl) rfl)) ?_
      have h54 : a.tmps.getD 54 undef = de := (hp.fact 11 54 (by kernel_rfl) rfl)
      unfold Does
      go_simp
      refine (HTD3.out _).mono ?_
      rintro e w' ⟨rfl, rfl⟩
      exact ⟨_, rfl, On.refl _, rfl⟩
    · exact .inr fun a w hp => ob_yes (wanted_yes (P := Tryz.prog) (j := 10) (d := 53) (b := true) rfl rfl (hp.fact 10 53 (by kernel_rfl) rfl)) (ob_move (hp.same 8 (by kernel_rfl)))
    · refine .inr fun a w hp => ob_yes (wanted_yes (P := Tryz.prog) (j := 10) (d := 53) (b := true) rfl rfl (hp.fact 10 53 (by kernel_rfl) rfl)) ?_
      have h55 : a.tmps.getD 55 undef = .int .i64 dz := (hp.fact 12 55 (by kernel_rfl) rfl)
      have h56 : a.tmps.getD 56 undef = .int .i64 dz := (hp.fact 13 56 (by kernel_rfl) rfl)
      unfold Does
      go_simp
      exact ⟨_, rfl, On.refl _, by show Value.bool _ = Value.bool _; first | rfl | (simp; done)⟩
    · refine .inr fun a w hp => ob_yes rfl ?_
      have h53 : a.tmps.getD 53 undef = .bool true := (hp.fact 10 53 (by kernel_rfl) rfl)
      have h57 : a.tmps.getD 57 undef = .bool true := (hp.fact 14 57 (by kernel_rfl) rfl)
      unfold Does
      go_simp
      exact ⟨_, rfl, On.refl _, rfl⟩
    · exact .inr fun a w hp => ob_yes rfl (ob_move (hp.fact 15 58 (by kernel_rfl) rfl))
    · exact .inr fun a w hp => ob_yes (wanted_yes (P := Tryz.prog) (j := 16) (d := 59) (b := true) rfl rfl (hp.fact 16 59 (by kernel_rfl) rfl)) (ob_move (hp.same 9 (by kernel_rfl)))
    · exact .inr fun a w hp => ob_yes (wanted_yes (P := Tryz.prog) (j := 16) (d := 59) (b := true) rfl rfl (hp.fact 16 59 (by kernel_rfl) rfl)) (ob_move (hp.same 11 (by kernel_rfl)))
    · refine .inr fun a w hp => ob_yes (wanted_yes (P := Tryz.prog) (j := 16) (d := 59) (b := true) rfl rfl (hp.fact 16 59 (by kernel_rfl) rfl)) ?_
      have h60 : a.tmps.getD 60 undef = .int .i64 iz := (hp.fact 17 60 (by kernel_rfl) rfl)
      have h61 : a.tmps.getD 61 undef = .int .i64 iz := (hp.fact 18 61 (by kernel_rfl) rfl)
      unfold Does
      go_simp
      exact ⟨_, rfl, On.refl _, by show Value.bool _ = Value.bool _; first | rfl | (simp; done)⟩
    · refine .inr fun a w hp => ob_yes rfl ?_
      have h59 : a.tmps.getD 59 undef = .bool true := (hp.fact 16 59 (by kernel_rfl) rfl)
      have h62 : a.tmps.getD 62 undef = .bool true := (hp.fact 19 62 (by kernel_rfl) rfl)
      unfold Does
      go_simp
      exact ⟨_, rfl, On.refl _, rfl⟩
    · exact .inr fun a w hp => ob_yes rfl (ob_move (hp.fact 20 63 (by kernel_rfl) rfl))
    · exact .inr fun a w hp => ob_yes (wanted_yes (P := Tryz.prog) (j := 21) (d := 64) (b := true) rfl rfl (hp.fact 21 64 (by kernel_rfl) rfl)) (ob_move (hp.same 10 (by kernel_rfl)))
    · exact .inr fun a w hp => ob_yes (wanted_yes (P := Tryz.prog) (j := 21) (d := 64) (b := true) rfl rfl (hp.fact 21 64 (by kernel_rfl) rfl)) (ob_move (hp.same 12 (by kernel_rfl)))
    · refine .inr fun a w hp => ob_yes (wanted_yes (P := Tryz.prog) (j := 21) (d := 64) (b := true) rfl rfl (hp.fact 21 64 (by kernel_rfl) rfl)) ?_
      have h65 : a.tmps.getD 65 undef = .bool iok := (hp.fact 22 65 (by kernel_rfl) rfl)
      have h66 : a.tmps.getD 66 undef = .bool iok := (hp.fact 23 66 (by kernel_rfl) rfl)
      unfold Does
      go_simp
      exact ⟨_, rfl, On.refl _, by show Value.bool _ = Value.bool _; first | rfl | (simp; done)⟩
    · refine .inr fun a w hp => ob_yes rfl ?_
      have h64 : a.tmps.getD 64 undef = .bool true := (hp.fact 21 64 (by kernel_rfl) rfl)
      have h67 : a.tmps.getD 67 undef = .bool true := (hp.fact 24 67 (by kernel_rfl) rfl)
      unfold Does
      go_simp
      exact ⟨_, rfl, On.refl _, rfl⟩
    · exact .inr fun a w hp => ob_yes rfl (ob_assign (hp.fact 25 68 (by kernel_rfl) rfl))
  · intro f wr hon hk hf hb hap
    obtain ⟨q0, q1, q2, qz⟩ := hb
    clear qz
    have O2 : Own wr (w.heap.size) 24 #[.bool b0, .slice A0 n0 c0, .slice D0 m0 e0] := q0
    have c2_0 : wr.cell? ⟨w.heap.size, 0, none⟩ = some (.bool b0) := O2.cell 0
    have z2_0 := O2.frozen 0
    have c2_1 : wr.cell? ⟨w.heap.size, 1, none⟩ = some (.slice A0 n0 c0) := O2.cell 1
    have z2_1 := O2.frozen 1
    have c2_2 : wr.cell? ⟨w.heap.size, 2, none⟩ = some (.slice D0 m0 e0) := O2.cell 2
    have z2_2 := O2.frozen 2
    clear q0
    have O5 : Own wr (w3.heap.size) 24 #[.bool s5, .slice P5 Pn5 Pc5, .slice R5 Rn5 Rc5] := q1
    have c5_0 : wr.cell? ⟨w3.heap.size, 0, none⟩ = some (.bool s5) := O5.cell 0
    have z5_0 := O5.frozen 0
    have c5_1 : wr.cell? ⟨w3.heap.size, 1, none⟩ = some (.slice P5 Pn5 Pc5) := O5.cell 1
    have z5_1 := O5.frozen 1
    have c5_2 : wr.cell? ⟨w3.heap.size, 2, none⟩ = some (.slice R5 Rn5 Rc5) := O5.cell 2
    have z5_2 := O5.frozen 2
    clear q1
    have O7 : Own wr (w5.heap.size) 24 #[.bool s7, .slice P7 Pn7 Pc7, .slice R7 Rn7 Rc7] := q2
    have c7_0 : wr.cell? ⟨w5.heap.size, 0, none⟩ = some (.bool s7) := O7.cell 0
    have z7_0 := O7.frozen 0
    have c7_1 : wr.cell? ⟨w5.heap.size, 1, none⟩ = some (.slice P7 Pn7 Pc7) := O7.cell 1
    have z7_1 := O7.frozen 1
    have c7_2 : wr.cell? ⟨w5.heap.size, 2, none⟩ = some (.slice R7 Rn7 Rc7) := O7.cell 2
    have z7_2 := O7.frozen 2
    clear q2
    have e4 : f 4 = .bool true := hf 26 4 rfl
    clear hf hap
    simp only [fillL, e4]
    clear e4
    go_wp2
    go_ret
    exact ⟨rfl, hon⟩
theorem rounds_any (w : World) (hx : MX w) (b0 : Bool) (A0 D0 : Option Addr) (n0 c0 m0 e0 : Nat) (x0 y0 : List Nat) (R0 : Rd w A0 n0 c0 x0) (S0 : Rd w D0 m0 e0 y0) (a : Int) (ha0 : -9223372036854775808 ≤ a) (ha1 : a ≤ 9223372036854775807) :
    Calls Tryz.prog 6 #[.agg #[.bool b0, .slice A0 n0 c0, .slice D0 m0 e0], .int .i64 a] w fun e w' => e = .returned (.bool true) ∧ On w w' := by
  by_cases hs : n0 ≤ 12 ∧ m0 ≤ 12
  · exact rounds_small w hx b0 A0 D0 n0 c0 m0 e0 x0 y0 R0 S0 a ha0 ha1 hs
  · have : ∃ (mi : Nat) (qi : Nat × Nat), [(n0, m0)][mi]? = some qi ∧ (12 < qi.1 ∨ 12 < qi.2) := by
      by_cases h0 : 12 < n0 ∨ 12 < m0
      · exact ⟨0, _, rfl, h0⟩
      omega
    obtain ⟨mi, qi, h1, h2⟩ := this
    exact rounds_large w hx b0 A0 D0 n0 c0 m0 e0 x0 y0 R0 S0 a ha0 ha1 mi qi h1 h2
end Num
end Go.Proofs.YtikmjlaeadockaaGreat
