/-
  RationalFloors, walked.
-/
import Derived.Test.YtikmjlaeadockaaRround
namespace Go.Proofs.Ytikmjlaeadockaa
open Go.RowKit
set_option linter.unusedVariables false
namespace Num
theorem rlens1 {w : World} {g t : Nat} (b0 : Bool) (A0 D0 : Option Addr) (n0 c0 m0 e0 : Nat) (x0 y0 : List Nat) (R0 : Rd w A0 n0 c0 x0) (S0 : Rd w D0 m0 e0 y0) (h : Own w g t #[.bool b0, .slice A0 n0 c0, .slice D0 m0 e0]) : RLens w g [(n0, m0)] := by
  refine ⟨h.lt, fun i p hp => ?_⟩
  rcases i with _ | i
  · simp at hp; subst hp
    exact ⟨b0, A0, c0, D0, e0, h.cell 0, h.cell 1, h.cell 2, R0.max, R0.cap, S0.max, S0.cap⟩
  · simp at hp
theorem rat_mul_le {r k : Rat} (hk : 0 < k) {f : Rat} (h : f ≤ r * k) : f * k⁻¹ ≤ r := by
  have h1 : k ≠ 0 := by grind
  have h2 : 0 < k⁻¹ := Rat.inv_pos.2 hk
  have h3 := Rat.mul_le_mul_of_nonneg_right h (Rat.le_of_lt h2)
  rw [Rat.mul_assoc, Rat.mul_inv_cancel _ h1, Rat.mul_one] at h3
  exact h3
theorem int_pos {d : Int} (h : 1 ≤ d) : (0 : Rat) < (d : Rat) := by
  rw [Rat.lt_iff]; simp; omega
/-- the parts of a whole number -/
theorem isR_int {w : World} {b : Bool} {A A' : Option Addr} {n c n' c' L : Nat} {z : Int} (h : IsR w (.agg #[.bool b, .slice A n c, .slice A' n' c']) (z : Rat) L) : (z = 0 ∧ n' = 0) ∨ (z ≠ 0 ∧ n' = 1 ∧ Rd w A' 1 c' [1]) := by
  obtain ⟨B, m, d, xs, B', m', d', ys, e, R, R', C, C', h1, h2, h3, h4⟩ := h
  injection e with e
  have e2 : Value.slice A' n' c' = .slice B' m' d' := by have := congrArg (fun x : Array Value => x[2]?) e; simpa using this
  injection e2 with e2 e3 e4
  subst e2 e3 e4
  by_cases hz : z = 0
  · subst hz
    left
    refine ⟨rfl, ?_⟩
    have h5 : val ys = 0 := by rw [h4]; rfl
    have h6 := (nil_iff C').2 h5
    rw [← R'.len, h6]; rfl
  · right
    have hr : ((z : Int) : Rat) ≠ 0 := fun e => by
      have := congrArg Rat.num e
      simp at this; exact hz this
    rw [dn_ne hr, Rat.den_intCast] at h4
    have h5 : ys = [1] := val_inj R'.ok (Ok.one (by decide)) C' rfl (by rw [h4]; rfl)
    subst h5
    have h6 : n' = 1 := R'.len.symm
    subst h6
    exact ⟨hz, rfl, R'⟩
set_option maxRecDepth 100000 in
set_option maxHeartbeats 1600000 in
theorem floors_large (w : World) (hx : MX w) (b0 : Bool) (A0 D0 : Option Addr) (n0 c0 m0 e0 : Nat) (x0 y0 : List Nat) (R0 : Rd w A0 n0 c0 x0) (S0 : Rd w D0 m0 e0 y0) (dd : Int) (hd0 : 0 ≤ dd) (hd1 : dd ≤ 65535) (mi : Nat) (qi : Nat × Nat) (hmi : [(n0, m0)][mi]? = some qi) (hyi : 12 < qi.1 ∨ 12 < qi.2) :
    Calls Try.prog 7 #[.agg #[.bool b0, .slice A0 n0 c0, .slice D0 m0 e0], .int .u16 dd] w fun e w' => e = .returned (.bool true) ∧ On w w' := by
  have HMI := Lib.hid hmi
  have HYI := Lib.hid hyi
  clear hmi hyi
  have B : On w (w.alloc (.cells #[.bool b0, .slice A0 n0 c0, .slice D0 m0 e0] 24)) := On.alloc (On.refl w) _
  have OB2 : w.heap.size ≤ w.heap.size ∧ Own (w.alloc (.cells #[.bool b0, .slice A0 n0 c0, .slice D0 m0 e0] 24)) (w.heap.size) 24 #[.bool b0, .slice A0 n0 c0, .slice D0 m0 e0] := ⟨by omega, (Own.at_ w (w.heap.size) (by simp) 24 #[.bool b0, .slice A0 n0 c0, .slice D0 m0 e0])⟩
  go_enter Try.func7, Try.ntmps7
  go_wp2_with fail
  refine (awake02 _ (hx.on B)).mono ?_
  rintro e w1 ⟨rfl, P1⟩
  replace OB2 := And.intro OB2.1 (OB2.2.on P1)
  replace B := B.trans P1
  have y2_0 : w1.cell? ⟨w.heap.size, 0, none⟩ = some (.bool b0) := OB2.2.cell 0
  have y2_1 : w1.cell? ⟨w.heap.size, 1, none⟩ = some (.slice A0 n0 c0) := OB2.2.cell 1
  have y2_2 : w1.cell? ⟨w.heap.size, 2, none⟩ = some (.slice D0 m0 e0) := OB2.2.cell 2
  have y2_f0 := OB2.2.frozen 0
  have y2_f1 := OB2.2.frozen 1
  have y2_f2 := OB2.2.frozen 2
  go_wp2_with fail
  clear y2_0 y2_f0 y2_1 y2_f1 y2_2 y2_f2
  have B1 := (On.refl w1).alloc (.cells #[.bool b0, .slice A0 n0 c0, .slice D0 m0 e0] 24)
  replace OB2 := And.intro OB2.1 (OB2.2.on B1)
  replace B := B.trans B1
  have hlens := rlens1 b0 A0 D0 n0 c0 m0 e0 x0 y0 (R0.on B) (S0.on B) (Own.new w1 24 #[.bool b0, .slice A0 n0 c0, .slice D0 m0 e0])
  refine (rlarge_yes _ _ 1 1 _ hlens rfl (by decide) (by decide) (by decide) mi qi HMI.out HYI.out).mono ?_
  rintro e w2 ⟨rfl, P2⟩
  clear hlens B1 P1
  replace OB2 := And.intro OB2.1 (OB2.2.on P2)
  replace B := B.trans P2
  clear P2
  go_wp2_with fail
  refine (awake02 _ (hx.on B)).mono ?_
  rintro e w3 ⟨rfl, P3⟩
  go_wp2
  go_ret
  exact ⟨rfl, B.trans P3⟩
set_option maxRecDepth 100000 in
set_option maxHeartbeats 1600000 in
theorem floors_zero (w : World) (hx : MX w) (b0 : Bool) (A0 D0 : Option Addr) (n0 c0 m0 e0 : Nat) (x0 y0 : List Nat) (R0 : Rd w A0 n0 c0 x0) (S0 : Rd w D0 m0 e0 y0) (dd : Int) (hd0 : 0 ≤ dd) (hd1 : dd ≤ 65535) (hs : n0 ≤ 12 ∧ m0 ≤ 12) (hz : flr (raw b0 x0 y0) = 0) :
    Calls Try.prog 7 #[.agg #[.bool b0, .slice A0 n0 c0, .slice D0 m0 e0], .int .u16 dd] w fun e w' => e = .returned (.bool true) ∧ On w w' := by
  obtain ⟨r0, hr0⟩ : ∃ x, raw b0 x0 y0 = x := ⟨_, rfl⟩
  have F0 : Fld w (.agg #[.bool b0, .slice A0 n0 c0, .slice D0 m0 e0]) r0 12 := Fld.mk3 R0 S0 (by omega) (by omega) hr0
  rw [hr0] at hz
  have HZ := Lib.hid hz
  obtain ⟨fz, efz⟩ : ∃ x, flr r0 = x := ⟨_, rfl⟩
  have HFZ := Lib.hid efz
  obtain ⟨fl, efl⟩ : ∃ x : Rat, ((fz : Int) : Rat) = x := ⟨_, rfl⟩
  have HFL := Lib.hid efl
  have h1 : fl ≤ r0 := by rw [← efl, ← efz]; exact flr_le r0
  have h2 : r0 < fl + ((1 : Int) : Rat) := by rw [← efl, ← efz]; exact lt_flr r0
  obtain ⟨kc, ekc⟩ : ∃ x, rsg (fl - r0) = x := ⟨_, rfl⟩
  have HKC := Lib.hid ekc
  have hkc : kc = -1 ∨ kc = 0 := by rw [← ekc]; exact rsg_le h1
  have H53 : Hid (rsg (fl + ((1 : Int) : Rat) - r0) = 1) := Lib.hid (rsg_lt h2)
  obtain ⟨kk, ekk⟩ : ∃ x : Rat, ((1 + dd : Int) : Rat) = x := ⟨_, rfl⟩
  have HKK := Lib.hid ekk
  have hkp : 0 < kk := by rw [← ekk]; exact int_pos (by omega)
  obtain ⟨gz, egz⟩ : ∃ x, flr (r0 * kk) = x := ⟨_, rfl⟩
  have HGZ := Lib.hid egz
  obtain ⟨gl, egl⟩ : ∃ x : Rat, ((gz : Int) : Rat) = x := ⟨_, rfl⟩
  have HGL := Lib.hid egl
  have h3 : gl ≤ r0 * kk := by rw [← egl, ← egz]; exact flr_le _
  have h4 : r0 * kk < gl + ((1 : Int) : Rat) := by rw [← egl, ← egz]; exact lt_flr _
  obtain ⟨kd, ekd⟩ : ∃ x, rsg (gl * kk⁻¹ - r0) = x := ⟨_, rfl⟩
  have HKD := Lib.hid ekd
  have hkd : kd = -1 ∨ kd = 0 := by rw [← ekd]; exact rsg_le (rat_mul_le hkp h3)
  have H90 : Hid (rsg (gl + ((1 : Int) : Rat) - r0 * kk) = 1) := Lib.hid (rsg_lt h4)
  have HUP : Hid (gl * kk⁻¹ * kk = gl) := Lib.hid (by rw [Rat.mul_assoc, Rat.inv_mul_cancel _ (by grind), Rat.mul_one])
  have HFG : Hid (((flr gl : Int) : Rat) = gl) := Lib.hid (by rw [← egl, flr_int])
  have H74 : Hid (rsg (gl - gl) = 0) := Lib.hid (rsg_eq rfl)
  clear hr0 hz h1 h2 h3 h4 hkp efz efl ekc ekk egz egl ekd
  have B : On w (w.alloc (.cells #[.bool b0, .slice A0 n0 c0, .slice D0 m0 e0] 24)) := On.alloc (On.refl w) _
  have OB2 : w.heap.size ≤ w.heap.size ∧ Own (w.alloc (.cells #[.bool b0, .slice A0 n0 c0, .slice D0 m0 e0] 24)) (w.heap.size) 24 #[.bool b0, .slice A0 n0 c0, .slice D0 m0 e0] := ⟨by omega, (Own.at_ w (w.heap.size) (by simp) 24 #[.bool b0, .slice A0 n0 c0, .slice D0 m0 e0])⟩
  go_enter Try.func7, Try.ntmps7
  go_wp2_with fail
  refine (awake02 _ (hx.on B)).mono ?_
  rintro e w1 ⟨rfl, P1⟩
  replace OB2 := And.intro OB2.1 (OB2.2.on P1)
  replace B := B.trans P1
  have y2_0 : w1.cell? ⟨w.heap.size, 0, none⟩ = some (.bool b0) := OB2.2.cell 0
  have y2_1 : w1.cell? ⟨w.heap.size, 1, none⟩ = some (.slice A0 n0 c0) := OB2.2.cell 1
  have y2_2 : w1.cell? ⟨w.heap.size, 2, none⟩ = some (.slice D0 m0 e0) := OB2.2.cell 2
  have y2_f0 := OB2.2.frozen 0
  have y2_f1 := OB2.2.frozen 1
  have y2_f2 := OB2.2.frozen 2
  go_wp2_with fail
  clear y2_0 y2_f0 y2_1 y2_f1 y2_2 y2_f2
  have B1 := (On.refl w1).alloc (.cells #[.bool b0, .slice A0 n0 c0, .slice D0 m0 e0] 24)
  replace OB2 := And.intro OB2.1 (OB2.2.on B1)
  replace B := B.trans B1
  have hlens := rlens1 b0 A0 D0 n0 c0 m0 e0 x0 y0 (R0.on B) (S0.on B) (Own.new w1 24 #[.bool b0, .slice A0 n0 c0, .slice D0 m0 e0])
  refine (rlarge_no _ _ 1 1 _ hlens rfl (by decide) (by decide) (by decide) (by simp; omega)).mono ?_
  rintro e w2 ⟨rfl, P2⟩
  clear hlens B1 P1
  replace OB2 := And.intro OB2.1 (OB2.2.on P2)
  replace B := B.trans P2
  clear P2
  clear hx
  have y2_0 : w2.cell? ⟨w.heap.size, 0, none⟩ = some (.bool b0) := OB2.2.cell 0
  have y2_1 : w2.cell? ⟨w.heap.size, 1, none⟩ = some (.slice A0 n0 c0) := OB2.2.cell 1
  have y2_2 : w2.cell? ⟨w.heap.size, 2, none⟩ = some (.slice D0 m0 e0) := OB2.2.cell 2
  have y2_f0 := OB2.2.frozen 0
  have y2_f1 := OB2.2.frozen 1
  have y2_f2 := OB2.2.frozen 2
  go_wp2_with fail
  refine (floor_fld _ _ _ 12 (F0.on B) (by decide) (by decide)).mono ?_
  rintro e w3 ⟨v3, rfl, I5, P3⟩
  rw [HFZ.out, HFL.out] at I5
  obtain ⟨Q1, Qn, Qc, _, Q2, Qm, Qd, _, rfl, _⟩ := id I5
  clear y2_0 y2_f0 y2_1 y2_f1 y2_2 y2_f2
  replace OB2 := And.intro OB2.1 (OB2.2.on P3)
  replace B := B.trans P3
  have PQ := (On.refl w3).alloc (.cells #[.bool (decide (fl < 0)), .slice Q1 Qn Qc, .slice Q2 Qm Qd] 24)
  have OB5 : w.heap.size ≤ w3.heap.size ∧ _ := ⟨B.size, Own.new w3 24 #[.bool (decide (fl < 0)), .slice Q1 Qn Qc, .slice Q2 Qm Qd]⟩
  have hs3 : w.heap.size + 1 ≤ w3.heap.size := by have := OB2.2.lt; omega
  replace I5 := I5.on PQ
  replace OB2 := And.intro OB2.1 (OB2.2.on PQ)
  replace B := B.trans PQ
  clear PQ P3
  have hm5 : Qm = 0 := by
    rcases isR_int (z := fz) (by rw [HFL.out]; exact I5) with ⟨_, h⟩ | ⟨h, _⟩
    · exact h
    · exact absurd (HFZ.out.symm.trans HZ.out) h
  subst hm5
  go_wp2
  refine wp_region_facts (by kernel_rfl) w [Fact.eq (.agg #[.bool (decide (fl < 0)), .slice Q1 Qn Qc, .slice Q2 0 Qd]), Fact.eq (.bool true), Fact.eq (.bool false), Fact.eq (.bool false), Fact.eq (.pointer (some ⟨w3.heap.size, 2, none⟩)), Fact.eq (.slice Q2 0 Qd), Fact.eq (.int .i64 0), Fact.eq (.bool false), Fact.eq (.bool false), Fact.eq (.bool false), Fact.eq (.pointer (some ⟨w3.heap.size, 2, none⟩)), Fact.eq (.slice Q2 0 Qd), Fact.eq (.int .i64 0), Fact.eq (.bool false), Fact.eq (.bool false), Fact.eq (undef), Fact.eq (undef), Fact.eq (undef), Fact.eq (undef), Fact.eq (undef), Fact.eq (.bool false), Fact.eq (.bool false), Fact.eq (.bool false), Fact.eq (.agg #[.bool (decide (fl < 0)), .slice Q1 Qn Qc, .slice Q2 0 Qd]), Fact.eq (.agg #[.bool b0, .slice A0 n0 c0, .slice D0 m0 e0]), Fact.eq (.int .i64 kc), Fact.eq (.bool false), Fact.eq (.bool false), Fact.eq (.bool false), Fact.eq (.agg #[.bool (decide (fl < 0)), .slice Q1 Qn Qc, .slice Q2 0 Qd]), Fact.rat (((1 : Int) : Rat)) (2), Fact.rat (fl + ((1 : Int) : Rat)) (13 + 13 + 1), Fact.eq (.agg #[.bool b0, .slice A0 n0 c0, .slice D0 m0 e0]), Fact.eq (.int .i64 1), Fact.eq (.bool false), Fact.eq (.bool false)] [Fact.any, Fact.any] [⟨36, 2, 24, 36, #[.bool b0, .slice A0 n0 c0, .slice D0 m0 e0]⟩, ⟨36, 5, 24, 36, #[.bool (decide (fl < 0)), .slice Q1 Qn Qc, .slice Q2 0 Qd]⟩] [w.heap.size, w3.heap.size] [none, none, none, none, none, none, none, none, none, none, none, none, none, none, none, none, none, none, none, none, some 20, some 21, some 22, some 23, some 24, some 25, some 26, some 27, some 28, some 29, some 30, some 31, some 32, some 33, some 34, some 35, some 36, some 37, some 38, some 39, some 40, some 41, some 42, some 43, some 44, some 45, some 46, some 47, some 48, some 49, some 50, some 51, some 52, some 53, some 54, some 55, none, none, none, none, none, none, none, none, none, none, none, none, none, none, none, none, none, none, none, none, none, none, none, none, none, none, none, none, none, none, none, none, none, none, none, none, none] (by kernel_rfl) (by kernel_rfl) (by kernel_rfl) rfl B ?_ ?_ ?_ ?_ ?_
  · exact ⟨fun _ => ⟨by simp, rfl, OB2⟩, fun _ => ⟨by simp, rfl, OB5⟩, trivial⟩
  · exact .inl ⟨Nat.le_refl _, Nat.le_refl _, trivial⟩
  · exact ⟨⟨noWords_R _ _ _ _ _ _ _, (.inl (Nat.le_refl _)), (.inl (Nat.le_refl _))⟩, ⟨noWords_R _ _ _ _ _ _ _, (.inl (Nat.le_refl _)), (.inl (Nat.le_refl _))⟩, trivial⟩
  · refine ⟨?_, ?_, ?_, ?_, ?_, ?_, ?_, ?_, ?_, ?_, ?_, ?_, ?_, ?_, ?_, ?_, ?_, ?_, ?_, ?_, ?_, ?_, ?_, ?_, ?_, ?_, ?_, ?_, ?_, ?_, ?_, ?_, ?_, ?_, ?_, ?_, trivial⟩
    · exact .inr fun a w hp => ob_yes rfl (ob_loadR (hp.box (k := 1) rfl (Nat.le_refl _) (.inl (Nat.le_refl _)) (by kernel_rfl) rfl).1 (hp.box (k := 1) rfl (Nat.le_refl _) (.inl (Nat.le_refl _)) (by kernel_rfl) rfl).2 rfl)
    · refine .inr fun a w hp => ob_yes rfl ?_
      have h20 : a.tmps.getD 20 undef = .agg #[.bool (decide (fl < 0)), .slice Q1 Qn Qc, .slice Q2 0 Qd] := (hp.fact 0 20 (by kernel_rfl) rfl)
      unfold Does
      go_simp
      refine (valid_isR _ _ _ _ (I5.kept hp.kept) (by decide)).mono ?_
      rintro e w' ⟨rfl, P8⟩
      exact ⟨_, rfl, P8, rfl⟩
    · refine .inr fun a w hp => ob_yes rfl ?_
      have h21 : a.tmps.getD 21 undef = .bool true := (hp.fact 1 21 (by kernel_rfl) rfl)
      unfold Does
      go_simp
      exact ⟨_, rfl, On.refl _, by show Value.bool _ = Value.bool _; first | rfl | (simp; done)⟩
    · exact .inr fun a w hp => ob_yes rfl (ob_move (hp.fact 2 22 (by kernel_rfl) rfl))
    · exact .inr fun a w hp => ob_yes (wanted_yes (P := Try.prog) (j := 3) (d := 23) (b := false) rfl rfl (hp.fact 3 23 (by kernel_rfl) rfl)) (ob_fieldR (hp.box (k := 1) rfl (Nat.le_refl _) (.inl (Nat.le_refl _)) (by kernel_rfl) rfl).1 (by decide) rfl)
    · exact .inr fun a w hp => ob_yes (wanted_yes (P := Try.prog) (j := 3) (d := 23) (b := false) rfl rfl (hp.fact 3 23 (by kernel_rfl) rfl)) (ob_loadS (hp.fact 4 24 (by kernel_rfl) rfl) (hp.box (k := 1) rfl (Nat.le_refl _) (.inl (Nat.le_refl _)) (by kernel_rfl) rfl).2 rfl rfl)
    · refine .inr fun a w hp => ob_yes (wanted_yes (P := Try.prog) (j := 3) (d := 23) (b := false) rfl rfl (hp.fact 3 23 (by kernel_rfl) rfl)) ?_
      have h25 : a.tmps.getD 25 undef = .slice Q2 0 Qd := (hp.fact 5 25 (by kernel_rfl) rfl)
      unfold Does
      go_simp
      exact ⟨_, rfl, On.refl _, rfl⟩
    · refine .inr fun a w hp => ob_yes (wanted_yes (P := Try.prog) (j := 3) (d := 23) (b := false) rfl rfl (hp.fact 3 23 (by kernel_rfl) rfl)) ?_
      have h26 : a.tmps.getD 26 undef = .int .i64 0 := (hp.fact 6 26 (by kernel_rfl) rfl)
      unfold Does
      go_simp
      exact ⟨_, rfl, On.refl _, by show Value.bool _ = Value.bool _; first | rfl | (simp; done)⟩
    · refine .inr fun a w hp => ob_yes rfl ?_
      have h23 : a.tmps.getD 23 undef = .bool false := (hp.fact 3 23 (by kernel_rfl) rfl)
      have h27 : a.tmps.getD 27 undef = .bool false := (hp.fact 7 27 (by kernel_rfl) rfl)
      unfold Does
      go_simp
      exact ⟨_, rfl, On.refl _, rfl⟩
    · exact .inr fun a w hp => ob_yes rfl (ob_move (hp.fact 8 28 (by kernel_rfl) rfl))
    · exact .inr fun a w hp => ob_yes (wanted_yes (P := Try.prog) (j := 9) (d := 29) (b := false) rfl rfl (hp.fact 9 29 (by kernel_rfl) rfl)) (ob_fieldR (hp.box (k := 1) rfl (Nat.le_refl _) (.inl (Nat.le_refl _)) (by kernel_rfl) rfl).1 (by decide) rfl)
    · exact .inr fun a w hp => ob_yes (wanted_yes (P := Try.prog) (j := 9) (d := 29) (b := false) rfl rfl (hp.fact 9 29 (by kernel_rfl) rfl)) (ob_loadS (hp.fact 10 30 (by kernel_rfl) rfl) (hp.box (k := 1) rfl (Nat.le_refl _) (.inl (Nat.le_refl _)) (by kernel_rfl) rfl).2 rfl rfl)
    · refine .inr fun a w hp => ob_yes (wanted_yes (P := Try.prog) (j := 9) (d := 29) (b := false) rfl rfl (hp.fact 9 29 (by kernel_rfl) rfl)) ?_
      have h31 : a.tmps.getD 31 undef = .slice Q2 0 Qd := (hp.fact 11 31 (by kernel_rfl) rfl)
      unfold Does
      go_simp
      exact ⟨_, rfl, On.refl _, rfl⟩
    · refine .inr fun a w hp => ob_yes (wanted_yes (P := Try.prog) (j := 9) (d := 29) (b := false) rfl rfl (hp.fact 9 29 (by kernel_rfl) rfl)) ?_
      have h32 : a.tmps.getD 32 undef = .int .i64 0 := (hp.fact 12 32 (by kernel_rfl) rfl)
      unfold Does
      go_simp
      exact ⟨_, rfl, On.refl _, by show Value.bool _ = Value.bool _; first | rfl | (simp; done)⟩
    · exact .inr fun a w hp => ob_yes (wanted_yes (P := Try.prog) (j := 9) (d := 29) (b := false) rfl rfl (hp.fact 9 29 (by kernel_rfl) rfl)) (ob_move (hp.fact 13 33 (by kernel_rfl) rfl))
    · exact .inr fun a w hp => ob_no (wanted_no (P := Try.prog) (j := 14) (d := 34) (b := false) rfl rfl (hp.fact 14 34 (by kernel_rfl) rfl)) rfl
    · exact .inr fun a w hp => ob_no (wanted_no (P := Try.prog) (j := 14) (d := 34) (b := false) rfl rfl (hp.fact 14 34 (by kernel_rfl) rfl)) rfl
    · exact .inr fun a w hp => ob_no (wanted_no (P := Try.prog) (j := 14) (d := 34) (b := false) rfl rfl (hp.fact 14 34 (by kernel_rfl) rfl)) rfl
    · exact .inr fun a w hp => ob_no (wanted_no (P := Try.prog) (j := 14) (d := 34) (b := false) rfl rfl (hp.fact 14 34 (by kernel_rfl) rfl)) rfl
    · exact .inr fun a w hp => ob_no (wanted_no (P := Try.prog) (j := 14) (d := 34) (b := false) rfl rfl (hp.fact 14 34 (by kernel_rfl) rfl)) rfl
    · refine .inr fun a w hp => ob_yes (wanted_yes (P := Try.prog) (j := 9) (d := 29) (b := false) rfl rfl (hp.fact 9 29 (by kernel_rfl) rfl)) ?_
      have h34 : a.tmps.getD 34 undef = .bool false := (hp.fact 14 34 (by kernel_rfl) rfl)
      have h39 : a.tmps.getD 39 undef = undef := (hp.fact 19 39 (by kernel_rfl) rfl)
      unfold Does
      go_simp
      exact ⟨_, rfl, On.refl _, rfl⟩
    · refine .inr fun a w hp => ob_yes rfl ?_
      have h29 : a.tmps.getD 29 undef = .bool false := (hp.fact 9 29 (by kernel_rfl) rfl)
      have h40 : a.tmps.getD 40 undef = .bool false := (hp.fact 20 40 (by kernel_rfl) rfl)
      unfold Does
      go_simp
      exact ⟨_, rfl, On.refl _, rfl⟩
    · exact .inr fun a w hp => ob_yes rfl (ob_move (hp.fact 21 41 (by kernel_rfl) rfl))
    · exact .inr fun a w hp => ob_yes (wanted_yes (P := Try.prog) (j := 22) (d := 42) (b := false) rfl rfl (hp.fact 22 42 (by kernel_rfl) rfl)) (ob_loadR (hp.box (k := 1) rfl (Nat.le_refl _) (.inl (Nat.le_refl _)) (by kernel_rfl) rfl).1 (hp.box (k := 1) rfl (Nat.le_refl _) (.inl (Nat.le_refl _)) (by kernel_rfl) rfl).2 rfl)
    · exact .inr fun a w hp => ob_yes (wanted_yes (P := Try.prog) (j := 22) (d := 42) (b := false) rfl rfl (hp.fact 22 42 (by kernel_rfl) rfl)) (ob_loadR (hp.box (k := 0) rfl (Nat.le_refl _) (.inl (Nat.le_refl _)) (by kernel_rfl) rfl).1 (hp.box (k := 0) rfl (Nat.le_refl _) (.inl (Nat.le_refl _)) (by kernel_rfl) rfl).2 rfl)
    · refine .inr fun a w hp => ob_yes (wanted_yes (P := Try.prog) (j := 22) (d := 42) (b := false) rfl rfl (hp.fact 22 42 (by kernel_rfl) rfl)) ?_
      have h43 : a.tmps.getD 43 undef = .agg #[.bool (decide (fl < 0)), .slice Q1 Qn Qc, .slice Q2 0 Qd] := (hp.fact 23 43 (by kernel_rfl) rfl)
      have h44 : a.tmps.getD 44 undef = .agg #[.bool b0, .slice A0 n0 c0, .slice D0 m0 e0] := (hp.fact 24 44 (by kernel_rfl) rfl)
      unfold Does
      go_simp
      refine (cmpr_any _ _ _ _ _ 13 ((IsR.fld (I5.kept hp.kept)).wide (by decide)) ((F0.on hp.on).wide (by decide)) (by decide)).mono ?_
      rintro e w' ⟨rfl, P8⟩
      rw [HKC.out]
      exact ⟨_, rfl, P8, rfl⟩
    · refine .inr fun a w hp => ob_yes (wanted_yes (P := Try.prog) (j := 22) (d := 42) (b := false) rfl rfl (hp.fact 22 42 (by kernel_rfl) rfl)) ?_
      have h45 : a.tmps.getD 45 undef = .int .i64 kc := (hp.fact 25 45 (by kernel_rfl) rfl)
      unfold Does
      rcases hkc with rfl | rfl
      · go_simp
        exact ⟨_, rfl, On.refl _, by show Value.bool _ = Value.bool _; first | rfl | (simp; done)⟩
      · go_simp
        exact ⟨_, rfl, On.refl _, by show Value.bool _ = Value.bool _; first | rfl | (simp; done)⟩
    · refine .inr fun a w hp => ob_yes rfl ?_
      have h42 : a.tmps.getD 42 undef = .bool false := (hp.fact 22 42 (by kernel_rfl) rfl)
      have h46 : a.tmps.getD 46 undef = .bool false := (hp.fact 26 46 (by kernel_rfl) rfl)
      unfold Does
      go_simp
      exact ⟨_, rfl, On.refl _, rfl⟩
    · exact .inr fun a w hp => ob_yes rfl (ob_move (hp.fact 27 47 (by kernel_rfl) rfl))
    · exact .inr fun a w hp => ob_yes (wanted_yes (P := Try.prog) (j := 28) (d := 48) (b := false) rfl rfl (hp.fact 28 48 (by kernel_rfl) rfl)) (ob_loadR (hp.box (k := 1) rfl (Nat.le_refl _) (.inl (Nat.le_refl _)) (by kernel_rfl) rfl).1 (hp.box (k := 1) rfl (Nat.le_refl _) (.inl (Nat.le_refl _)) (by kernel_rfl) rfl).2 rfl)
    · refine .inr fun a w hp => ob_yes (wanted_yes (P := Try.prog) (j := 28) (d := 48) (b := false) rfl rfl (hp.fact 28 48 (by kernel_rfl) rfl)) ?_
      unfold Does
      go_simp
      refine (ofr_any _ 1 (by omega) (by omega)).mono ?_
      rintro e w' ⟨u, rfl, I8, P8⟩
      exact ⟨_, rfl, P8, I8⟩
    · refine .inr fun a w hp => ob_yes (wanted_yes (P := Try.prog) (j := 28) (d := 48) (b := false) rfl rfl (hp.fact 28 48 (by kernel_rfl) rfl)) ?_
      have h49 : a.tmps.getD 49 undef = .agg #[.bool (decide (fl < 0)), .slice Q1 Qn Qc, .slice Q2 0 Qd] := (hp.fact 29 49 (by kernel_rfl) rfl)
      have h50 : IsR w (a.tmps.getD 50 undef) (((1 : Int) : Rat)) (2) := (hp.fact 30 50 (by kernel_rfl) rfl)
      obtain ⟨v50, e50⟩ : ∃ v, a.tmps.getD 50 undef = v := ⟨_, rfl⟩
      rw [e50] at h50
      unfold Does
      go_simp
      refine (addr_any _ _ _ _ _ 13 ((IsR.fld (I5.kept hp.kept)).wide (by decide)) ((IsR.fld h50).wide (by decide)) (by decide) (by decide)).mono ?_
      rintro e w' ⟨u, rfl, I8, P8⟩
      exact ⟨_, rfl, P8, I8⟩
    · exact .inr fun a w hp => ob_yes (wanted_yes (P := Try.prog) (j := 28) (d := 48) (b := false) rfl rfl (hp.fact 28 48 (by kernel_rfl) rfl)) (ob_loadR (hp.box (k := 0) rfl (Nat.le_refl _) (.inl (Nat.le_refl _)) (by kernel_rfl) rfl).1 (hp.box (k := 0) rfl (Nat.le_refl _) (.inl (Nat.le_refl _)) (by kernel_rfl) rfl).2 rfl)
    · refine .inr fun a w hp => ob_yes (wanted_yes (P := Try.prog) (j := 28) (d := 48) (b := false) rfl rfl (hp.fact 28 48 (by kernel_rfl) rfl)) ?_
      have h51 : IsR w (a.tmps.getD 51 undef) (fl + ((1 : Int) : Rat)) (13 + 13 + 1) := (hp.fact 31 51 (by kernel_rfl) rfl)
      obtain ⟨v51, e51⟩ : ∃ v, a.tmps.getD 51 undef = v := ⟨_, rfl⟩
      rw [e51] at h51
      have h52 : a.tmps.getD 52 undef = .agg #[.bool b0, .slice A0 n0 c0, .slice D0 m0 e0] := (hp.fact 32 52 (by kernel_rfl) rfl)
      unfold Does
      go_simp
      refine (cmpr_any _ _ _ _ _ 27 ((IsR.fld h51).wide (by decide)) ((F0.on hp.on).wide (by decide)) (by decide)).mono ?_
      rintro e w' ⟨rfl, P8⟩
      rw [H53.out]
      exact ⟨_, rfl, P8, rfl⟩
    · refine .inr fun a w hp => ob_yes (wanted_yes (P := Try.prog) (j := 28) (d := 48) (b := false) rfl rfl (hp.fact 28 48 (by kernel_rfl) rfl)) ?_
      have h53 : a.tmps.getD 53 undef = .int .i64 1 := (hp.fact 33 53 (by kernel_rfl) rfl)
      unfold Does
      go_simp
      exact ⟨_, rfl, On.refl _, by show Value.bool _ = Value.bool _; first | rfl | (simp; done)⟩
    · refine .inr fun a w hp => ob_yes rfl ?_
      have h48 : a.tmps.getD 48 undef = .bool false := (hp.fact 28 48 (by kernel_rfl) rfl)
      have h54 : a.tmps.getD 54 undef = .bool false := (hp.fact 34 54 (by kernel_rfl) rfl)
      unfold Does
      go_simp
      exact ⟨_, rfl, On.refl _, rfl⟩
  · intro f wf hon hk hf hb hap
    obtain ⟨q0, q1, qz⟩ := hb
    clear qz
    have O2 : Own wf (w.heap.size) 24 #[.bool b0, .slice A0 n0 c0, .slice D0 m0 e0] := q0
    have c2_0 : wf.cell? ⟨w.heap.size, 0, none⟩ = some (.bool b0) := O2.cell 0
    have z2_0 := O2.frozen 0
    have c2_1 : wf.cell? ⟨w.heap.size, 1, none⟩ = some (.slice A0 n0 c0) := O2.cell 1
    have z2_1 := O2.frozen 1
    have c2_2 : wf.cell? ⟨w.heap.size, 2, none⟩ = some (.slice D0 m0 e0) := O2.cell 2
    have z2_2 := O2.frozen 2
    clear q0
    have O5 : Own wf (w3.heap.size) 24 #[.bool (decide (fl < 0)), .slice Q1 Qn Qc, .slice Q2 0 Qd] := q1
    have c5_0 : wf.cell? ⟨w3.heap.size, 0, none⟩ = some (.bool (decide (fl < 0))) := O5.cell 0
    have z5_0 := O5.frozen 0
    have c5_1 : wf.cell? ⟨w3.heap.size, 1, none⟩ = some (.slice Q1 Qn Qc) := O5.cell 1
    have z5_1 := O5.frozen 1
    have c5_2 : wf.cell? ⟨w3.heap.size, 2, none⟩ = some (.slice Q2 0 Qd) := O5.cell 2
    have z5_2 := O5.frozen 2
    clear q1
    have e55 : f 55 = .bool false := hf 35 55 rfl
    clear hf hap
    simp only [fillL, e55]
    clear e55
    have OB2 : w.heap.size ≤ w.heap.size ∧ Own wf (w.heap.size) 24 #[.bool b0, .slice A0 n0 c0, .slice D0 m0 e0] := ⟨by omega, O2⟩
    clear c2_0 z2_0 c2_1 z2_1 c2_2 z2_2 O2
    have OB5 : w.heap.size ≤ w3.heap.size ∧ _ := ⟨OB5.1, O5⟩
    clear c5_0 z5_0 c5_1 z5_1 c5_2 z5_2 O5
    clear hk B
    have B := hon
    clear hon
    have y2_0 : wf.cell? ⟨w.heap.size, 0, none⟩ = some (.bool b0) := OB2.2.cell 0
    have y2_1 : wf.cell? ⟨w.heap.size, 1, none⟩ = some (.slice A0 n0 c0) := OB2.2.cell 1
    have y2_2 : wf.cell? ⟨w.heap.size, 2, none⟩ = some (.slice D0 m0 e0) := OB2.2.cell 2
    have y2_f0 := OB2.2.frozen 0
    have y2_f1 := OB2.2.frozen 1
    have y2_f2 := OB2.2.frozen 2
    go_wp2_with fail
    refine (round_ok _ _ _ 12 (1 + dd) (F0.on B) (by decide) (by decide) (by omega) (by omega)).mono ?_
    rintro e w5 ⟨v5, rfl, I7, P5⟩
    rw [HKK.out, HGZ.out, HGL.out] at I7
    obtain ⟨T1, Tn, Tc, _, T2, Tm, Td, _, rfl, _⟩ := id I7
    clear y2_0 y2_f0 y2_1 y2_f1 y2_2 y2_f2
    replace OB2 := And.intro OB2.1 (OB2.2.on P5)
    replace B := B.trans P5
    have hs5 : w.heap.size + 1 ≤ w5.heap.size := by have := OB2.2.lt; omega
    have PQ := (On.refl w5).alloc (.cells #[.bool (decide (gl * kk⁻¹ < 0)), .slice T1 Tn Tc, .slice T2 Tm Td] 24)
    have OB7 : w.heap.size ≤ w5.heap.size ∧ _ := ⟨B.size, Own.new w5 24 #[.bool (decide (gl * kk⁻¹ < 0)), .slice T1 Tn Tc, .slice T2 Tm Td]⟩
    replace I7 := I7.on PQ
    clear OB5
    replace OB2 := And.intro OB2.1 (OB2.2.on PQ)
    replace B := B.trans PQ
    clear PQ P5
    go_wp2
    refine wp_region_facts (by kernel_rfl) w [Fact.eq (.agg #[.bool (decide (gl * kk⁻¹ < 0)), .slice T1 Tn Tc, .slice T2 Tm Td]), Fact.eq (.int .i64 (1 + dd)), Fact.rat (kk) (2), Fact.rat (gl) (50 + 50), Fact.any, Fact.any] [Fact.any, Fact.any, Fact.rat (gl) (50 + 50)] [⟨6, 2, 24, 6, #[.bool b0, .slice A0 n0 c0, .slice D0 m0 e0]⟩, ⟨6, 7, 24, 6, #[.bool (decide (gl * kk⁻¹ < 0)), .slice T1 Tn Tc, .slice T2 Tm Td]⟩, ⟨4, 9, 24, 5, #[.bool false, .slice none 0 0, .slice none 0 0]⟩] [w.heap.size, w5.heap.size] [none, none, none, none, none, none, none, none, none, some 9, none, none, none, none, none, none, none, none, none, none, none, none, none, none, none, none, none, none, none, none, none, none, none, none, none, none, none, none, none, none, none, none, none, none, none, none, none, none, none, none, none, none, none, none, none, none, none, none, none, none, none, none, none, none, none, none, none, some 67, some 68, some 69, some 70, none, none, none, none, none, none, none, none, none, none, none, none, none, none, none, none, none, none, none, none, none, none] (by kernel_rfl) (by kernel_rfl) (by kernel_rfl) rfl B ?_ ?_ ?_ ?_ ?_
    · exact ⟨fun _ => ⟨by simp, rfl, OB2⟩, fun _ => ⟨by simp, rfl, OB7⟩, fun h => absurd h (by decide), trivial⟩
    · exact .inr (by simp <;> omega)
    · exact ⟨⟨noWords_R _ _ _ _ _ _ _, (.inl (Nat.le_refl _)), (.inl (Nat.le_refl _))⟩, ⟨noWords_R _ _ _ _ _ _ _, (.inl (Nat.le_refl _)), (.inl (Nat.le_refl _))⟩, ⟨noWords_R _ _ _ _ _ _ _, (.inr ⟨fun _ _ => trivial, _, rfl, fun a w => ⟨rfl, do_value run_allocR⟩⟩), (.inr (store_ob (j := 3) (noWords_R _ _ _ _ _ _ _) rfl rfl rfl (by kernel_rfl) rfl rfl rfl))⟩, trivial⟩
    · refine ⟨?_, ?_, ?_, ?_, ?_, ?_, trivial⟩
      · exact .inr fun a w hp => ob_yes rfl (ob_loadR (hp.box (k := 1) rfl (Nat.le_refl _) (.inl (Nat.le_refl _)) (by kernel_rfl) rfl).1 (hp.box (k := 1) rfl (Nat.le_refl _) (.inl (Nat.le_refl _)) (by kernel_rfl) rfl).2 rfl)
      · exact .inr fun a w hp => ob_yes rfl (ob_move (hp.same 6 (by kernel_rfl)))
      · refine .inr fun a w hp => ob_yes rfl ?_
        have h68 : a.tmps.getD 68 undef = .int .i64 (1 + dd) := (hp.fact 1 68 (by kernel_rfl) rfl)
        unfold Does
        go_simp
        refine (ofr_any _ (1 + dd) (by omega) (by omega)).mono ?_
        rintro e w' ⟨u, rfl, I8, P8⟩
        rw [HKK.out] at I8
        exact ⟨_, rfl, P8, I8⟩
      · refine .inr fun a w hp => ob_yes rfl ?_
        have h67 : a.tmps.getD 67 undef = .agg #[.bool (decide (gl * kk⁻¹ < 0)), .slice T1 Tn Tc, .slice T2 Tm Td] := (hp.fact 0 67 (by kernel_rfl) rfl)
        have h69 : IsR w (a.tmps.getD 69 undef) (kk) (2) := (hp.fact 2 69 (by kernel_rfl) rfl)
        obtain ⟨v69, e69⟩ : ∃ v, a.tmps.getD 69 undef = v := ⟨_, rfl⟩
        rw [e69] at h69
        unfold Does
        go_simp
        refine (mulr_any _ _ _ _ _ 50 ((IsR.fld (I7.kept hp.kept)).wide (by decide)) ((IsR.fld h69).wide (by decide)) (by decide) (by decide)).mono ?_
        rintro e w' ⟨u, rfl, I8, P8⟩
        rw [HUP.out] at I8
        exact ⟨_, rfl, P8, I8⟩
      · exact .inl rfl
      · exact .inl rfl
    · intro f wg hon hk hf hb hap
      obtain ⟨q0, q1, q2, qz⟩ := hb
      clear qz
      have O2 : Own wg (w.heap.size) 24 #[.bool b0, .slice A0 n0 c0, .slice D0 m0 e0] := q0
      have c2_0 : wg.cell? ⟨w.heap.size, 0, none⟩ = some (.bool b0) := O2.cell 0
      have z2_0 := O2.frozen 0
      have c2_1 : wg.cell? ⟨w.heap.size, 1, none⟩ = some (.slice A0 n0 c0) := O2.cell 1
      have z2_1 := O2.frozen 1
      have c2_2 : wg.cell? ⟨w.heap.size, 2, none⟩ = some (.slice D0 m0 e0) := O2.cell 2
      have z2_2 := O2.frozen 2
      clear q0
      have O7 : Own wg (w5.heap.size) 24 #[.bool (decide (gl * kk⁻¹ < 0)), .slice T1 Tn Tc, .slice T2 Tm Td] := q1
      have c7_0 : wg.cell? ⟨w5.heap.size, 0, none⟩ = some (.bool (decide (gl * kk⁻¹ < 0))) := O7.cell 0
      have z7_0 := O7.frozen 0
      have c7_1 : wg.cell? ⟨w5.heap.size, 1, none⟩ = some (.slice T1 Tn Tc) := O7.cell 1
      have z7_1 := O7.frozen 1
      have c7_2 : wg.cell? ⟨w5.heap.size, 2, none⟩ = some (.slice T2 Tm Td) := O7.cell 2
      have z7_2 := O7.frozen 2
      clear q1
      obtain ⟨g9, e9, G9, q2⟩ := q2
      change f 9 = _ at e9
      obtain ⟨cur9, O9, I9⟩ : ∃ cur, Own wg (g9) 24 cur ∧ IsR wg (.agg cur) (gl) (50 + 50) := q2
      obtain ⟨P9, Pn9, Pc9, _, R9, Rn9, Rc9, _, hz9, _⟩ := id I9
      injection hz9 with hz9
      subst hz9
      have c9_0 : wg.cell? ⟨g9, 0, none⟩ = some (.bool (decide (gl < 0))) := O9.cell 0
      have z9_0 := O9.frozen 0
      have c9_1 : wg.cell? ⟨g9, 1, none⟩ = some (.slice P9 Pn9 Pc9) := O9.cell 1
      have z9_1 := O9.frozen 1
      have c9_2 : wg.cell? ⟨g9, 2, none⟩ = some (.slice R9 Rn9 Rc9) := O9.cell 2
      have z9_2 := O9.frozen 2
      clear hf hap
      simp only [fillL]; simp only [e9]
      clear e9
      have OB2 : w.heap.size ≤ w.heap.size ∧ Own wg (w.heap.size) 24 #[.bool b0, .slice A0 n0 c0, .slice D0 m0 e0] := ⟨by omega, O2⟩
      clear c2_0 z2_0 c2_1 z2_1 c2_2 z2_2 O2
      have OB7 : w.heap.size ≤ w5.heap.size ∧ _ := ⟨OB7.1, O7⟩
      clear c7_0 z7_0 c7_1 z7_1 c7_2 z7_2 O7
      replace I7 := I7.kept hk
      have OB9 : w.heap.size ≤ g9 ∧ _ := ⟨G9, O9⟩
      clear c9_0 z9_0 c9_1 z9_1 c9_2 z9_2 O9
      clear hk B
      have B := hon
      clear hon
      go_wp2
      refine wp_region_facts (by kernel_rfl) w [Fact.eq (.agg #[.bool (decide (gl < 0)), .slice P9 Pn9 Pc9, .slice R9 Rn9 Rc9]), Fact.rat (gl) (101), Fact.eq (.agg #[.bool (decide (gl < 0)), .slice P9 Pn9 Pc9, .slice R9 Rn9 Rc9]), Fact.eq (.int .i64 0), Fact.eq (.bool true), Fact.eq (.bool true), Fact.eq (.agg #[.bool (decide (gl * kk⁻¹ < 0)), .slice T1 Tn Tc, .slice T2 Tm Td]), Fact.eq (.agg #[.bool b0, .slice A0 n0 c0, .slice D0 m0 e0]), Fact.eq (.int .i64 kd), Fact.eq (.bool true), Fact.eq (.bool true), Fact.eq (.bool true), Fact.eq (.agg #[.bool (decide (gl < 0)), .slice P9 Pn9 Pc9, .slice R9 Rn9 Rc9]), Fact.rat (((1 : Int) : Rat)) (2), Fact.rat (gl + ((1 : Int) : Rat)) (100 + 100 + 1), Fact.eq (.agg #[.bool b0, .slice A0 n0 c0, .slice D0 m0 e0]), Fact.eq (.int .i64 (1 + dd)), Fact.rat (kk) (2), Fact.rat (r0 * kk) (12 + 12), Fact.eq (.int .i64 1), Fact.eq (.bool true), Fact.eq (.bool true), Fact.eq (.bool true)] [Fact.any, Fact.any, Fact.any] [⟨23, 2, 24, 23, #[.bool b0, .slice A0 n0 c0, .slice D0 m0 e0]⟩, ⟨23, 7, 24, 23, #[.bool (decide (gl * kk⁻¹ < 0)), .slice T1 Tn Tc, .slice T2 Tm Td]⟩, ⟨23, 9, 24, 23, #[.bool (decide (gl < 0)), .slice P9 Pn9 Pc9, .slice R9 Rn9 Rc9]⟩] [w.heap.size, w5.heap.size, g9] [none, none, none, none, some 4, none, none, none, none, none, none, none, none, none, none, none, none, none, none, none, none, none, none, none, none, none, none, none, none, none, none, none, none, none, none, none, none, none, none, none, none, none, none, none, none, none, none, none, none, none, none, none, none, none, none, none, none, none, none, none, none, none, none, none, none, none, none, none, none, none, none, some 71, some 72, some 73, some 74, some 75, some 76, some 77, some 78, some 79, some 80, some 81, some 82, some 83, some 84, some 85, some 86, some 87, some 88, some 89, some 90, some 91, some 92] (by kernel_rfl) (by kernel_rfl) (by kernel_rfl) rfl B ?_ ?_ ?_ ?_ ?_
      · exact ⟨fun _ => ⟨by simp, rfl, OB2⟩, fun _ => ⟨by simp, rfl, OB7⟩, fun _ => ⟨by simp, rfl, OB9⟩, trivial⟩
      · exact .inl ⟨Nat.le_refl _, Nat.le_refl _, Nat.le_refl _, trivial⟩
      · exact ⟨⟨noWords_R _ _ _ _ _ _ _, (.inl (Nat.le_refl _)), (.inl (Nat.le_refl _))⟩, ⟨noWords_R _ _ _ _ _ _ _, (.inl (Nat.le_refl _)), (.inl (Nat.le_refl _))⟩, ⟨noWords_R _ _ _ _ _ _ _, (.inl (Nat.le_refl _)), (.inl (Nat.le_refl _))⟩, trivial⟩
      · refine ⟨?_, ?_, ?_, ?_, ?_, ?_, ?_, ?_, ?_, ?_, ?_, ?_, ?_, ?_, ?_, ?_, ?_, ?_, ?_, ?_, ?_, ?_, ?_, trivial⟩
        · exact .inr fun a w hp => ob_yes rfl (ob_loadR (hp.box (k := 2) rfl (Nat.le_refl _) (.inl (Nat.le_refl _)) (by kernel_rfl) rfl).1 (hp.box (k := 2) rfl (Nat.le_refl _) (.inl (Nat.le_refl _)) (by kernel_rfl) rfl).2 rfl)
        · refine .inr fun a w hp => ob_yes rfl ?_
          have h71 : a.tmps.getD 71 undef = .agg #[.bool (decide (gl < 0)), .slice P9 Pn9 Pc9, .slice R9 Rn9 Rc9] := (hp.fact 0 71 (by kernel_rfl) rfl)
          unfold Does
          go_simp
          refine (floor_fld _ _ _ 100 ((IsR.fld (I9.kept hp.kept)).wide (by decide)) (by decide) (by decide)).mono ?_
          rintro e w' ⟨u, rfl, I8, P8⟩
          rw [HFG.out] at I8
          exact ⟨_, rfl, P8, I8⟩
        · exact .inr fun a w hp => ob_yes rfl (ob_loadR (hp.box (k := 2) rfl (Nat.le_refl _) (.inl (Nat.le_refl _)) (by kernel_rfl) rfl).1 (hp.box (k := 2) rfl (Nat.le_refl _) (.inl (Nat.le_refl _)) (by kernel_rfl) rfl).2 rfl)
        · refine .inr fun a w hp => ob_yes rfl ?_
          have h72 : IsR w (a.tmps.getD 72 undef) (gl) (101) := (hp.fact 1 72 (by kernel_rfl) rfl)
          obtain ⟨v72, e72⟩ : ∃ v, a.tmps.getD 72 undef = v := ⟨_, rfl⟩
          rw [e72] at h72
          have h73 : a.tmps.getD 73 undef = .agg #[.bool (decide (gl < 0)), .slice P9 Pn9 Pc9, .slice R9 Rn9 Rc9] := (hp.fact 2 73 (by kernel_rfl) rfl)
          unfold Does
          go_simp
          refine (cmpr_any _ _ _ _ _ 101 ((IsR.fld h72).wide (by decide)) ((IsR.fld (I9.kept hp.kept)).wide (by decide)) (by decide)).mono ?_
          rintro e w' ⟨rfl, P8⟩
          rw [H74.out]
          exact ⟨_, rfl, P8, rfl⟩
        · refine .inr fun a w hp => ob_yes rfl ?_
          have h74 : a.tmps.getD 74 undef = .int .i64 0 := (hp.fact 3 74 (by kernel_rfl) rfl)
          unfold Does
          go_simp
          exact ⟨_, rfl, On.refl _, by show Value.bool _ = Value.bool _; first | rfl | (simp; done)⟩
        · exact .inr fun a w hp => ob_yes rfl (ob_move (hp.fact 4 75 (by kernel_rfl) rfl))
        · exact .inr fun a w hp => ob_yes (wanted_yes (P := Try.prog) (j := 5) (d := 76) (b := true) rfl rfl (hp.fact 5 76 (by kernel_rfl) rfl)) (ob_loadR (hp.box (k := 1) rfl (Nat.le_refl _) (.inl (Nat.le_refl _)) (by kernel_rfl) rfl).1 (hp.box (k := 1) rfl (Nat.le_refl _) (.inl (Nat.le_refl _)) (by kernel_rfl) rfl).2 rfl)
        · exact .inr fun a w hp => ob_yes (wanted_yes (P := Try.prog) (j := 5) (d := 76) (b := true) rfl rfl (hp.fact 5 76 (by kernel_rfl) rfl)) (ob_loadR (hp.box (k := 0) rfl (Nat.le_refl _) (.inl (Nat.le_refl _)) (by kernel_rfl) rfl).1 (hp.box (k := 0) rfl (Nat.le_refl _) (.inl (Nat.le_refl _)) (by kernel_rfl) rfl).2 rfl)
        · refine .inr fun a w hp => ob_yes (wanted_yes (P := Try.prog) (j := 5) (d := 76) (b := true) rfl rfl (hp.fact 5 76 (by kernel_rfl) rfl)) ?_
          have h77 : a.tmps.getD 77 undef = .agg #[.bool (decide (gl * kk⁻¹ < 0)), .slice T1 Tn Tc, .slice T2 Tm Td] := (hp.fact 6 77 (by kernel_rfl) rfl)
          have h78 : a.tmps.getD 78 undef = .agg #[.bool b0, .slice A0 n0 c0, .slice D0 m0 e0] := (hp.fact 7 78 (by kernel_rfl) rfl)
          unfold Does
          go_simp
          refine (cmpr_any _ _ _ _ _ 50 ((IsR.fld (I7.kept hp.kept)).wide (by decide)) ((F0.on hp.on).wide (by decide)) (by decide)).mono ?_
          rintro e w' ⟨rfl, P8⟩
          rw [HKD.out]
          exact ⟨_, rfl, P8, rfl⟩
        · refine .inr fun a w hp => ob_yes (wanted_yes (P := Try.prog) (j := 5) (d := 76) (b := true) rfl rfl (hp.fact 5 76 (by kernel_rfl) rfl)) ?_
          have h79 : a.tmps.getD 79 undef = .int .i64 kd := (hp.fact 8 79 (by kernel_rfl) rfl)
          unfold Does
          rcases hkd with rfl | rfl
          · go_simp
            exact ⟨_, rfl, On.refl _, by show Value.bool _ = Value.bool _; first | rfl | (simp; done)⟩
          · go_simp
            exact ⟨_, rfl, On.refl _, by show Value.bool _ = Value.bool _; first | rfl | (simp; done)⟩
        · refine .inr fun a w hp => ob_yes rfl ?_
          have h76 : a.tmps.getD 76 undef = .bool true := (hp.fact 5 76 (by kernel_rfl) rfl)
          have h80 : a.tmps.getD 80 undef = .bool true := (hp.fact 9 80 (by kernel_rfl) rfl)
          unfold Does
          go_simp
          exact ⟨_, rfl, On.refl _, rfl⟩
        · exact .inr fun a w hp => ob_yes rfl (ob_move (hp.fact 10 81 (by kernel_rfl) rfl))
        · exact .inr fun a w hp => ob_yes (wanted_yes (P := Try.prog) (j := 11) (d := 82) (b := true) rfl rfl (hp.fact 11 82 (by kernel_rfl) rfl)) (ob_loadR (hp.box (k := 2) rfl (Nat.le_refl _) (.inl (Nat.le_refl _)) (by kernel_rfl) rfl).1 (hp.box (k := 2) rfl (Nat.le_refl _) (.inl (Nat.le_refl _)) (by kernel_rfl) rfl).2 rfl)
        · refine .inr fun a w hp => ob_yes (wanted_yes (P := Try.prog) (j := 11) (d := 82) (b := true) rfl rfl (hp.fact 11 82 (by kernel_rfl) rfl)) ?_
          unfold Does
          go_simp
          refine (ofr_any _ 1 (by omega) (by omega)).mono ?_
          rintro e w' ⟨u, rfl, I8, P8⟩
          exact ⟨_, rfl, P8, I8⟩
        · refine .inr fun a w hp => ob_yes (wanted_yes (P := Try.prog) (j := 11) (d := 82) (b := true) rfl rfl (hp.fact 11 82 (by kernel_rfl) rfl)) ?_
          have h83 : a.tmps.getD 83 undef = .agg #[.bool (decide (gl < 0)), .slice P9 Pn9 Pc9, .slice R9 Rn9 Rc9] := (hp.fact 12 83 (by kernel_rfl) rfl)
          have h84 : IsR w (a.tmps.getD 84 undef) (((1 : Int) : Rat)) (2) := (hp.fact 13 84 (by kernel_rfl) rfl)
          obtain ⟨v84, e84⟩ : ∃ v, a.tmps.getD 84 undef = v := ⟨_, rfl⟩
          rw [e84] at h84
          unfold Does
          go_simp
          refine (addr_any _ _ _ _ _ 100 ((IsR.fld (I9.kept hp.kept)).wide (by decide)) ((IsR.fld h84).wide (by decide)) (by decide) (by decide)).mono ?_
          rintro e w' ⟨u, rfl, I8, P8⟩
          exact ⟨_, rfl, P8, I8⟩
        · exact .inr fun a w hp => ob_yes (wanted_yes (P := Try.prog) (j := 11) (d := 82) (b := true) rfl rfl (hp.fact 11 82 (by kernel_rfl) rfl)) (ob_loadR (hp.box (k := 0) rfl (Nat.le_refl _) (.inl (Nat.le_refl _)) (by kernel_rfl) rfl).1 (hp.box (k := 0) rfl (Nat.le_refl _) (.inl (Nat.le_refl _)) (by kernel_rfl) rfl).2 rfl)
        · exact .inr fun a w hp => ob_yes (wanted_yes (P := Try.prog) (j := 11) (d := 82) (b := true) rfl rfl (hp.fact 11 82 (by kernel_rfl) rfl)) (ob_move (hp.same 6 (by kernel_rfl)))
        · refine .inr fun a w hp => ob_yes (wanted_yes (P := Try.prog) (j := 11) (d := 82) (b := true) rfl rfl (hp.fact 11 82 (by kernel_rfl) rfl)) ?_
          have h87 : a.tmps.getD 87 undef = .int .i64 (1 + dd) := (hp.fact 16 87 (by kernel_rfl) rfl)
          unfold Does
          go_simp
          refine (ofr_any _ (1 + dd) (by omega) (by omega)).mono ?_
          rintro e w' ⟨u, rfl, I8, P8⟩
          rw [HKK.out] at I8
          exact ⟨_, rfl, P8, I8⟩
        · refine .inr fun a w hp => ob_yes (wanted_yes (P := Try.prog) (j := 11) (d := 82) (b := true) rfl rfl (hp.fact 11 82 (by kernel_rfl) rfl)) ?_
          have h86 : a.tmps.getD 86 undef = .agg #[.bool b0, .slice A0 n0 c0, .slice D0 m0 e0] := (hp.fact 15 86 (by kernel_rfl) rfl)
          have h88 : IsR w (a.tmps.getD 88 undef) (kk) (2) := (hp.fact 17 88 (by kernel_rfl) rfl)
          obtain ⟨v88, e88⟩ : ∃ v, a.tmps.getD 88 undef = v := ⟨_, rfl⟩
          rw [e88] at h88
          unfold Does
          go_simp
          refine (mulr_any _ _ _ _ _ 12 ((F0.on hp.on).wide (by decide)) ((IsR.fld h88).wide (by decide)) (by decide) (by decide)).mono ?_
          rintro e w' ⟨u, rfl, I8, P8⟩
          exact ⟨_, rfl, P8, I8⟩
        · refine .inr fun a w hp => ob_yes (wanted_yes (P := Try.prog) (j := 11) (d := 82) (b := true) rfl rfl (hp.fact 11 82 (by kernel_rfl) rfl)) ?_
          have h85 : IsR w (a.tmps.getD 85 undef) (gl + ((1 : Int) : Rat)) (100 + 100 + 1) := (hp.fact 14 85 (by kernel_rfl) rfl)
          obtain ⟨v85, e85⟩ : ∃ v, a.tmps.getD 85 undef = v := ⟨_, rfl⟩
          rw [e85] at h85
          have h89 : IsR w (a.tmps.getD 89 undef) (r0 * kk) (12 + 12) := (hp.fact 18 89 (by kernel_rfl) rfl)
          obtain ⟨v89, e89⟩ : ∃ v, a.tmps.getD 89 undef = v := ⟨_, rfl⟩
          rw [e89] at h89
          unfold Does
          go_simp
          refine (cmpr_any _ _ _ _ _ 201 ((IsR.fld h85).wide (by decide)) ((IsR.fld h89).wide (by decide)) (by decide)).mono ?_
          rintro e w' ⟨rfl, P8⟩
          rw [H90.out]
          exact ⟨_, rfl, P8, rfl⟩
        · refine .inr fun a w hp => ob_yes (wanted_yes (P := Try.prog) (j := 11) (d := 82) (b := true) rfl rfl (hp.fact 11 82 (by kernel_rfl) rfl)) ?_
          have h90 : a.tmps.getD 90 undef = .int .i64 1 := (hp.fact 19 90 (by kernel_rfl) rfl)
          unfold Does
          go_simp
          exact ⟨_, rfl, On.refl _, by show Value.bool _ = Value.bool _; first | rfl | (simp; done)⟩
        · refine .inr fun a w hp => ob_yes rfl ?_
          have h82 : a.tmps.getD 82 undef = .bool true := (hp.fact 11 82 (by kernel_rfl) rfl)
          have h91 : a.tmps.getD 91 undef = .bool true := (hp.fact 20 91 (by kernel_rfl) rfl)
          unfold Does
          go_simp
          exact ⟨_, rfl, On.refl _, rfl⟩
        · exact .inr fun a w hp => ob_yes rfl (ob_assign (hp.fact 21 92 (by kernel_rfl) rfl))
      · intro f wh hon hk hf hb hap
        obtain ⟨q0, q1, q2, qz⟩ := hb
        clear qz
        have O2 : Own wh (w.heap.size) 24 #[.bool b0, .slice A0 n0 c0, .slice D0 m0 e0] := q0
        have c2_0 : wh.cell? ⟨w.heap.size, 0, none⟩ = some (.bool b0) := O2.cell 0
        have z2_0 := O2.frozen 0
        have c2_1 : wh.cell? ⟨w.heap.size, 1, none⟩ = some (.slice A0 n0 c0) := O2.cell 1
        have z2_1 := O2.frozen 1
        have c2_2 : wh.cell? ⟨w.heap.size, 2, none⟩ = some (.slice D0 m0 e0) := O2.cell 2
        have z2_2 := O2.frozen 2
        clear q0
        have O7 : Own wh (w5.heap.size) 24 #[.bool (decide (gl * kk⁻¹ < 0)), .slice T1 Tn Tc, .slice T2 Tm Td] := q1
        have c7_0 : wh.cell? ⟨w5.heap.size, 0, none⟩ = some (.bool (decide (gl * kk⁻¹ < 0))) := O7.cell 0
        have z7_0 := O7.frozen 0
        have c7_1 : wh.cell? ⟨w5.heap.size, 1, none⟩ = some (.slice T1 Tn Tc) := O7.cell 1
        have z7_1 := O7.frozen 1
        have c7_2 : wh.cell? ⟨w5.heap.size, 2, none⟩ = some (.slice T2 Tm Td) := O7.cell 2
        have z7_2 := O7.frozen 2
        clear q1
        have O9 : Own wh (g9) 24 #[.bool (decide (gl < 0)), .slice P9 Pn9 Pc9, .slice R9 Rn9 Rc9] := q2
        have c9_0 : wh.cell? ⟨g9, 0, none⟩ = some (.bool (decide (gl < 0))) := O9.cell 0
        have z9_0 := O9.frozen 0
        have c9_1 : wh.cell? ⟨g9, 1, none⟩ = some (.slice P9 Pn9 Pc9) := O9.cell 1
        have z9_1 := O9.frozen 1
        have c9_2 : wh.cell? ⟨g9, 2, none⟩ = some (.slice R9 Rn9 Rc9) := O9.cell 2
        have z9_2 := O9.frozen 2
        clear q2
        have e4 : f 4 = .bool true := hf 22 4 rfl
        clear hf hap
        simp only [fillL, e4]
        clear e4
        go_wp2
        go_ret
        exact ⟨rfl, hon⟩
set_option maxRecDepth 100000 in
set_option maxHeartbeats 1600000 in
theorem floors_ne (w : World) (hx : MX w) (b0 : Bool) (A0 D0 : Option Addr) (n0 c0 m0 e0 : Nat) (x0 y0 : List Nat) (R0 : Rd w A0 n0 c0 x0) (S0 : Rd w D0 m0 e0 y0) (dd : Int) (hd0 : 0 ≤ dd) (hd1 : dd ≤ 65535) (hs : n0 ≤ 12 ∧ m0 ≤ 12) (hz : flr (raw b0 x0 y0) ≠ 0) :
    Calls Try.prog 7 #[.agg #[.bool b0, .slice A0 n0 c0, .slice D0 m0 e0], .int .u16 dd] w fun e w' => e = .returned (.bool true) ∧ On w w' := by
  obtain ⟨r0, hr0⟩ : ∃ x, raw b0 x0 y0 = x := ⟨_, rfl⟩
  have F0 : Fld w (.agg #[.bool b0, .slice A0 n0 c0, .slice D0 m0 e0]) r0 12 := Fld.mk3 R0 S0 (by omega) (by omega) hr0
  rw [hr0] at hz
  have HZ := Lib.hid hz
  obtain ⟨fz, efz⟩ : ∃ x, flr r0 = x := ⟨_, rfl⟩
  have HFZ := Lib.hid efz
  obtain ⟨fl, efl⟩ : ∃ x : Rat, ((fz : Int) : Rat) = x := ⟨_, rfl⟩
  have HFL := Lib.hid efl
  have h1 : fl ≤ r0 := by rw [← efl, ← efz]; exact flr_le r0
  have h2 : r0 < fl + ((1 : Int) : Rat) := by rw [← efl, ← efz]; exact lt_flr r0
  obtain ⟨kc, ekc⟩ : ∃ x, rsg (fl - r0) = x := ⟨_, rfl⟩
  have HKC := Lib.hid ekc
  have hkc : kc = -1 ∨ kc = 0 := by rw [← ekc]; exact rsg_le h1
  have H53 : Hid (rsg (fl + ((1 : Int) : Rat) - r0) = 1) := Lib.hid (rsg_lt h2)
  obtain ⟨kk, ekk⟩ : ∃ x : Rat, ((1 + dd : Int) : Rat) = x := ⟨_, rfl⟩
  have HKK := Lib.hid ekk
  have hkp : 0 < kk := by rw [← ekk]; exact int_pos (by omega)
  obtain ⟨gz, egz⟩ : ∃ x, flr (r0 * kk) = x := ⟨_, rfl⟩
  have HGZ := Lib.hid egz
  obtain ⟨gl, egl⟩ : ∃ x : Rat, ((gz : Int) : Rat) = x := ⟨_, rfl⟩
  have HGL := Lib.hid egl
  have h3 : gl ≤ r0 * kk := by rw [← egl, ← egz]; exact flr_le _
  have h4 : r0 * kk < gl + ((1 : Int) : Rat) := by rw [← egl, ← egz]; exact lt_flr _
  obtain ⟨kd, ekd⟩ : ∃ x, rsg (gl * kk⁻¹ - r0) = x := ⟨_, rfl⟩
  have HKD := Lib.hid ekd
  have hkd : kd = -1 ∨ kd = 0 := by rw [← ekd]; exact rsg_le (rat_mul_le hkp h3)
  have H90 : Hid (rsg (gl + ((1 : Int) : Rat) - r0 * kk) = 1) := Lib.hid (rsg_lt h4)
  have HUP : Hid (gl * kk⁻¹ * kk = gl) := Lib.hid (by rw [Rat.mul_assoc, Rat.inv_mul_cancel _ (by grind), Rat.mul_one])
  have HFG : Hid (((flr gl : Int) : Rat) = gl) := Lib.hid (by rw [← egl, flr_int])
  have H74 : Hid (rsg (gl - gl) = 0) := Lib.hid (rsg_eq rfl)
  clear hr0 hz h1 h2 h3 h4 hkp efz efl ekc ekk egz egl ekd
  have B : On w (w.alloc (.cells #[.bool b0, .slice A0 n0 c0, .slice D0 m0 e0] 24)) := On.alloc (On.refl w) _
  have OB2 : w.heap.size ≤ w.heap.size ∧ Own (w.alloc (.cells #[.bool b0, .slice A0 n0 c0, .slice D0 m0 e0] 24)) (w.heap.size) 24 #[.bool b0, .slice A0 n0 c0, .slice D0 m0 e0] := ⟨by omega, (Own.at_ w (w.heap.size) (by simp) 24 #[.bool b0, .slice A0 n0 c0, .slice D0 m0 e0])⟩
  go_enter Try.func7, Try.ntmps7
  go_wp2_with fail
  refine (awake02 _ (hx.on B)).mono ?_
  rintro e w1 ⟨rfl, P1⟩
  replace OB2 := And.intro OB2.1 (OB2.2.on P1)
  replace B := B.trans P1
  have y2_0 : w1.cell? ⟨w.heap.size, 0, none⟩ = some (.bool b0) := OB2.2.cell 0
  have y2_1 : w1.cell? ⟨w.heap.size, 1, none⟩ = some (.slice A0 n0 c0) := OB2.2.cell 1
  have y2_2 : w1.cell? ⟨w.heap.size, 2, none⟩ = some (.slice D0 m0 e0) := OB2.2.cell 2
  have y2_f0 := OB2.2.frozen 0
  have y2_f1 := OB2.2.frozen 1
  have y2_f2 := OB2.2.frozen 2
  go_wp2_with fail
  clear y2_0 y2_f0 y2_1 y2_f1 y2_2 y2_f2
  have B1 := (On.refl w1).alloc (.cells #[.bool b0, .slice A0 n0 c0, .slice D0 m0 e0] 24)
  replace OB2 := And.intro OB2.1 (OB2.2.on B1)
  replace B := B.trans B1
  have hlens := rlens1 b0 A0 D0 n0 c0 m0 e0 x0 y0 (R0.on B) (S0.on B) (Own.new w1 24 #[.bool b0, .slice A0 n0 c0, .slice D0 m0 e0])
  refine (rlarge_no _ _ 1 1 _ hlens rfl (by decide) (by decide) (by decide) (by simp; omega)).mono ?_
  rintro e w2 ⟨rfl, P2⟩
  clear hlens B1 P1
  replace OB2 := And.intro OB2.1 (OB2.2.on P2)
  replace B := B.trans P2
  clear P2
  clear hx
  have y2_0 : w2.cell? ⟨w.heap.size, 0, none⟩ = some (.bool b0) := OB2.2.cell 0
  have y2_1 : w2.cell? ⟨w.heap.size, 1, none⟩ = some (.slice A0 n0 c0) := OB2.2.cell 1
  have y2_2 : w2.cell? ⟨w.heap.size, 2, none⟩ = some (.slice D0 m0 e0) := OB2.2.cell 2
  have y2_f0 := OB2.2.frozen 0
  have y2_f1 := OB2.2.frozen 1
  have y2_f2 := OB2.2.frozen 2
  go_wp2_with fail
  refine (floor_fld _ _ _ 12 (F0.on B) (by decide) (by decide)).mono ?_
  rintro e w3 ⟨v3, rfl, I5, P3⟩
  rw [HFZ.out, HFL.out] at I5
  obtain ⟨Q1, Qn, Qc, _, Q2, Qm, Qd, _, rfl, _⟩ := id I5
  clear y2_0 y2_f0 y2_1 y2_f1 y2_2 y2_f2
  replace OB2 := And.intro OB2.1 (OB2.2.on P3)
  replace B := B.trans P3
  have PQ := (On.refl w3).alloc (.cells #[.bool (decide (fl < 0)), .slice Q1 Qn Qc, .slice Q2 Qm Qd] 24)
  have OB5 : w.heap.size ≤ w3.heap.size ∧ _ := ⟨B.size, Own.new w3 24 #[.bool (decide (fl < 0)), .slice Q1 Qn Qc, .slice Q2 Qm Qd]⟩
  have hs3 : w.heap.size + 1 ≤ w3.heap.size := by have := OB2.2.lt; omega
  replace I5 := I5.on PQ
  replace OB2 := And.intro OB2.1 (OB2.2.on PQ)
  replace B := B.trans PQ
  clear PQ P3
  obtain ⟨hm5, RD⟩ : Qm = 1 ∧ Rd _ Q2 1 Qd [1] := by
    rcases isR_int (z := fz) (by rw [HFL.out]; exact I5) with ⟨h, _⟩ | ⟨_, h1, h2⟩
    · exact absurd (HFZ.out.trans h) HZ.out
    · exact ⟨h1, h2⟩
  subst hm5
  obtain ⟨ad, had, _⟩ := RD.at_ 0 (by decide)
  subst had
  have hqc := RD.cap
  have hqm := RD.max
  go_wp2
  refine wp_region_facts (by kernel_rfl) w [Fact.eq (.agg #[.bool (decide (fl < 0)), .slice Q1 Qn Qc, .slice (some ad) 1 Qd]), Fact.eq (.bool true), Fact.eq (.bool false), Fact.eq (.bool false), Fact.eq (.pointer (some ⟨w3.heap.size, 2, none⟩)), Fact.eq (.slice (some ad) 1 Qd), Fact.eq (.int .i64 1), Fact.eq (.bool false), Fact.eq (.bool false), Fact.eq (.bool false), Fact.eq (.pointer (some ⟨w3.heap.size, 2, none⟩)), Fact.eq (.slice (some ad) 1 Qd), Fact.eq (.int .i64 1), Fact.eq (.bool true), Fact.eq (.bool true), Fact.eq (.pointer (some ⟨w3.heap.size, 2, none⟩)), Fact.eq (.slice (some ad) 1 Qd), Fact.eq (.pointer (some ad)), Fact.eq (.int .u32 1), Fact.eq (.bool false), Fact.eq (.bool false), Fact.eq (.bool false), Fact.eq (.bool false), Fact.eq (.agg #[.bool (decide (fl < 0)), .slice Q1 Qn Qc, .slice (some ad) 1 Qd]), Fact.eq (.agg #[.bool b0, .slice A0 n0 c0, .slice D0 m0 e0]), Fact.eq (.int .i64 kc), Fact.eq (.bool false), Fact.eq (.bool false), Fact.eq (.bool false), Fact.eq (.agg #[.bool (decide (fl < 0)), .slice Q1 Qn Qc, .slice (some ad) 1 Qd]), Fact.rat (((1 : Int) : Rat)) (2), Fact.rat (fl + ((1 : Int) : Rat)) (13 + 13 + 1), Fact.eq (.agg #[.bool b0, .slice A0 n0 c0, .slice D0 m0 e0]), Fact.eq (.int .i64 1), Fact.eq (.bool false), Fact.eq (.bool false)] [Fact.any, Fact.any] [⟨36, 2, 24, 36, #[.bool b0, .slice A0 n0 c0, .slice D0 m0 e0]⟩, ⟨36, 5, 24, 36, #[.bool (decide (fl < 0)), .slice Q1 Qn Qc, .slice (some ad) 1 Qd]⟩] [w.heap.size, w3.heap.size] [none, none, none, none, none, none, none, none, none, none, none, none, none, none, none, none, none, none, none, none, some 20, some 21, some 22, some 23, some 24, some 25, some 26, some 27, some 28, some 29, some 30, some 31, some 32, some 33, some 34, some 35, some 36, some 37, some 38, some 39, some 40, some 41, some 42, some 43, some 44, some 45, some 46, some 47, some 48, some 49, some 50, some 51, some 52, some 53, some 54, some 55, none, none, none, none, none, none, none, none, none, none, none, none, none, none, none, none, none, none, none, none, none, none, none, none, none, none, none, none, none, none, none, none, none, none, none, none, none] (by kernel_rfl) (by kernel_rfl) (by kernel_rfl) rfl B ?_ ?_ ?_ ?_ ?_
  · exact ⟨fun _ => ⟨by simp, rfl, OB2⟩, fun _ => ⟨by simp, rfl, OB5⟩, trivial⟩
  · exact .inl ⟨Nat.le_refl _, Nat.le_refl _, trivial⟩
  · exact ⟨⟨noWords_R _ _ _ _ _ _ _, (.inl (Nat.le_refl _)), (.inl (Nat.le_refl _))⟩, ⟨noWords_R _ _ _ _ _ _ _, (.inl (Nat.le_refl _)), (.inl (Nat.le_refl _))⟩, trivial⟩
  · refine ⟨?_, ?_, ?_, ?_, ?_, ?_, ?_, ?_, ?_, ?_, ?_, ?_, ?_, ?_, ?_, ?_, ?_, ?_, ?_, ?_, ?_, ?_, ?_, ?_, ?_, ?_, ?_, ?_, ?_, ?_, ?_, ?_, ?_, ?_, ?_, ?_, trivial⟩
    · exact .inr fun a w hp => ob_yes rfl (ob_loadR (hp.box (k := 1) rfl (Nat.le_refl _) (.inl (Nat.le_refl _)) (by kernel_rfl) rfl).1 (hp.box (k := 1) rfl (Nat.le_refl _) (.inl (Nat.le_refl _)) (by kernel_rfl) rfl).2 rfl)
    · refine .inr fun a w hp => ob_yes rfl ?_
      have h20 : a.tmps.getD 20 undef = .agg #[.bool (decide (fl < 0)), .slice Q1 Qn Qc, .slice (some ad) 1 Qd] := (hp.fact 0 20 (by kernel_rfl) rfl)
      unfold Does
      go_simp
      refine (valid_isR _ _ _ _ (I5.kept hp.kept) (by decide)).mono ?_
      rintro e w' ⟨rfl, P8⟩
      exact ⟨_, rfl, P8, rfl⟩
    · refine .inr fun a w hp => ob_yes rfl ?_
      have h21 : a.tmps.getD 21 undef = .bool true := (hp.fact 1 21 (by kernel_rfl) rfl)
      unfold Does
      go_simp
      exact ⟨_, rfl, On.refl _, by show Value.bool _ = Value.bool _; first | rfl | (simp; done)⟩
    · exact .inr fun a w hp => ob_yes rfl (ob_move (hp.fact 2 22 (by kernel_rfl) rfl))
    · exact .inr fun a w hp => ob_yes (wanted_yes (P := Try.prog) (j := 3) (d := 23) (b := false) rfl rfl (hp.fact 3 23 (by kernel_rfl) rfl)) (ob_fieldR (hp.box (k := 1) rfl (Nat.le_refl _) (.inl (Nat.le_refl _)) (by kernel_rfl) rfl).1 (by decide) rfl)
    · exact .inr fun a w hp => ob_yes (wanted_yes (P := Try.prog) (j := 3) (d := 23) (b := false) rfl rfl (hp.fact 3 23 (by kernel_rfl) rfl)) (ob_loadS (hp.fact 4 24 (by kernel_rfl) rfl) (hp.box (k := 1) rfl (Nat.le_refl _) (.inl (Nat.le_refl _)) (by kernel_rfl) rfl).2 rfl rfl)
    · refine .inr fun a w hp => ob_yes (wanted_yes (P := Try.prog) (j := 3) (d := 23) (b := false) rfl rfl (hp.fact 3 23 (by kernel_rfl) rfl)) ?_
      have h25 : a.tmps.getD 25 undef = .slice (some ad) 1 Qd := (hp.fact 5 25 (by kernel_rfl) rfl)
      unfold Does
      go_simp
      exact ⟨_, rfl, On.refl _, rfl⟩
    · refine .inr fun a w hp => ob_yes (wanted_yes (P := Try.prog) (j := 3) (d := 23) (b := false) rfl rfl (hp.fact 3 23 (by kernel_rfl) rfl)) ?_
      have h26 : a.tmps.getD 26 undef = .int .i64 1 := (hp.fact 6 26 (by kernel_rfl) rfl)
      unfold Does
      go_simp
      exact ⟨_, rfl, On.refl _, by show Value.bool _ = Value.bool _; first | rfl | (simp; done)⟩
    · refine .inr fun a w hp => ob_yes rfl ?_
      have h23 : a.tmps.getD 23 undef = .bool false := (hp.fact 3 23 (by kernel_rfl) rfl)
      have h27 : a.tmps.getD 27 undef = .bool false := (hp.fact 7 27 (by kernel_rfl) rfl)
      unfold Does
      go_simp
      exact ⟨_, rfl, On.refl _, rfl⟩
    · exact .inr fun a w hp => ob_yes rfl (ob_move (hp.fact 8 28 (by kernel_rfl) rfl))
    · exact .inr fun a w hp => ob_yes (wanted_yes (P := Try.prog) (j := 9) (d := 29) (b := false) rfl rfl (hp.fact 9 29 (by kernel_rfl) rfl)) (ob_fieldR (hp.box (k := 1) rfl (Nat.le_refl _) (.inl (Nat.le_refl _)) (by kernel_rfl) rfl).1 (by decide) rfl)
    · exact .inr fun a w hp => ob_yes (wanted_yes (P := Try.prog) (j := 9) (d := 29) (b := false) rfl rfl (hp.fact 9 29 (by kernel_rfl) rfl)) (ob_loadS (hp.fact 10 30 (by kernel_rfl) rfl) (hp.box (k := 1) rfl (Nat.le_refl _) (.inl (Nat.le_refl _)) (by kernel_rfl) rfl).2 rfl rfl)
    · refine .inr fun a w hp => ob_yes (wanted_yes (P := Try.prog) (j := 9) (d := 29) (b := false) rfl rfl (hp.fact 9 29 (by kernel_rfl) rfl)) ?_
      have h31 : a.tmps.getD 31 undef = .slice (some ad) 1 Qd := (hp.fact 11 31 (by kernel_rfl) rfl)
      unfold Does
      go_simp
      exact ⟨_, rfl, On.refl _, rfl⟩
    · refine .inr fun a w hp => ob_yes (wanted_yes (P := Try.prog) (j := 9) (d := 29) (b := false) rfl rfl (hp.fact 9 29 (by kernel_rfl) rfl)) ?_
      have h32 : a.tmps.getD 32 undef = .int .i64 1 := (hp.fact 12 32 (by kernel_rfl) rfl)
      unfold Does
      go_simp
      exact ⟨_, rfl, On.refl _, by show Value.bool _ = Value.bool _; first | rfl | (simp; done)⟩
    · exact .inr fun a w hp => ob_yes (wanted_yes (P := Try.prog) (j := 9) (d := 29) (b := false) rfl rfl (hp.fact 9 29 (by kernel_rfl) rfl)) (ob_move (hp.fact 13 33 (by kernel_rfl) rfl))
    · exact .inr fun a w hp => ob_yes (wanted_yes (P := Try.prog) (j := 14) (d := 34) (b := true) rfl rfl (hp.fact 14 34 (by kernel_rfl) rfl)) (ob_fieldR (hp.box (k := 1) rfl (Nat.le_refl _) (.inl (Nat.le_refl _)) (by kernel_rfl) rfl).1 (by decide) rfl)
    · exact .inr fun a w hp => ob_yes (wanted_yes (P := Try.prog) (j := 14) (d := 34) (b := true) rfl rfl (hp.fact 14 34 (by kernel_rfl) rfl)) (ob_loadS (hp.fact 15 35 (by kernel_rfl) rfl) (hp.box (k := 1) rfl (Nat.le_refl _) (.inl (Nat.le_refl _)) (by kernel_rfl) rfl).2 rfl rfl)
    · refine .inr fun a w hp => ob_yes (wanted_yes (P := Try.prog) (j := 14) (d := 34) (b := true) rfl rfl (hp.fact 14 34 (by kernel_rfl) rfl)) ?_
      have h36 : a.tmps.getD 36 undef = .slice (some ad) 1 Qd := (hp.fact 16 36 (by kernel_rfl) rfl)
      unfold Does
      go_simp
      exact ⟨_, rfl, On.refl _, by show Value.pointer _ = Value.pointer _; first | rfl | (rw [add_nil]; done)⟩
    · refine .inr fun a w hp => ob_yes (wanted_yes (P := Try.prog) (j := 14) (d := 34) (b := true) rfl rfl (hp.fact 14 34 (by kernel_rfl) rfl)) ?_
      have h37 : a.tmps.getD 37 undef = .pointer (some ad) := (hp.fact 17 37 (by kernel_rfl) rfl)
      obtain ⟨ad2, e2, _, hc⟩ := (RD.kept hp.kept).at_ 0 (by decide)
      injection e2 with e2
      subst e2
      rw [add_nil] at hc
      unfold Does
      go_simp
      exact ⟨_, rfl, On.refl _, rfl⟩
    · refine .inr fun a w hp => ob_yes (wanted_yes (P := Try.prog) (j := 14) (d := 34) (b := true) rfl rfl (hp.fact 14 34 (by kernel_rfl) rfl)) ?_
      have h38 : a.tmps.getD 38 undef = .int .u32 1 := (hp.fact 18 38 (by kernel_rfl) rfl)
      unfold Does
      go_simp
      exact ⟨_, rfl, On.refl _, by show Value.bool _ = Value.bool _; first | rfl | (simp; done)⟩
    · refine .inr fun a w hp => ob_yes (wanted_yes (P := Try.prog) (j := 9) (d := 29) (b := false) rfl rfl (hp.fact 9 29 (by kernel_rfl) rfl)) ?_
      have h34 : a.tmps.getD 34 undef = .bool true := (hp.fact 14 34 (by kernel_rfl) rfl)
      have h39 : a.tmps.getD 39 undef = .bool false := (hp.fact 19 39 (by kernel_rfl) rfl)
      unfold Does
      go_simp
      exact ⟨_, rfl, On.refl _, rfl⟩
    · refine .inr fun a w hp => ob_yes rfl ?_
      have h29 : a.tmps.getD 29 undef = .bool false := (hp.fact 9 29 (by kernel_rfl) rfl)
      have h40 : a.tmps.getD 40 undef = .bool false := (hp.fact 20 40 (by kernel_rfl) rfl)
      unfold Does
      go_simp
      exact ⟨_, rfl, On.refl _, rfl⟩
    · exact .inr fun a w hp => ob_yes rfl (ob_move (hp.fact 21 41 (by kernel_rfl) rfl))
    · exact .inr fun a w hp => ob_yes (wanted_yes (P := Try.prog) (j := 22) (d := 42) (b := false) rfl rfl (hp.fact 22 42 (by kernel_rfl) rfl)) (ob_loadR (hp.box (k := 1) rfl (Nat.le_refl _) (.inl (Nat.le_refl _)) (by kernel_rfl) rfl).1 (hp.box (k := 1) rfl (Nat.le_refl _) (.inl (Nat.le_refl _)) (by kernel_rfl) rfl).2 rfl)
    · exact .inr fun a w hp => ob_yes (wanted_yes (P := Try.prog) (j := 22) (d := 42) (b := false) rfl rfl (hp.fact 22 42 (by kernel_rfl) rfl)) (ob_loadR (hp.box (k := 0) rfl (Nat.le_refl _) (.inl (Nat.le_refl _)) (by kernel_rfl) rfl).1 (hp.box (k := 0) rfl (Nat.le_refl _) (.inl (Nat.le_refl _)) (by kernel_rfl) rfl).2 rfl)
    · refine .inr fun a w hp => ob_yes (wanted_yes (P := Try.prog) (j := 22) (d := 42) (b := false) rfl rfl (hp.fact 22 42 (by kernel_rfl) rfl)) ?_
      have h43 : a.tmps.getD 43 undef = .agg #[.bool (decide (fl < 0)), .slice Q1 Qn Qc, .slice (some ad) 1 Qd] := (hp.fact 23 43 (by kernel_rfl) rfl)
      have h44 : a.tmps.getD 44 undef = .agg #[.bool b0, .slice A0 n0 c0, .slice D0 m0 e0] := (hp.fact 24 44 (by kernel_rfl) rfl)
      unfold Does
      go_simp
      refine (cmpr_any _ _ _ _ _ 13 ((IsR.fld (I5.kept hp.kept)).wide (by decide)) ((F0.on hp.on).wide (by decide)) (by decide)).mono ?_
      rintro e w' ⟨rfl, P8⟩
      rw [HKC.out]
      exact ⟨_, rfl, P8, rfl⟩
    · refine .inr fun a w hp => ob_yes (wanted_yes (P := Try.prog) (j := 22) (d := 42) (b := false) rfl rfl (hp.fact 22 42 (by kernel_rfl) rfl)) ?_
      have h45 : a.tmps.getD 45 undef = .int .i64 kc := (hp.fact 25 45 (by kernel_rfl) rfl)
      unfold Does
      rcases hkc with rfl | rfl
      · go_simp
        exact ⟨_, rfl, On.refl _, by show Value.bool _ = Value.bool _; first | rfl | (simp; done)⟩
      · go_simp
        exact ⟨_, rfl, On.refl _, by show Value.bool _ = Value.bool _; first | rfl | (simp; done)⟩
    · refine .inr fun a w hp => ob_yes rfl ?_
      have h42 : a.tmps.getD 42 undef = .bool false := (hp.fact 22 42 (by kernel_rfl) rfl)
      have h46 : a.tmps.getD 46 undef = .bool false := (hp.fact 26 46 (by kernel_rfl) rfl)
      unfold Does
      go_simp
      exact ⟨_, rfl, On.refl _, rfl⟩
    · exact .inr fun a w hp => ob_yes rfl (ob_move (hp.fact 27 47 (by kernel_rfl) rfl))
    · exact .inr fun a w hp => ob_yes (wanted_yes (P := Try.prog) (j := 28) (d := 48) (b := false) rfl rfl (hp.fact 28 48 (by kernel_rfl) rfl)) (ob_loadR (hp.box (k := 1) rfl (Nat.le_refl _) (.inl (Nat.le_refl _)) (by kernel_rfl) rfl).1 (hp.box (k := 1) rfl (Nat.le_refl _) (.inl (Nat.le_refl _)) (by kernel_rfl) rfl).2 rfl)
    · refine .inr fun a w hp => ob_yes (wanted_yes (P := Try.prog) (j := 28) (d := 48) (b := false) rfl rfl (hp.fact 28 48 (by kernel_rfl) rfl)) ?_
      unfold Does
      go_simp
      refine (ofr_any _ 1 (by omega) (by omega)).mono ?_
      rintro e w' ⟨u, rfl, I8, P8⟩
      exact ⟨_, rfl, P8, I8⟩
    · refine .inr fun a w hp => ob_yes (wanted_yes (P := Try.prog) (j := 28) (d := 48) (b := false) rfl rfl (hp.fact 28 48 (by kernel_rfl) rfl)) ?_
      have h49 : a.tmps.getD 49 undef = .agg #[.bool (decide (fl < 0)), .slice Q1 Qn Qc, .slice (some ad) 1 Qd] := (hp.fact 29 49 (by kernel_rfl) rfl)
      have h50 : IsR w (a.tmps.getD 50 undef) (((1 : Int) : Rat)) (2) := (hp.fact 30 50 (by kernel_rfl) rfl)
      obtain ⟨v50, e50⟩ : ∃ v, a.tmps.getD 50 undef = v := ⟨_, rfl⟩
      rw [e50] at h50
      unfold Does
      go_simp
      refine (addr_any _ _ _ _ _ 13 ((IsR.fld (I5.kept hp.kept)).wide (by decide)) ((IsR.fld h50).wide (by decide)) (by decide) (by decide)).mono ?_
      rintro e w' ⟨u, rfl, I8, P8⟩
      exact ⟨_, rfl, P8, I8⟩
    · exact .inr fun a w hp => ob_yes (wanted_yes (P := Try.prog) (j := 28) (d := 48) (b := false) rfl rfl (hp.fact 28 48 (by kernel_rfl) rfl)) (ob_loadR (hp.box (k := 0) rfl (Nat.le_refl _) (.inl (Nat.le_refl _)) (by kernel_rfl) rfl).1 (hp.box (k := 0) rfl (Nat.le_refl _) (.inl (Nat.le_refl _)) (by kernel_rfl) rfl).2 rfl)
    · refine .inr fun a w hp => ob_yes (wanted_yes (P := Try.prog) (j := 28) (d := 48) (b := false) rfl rfl (hp.fact 28 48 (by kernel_rfl) rfl)) ?_
      have h51 : IsR w (a.tmps.getD 51 undef) (fl + ((1 : Int) : Rat)) (13 + 13 + 1) := (hp.fact 31 51 (by kernel_rfl) rfl)
      obtain ⟨v51, e51⟩ : ∃ v, a.tmps.getD 51 undef = v := ⟨_, rfl⟩
      rw [e51] at h51
      have h52 : a.tmps.getD 52 undef = .agg #[.bool b0, .slice A0 n0 c0, .slice D0 m0 e0] := (hp.fact 32 52 (by kernel_rfl) rfl)
      unfold Does
      go_simp
      refine (cmpr_any _ _ _ _ _ 27 ((IsR.fld h51).wide (by decide)) ((F0.on hp.on).wide (by decide)) (by decide)).mono ?_
      rintro e w' ⟨rfl, P8⟩
      rw [H53.out]
      exact ⟨_, rfl, P8, rfl⟩
    · refine .inr fun a w hp => ob_yes (wanted_yes (P := Try.prog) (j := 28) (d := 48) (b := false) rfl rfl (hp.fact 28 48 (by kernel_rfl) rfl)) ?_
      have h53 : a.tmps.getD 53 undef = .int .i64 1 := (hp.fact 33 53 (by kernel_rfl) rfl)
      unfold Does
      go_simp
      exact ⟨_, rfl, On.refl _, by show Value.bool _ = Value.bool _; first | rfl | (simp; done)⟩
    · refine .inr fun a w hp => ob_yes rfl ?_
      have h48 : a.tmps.getD 48 undef = .bool false := (hp.fact 28 48 (by kernel_rfl) rfl)
      have h54 : a.tmps.getD 54 undef = .bool false := (hp.fact 34 54 (by kernel_rfl) rfl)
      unfold Does
      go_simp
      exact ⟨_, rfl, On.refl _, rfl⟩
  · intro f wf hon hk hf hb hap
    obtain ⟨q0, q1, qz⟩ := hb
    clear qz
    have O2 : Own wf (w.heap.size) 24 #[.bool b0, .slice A0 n0 c0, .slice D0 m0 e0] := q0
    have c2_0 : wf.cell? ⟨w.heap.size, 0, none⟩ = some (.bool b0) := O2.cell 0
    have z2_0 := O2.frozen 0
    have c2_1 : wf.cell? ⟨w.heap.size, 1, none⟩ = some (.slice A0 n0 c0) := O2.cell 1
    have z2_1 := O2.frozen 1
    have c2_2 : wf.cell? ⟨w.heap.size, 2, none⟩ = some (.slice D0 m0 e0) := O2.cell 2
    have z2_2 := O2.frozen 2
    clear q0
    have O5 : Own wf (w3.heap.size) 24 #[.bool (decide (fl < 0)), .slice Q1 Qn Qc, .slice (some ad) 1 Qd] := q1
    have c5_0 : wf.cell? ⟨w3.heap.size, 0, none⟩ = some (.bool (decide (fl < 0))) := O5.cell 0
    have z5_0 := O5.frozen 0
    have c5_1 : wf.cell? ⟨w3.heap.size, 1, none⟩ = some (.slice Q1 Qn Qc) := O5.cell 1
    have z5_1 := O5.frozen 1
    have c5_2 : wf.cell? ⟨w3.heap.size, 2, none⟩ = some (.slice (some ad) 1 Qd) := O5.cell 2
    have z5_2 := O5.frozen 2
    clear q1
    have e55 : f 55 = .bool false := hf 35 55 rfl
    clear hf hap
    simp only [fillL, e55]
    clear e55
    have OB2 : w.heap.size ≤ w.heap.size ∧ Own wf (w.heap.size) 24 #[.bool b0, .slice A0 n0 c0, .slice D0 m0 e0] := ⟨by omega, O2⟩
    clear c2_0 z2_0 c2_1 z2_1 c2_2 z2_2 O2
    have OB5 : w.heap.size ≤ w3.heap.size ∧ _ := ⟨OB5.1, O5⟩
    clear c5_0 z5_0 c5_1 z5_1 c5_2 z5_2 O5
    clear hk B
    have B := hon
    clear hon
    have y2_0 : wf.cell? ⟨w.heap.size, 0, none⟩ = some (.bool b0) := OB2.2.cell 0
    have y2_1 : wf.cell? ⟨w.heap.size, 1, none⟩ = some (.slice A0 n0 c0) := OB2.2.cell 1
    have y2_2 : wf.cell? ⟨w.heap.size, 2, none⟩ = some (.slice D0 m0 e0) := OB2.2.cell 2
    have y2_f0 := OB2.2.frozen 0
    have y2_f1 := OB2.2.frozen 1
    have y2_f2 := OB2.2.frozen 2
    go_wp2_with fail
    refine (round_ok _ _ _ 12 (1 + dd) (F0.on B) (by decide) (by decide) (by omega) (by omega)).mono ?_
    rintro e w5 ⟨v5, rfl, I7, P5⟩
    rw [HKK.out, HGZ.out, HGL.out] at I7
    obtain ⟨T1, Tn, Tc, _, T2, Tm, Td, _, rfl, _⟩ := id I7
    clear y2_0 y2_f0 y2_1 y2_f1 y2_2 y2_f2
    replace OB2 := And.intro OB2.1 (OB2.2.on P5)
    replace B := B.trans P5
    have hs5 : w.heap.size + 1 ≤ w5.heap.size := by have := OB2.2.lt; omega
    have PQ := (On.refl w5).alloc (.cells #[.bool (decide (gl * kk⁻¹ < 0)), .slice T1 Tn Tc, .slice T2 Tm Td] 24)
    have OB7 : w.heap.size ≤ w5.heap.size ∧ _ := ⟨B.size, Own.new w5 24 #[.bool (decide (gl * kk⁻¹ < 0)), .slice T1 Tn Tc, .slice T2 Tm Td]⟩
    replace I7 := I7.on PQ
    clear OB5
    replace OB2 := And.intro OB2.1 (OB2.2.on PQ)
    replace B := B.trans PQ
    clear PQ P5
    go_wp2
    refine wp_region_facts (by kernel_rfl) w [Fact.eq (.agg #[.bool (decide (gl * kk⁻¹ < 0)), .slice T1 Tn Tc, .slice T2 Tm Td]), Fact.eq (.int .i64 (1 + dd)), Fact.rat (kk) (2), Fact.rat (gl) (50 + 50), Fact.any, Fact.any] [Fact.any, Fact.any, Fact.rat (gl) (50 + 50)] [⟨6, 2, 24, 6, #[.bool b0, .slice A0 n0 c0, .slice D0 m0 e0]⟩, ⟨6, 7, 24, 6, #[.bool (decide (gl * kk⁻¹ < 0)), .slice T1 Tn Tc, .slice T2 Tm Td]⟩, ⟨4, 9, 24, 5, #[.bool false, .slice none 0 0, .slice none 0 0]⟩] [w.heap.size, w5.heap.size] [none, none, none, none, none, none, none, none, none, some 9, none, none, none, none, none, none, none, none, none, none, none, none, none, none, none, none, none, none, none, none, none, none, none, none, none, none, none, none, none, none, none, none, none, none, none, none, none, none, none, none, none, none, none, none, none, none, none, none, none, none, none, none, none, none, none, none, none, some 67, some 68, some 69, some 70, none, none, none, none, none, none, none, none, none, none, none, none, none, none, none, none, none, none, none, none, none, none] (by kernel_rfl) (by kernel_rfl) (by kernel_rfl) rfl B ?_ ?_ ?_ ?_ ?_
    · exact ⟨fun _ => ⟨by simp, rfl, OB2⟩, fun _ => ⟨by simp, rfl, OB7⟩, fun h => absurd h (by decide), trivial⟩
    · exact .inr (by simp <;> omega)
    · exact ⟨⟨noWords_R _ _ _ _ _ _ _, (.inl (Nat.le_refl _)), (.inl (Nat.le_refl _))⟩, ⟨noWords_R _ _ _ _ _ _ _, (.inl (Nat.le_refl _)), (.inl (Nat.le_refl _))⟩, ⟨noWords_R _ _ _ _ _ _ _, (.inr ⟨fun _ _ => trivial, _, rfl, fun a w => ⟨rfl, do_value run_allocR⟩⟩), (.inr (store_ob (j := 3) (noWords_R _ _ _ _ _ _ _) rfl rfl rfl (by kernel_rfl) rfl rfl rfl))⟩, trivial⟩
    · refine ⟨?_, ?_, ?_, ?_, ?_, ?_, trivial⟩
      · exact .inr fun a w hp => ob_yes rfl (ob_loadR (hp.box (k := 1) rfl (Nat.le_refl _) (.inl (Nat.le_refl _)) (by kernel_rfl) rfl).1 (hp.box (k := 1) rfl (Nat.le_refl _) (.inl (Nat.le_refl _)) (by kernel_rfl) rfl).2 rfl)
      · exact .inr fun a w hp => ob_yes rfl (ob_move (hp.same 6 (by kernel_rfl)))
      · refine .inr fun a w hp => ob_yes rfl ?_
        have h68 : a.tmps.getD 68 undef = .int .i64 (1 + dd) := (hp.fact 1 68 (by kernel_rfl) rfl)
        unfold Does
        go_simp
        refine (ofr_any _ (1 + dd) (by omega) (by omega)).mono ?_
        rintro e w' ⟨u, rfl, I8, P8⟩
        rw [HKK.out] at I8
        exact ⟨_, rfl, P8, I8⟩
      · refine .inr fun a w hp => ob_yes rfl ?_
        have h67 : a.tmps.getD 67 undef = .agg #[.bool (decide (gl * kk⁻¹ < 0)), .slice T1 Tn Tc, .slice T2 Tm Td] := (hp.fact 0 67 (by kernel_rfl) rfl)
        have h69 : IsR w (a.tmps.getD 69 undef) (kk) (2) := (hp.fact 2 69 (by kernel_rfl) rfl)
        obtain ⟨v69, e69⟩ : ∃ v, a.tmps.getD 69 undef = v := ⟨_, rfl⟩
        rw [e69] at h69
        unfold Does
        go_simp
        refine (mulr_any _ _ _ _ _ 50 ((IsR.fld (I7.kept hp.kept)).wide (by decide)) ((IsR.fld h69).wide (by decide)) (by decide) (by decide)).mono ?_
        rintro e w' ⟨u, rfl, I8, P8⟩
        rw [HUP.out] at I8
        exact ⟨_, rfl, P8, I8⟩
      · exact .inl rfl
      · exact .inl rfl
    · intro f wg hon hk hf hb hap
      obtain ⟨q0, q1, q2, qz⟩ := hb
      clear qz
      have O2 : Own wg (w.heap.size) 24 #[.bool b0, .slice A0 n0 c0, .slice D0 m0 e0] := q0
      have c2_0 : wg.cell? ⟨w.heap.size, 0, none⟩ = some (.bool b0) := O2.cell 0
      have z2_0 := O2.frozen 0
      have c2_1 : wg.cell? ⟨w.heap.size, 1, none⟩ = some (.slice A0 n0 c0) := O2.cell 1
      have z2_1 := O2.frozen 1
      have c2_2 : wg.cell? ⟨w.heap.size, 2, none⟩ = some (.slice D0 m0 e0) := O2.cell 2
      have z2_2 := O2.frozen 2
      clear q0
      have O7 : Own wg (w5.heap.size) 24 #[.bool (decide (gl * kk⁻¹ < 0)), .slice T1 Tn Tc, .slice T2 Tm Td] := q1
      have c7_0 : wg.cell? ⟨w5.heap.size, 0, none⟩ = some (.bool (decide (gl * kk⁻¹ < 0))) := O7.cell 0
      have z7_0 := O7.frozen 0
      have c7_1 : wg.cell? ⟨w5.heap.size, 1, none⟩ = some (.slice T1 Tn Tc) := O7.cell 1
      have z7_1 := O7.frozen 1
      have c7_2 : wg.cell? ⟨w5.heap.size, 2, none⟩ = some (.slice T2 Tm Td) := O7.cell 2
      have z7_2 := O7.frozen 2
      clear q1
      obtain ⟨g9, e9, G9, q2⟩ := q2
      change f 9 = _ at e9
      obtain ⟨cur9, O9, I9⟩ : ∃ cur, Own wg (g9) 24 cur ∧ IsR wg (.agg cur) (gl) (50 + 50) := q2
      obtain ⟨P9, Pn9, Pc9, _, R9, Rn9, Rc9, _, hz9, _⟩ := id I9
      injection hz9 with hz9
      subst hz9
      have c9_0 : wg.cell? ⟨g9, 0, none⟩ = some (.bool (decide (gl < 0))) := O9.cell 0
      have z9_0 := O9.frozen 0
      have c9_1 : wg.cell? ⟨g9, 1, none⟩ = some (.slice P9 Pn9 Pc9) := O9.cell 1
      have z9_1 := O9.frozen 1
      have c9_2 : wg.cell? ⟨g9, 2, none⟩ = some (.slice R9 Rn9 Rc9) := O9.cell 2
      have z9_2 := O9.frozen 2
      clear hf hap
      simp only [fillL]; simp only [e9]
      clear e9
      have OB2 : w.heap.size ≤ w.heap.size ∧ Own wg (w.heap.size) 24 #[.bool b0, .slice A0 n0 c0, .slice D0 m0 e0] := ⟨by omega, O2⟩
      clear c2_0 z2_0 c2_1 z2_1 c2_2 z2_2 O2
      have OB7 : w.heap.size ≤ w5.heap.size ∧ _ := ⟨OB7.1, O7⟩
      clear c7_0 z7_0 c7_1 z7_1 c7_2 z7_2 O7
      replace I7 := I7.kept hk
      have OB9 : w.heap.size ≤ g9 ∧ _ := ⟨G9, O9⟩
      clear c9_0 z9_0 c9_1 z9_1 c9_2 z9_2 O9
      clear hk B
      have B := hon
      clear hon
      go_wp2
      refine wp_region_facts (by kernel_rfl) w [Fact.eq (.agg #[.bool (decide (gl < 0)), .slice P9 Pn9 Pc9, .slice R9 Rn9 Rc9]), Fact.rat (gl) (101), Fact.eq (.agg #[.bool (decide (gl < 0)), .slice P9 Pn9 Pc9, .slice R9 Rn9 Rc9]), Fact.eq (.int .i64 0), Fact.eq (.bool true), Fact.eq (.bool true), Fact.eq (.agg #[.bool (decide (gl * kk⁻¹ < 0)), .slice T1 Tn Tc, .slice T2 Tm Td]), Fact.eq (.agg #[.bool b0, .slice A0 n0 c0, .slice D0 m0 e0]), Fact.eq (.int .i64 kd), Fact.eq (.bool true), Fact.eq (.bool true), Fact.eq (.bool true), Fact.eq (.agg #[.bool (decide (gl < 0)), .slice P9 Pn9 Pc9, .slice R9 Rn9 Rc9]), Fact.rat (((1 : Int) : Rat)) (2), Fact.rat (gl + ((1 : Int) : Rat)) (100 + 100 + 1), Fact.eq (.agg #[.bool b0, .slice A0 n0 c0, .slice D0 m0 e0]), Fact.eq (.int .i64 (1 + dd)), Fact.rat (kk) (2), Fact.rat (r0 * kk) (12 + 12), Fact.eq (.int .i64 1), Fact.eq (.bool true), Fact.eq (.bool true), Fact.eq (.bool true)] [Fact.any, Fact.any, Fact.any] [⟨23, 2, 24, 23, #[.bool b0, .slice A0 n0 c0, .slice D0 m0 e0]⟩, ⟨23, 7, 24, 23, #[.bool (decide (gl * kk⁻¹ < 0)), .slice T1 Tn Tc, .slice T2 Tm Td]⟩, ⟨23, 9, 24, 23, #[.bool (decide (gl < 0)), .slice P9 Pn9 Pc9, .slice R9 Rn9 Rc9]⟩] [w.heap.size, w5.heap.size, g9] [none, none, none, none, some 4, none, none, none, none, none, none, none, none, none, none, none, none, none, none, none, none, none, none, none, none, none, none, none, none, none, none, none, none, none, none, none, none, none, none, none, none, none, none, none, none, none, none, none, none, none, none, none, none, none, none, none, none, none, none, none, none, none, none, none, none, none, none, none, none, none, none, some 71, some 72, some 73, some 74, some 75, some 76, some 77, some 78, some 79, some 80, some 81, some 82, some 83, some 84, some 85, some 86, some 87, some 88, some 89, some 90, some 91, some 92] (by kernel_rfl) (by kernel_rfl) (by kernel_rfl) rfl B ?_ ?_ ?_ ?_ ?_
      · exact ⟨fun _ => ⟨by simp, rfl, OB2⟩, fun _ => ⟨by simp, rfl, OB7⟩, fun _ => ⟨by simp, rfl, OB9⟩, trivial⟩
      · exact .inl ⟨Nat.le_refl _, Nat.le_refl _, Nat.le_refl _, trivial⟩
      · exact ⟨⟨noWords_R _ _ _ _ _ _ _, (.inl (Nat.le_refl _)), (.inl (Nat.le_refl _))⟩, ⟨noWords_R _ _ _ _ _ _ _, (.inl (Nat.le_refl _)), (.inl (Nat.le_refl _))⟩, ⟨noWords_R _ _ _ _ _ _ _, (.inl (Nat.le_refl _)), (.inl (Nat.le_refl _))⟩, trivial⟩
      · refine ⟨?_, ?_, ?_, ?_, ?_, ?_, ?_, ?_, ?_, ?_, ?_, ?_, ?_, ?_, ?_, ?_, ?_, ?_, ?_, ?_, ?_, ?_, ?_, trivial⟩
        · exact .inr fun a w hp => ob_yes rfl (ob_loadR (hp.box (k := 2) rfl (Nat.le_refl _) (.inl (Nat.le_refl _)) (by kernel_rfl) rfl).1 (hp.box (k := 2) rfl (Nat.le_refl _) (.inl (Nat.le_refl _)) (by kernel_rfl) rfl).2 rfl)
        · refine .inr fun a w hp => ob_yes rfl ?_
          have h71 : a.tmps.getD 71 undef = .agg #[.bool (decide (gl < 0)), .slice P9 Pn9 Pc9, .slice R9 Rn9 Rc9] := (hp.fact 0 71 (by kernel_rfl) rfl)
          unfold Does
          go_simp
          refine (floor_fld _ _ _ 100 ((IsR.fld (I9.kept hp.kept)).wide (by decide)) (by decide) (by decide)).mono ?_
          rintro e w' ⟨u, rfl, I8, P8⟩
          rw [HFG.out] at I8
          exact ⟨_, rfl, P8, I8⟩
        · exact .inr fun a w hp => ob_yes rfl (ob_loadR (hp.box (k := 2) rfl (Nat.le_refl _) (.inl (Nat.le_refl _)) (by kernel_rfl) rfl).1 (hp.box (k := 2) rfl (Nat.le_refl _) (.inl (Nat.le_refl _)) (by kernel_rfl) rfl).2 rfl)
        · refine .inr fun a w hp => ob_yes rfl ?_
          have h72 : IsR w (a.tmps.getD 72 undef) (gl) (101) := (hp.fact 1 72 (by kernel_rfl) rfl)
          obtain ⟨v72, e72⟩ : ∃ v, a.tmps.getD 72 undef = v := ⟨_, rfl⟩
          rw [e72] at h72
          have h73 : a.tmps.getD 73 undef = .agg #[.bool (decide (gl < 0)), .slice P9 Pn9 Pc9, .slice R9 Rn9 Rc9] := (hp.fact 2 73 (by kernel_rfl) rfl)
          unfold Does
          go_simp
          refine (cmpr_any _ _ _ _ _ 101 ((IsR.fld h72).wide (by decide)) ((IsR.fld (I9.kept hp.kept)).wide (by decide)) (by decide)).mono ?_
          rintro e w' ⟨rfl, P8⟩
          rw [H74.out]
          exact ⟨_, rfl, P8, rfl⟩
        · refine .inr fun a w hp => ob_yes rfl ?_
          have h74 : a.tmps.getD 74 undef = .int .i64 0 := (hp.fact 3 74 (by kernel_rfl) rfl)
          unfold Does
          go_simp
          exact ⟨_, rfl, On.refl _, by show Value.bool _ = Value.bool _; first | rfl | (simp; done)⟩
        · exact .inr fun a w hp => ob_yes rfl (ob_move (hp.fact 4 75 (by kernel_rfl) rfl))
        · exact .inr fun a w hp => ob_yes (wanted_yes (P := Try.prog) (j := 5) (d := 76) (b := true) rfl rfl (hp.fact 5 76 (by kernel_rfl) rfl)) (ob_loadR (hp.box (k := 1) rfl (Nat.le_refl _) (.inl (Nat.le_refl _)) (by kernel_rfl) rfl).1 (hp.box (k := 1) rfl (Nat.le_refl _) (.inl (Nat.le_refl _)) (by kernel_rfl) rfl).2 rfl)
        · exact .inr fun a w hp => ob_yes (wanted_yes (P := Try.prog) (j := 5) (d := 76) (b := true) rfl rfl (hp.fact 5 76 (by kernel_rfl) rfl)) (ob_loadR (hp.box (k := 0) rfl (Nat.le_refl _) (.inl (Nat.le_refl _)) (by kernel_rfl) rfl).1 (hp.box (k := 0) rfl (Nat.le_refl _) (.inl (Nat.le_refl _)) (by kernel_rfl) rfl).2 rfl)
        · refine .inr fun a w hp => ob_yes (wanted_yes (P := Try.prog) (j := 5) (d := 76) (b := true) rfl rfl (hp.fact 5 76 (by kernel_rfl) rfl)) ?_
          have h77 : a.tmps.getD 77 undef = .agg #[.bool (decide (gl * kk⁻¹ < 0)), .slice T1 Tn Tc, .slice T2 Tm Td] := (hp.fact 6 77 (by kernel_rfl) rfl)
          have h78 : a.tmps.getD 78 undef = .agg #[.bool b0, .slice A0 n0 c0, .slice D0 m0 e0] := (hp.fact 7 78 (by kernel_rfl) rfl)
          unfold Does
          go_simp
          refine (cmpr_any _ _ _ _ _ 50 ((IsR.fld (I7.kept hp.kept)).wide (by decide)) ((F0.on hp.on).wide (by decide)) (by decide)).mono ?_
          rintro e w' ⟨rfl, P8⟩
          rw [HKD.out]
          exact ⟨_, rfl, P8, rfl⟩
        · refine .inr fun a w hp => ob_yes (wanted_yes (P := Try.prog) (j := 5) (d := 76) (b := true) rfl rfl (hp.fact 5 76 (by kernel_rfl) rfl)) ?_
          have h79 : a.tmps.getD 79 undef = .int .i64 kd := (hp.fact 8 79 (by kernel_rfl) rfl)
          unfold Does
          rcases hkd with rfl | rfl
          · go_simp
            exact ⟨_, rfl, On.refl _, by show Value.bool _ = Value.bool _; first | rfl | (simp; done)⟩
          · go_simp
            exact ⟨_, rfl, On.refl _, by show Value.bool _ = Value.bool _; first | rfl | (simp; done)⟩
        · refine .inr fun a w hp => ob_yes rfl ?_
          have h76 : a.tmps.getD 76 undef = .bool true := (hp.fact 5 76 (by kernel_rfl) rfl)
          have h80 : a.tmps.getD 80 undef = .bool true := (hp.fact 9 80 (by kernel_rfl) rfl)
          unfold Does
          go_simp
          exact ⟨_, rfl, On.refl _, rfl⟩
        · exact .inr fun a w hp => ob_yes rfl (ob_move (hp.fact 10 81 (by kernel_rfl) rfl))
        · exact .inr fun a w hp => ob_yes (wanted_yes (P := Try.prog) (j := 11) (d := 82) (b := true) rfl rfl (hp.fact 11 82 (by kernel_rfl) rfl)) (ob_loadR (hp.box (k := 2) rfl (Nat.le_refl _) (.inl (Nat.le_refl _)) (by kernel_rfl) rfl).1 (hp.box (k := 2) rfl (Nat.le_refl _) (.inl (Nat.le_refl _)) (by kernel_rfl) rfl).2 rfl)
        · refine .inr fun a w hp => ob_yes (wanted_yes (P := Try.prog) (j := 11) (d := 82) (b := true) rfl rfl (hp.fact 11 82 (by kernel_rfl) rfl)) ?_
          unfold Does
          go_simp
          refine (ofr_any _ 1 (by omega) (by omega)).mono ?_
          rintro e w' ⟨u, rfl, I8, P8⟩
          exact ⟨_, rfl, P8, I8⟩
        · refine .inr fun a w hp => ob_yes (wanted_yes (P := Try.prog) (j := 11) (d := 82) (b := true) rfl rfl (hp.fact 11 82 (by kernel_rfl) rfl)) ?_
          have h83 : a.tmps.getD 83 undef = .agg #[.bool (decide (gl < 0)), .slice P9 Pn9 Pc9, .slice R9 Rn9 Rc9] := (hp.fact 12 83 (by kernel_rfl) rfl)
          have h84 : IsR w (a.tmps.getD 84 undef) (((1 : Int) : Rat)) (2) := (hp.fact 13 84 (by kernel_rfl) rfl)
          obtain ⟨v84, e84⟩ : ∃ v, a.tmps.getD 84 undef = v := ⟨_, rfl⟩
          rw [e84] at h84
          unfold Does
          go_simp
          refine (addr_any _ _ _ _ _ 100 ((IsR.fld (I9.kept hp.kept)).wide (by decide)) ((IsR.fld h84).wide (by decide)) (by decide) (by decide)).mono ?_
          rintro e w' ⟨u, rfl, I8, P8⟩
          exact ⟨_, rfl, P8, I8⟩
        · exact .inr fun a w hp => ob_yes (wanted_yes (P := Try.prog) (j := 11) (d := 82) (b := true) rfl rfl (hp.fact 11 82 (by kernel_rfl) rfl)) (ob_loadR (hp.box (k := 0) rfl (Nat.le_refl _) (.inl (Nat.le_refl _)) (by kernel_rfl) rfl).1 (hp.box (k := 0) rfl (Nat.le_refl _) (.inl (Nat.le_refl _)) (by kernel_rfl) rfl).2 rfl)
        · exact .inr fun a w hp => ob_yes (wanted_yes (P := Try.prog) (j := 11) (d := 82) (b := true) rfl rfl (hp.fact 11 82 (by kernel_rfl) rfl)) (ob_move (hp.same 6 (by kernel_rfl)))
        · refine .inr fun a w hp => ob_yes (wanted_yes (P := Try.prog) (j := 11) (d := 82) (b := true) rfl rfl (hp.fact 11 82 (by kernel_rfl) rfl)) ?_
          have h87 : a.tmps.getD 87 undef = .int .i64 (1 + dd) := (hp.fact 16 87 (by kernel_rfl) rfl)
          unfold Does
          go_simp
          refine (ofr_any _ (1 + dd) (by omega) (by omega)).mono ?_
          rintro e w' ⟨u, rfl, I8, P8⟩
          rw [HKK.out] at I8
          exact ⟨_, rfl, P8, I8⟩
        · refine .inr fun a w hp => ob_yes (wanted_yes (P := Try.prog) (j := 11) (d := 82) (b := true) rfl rfl (hp.fact 11 82 (by kernel_rfl) rfl)) ?_
          have h86 : a.tmps.getD 86 undef = .agg #[.bool b0, .slice A0 n0 c0, .slice D0 m0 e0] := (hp.fact 15 86 (by kernel_rfl) rfl)
          have h88 : IsR w (a.tmps.getD 88 undef) (kk) (2) := (hp.fact 17 88 (by kernel_rfl) rfl)
          obtain ⟨v88, e88⟩ : ∃ v, a.tmps.getD 88 undef = v := ⟨_, rfl⟩
          rw [e88] at h88
          unfold Does
          go_simp
          refine (mulr_any _ _ _ _ _ 12 ((F0.on hp.on).wide (by decide)) ((IsR.fld h88).wide (by decide)) (by decide) (by decide)).mono ?_
          rintro e w' ⟨u, rfl, I8, P8⟩
          exact ⟨_, rfl, P8, I8⟩
        · refine .inr fun a w hp => ob_yes (wanted_yes (P := Try.prog) (j := 11) (d := 82) (b := true) rfl rfl (hp.fact 11 82 (by kernel_rfl) rfl)) ?_
          have h85 : IsR w (a.tmps.getD 85 undef) (gl + ((1 : Int) : Rat)) (100 + 100 + 1) := (hp.fact 14 85 (by kernel_rfl) rfl)
          obtain ⟨v85, e85⟩ : ∃ v, a.tmps.getD 85 undef = v := ⟨_, rfl⟩
          rw [e85] at h85
          have h89 : IsR w (a.tmps.getD 89 undef) (r0 * kk) (12 + 12) := (hp.fact 18 89 (by kernel_rfl) rfl)
          obtain ⟨v89, e89⟩ : ∃ v, a.tmps.getD 89 undef = v := ⟨_, rfl⟩
          rw [e89] at h89
          unfold Does
          go_simp
          refine (cmpr_any _ _ _ _ _ 201 ((IsR.fld h85).wide (by decide)) ((IsR.fld h89).wide (by decide)) (by decide)).mono ?_
          rintro e w' ⟨rfl, P8⟩
          rw [H90.out]
          exact ⟨_, rfl, P8, rfl⟩
        · refine .inr fun a w hp => ob_yes (wanted_yes (P := Try.prog) (j := 11) (d := 82) (b := true) rfl rfl (hp.fact 11 82 (by kernel_rfl) rfl)) ?_
          have h90 : a.tmps.getD 90 undef = .int .i64 1 := (hp.fact 19 90 (by kernel_rfl) rfl)
          unfold Does
          go_simp
          exact ⟨_, rfl, On.refl _, by show Value.bool _ = Value.bool _; first | rfl | (simp; done)⟩
        · refine .inr fun a w hp => ob_yes rfl ?_
          have h82 : a.tmps.getD 82 undef = .bool true := (hp.fact 11 82 (by kernel_rfl) rfl)
          have h91 : a.tmps.getD 91 undef = .bool true := (hp.fact 20 91 (by kernel_rfl) rfl)
          unfold Does
          go_simp
          exact ⟨_, rfl, On.refl _, rfl⟩
        · exact .inr fun a w hp => ob_yes rfl (ob_assign (hp.fact 21 92 (by kernel_rfl) rfl))
      · intro f wh hon hk hf hb hap
        obtain ⟨q0, q1, q2, qz⟩ := hb
        clear qz
        have O2 : Own wh (w.heap.size) 24 #[.bool b0, .slice A0 n0 c0, .slice D0 m0 e0] := q0
        have c2_0 : wh.cell? ⟨w.heap.size, 0, none⟩ = some (.bool b0) := O2.cell 0
        have z2_0 := O2.frozen 0
        have c2_1 : wh.cell? ⟨w.heap.size, 1, none⟩ = some (.slice A0 n0 c0) := O2.cell 1
        have z2_1 := O2.frozen 1
        have c2_2 : wh.cell? ⟨w.heap.size, 2, none⟩ = some (.slice D0 m0 e0) := O2.cell 2
        have z2_2 := O2.frozen 2
        clear q0
        have O7 : Own wh (w5.heap.size) 24 #[.bool (decide (gl * kk⁻¹ < 0)), .slice T1 Tn Tc, .slice T2 Tm Td] := q1
        have c7_0 : wh.cell? ⟨w5.heap.size, 0, none⟩ = some (.bool (decide (gl * kk⁻¹ < 0))) := O7.cell 0
        have z7_0 := O7.frozen 0
        have c7_1 : wh.cell? ⟨w5.heap.size, 1, none⟩ = some (.slice T1 Tn Tc) := O7.cell 1
        have z7_1 := O7.frozen 1
        have c7_2 : wh.cell? ⟨w5.heap.size, 2, none⟩ = some (.slice T2 Tm Td) := O7.cell 2
        have z7_2 := O7.frozen 2
        clear q1
        have O9 : Own wh (g9) 24 #[.bool (decide (gl < 0)), .slice P9 Pn9 Pc9, .slice R9 Rn9 Rc9] := q2
        have c9_0 : wh.cell? ⟨g9, 0, none⟩ = some (.bool (decide (gl < 0))) := O9.cell 0
        have z9_0 := O9.frozen 0
        have c9_1 : wh.cell? ⟨g9, 1, none⟩ = some (.slice P9 Pn9 Pc9) := O9.cell 1
        have z9_1 := O9.frozen 1
        have c9_2 : wh.cell? ⟨g9, 2, none⟩ = some (.slice R9 Rn9 Rc9) := O9.cell 2
        have z9_2 := O9.frozen 2
        clear q2
        have e4 : f 4 = .bool true := hf 22 4 rfl
        clear hf hap
        simp only [fillL, e4]
        clear e4
        go_wp2
        go_ret
        exact ⟨rfl, hon⟩
theorem floors_small (w : World) (hx : MX w) (b0 : Bool) (A0 D0 : Option Addr) (n0 c0 m0 e0 : Nat) (x0 y0 : List Nat) (R0 : Rd w A0 n0 c0 x0) (S0 : Rd w D0 m0 e0 y0) (dd : Int) (hd0 : 0 ≤ dd) (hd1 : dd ≤ 65535) (hs : n0 ≤ 12 ∧ m0 ≤ 12) :
    Calls Try.prog 7 #[.agg #[.bool b0, .slice A0 n0 c0, .slice D0 m0 e0], .int .u16 dd] w fun e w' => e = .returned (.bool true) ∧ On w w' := by
  by_cases hz : flr (raw b0 x0 y0) = 0
  · exact floors_zero w hx b0 A0 D0 n0 c0 m0 e0 x0 y0 R0 S0 dd hd0 hd1 hs hz
  · exact floors_ne w hx b0 A0 D0 n0 c0 m0 e0 x0 y0 R0 S0 dd hd0 hd1 hs hz
theorem floors_any (w : World) (hx : MX w) (b0 : Bool) (A0 D0 : Option Addr) (n0 c0 m0 e0 : Nat) (x0 y0 : List Nat) (R0 : Rd w A0 n0 c0 x0) (S0 : Rd w D0 m0 e0 y0) (dd : Int) (hd0 : 0 ≤ dd) (hd1 : dd ≤ 65535) :
    Calls Try.prog 7 #[.agg #[.bool b0, .slice A0 n0 c0, .slice D0 m0 e0], .int .u16 dd] w fun e w' => e = .returned (.bool true) ∧ On w w' := by
  by_cases hs : n0 ≤ 12 ∧ m0 ≤ 12
  · exact floors_small w hx b0 A0 D0 n0 c0 m0 e0 x0 y0 R0 S0 dd hd0 hd1 hs
  · have : ∃ (mi : Nat) (qi : Nat × Nat), [(n0, m0)][mi]? = some qi ∧ (12 < qi.1 ∨ 12 < qi.2) := by
      by_cases h0 : 12 < n0 ∨ 12 < m0
      · exact ⟨0, _, rfl, h0⟩
      omega
    obtain ⟨mi, qi, h1, h2⟩ := this
    exact floors_large w hx b0 A0 D0 n0 c0 m0 e0 x0 y0 R0 S0 dd hd0 hd1 mi qi h1 h2
end Num
end Go.Proofs.Ytikmjlaeadockaa
