/-
  RationalBack, walked.
-/
import Derived.Test.YtikmjlaeadockaaRtxt
namespace Go.Proofs.Ytikmjlaeadockaa
open Go.RowKit
set_option linter.unusedVariables false
namespace Num
theorem byte_at (s : ByteArray) (k : Nat) (hk : k < s.size) : s.data.toList[k]'(by rw [dl_len]; exact hk) = s[k] := by
  simp [ByteArray.getElem_eq_getElem_data]
theorem dot_bytes (s : ByteArray) (a b : List UInt8) (hab : s.data.toList = a ++ 46 :: b) (ha : 46 ∉ a) : ∀ k (hk : k < s.size), (k < a.length → ((s[k].toNat : Int) == 46) = false) ∧ (k = a.length → ((s[k].toNat : Int) == 46) = true) := by
  intro k hk
  have e := byte_at s k hk
  have e2 : s.data.toList[k]? = some s[k] := by rw [← e]; exact List.getElem?_eq_getElem _
  rw [hab] at e2
  constructor
  · intro h
    rw [List.getElem?_append_left h] at e2
    have hm : s[k] ∈ a := List.mem_of_getElem? e2
    rw [beq_eq_false_iff_ne]
    intro h2
    have : s[k] = 46 := UInt8.toNat_inj.1 (by have h3 : (46 : UInt8).toNat = 46 := rfl; omega)
    rw [this] at hm
    exact ha hm
  · intro h
    subst h
    rw [List.getElem?_append_right (Nat.le_refl _)] at e2
    simp at e2
    rw [← e2]; rfl
theorem nodot_bytes (s : ByteArray) (h : 46 ∉ s.data.toList) : ∀ k (hk : k < s.size), ((s[k].toNat : Int) == 46) = false := by
  intro k hk
  have e := byte_at s k hk
  have hm : s[k] ∈ s.data.toList := by rw [← e]; exact List.getElem_mem _
  rw [beq_eq_false_iff_ne]
  intro h2
  have : s[k] = 46 := UInt8.toNat_inj.1 (by have h3 : (46 : UInt8).toNat = 46 := rfl; omega)
  rw [this] at hm
  exact h hm
set_option maxRecDepth 100000 in
set_option maxHeartbeats 1600000 in
theorem back_largeA (w : World) (hx : MX w) (b0 : Bool) (A0 D0 : Option Addr) (n0 c0 m0 e0 : Nat) (x0 y0 : List Nat) (R0 : Rd w A0 n0 c0 x0) (S0 : Rd w D0 m0 e0 y0) (s : ByteArray) (hS : s.size ≤ 9223372036854775807) (mi : Nat) (qi : Nat × Nat) (hmi : [(n0, m0)][mi]? = some qi) (hyi : 12 < qi.1 ∨ 12 < qi.2) :
    Calls Try.prog 8 #[.agg #[.bool b0, .slice A0 n0 c0, .slice D0 m0 e0], .string s] w fun e w' => e = .returned (.bool true) ∧ On w w' := by
  have HMI := Lib.hid hmi
  have HYI := Lib.hid hyi
  clear hmi hyi
  have B : On w (w.alloc (.cells #[.bool b0, .slice A0 n0 c0, .slice D0 m0 e0] 24)) := On.alloc (On.refl w) _
  have OB2 : w.heap.size ≤ w.heap.size ∧ Own (w.alloc (.cells #[.bool b0, .slice A0 n0 c0, .slice D0 m0 e0] 24)) (w.heap.size) 24 #[.bool b0, .slice A0 n0 c0, .slice D0 m0 e0] := ⟨by omega, (Own.at_ w (w.heap.size) (by simp) 24 #[.bool b0, .slice A0 n0 c0, .slice D0 m0 e0])⟩
  go_enter Try.func8, Try.ntmps8
  go_wp2_with fail
  refine (awake02 _ (hx.on B)).mono ?_
  rintro e w1 ⟨rfl, P1⟩
  replace OB2 := And.intro OB2.1 (OB2.2.on P1)
  replace B := B.trans P1
  have y2_0 : w1.cell? ⟨w.heap.size, 0, none⟩ = some (.bool b0) := OB2.2.cell 0
  have y2_1 : w1.cell? ⟨w.heap.size, 1, none⟩ = some (.slice A0 n0 c0) := OB2.2.cell 1
  have y2_2 : w1.cell? ⟨w.heap.size, 2, none⟩ = some (.slice D0 m0 e0) := OB2.2.cell 2
  have y2_f0 := OB2.2.frozen 0
  have y2_f1 := OB2.2.frozen 1
  have y2_f2 := OB2.2.frozen 2
  go_wp2_with fail
  clear y2_0 y2_f0 y2_1 y2_f1 y2_2 y2_f2
  have B1 := (On.refl w1).alloc (.cells #[.bool b0, .slice A0 n0 c0, .slice D0 m0 e0] 24)
  replace OB2 := And.intro OB2.1 (OB2.2.on B1)
  replace B := B.trans B1
  have hlens := rlens1 b0 A0 D0 n0 c0 m0 e0 x0 y0 (R0.on B) (S0.on B) (Own.new w1 24 #[.bool b0, .slice A0 n0 c0, .slice D0 m0 e0])
  refine (rlarge_yes _ _ 1 1 _ hlens rfl (by decide) (by decide) (by decide) mi qi HMI.out HYI.out).mono ?_
  rintro e w2 ⟨rfl, P2⟩
  clear hlens B1 P1
  replace OB2 := And.intro OB2.1 (OB2.2.on P2)
  replace B := B.trans P2
  clear P2
  go_wp2_with fail
  refine (awake02 _ (hx.on B)).mono ?_
  rintro e w3 ⟨rfl, P3⟩
  go_wp2
  go_ret
  exact ⟨rfl, B.trans P3⟩
set_option maxRecDepth 100000 in
set_option maxHeartbeats 1600000 in
theorem back_long (w : World) (hx : MX w) (b0 : Bool) (A0 D0 : Option Addr) (n0 c0 m0 e0 : Nat) (x0 y0 : List Nat) (R0 : Rd w A0 n0 c0 x0) (S0 : Rd w D0 m0 e0 y0) (s : ByteArray) (hS : s.size ≤ 9223372036854775807) (hs : n0 ≤ 12 ∧ m0 ≤ 12) (hl : 200 < s.size) :
    Calls Try.prog 8 #[.agg #[.bool b0, .slice A0 n0 c0, .slice D0 m0 e0], .string s] w fun e w' => e = .returned (.bool true) ∧ On w w' := by
  have B : On w (w.alloc (.cells #[.bool b0, .slice A0 n0 c0, .slice D0 m0 e0] 24)) := On.alloc (On.refl w) _
  have OB2 : w.heap.size ≤ w.heap.size ∧ Own (w.alloc (.cells #[.bool b0, .slice A0 n0 c0, .slice D0 m0 e0] 24)) (w.heap.size) 24 #[.bool b0, .slice A0 n0 c0, .slice D0 m0 e0] := ⟨by omega, (Own.at_ w (w.heap.size) (by simp) 24 #[.bool b0, .slice A0 n0 c0, .slice D0 m0 e0])⟩
  go_enter Try.func8, Try.ntmps8
  go_wp2_with fail
  refine (awake02 _ (hx.on B)).mono ?_
  rintro e w1 ⟨rfl, P1⟩
  replace OB2 := And.intro OB2.1 (OB2.2.on P1)
  replace B := B.trans P1
  have y2_0 : w1.cell? ⟨w.heap.size, 0, none⟩ = some (.bool b0) := OB2.2.cell 0
  have y2_1 : w1.cell? ⟨w.heap.size, 1, none⟩ = some (.slice A0 n0 c0) := OB2.2.cell 1
  have y2_2 : w1.cell? ⟨w.heap.size, 2, none⟩ = some (.slice D0 m0 e0) := OB2.2.cell 2
  have y2_f0 := OB2.2.frozen 0
  have y2_f1 := OB2.2.frozen 1
  have y2_f2 := OB2.2.frozen 2
  go_wp2_with fail
  clear y2_0 y2_f0 y2_1 y2_f1 y2_2 y2_f2
  have B1 := (On.refl w1).alloc (.cells #[.bool b0, .slice A0 n0 c0, .slice D0 m0 e0] 24)
  replace OB2 := And.intro OB2.1 (OB2.2.on B1)
  replace B := B.trans B1
  have hlens := rlens1 b0 A0 D0 n0 c0 m0 e0 x0 y0 (R0.on B) (S0.on B) (Own.new w1 24 #[.bool b0, .slice A0 n0 c0, .slice D0 m0 e0])
  refine (rlarge_no _ _ 1 1 _ hlens rfl (by decide) (by decide) (by decide) (by simp; omega)).mono ?_
  rintro e w2 ⟨rfl, P2⟩
  clear hlens B1 P1
  replace OB2 := And.intro OB2.1 (OB2.2.on P2)
  replace B := B.trans P2
  clear P2
  go_wp2_with fail
  refine (awake02 _ (hx.on B)).mono ?_
  rintro e w3 ⟨rfl, P3⟩
  go_wp2
  go_ret
  exact ⟨rfl, B.trans P3⟩
set_option maxRecDepth 100000 in
set_option maxHeartbeats 1600000 in
theorem back_err (w : World) (hx : MX w) (b0 : Bool) (A0 D0 : Option Addr) (n0 c0 m0 e0 : Nat) (x0 y0 : List Nat) (R0 : Rd w A0 n0 c0 x0) (S0 : Rd w D0 m0 e0 y0) (s : ByteArray) (hS : s.size ≤ 9223372036854775807) (hs : n0 ≤ 12 ∧ m0 ≤ 12) (hl : s.size ≤ 200) (hp : ∀ w, MX w → Calls Try.prog 21 #[.string s] w (OptPost w none 200)) :
    Calls Try.prog 8 #[.agg #[.bool b0, .slice A0 n0 c0, .slice D0 m0 e0], .string s] w fun e w' => e = .returned (.bool true) ∧ On w w' := by
  have HPS := Lib.hid hp
  clear hp
  obtain ⟨r0, hr0⟩ : ∃ x, raw b0 x0 y0 = x := ⟨_, rfl⟩
  have F0 : Fld w (.agg #[.bool b0, .slice A0 n0 c0, .slice D0 m0 e0]) r0 12 := Fld.mk3 R0 S0 (by omega) (by omega) hr0
  clear hr0
  have B : On w (w.alloc (.cells #[.bool b0, .slice A0 n0 c0, .slice D0 m0 e0] 24)) := On.alloc (On.refl w) _
  have OB2 : w.heap.size ≤ w.heap.size ∧ Own (w.alloc (.cells #[.bool b0, .slice A0 n0 c0, .slice D0 m0 e0] 24)) (w.heap.size) 24 #[.bool b0, .slice A0 n0 c0, .slice D0 m0 e0] := ⟨by omega, (Own.at_ w (w.heap.size) (by simp) 24 #[.bool b0, .slice A0 n0 c0, .slice D0 m0 e0])⟩
  go_enter Try.func8, Try.ntmps8
  go_wp2_with fail
  refine (awake02 _ (hx.on B)).mono ?_
  rintro e w1 ⟨rfl, P1⟩
  replace OB2 := And.intro OB2.1 (OB2.2.on P1)
  replace B := B.trans P1
  have y2_0 : w1.cell? ⟨w.heap.size, 0, none⟩ = some (.bool b0) := OB2.2.cell 0
  have y2_1 : w1.cell? ⟨w.heap.size, 1, none⟩ = some (.slice A0 n0 c0) := OB2.2.cell 1
  have y2_2 : w1.cell? ⟨w.heap.size, 2, none⟩ = some (.slice D0 m0 e0) := OB2.2.cell 2
  have y2_f0 := OB2.2.frozen 0
  have y2_f1 := OB2.2.frozen 1
  have y2_f2 := OB2.2.frozen 2
  go_wp2_with fail
  clear y2_0 y2_f0 y2_1 y2_f1 y2_2 y2_f2
  have B1 := (On.refl w1).alloc (.cells #[.bool b0, .slice A0 n0 c0, .slice D0 m0 e0] 24)
  replace OB2 := And.intro OB2.1 (OB2.2.on B1)
  replace B := B.trans B1
  have hlens := rlens1 b0 A0 D0 n0 c0 m0 e0 x0 y0 (R0.on B) (S0.on B) (Own.new w1 24 #[.bool b0, .slice A0 n0 c0, .slice D0 m0 e0])
  refine (rlarge_no _ _ 1 1 _ hlens rfl (by decide) (by decide) (by decide) (by simp; omega)).mono ?_
  rintro e w2 ⟨rfl, P2⟩
  clear hlens B1 P1
  replace OB2 := And.intro OB2.1 (OB2.2.on P2)
  replace B := B.trans P2
  clear P2
  have y2_0 : w2.cell? ⟨w.heap.size, 0, none⟩ = some (.bool b0) := OB2.2.cell 0
  have y2_1 : w2.cell? ⟨w.heap.size, 1, none⟩ = some (.slice A0 n0 c0) := OB2.2.cell 1
  have y2_2 : w2.cell? ⟨w.heap.size, 2, none⟩ = some (.slice D0 m0 e0) := OB2.2.cell 2
  have y2_f0 := OB2.2.frozen 0
  have y2_f1 := OB2.2.frozen 1
  have y2_f2 := OB2.2.frozen 2
  have hx2 := hx.on B
  go_wp2_with fail
  refine (fld_text _ _ r0 12 (F0.on B) (by decide) (by decide)).mono ?_
  rintro e w3 ⟨bs, rfl, HT, P3⟩
  have hbl := rtx_len F0 HT
  go_wp2_with fail
  refine (parse_text _ (hx2.on P3) r0 bs HT hbl).mono ?_
  rintro e w4 ⟨v4, rfl, I5, P4⟩
  obtain ⟨Q1, Qn, Qc, _, Q2, Qm, Qd, _, rfl, _⟩ := id I5
  clear HT hbl
  clear y2_0 y2_f0 y2_1 y2_f1 y2_2 y2_f2
  replace OB2 := And.intro OB2.1 (OB2.2.on P3)
  replace B := B.trans P3
  replace OB2 := And.intro OB2.1 (OB2.2.on P4)
  replace B := B.trans P4
  have PQ := (On.refl w4).alloc (.cells #[.bool (decide (r0 < 0)), .slice Q1 Qn Qc, .slice Q2 Qm Qd] 24)
  have OB5 := Own.new w4 24 #[.bool (decide (r0 < 0)), .slice Q1 Qn Qc, .slice Q2 Qm Qd]
  replace I5 := I5.on PQ
  replace OB2 := And.intro OB2.1 (OB2.2.on PQ)
  replace B := B.trans PQ
  clear P3 P4 PQ
  have q0 : (w4.alloc (.cells #[.bool (decide (r0 < 0)), .slice Q1 Qn Qc, .slice Q2 Qm Qd] 24)).cell? ⟨w4.heap.size, 0, none⟩ = some (.bool (decide (r0 < 0))) := OB5.cell 0
  have q1 : (w4.alloc (.cells #[.bool (decide (r0 < 0)), .slice Q1 Qn Qc, .slice Q2 Qm Qd] 24)).cell? ⟨w4.heap.size, 1, none⟩ = some (.slice Q1 Qn Qc) := OB5.cell 1
  have q2 : (w4.alloc (.cells #[.bool (decide (r0 < 0)), .slice Q1 Qn Qc, .slice Q2 Qm Qd] 24)).cell? ⟨w4.heap.size, 2, none⟩ = some (.slice Q2 Qm Qd) := OB5.cell 2
  go_wp2_with fail
  refine (valid_isR _ _ _ _ I5 (by decide)).mono ?_
  rintro e w5 ⟨rfl, P5⟩
  clear q0 q1 q2
  replace OB2 := And.intro OB2.1 (OB2.2.on P5)
  replace B := B.trans P5
  replace OB5 := OB5.on P5
  replace I5 := I5.on P5
  have q0 : w5.cell? ⟨w4.heap.size, 0, none⟩ = some (.bool (decide (r0 < 0))) := OB5.cell 0
  have q1 : w5.cell? ⟨w4.heap.size, 1, none⟩ = some (.slice Q1 Qn Qc) := OB5.cell 1
  have q2 : w5.cell? ⟨w4.heap.size, 2, none⟩ = some (.slice Q2 Qm Qd) := OB5.cell 2
  have y2_0 : w5.cell? ⟨w.heap.size, 0, none⟩ = some (.bool b0) := OB2.2.cell 0
  have y2_1 : w5.cell? ⟨w.heap.size, 1, none⟩ = some (.slice A0 n0 c0) := OB2.2.cell 1
  have y2_2 : w5.cell? ⟨w.heap.size, 2, none⟩ = some (.slice D0 m0 e0) := OB2.2.cell 2
  have y2_f0 := OB2.2.frozen 0
  have y2_f1 := OB2.2.frozen 1
  have y2_f2 := OB2.2.frozen 2
  go_wp2_with fail
  refine (cmpr_any _ _ _ _ _ 200 (IsR.fld I5) ((F0.on B).wide (by decide)) (by decide)).mono ?_
  rintro e w6 ⟨rfl, P6⟩
  rw [rsg_eq rfl]
  clear q0 q1 q2
  clear y2_0 y2_f0 y2_1 y2_f1 y2_2 y2_f2
  replace B := B.trans P6
  clear OB5 OB2 I5 P5 P6
  have hx6 := hx.on B
  go_wp2_with fail
  refine (HPS.out _ hx6).mono ?_
  rintro e w7 ⟨rfl, P7⟩
  have PZ := (On.refl w7).alloc (.cells #[.bool false, .slice none 0 0, .slice none 0 0] 24)
  have OZ := Own.new w7 24 #[.bool false, .slice none 0 0, .slice none 0 0]
  have z0 : (w7.alloc (.cells #[.bool false, .slice none 0 0, .slice none 0 0] 24)).cell? ⟨w7.heap.size, 0, none⟩ = some (.bool false) := OZ.cell 0
  have z1 : (w7.alloc (.cells #[.bool false, .slice none 0 0, .slice none 0 0] 24)).cell? ⟨w7.heap.size, 1, none⟩ = some (.slice none 0 0) := OZ.cell 1
  have z2 : (w7.alloc (.cells #[.bool false, .slice none 0 0, .slice none 0 0] 24)).cell? ⟨w7.heap.size, 2, none⟩ = some (.slice none 0 0) := OZ.cell 2
  go_wp2_with fail
  refine (signr_any _ _ 0 12 (IsR.fld (isR_zero _ _)) (by decide)).mono ?_
  rintro e w8 ⟨rfl, P8⟩
  rw [show rsg 0 = 0 from (rsg_zero_iff 0).2 rfl]
  go_wp2
  go_ret
  exact ⟨rfl, ((B.trans P7).trans PZ).trans P8⟩
set_option maxRecDepth 100000 in
set_option maxHeartbeats 1600000 in
theorem back_dot (w : World) (hx : MX w) (b0 : Bool) (A0 D0 : Option Addr) (n0 c0 m0 e0 : Nat) (x0 y0 : List Nat) (R0 : Rd w A0 n0 c0 x0) (S0 : Rd w D0 m0 e0 y0) (s : ByteArray) (hS : s.size ≤ 9223372036854775807) (hs : n0 ≤ 12 ∧ m0 ≤ 12) (hl : s.size ≤ 200) (r : Rat) (hp : ∀ w, MX w → Calls Try.prog 21 #[.string s] w (OptPost w (some r) 200)) (a b : List UInt8) (hab : s.data.toList = a ++ 46 :: b) (ha : 46 ∉ a) :
    Calls Try.prog 8 #[.agg #[.bool b0, .slice A0 n0 c0, .slice D0 m0 e0], .string s] w fun e w' => e = .returned (.bool true) ∧ On w w' := by
  have HPS := Lib.hid hp
  clear hp
  have HB : Hid (∀ k (hk : k < s.size), (k < a.length → ((s[k].toNat : Int) == 46) = false) ∧ (k = a.length → ((s[k].toNat : Int) == 46) = true)) := Lib.hid (dot_bytes s a b hab ha)
  have hal : a.length < s.size := by rw [← dl_len, hab]; simp <;> omega
  clear hab ha
  obtain ⟨r0, hr0⟩ : ∃ x, raw b0 x0 y0 = x := ⟨_, rfl⟩
  have F0 : Fld w (.agg #[.bool b0, .slice A0 n0 c0, .slice D0 m0 e0]) r0 12 := Fld.mk3 R0 S0 (by omega) (by omega) hr0
  clear hr0
  have B : On w (w.alloc (.cells #[.bool b0, .slice A0 n0 c0, .slice D0 m0 e0] 24)) := On.alloc (On.refl w) _
  have OB2 : w.heap.size ≤ w.heap.size ∧ Own (w.alloc (.cells #[.bool b0, .slice A0 n0 c0, .slice D0 m0 e0] 24)) (w.heap.size) 24 #[.bool b0, .slice A0 n0 c0, .slice D0 m0 e0] := ⟨by omega, (Own.at_ w (w.heap.size) (by simp) 24 #[.bool b0, .slice A0 n0 c0, .slice D0 m0 e0])⟩
  go_enter Try.func8, Try.ntmps8
  go_wp2_with fail
  refine (awake02 _ (hx.on B)).mono ?_
  rintro e w1 ⟨rfl, P1⟩
  replace OB2 := And.intro OB2.1 (OB2.2.on P1)
  replace B := B.trans P1
  have y2_0 : w1.cell? ⟨w.heap.size, 0, none⟩ = some (.bool b0) := OB2.2.cell 0
  have y2_1 : w1.cell? ⟨w.heap.size, 1, none⟩ = some (.slice A0 n0 c0) := OB2.2.cell 1
  have y2_2 : w1.cell? ⟨w.heap.size, 2, none⟩ = some (.slice D0 m0 e0) := OB2.2.cell 2
  have y2_f0 := OB2.2.frozen 0
  have y2_f1 := OB2.2.frozen 1
  have y2_f2 := OB2.2.frozen 2
  go_wp2_with fail
  clear y2_0 y2_f0 y2_1 y2_f1 y2_2 y2_f2
  have B1 := (On.refl w1).alloc (.cells #[.bool b0, .slice A0 n0 c0, .slice D0 m0 e0] 24)
  replace OB2 := And.intro OB2.1 (OB2.2.on B1)
  replace B := B.trans B1
  have hlens := rlens1 b0 A0 D0 n0 c0 m0 e0 x0 y0 (R0.on B) (S0.on B) (Own.new w1 24 #[.bool b0, .slice A0 n0 c0, .slice D0 m0 e0])
  refine (rlarge_no _ _ 1 1 _ hlens rfl (by decide) (by decide) (by decide) (by simp; omega)).mono ?_
  rintro e w2 ⟨rfl, P2⟩
  clear hlens B1 P1
  replace OB2 := And.intro OB2.1 (OB2.2.on P2)
  replace B := B.trans P2
  clear P2
  have y2_0 : w2.cell? ⟨w.heap.size, 0, none⟩ = some (.bool b0) := OB2.2.cell 0
  have y2_1 : w2.cell? ⟨w.heap.size, 1, none⟩ = some (.slice A0 n0 c0) := OB2.2.cell 1
  have y2_2 : w2.cell? ⟨w.heap.size, 2, none⟩ = some (.slice D0 m0 e0) := OB2.2.cell 2
  have y2_f0 := OB2.2.frozen 0
  have y2_f1 := OB2.2.frozen 1
  have y2_f2 := OB2.2.frozen 2
  have hx2 := hx.on B
  go_wp2_with fail
  refine (fld_text _ _ r0 12 (F0.on B) (by decide) (by decide)).mono ?_
  rintro e w3 ⟨bs, rfl, HT, P3⟩
  have hbl := rtx_len F0 HT
  go_wp2_with fail
  refine (parse_text _ (hx2.on P3) r0 bs HT hbl).mono ?_
  rintro e w4 ⟨v4, rfl, I5, P4⟩
  obtain ⟨Q1, Qn, Qc, _, Q2, Qm, Qd, _, rfl, _⟩ := id I5
  clear HT hbl
  clear y2_0 y2_f0 y2_1 y2_f1 y2_2 y2_f2
  replace OB2 := And.intro OB2.1 (OB2.2.on P3)
  replace B := B.trans P3
  replace OB2 := And.intro OB2.1 (OB2.2.on P4)
  replace B := B.trans P4
  have PQ := (On.refl w4).alloc (.cells #[.bool (decide (r0 < 0)), .slice Q1 Qn Qc, .slice Q2 Qm Qd] 24)
  have OB5 := Own.new w4 24 #[.bool (decide (r0 < 0)), .slice Q1 Qn Qc, .slice Q2 Qm Qd]
  replace I5 := I5.on PQ
  replace OB2 := And.intro OB2.1 (OB2.2.on PQ)
  replace B := B.trans PQ
  clear P3 P4 PQ
  have q0 : (w4.alloc (.cells #[.bool (decide (r0 < 0)), .slice Q1 Qn Qc, .slice Q2 Qm Qd] 24)).cell? ⟨w4.heap.size, 0, none⟩ = some (.bool (decide (r0 < 0))) := OB5.cell 0
  have q1 : (w4.alloc (.cells #[.bool (decide (r0 < 0)), .slice Q1 Qn Qc, .slice Q2 Qm Qd] 24)).cell? ⟨w4.heap.size, 1, none⟩ = some (.slice Q1 Qn Qc) := OB5.cell 1
  have q2 : (w4.alloc (.cells #[.bool (decide (r0 < 0)), .slice Q1 Qn Qc, .slice Q2 Qm Qd] 24)).cell? ⟨w4.heap.size, 2, none⟩ = some (.slice Q2 Qm Qd) := OB5.cell 2
  go_wp2_with fail
  refine (valid_isR _ _ _ _ I5 (by decide)).mono ?_
  rintro e w5 ⟨rfl, P5⟩
  clear q0 q1 q2
  replace OB2 := And.intro OB2.1 (OB2.2.on P5)
  replace B := B.trans P5
  replace OB5 := OB5.on P5
  replace I5 := I5.on P5
  have q0 : w5.cell? ⟨w4.heap.size, 0, none⟩ = some (.bool (decide (r0 < 0))) := OB5.cell 0
  have q1 : w5.cell? ⟨w4.heap.size, 1, none⟩ = some (.slice Q1 Qn Qc) := OB5.cell 1
  have q2 : w5.cell? ⟨w4.heap.size, 2, none⟩ = some (.slice Q2 Qm Qd) := OB5.cell 2
  have y2_0 : w5.cell? ⟨w.heap.size, 0, none⟩ = some (.bool b0) := OB2.2.cell 0
  have y2_1 : w5.cell? ⟨w.heap.size, 1, none⟩ = some (.slice A0 n0 c0) := OB2.2.cell 1
  have y2_2 : w5.cell? ⟨w.heap.size, 2, none⟩ = some (.slice D0 m0 e0) := OB2.2.cell 2
  have y2_f0 := OB2.2.frozen 0
  have y2_f1 := OB2.2.frozen 1
  have y2_f2 := OB2.2.frozen 2
  go_wp2_with fail
  refine (cmpr_any _ _ _ _ _ 200 (IsR.fld I5) ((F0.on B).wide (by decide)) (by decide)).mono ?_
  rintro e w6 ⟨rfl, P6⟩
  rw [rsg_eq rfl]
  clear q0 q1 q2
  clear y2_0 y2_f0 y2_1 y2_f1 y2_2 y2_f2
  replace B := B.trans P6
  clear OB5 OB2 I5 P5 P6
  have hx6 := hx.on B
  go_wp2_with fail
  refine (HPS.out _ hx6).mono ?_
  rintro e w7 ⟨v7, rfl, I7, P7⟩
  obtain ⟨T1, Tn, Tc, _, T2, Tm, Td, _, rfl, _⟩ := id I7
  have PZ := (On.refl w7).alloc (.cells #[.bool (decide (r < 0)), .slice T1 Tn Tc, .slice T2 Tm Td] 24)
  have OZ := Own.new w7 24 #[.bool (decide (r < 0)), .slice T1 Tn Tc, .slice T2 Tm Td]
  replace I7 := I7.on PZ
  have BZ := (B.trans P7).trans PZ
  clear hx hx6 HPS F0 B P7
  go_wp2
  go_loop [9, 55] (fun p i => ∃ k : Nat, k ≤ s.size ∧ i = .int .i64 (k : Int) ∧ p = .bool (decide (a.length < k))) (fun _ i => s.size - (intOf i).toNat)
  case atStart => exact ⟨0, by omega, rfl, by simp⟩
  case round =>
    obtain ⟨k, hk, rfl, rfl⟩ := hrel
    by_cases hlt : k < s.size
    · have hb := HB.out k hlt
      rcases Nat.lt_trichotomy k a.length with h | h | h
      · have hd1 : decide (a.length < k) = false := decide_eq_false (by omega)
        have hd2 : decide (a.length < k + 1) = false := decide_eq_false (by omega)
        have hby := hb.1 h
        have HD2 := Lib.hid hd2
        clear hd2 hb
        rw [hd1]
        clear hd1
        go_wp2
        go_round
        case rel => exact ⟨k + 1, by omega, by go_num, by rw [HD2.out]⟩
        case measure => simp [intOf]; omega
      · have hd1 : decide (a.length < k) = false := decide_eq_false (by omega)
        have hd2 : decide (a.length < k + 1) = true := decide_eq_true (by omega)
        have hby := hb.2 h
        have HD2 := Lib.hid hd2
        clear hd2 hb h
        rw [hd1]
        clear hd1
        go_wp2
        go_round
        case rel => exact ⟨k + 1, by omega, by go_num, by rw [HD2.out]⟩
        case measure => simp [intOf]; omega
      · have hd1 : decide (a.length < k) = true := decide_eq_true (by omega)
        have hd2 : decide (a.length < k + 1) = true := decide_eq_true (by omega)
        have HD2 := Lib.hid hd2
        clear hd2 hb
        rw [hd1]
        clear hd1
        go_wp2
        go_round
        case rel => exact ⟨k + 1, by omega, by go_num, by rw [HD2.out]⟩
        case measure => simp [intOf]; omega
    · have hd1 : decide (a.length < k) = true := decide_eq_true (by omega)
      rw [hd1]
      clear hd1
      go_wp2
      go_ret
      exact ⟨rfl, BZ⟩
set_option maxRecDepth 100000 in
set_option maxHeartbeats 1600000 in
theorem back_txt (w : World) (hx : MX w) (b0 : Bool) (A0 D0 : Option Addr) (n0 c0 m0 e0 : Nat) (x0 y0 : List Nat) (R0 : Rd w A0 n0 c0 x0) (S0 : Rd w D0 m0 e0 y0) (s : ByteArray) (hS : s.size ≤ 9223372036854775807) (hs : n0 ≤ 12 ∧ m0 ≤ 12) (hl : s.size ≤ 200) (r : Rat) (hp : ∀ w, MX w → Calls Try.prog 21 #[.string s] w (OptPost w (some r) 200)) (hnd : 46 ∉ s.data.toList) (hrt : RTx r (bl s)) :
    Calls Try.prog 8 #[.agg #[.bool b0, .slice A0 n0 c0, .slice D0 m0 e0], .string s] w fun e w' => e = .returned (.bool true) ∧ On w w' := by
  have HPS := Lib.hid hp
  clear hp
  have HB : Hid (∀ k (hk : k < s.size), ((s[k].toNat : Int) == 46) = false) := Lib.hid (nodot_bytes s hnd)
  have HRT := Lib.hid hrt
  clear hnd hrt
  obtain ⟨r0, hr0⟩ : ∃ x, raw b0 x0 y0 = x := ⟨_, rfl⟩
  have F0 : Fld w (.agg #[.bool b0, .slice A0 n0 c0, .slice D0 m0 e0]) r0 12 := Fld.mk3 R0 S0 (by omega) (by omega) hr0
  clear hr0
  have B : On w (w.alloc (.cells #[.bool b0, .slice A0 n0 c0, .slice D0 m0 e0] 24)) := On.alloc (On.refl w) _
  have OB2 : w.heap.size ≤ w.heap.size ∧ Own (w.alloc (.cells #[.bool b0, .slice A0 n0 c0, .slice D0 m0 e0] 24)) (w.heap.size) 24 #[.bool b0, .slice A0 n0 c0, .slice D0 m0 e0] := ⟨by omega, (Own.at_ w (w.heap.size) (by simp) 24 #[.bool b0, .slice A0 n0 c0, .slice D0 m0 e0])⟩
  go_enter Try.func8, Try.ntmps8
  go_wp2_with fail
  refine (awake02 _ (hx.on B)).mono ?_
  rintro e w1 ⟨rfl, P1⟩
  replace OB2 := And.intro OB2.1 (OB2.2.on P1)
  replace B := B.trans P1
  have y2_0 : w1.cell? ⟨w.heap.size, 0, none⟩ = some (.bool b0) := OB2.2.cell 0
  have y2_1 : w1.cell? ⟨w.heap.size, 1, none⟩ = some (.slice A0 n0 c0) := OB2.2.cell 1
  have y2_2 : w1.cell? ⟨w.heap.size, 2, none⟩ = some (.slice D0 m0 e0) := OB2.2.cell 2
  have y2_f0 := OB2.2.frozen 0
  have y2_f1 := OB2.2.frozen 1
  have y2_f2 := OB2.2.frozen 2
  go_wp2_with fail
  clear y2_0 y2_f0 y2_1 y2_f1 y2_2 y2_f2
  have B1 := (On.refl w1).alloc (.cells #[.bool b0, .slice A0 n0 c0, .slice D0 m0 e0] 24)
  replace OB2 := And.intro OB2.1 (OB2.2.on B1)
  replace B := B.trans B1
  have hlens := rlens1 b0 A0 D0 n0 c0 m0 e0 x0 y0 (R0.on B) (S0.on B) (Own.new w1 24 #[.bool b0, .slice A0 n0 c0, .slice D0 m0 e0])
  refine (rlarge_no _ _ 1 1 _ hlens rfl (by decide) (by decide) (by decide) (by simp; omega)).mono ?_
  rintro e w2 ⟨rfl, P2⟩
  clear hlens B1 P1
  replace OB2 := And.intro OB2.1 (OB2.2.on P2)
  replace B := B.trans P2
  clear P2
  have y2_0 : w2.cell? ⟨w.heap.size, 0, none⟩ = some (.bool b0) := OB2.2.cell 0
  have y2_1 : w2.cell? ⟨w.heap.size, 1, none⟩ = some (.slice A0 n0 c0) := OB2.2.cell 1
  have y2_2 : w2.cell? ⟨w.heap.size, 2, none⟩ = some (.slice D0 m0 e0) := OB2.2.cell 2
  have y2_f0 := OB2.2.frozen 0
  have y2_f1 := OB2.2.frozen 1
  have y2_f2 := OB2.2.frozen 2
  have hx2 := hx.on B
  go_wp2_with fail
  refine (fld_text _ _ r0 12 (F0.on B) (by decide) (by decide)).mono ?_
  rintro e w3 ⟨bs, rfl, HT, P3⟩
  have hbl := rtx_len F0 HT
  go_wp2_with fail
  refine (parse_text _ (hx2.on P3) r0 bs HT hbl).mono ?_
  rintro e w4 ⟨v4, rfl, I5, P4⟩
  obtain ⟨Q1, Qn, Qc, _, Q2, Qm, Qd, _, rfl, _⟩ := id I5
  clear HT hbl
  clear y2_0 y2_f0 y2_1 y2_f1 y2_2 y2_f2
  replace OB2 := And.intro OB2.1 (OB2.2.on P3)
  replace B := B.trans P3
  replace OB2 := And.intro OB2.1 (OB2.2.on P4)
  replace B := B.trans P4
  have PQ := (On.refl w4).alloc (.cells #[.bool (decide (r0 < 0)), .slice Q1 Qn Qc, .slice Q2 Qm Qd] 24)
  have OB5 := Own.new w4 24 #[.bool (decide (r0 < 0)), .slice Q1 Qn Qc, .slice Q2 Qm Qd]
  replace I5 := I5.on PQ
  replace OB2 := And.intro OB2.1 (OB2.2.on PQ)
  replace B := B.trans PQ
  clear P3 P4 PQ
  have q0 : (w4.alloc (.cells #[.bool (decide (r0 < 0)), .slice Q1 Qn Qc, .slice Q2 Qm Qd] 24)).cell? ⟨w4.heap.size, 0, none⟩ = some (.bool (decide (r0 < 0))) := OB5.cell 0
  have q1 : (w4.alloc (.cells #[.bool (decide (r0 < 0)), .slice Q1 Qn Qc, .slice Q2 Qm Qd] 24)).cell? ⟨w4.heap.size, 1, none⟩ = some (.slice Q1 Qn Qc) := OB5.cell 1
  have q2 : (w4.alloc (.cells #[.bool (decide (r0 < 0)), .slice Q1 Qn Qc, .slice Q2 Qm Qd] 24)).cell? ⟨w4.heap.size, 2, none⟩ = some (.slice Q2 Qm Qd) := OB5.cell 2
  go_wp2_with fail
  refine (valid_isR _ _ _ _ I5 (by decide)).mono ?_
  rintro e w5 ⟨rfl, P5⟩
  clear q0 q1 q2
  replace OB2 := And.intro OB2.1 (OB2.2.on P5)
  replace B := B.trans P5
  replace OB5 := OB5.on P5
  replace I5 := I5.on P5
  have q0 : w5.cell? ⟨w4.heap.size, 0, none⟩ = some (.bool (decide (r0 < 0))) := OB5.cell 0
  have q1 : w5.cell? ⟨w4.heap.size, 1, none⟩ = some (.slice Q1 Qn Qc) := OB5.cell 1
  have q2 : w5.cell? ⟨w4.heap.size, 2, none⟩ = some (.slice Q2 Qm Qd) := OB5.cell 2
  have y2_0 : w5.cell? ⟨w.heap.size, 0, none⟩ = some (.bool b0) := OB2.2.cell 0
  have y2_1 : w5.cell? ⟨w.heap.size, 1, none⟩ = some (.slice A0 n0 c0) := OB2.2.cell 1
  have y2_2 : w5.cell? ⟨w.heap.size, 2, none⟩ = some (.slice D0 m0 e0) := OB2.2.cell 2
  have y2_f0 := OB2.2.frozen 0
  have y2_f1 := OB2.2.frozen 1
  have y2_f2 := OB2.2.frozen 2
  go_wp2_with fail
  refine (cmpr_any _ _ _ _ _ 200 (IsR.fld I5) ((F0.on B).wide (by decide)) (by decide)).mono ?_
  rintro e w6 ⟨rfl, P6⟩
  rw [rsg_eq rfl]
  clear q0 q1 q2
  clear y2_0 y2_f0 y2_1 y2_f1 y2_2 y2_f2
  replace B := B.trans P6
  clear OB5 OB2 I5 P5 P6
  have hx6 := hx.on B
  go_wp2_with fail
  refine (HPS.out _ hx6).mono ?_
  rintro e w7 ⟨v7, rfl, I7, P7⟩
  obtain ⟨T1, Tn, Tc, _, T2, Tm, Td, _, rfl, _⟩ := id I7
  have PZ := (On.refl w7).alloc (.cells #[.bool (decide (r < 0)), .slice T1 Tn Tc, .slice T2 Tm Td] 24)
  have OZ := Own.new w7 24 #[.bool (decide (r < 0)), .slice T1 Tn Tc, .slice T2 Tm Td]
  replace I7 := I7.on PZ
  have BZ := (B.trans P7).trans PZ
  clear hx hx6 HPS F0 B P7
  go_wp2
  go_loop [9, 55] (fun p i => ∃ k : Nat, k ≤ s.size ∧ i = .int .i64 (k : Int) ∧ p = .bool false) (fun _ i => s.size - (intOf i).toNat)
  case atStart => exact ⟨0, by omega, rfl, rfl⟩
  case round =>
    obtain ⟨k, hk, rfl, rfl⟩ := hrel
    by_cases hlt : k < s.size
    · have hby := HB.out k hlt
      go_wp2
      go_round
      case rel => exact ⟨k + 1, by omega, by go_num, rfl⟩
      case measure => simp [intOf]; omega
    · have z0 : (w7.alloc (.cells #[.bool (decide (r < 0)), .slice T1 Tn Tc, .slice T2 Tm Td] 24)).cell? ⟨w7.heap.size, 0, none⟩ = some (.bool (decide (r < 0))) := OZ.cell 0
      have z1 : (w7.alloc (.cells #[.bool (decide (r < 0)), .slice T1 Tn Tc, .slice T2 Tm Td] 24)).cell? ⟨w7.heap.size, 1, none⟩ = some (.slice T1 Tn Tc) := OZ.cell 1
      have z2 : (w7.alloc (.cells #[.bool (decide (r < 0)), .slice T1 Tn Tc, .slice T2 Tm Td] 24)).cell? ⟨w7.heap.size, 2, none⟩ = some (.slice T2 Tm Td) := OZ.cell 2
      go_wp2_with fail
      refine (fld_text _ _ r 200 (IsR.fld I7) (by decide) (by decide)).mono ?_
      rintro e w8 ⟨bs, rfl, HT, P8⟩
      have hbs : str bs = s := by rw [HT.unique HRT.out, str_bl']
      rw [hbs]
      clear hbs HT
      go_wp2
      go_ret
      exact ⟨rfl, BZ.trans P8⟩
theorem back_any (w : World) (hx : MX w) (b0 : Bool) (A0 D0 : Option Addr) (n0 c0 m0 e0 : Nat) (x0 y0 : List Nat) (R0 : Rd w A0 n0 c0 x0) (S0 : Rd w D0 m0 e0 y0) (s : ByteArray) (hS : s.size ≤ 9223372036854775807) :
    Calls Try.prog 8 #[.agg #[.bool b0, .slice A0 n0 c0, .slice D0 m0 e0], .string s] w fun e w' => e = .returned (.bool true) ∧ On w w' := by
  by_cases hs : n0 ≤ 12 ∧ m0 ≤ 12
  · by_cases hl : s.size ≤ 200
    · obtain ⟨o, hk, hp⟩ := parse_kind s (by omega)
      rcases hk with rfl | ⟨r, rfl, a, b, hab, ha⟩ | ⟨r, rfl, hnd, hrt⟩
      · exact back_err w hx b0 A0 D0 n0 c0 m0 e0 x0 y0 R0 S0 s hS hs hl hp
      · exact back_dot w hx b0 A0 D0 n0 c0 m0 e0 x0 y0 R0 S0 s hS hs hl r hp a b hab ha
      · exact back_txt w hx b0 A0 D0 n0 c0 m0 e0 x0 y0 R0 S0 s hS hs hl r hp hnd hrt
    · exact back_long w hx b0 A0 D0 n0 c0 m0 e0 x0 y0 R0 S0 s hS hs (by omega)
  · exact back_largeA w hx b0 A0 D0 n0 c0 m0 e0 x0 y0 R0 S0 s hS 0 (n0, m0) rfl (by show 12 < n0 ∨ 12 < m0; omega)
end Num
end Go.Proofs.Ytikmjlaeadockaa
