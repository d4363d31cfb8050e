/-
  The specification's Div of spans.
-/
import Derived.Test.YtkchpagjkgmpmaaGreatSrm
import Derived.Test.YtkchpagjkgmpmaaGreatSrj
namespace Go.Proofs.YtkchpagjkgmpmaaGreat
open Go.RowKit
set_option linter.unusedVariables false
namespace Num
theorem inv_le_inv {a b : Rat} (h : a ≤ b) (z : ¬ (a ≤ 0 ∧ 0 ≤ b)) : b⁻¹ ≤ a⁻¹ := by
  have ha : a ≠ 0 := by grind
  have hb : b ≠ 0 := by grind
  have hs : 0 < a * b := by
    by_cases c : 0 < a
    · exact Rat.mul_pos c (by grind)
    · have := Rat.mul_pos (a := -a) (b := -b) (by grind) (by grind)
      grind
  have hi : 0 ≤ (a * b)⁻¹ := Rat.le_of_lt (Rat.inv_pos.2 hs)
  have e1 : a * (a * b)⁻¹ = b⁻¹ := by rw [Rat.inv_mul_rev, Rat.mul_comm b⁻¹, ← Rat.mul_assoc, Rat.mul_inv_cancel _ ha, Rat.one_mul]
  have e2 : b * (a * b)⁻¹ = a⁻¹ := by rw [Rat.inv_mul_rev, ← Rat.mul_assoc, Rat.mul_inv_cancel _ hb, Rat.one_mul]
  have := Rat.mul_le_mul_of_nonneg_right h hi
  rwa [e1, e2] at this
theorem own_ne {w : World} {g g' : Nat} {t t' : TypeId} {c c' : Array Value} (h : Own w g t c) (k : Own w g' t' c') (hs : c.size ≠ c'.size) : g ≠ g' := by
  intro e
  subst e
  have e := h.symm.trans k
  injection e with e
  injection e with e1 e2
  exact hs (by rw [e1])
/-- a struct that counts as a span without 0 is one -/
theorem Sp.isS {w : World} {v : Value} {lo hi : Rat} {L : Nat} (h : Sp w v lo hi L) (z : ¬ (lo ≤ 0 ∧ 0 ≤ hi)) : IsS w v lo hi L := by
  obtain ⟨p, q, f, h1, h2, h3⟩ := h
  cases f
  · exfalso; subst h2; subst h3; exact z ⟨Rat.le_refl, Rat.le_refl⟩
  · subst h2; subst h3; exact (raw_isS h1).1
theorem lo2i {a b : Rat} (h : b⁻¹ ≤ a⁻¹) : lowest a⁻¹ [b⁻¹] = b⁻¹ := by show rmin a⁻¹ b⁻¹ = b⁻¹; unfold rmin; grind
theorem hi2i {a b : Rat} (h : b⁻¹ ≤ a⁻¹) : highest a⁻¹ [b⁻¹] = a⁻¹ := by show rmax a⁻¹ b⁻¹ = a⁻¹; unfold rmax; grind
set_option maxRecDepth 100000 in
set_option maxHeartbeats 1600000 in
theorem rdiv3_zero (w : World) (v v' : Value) (lo hi lo' hi' : Rat) (L : Nat) (h : Sp w v lo hi L) (k : Sp w v' lo' hi' L) (hL2 : 2 ≤ L) (hL : L ≤ 100) (hz : lo' ≤ 0 ∧ 0 ≤ hi') :
    Calls Tryz.prog 33 #[v, v'] w (SpPost2 w 0 0 2 (.int .i64 8)) := by
  have HC : Hid ((decide (lo' ≤ 0) && decide (0 ≤ hi')) = true) := Lib.hid (by rw [decide_eq_true hz.1, decide_eq_true hz.2]; rfl)
  clear hz
  obtain ⟨ba0, Aa0, na0, ca0, Ba0, ma0, oa0, bb0, Ab0, nb0, cb0, Bb0, mb0, ob0, rfl⟩ := h.form
  obtain ⟨ba1, Aa1, na1, ca1, Ba1, ma1, oa1, bb1, Ab1, nb1, cb1, Bb1, mb1, ob1, rfl⟩ := k.form
  have B : On w (((w.alloc (.cells #[.bool ba0, .slice Aa0 na0 ca0, .slice Ba0 ma0 oa0, .bool bb0, .slice Ab0 nb0 cb0, .slice Bb0 mb0 ob0] 26)).alloc (.cells #[.bool ba1, .slice Aa1 na1 ca1, .slice Ba1 ma1 oa1, .bool bb1, .slice Ab1 nb1 cb1, .slice Bb1 mb1 ob1] 26)).alloc (.cells #[.bool false, .slice none 0 0, .slice none 0 0, .bool false, .slice none 0 0, .slice none 0 0] 26)) := On.alloc (On.alloc (On.alloc (On.refl w) _) _) _
  have OB2 : w.heap.size ≤ w.heap.size ∧ Own (((w.alloc (.cells #[.bool ba0, .slice Aa0 na0 ca0, .slice Ba0 ma0 oa0, .bool bb0, .slice Ab0 nb0 cb0, .slice Bb0 mb0 ob0] 26)).alloc (.cells #[.bool ba1, .slice Aa1 na1 ca1, .slice Ba1 ma1 oa1, .bool bb1, .slice Ab1 nb1 cb1, .slice Bb1 mb1 ob1] 26)).alloc (.cells #[.bool false, .slice none 0 0, .slice none 0 0, .bool false, .slice none 0 0, .slice none 0 0] 26)) (w.heap.size) 26 #[.bool ba0, .slice Aa0 na0 ca0, .slice Ba0 ma0 oa0, .bool bb0, .slice Ab0 nb0 cb0, .slice Bb0 mb0 ob0] := ⟨by omega, (((Own.at_ w (w.heap.size) (by simp) 26 #[.bool ba0, .slice Aa0 na0 ca0, .slice Ba0 ma0 oa0, .bool bb0, .slice Ab0 nb0 cb0, .slice Bb0 mb0 ob0]).alloc (.cells #[.bool ba1, .slice Aa1 na1 ca1, .slice Ba1 ma1 oa1, .bool bb1, .slice Ab1 nb1 cb1, .slice Bb1 mb1 ob1] 26)).alloc (.cells #[.bool false, .slice none 0 0, .slice none 0 0, .bool false, .slice none 0 0, .slice none 0 0] 26))⟩
  have OB3 : w.heap.size ≤ w.heap.size + 1 ∧ Own (((w.alloc (.cells #[.bool ba0, .slice Aa0 na0 ca0, .slice Ba0 ma0 oa0, .bool bb0, .slice Ab0 nb0 cb0, .slice Bb0 mb0 ob0] 26)).alloc (.cells #[.bool ba1, .slice Aa1 na1 ca1, .slice Ba1 ma1 oa1, .bool bb1, .slice Ab1 nb1 cb1, .slice Bb1 mb1 ob1] 26)).alloc (.cells #[.bool false, .slice none 0 0, .slice none 0 0, .bool false, .slice none 0 0, .slice none 0 0] 26)) (w.heap.size + 1) 26 #[.bool ba1, .slice Aa1 na1 ca1, .slice Ba1 ma1 oa1, .bool bb1, .slice Ab1 nb1 cb1, .slice Bb1 mb1 ob1] := ⟨by omega, ((Own.at_ (w.alloc (.cells #[.bool ba0, .slice Aa0 na0 ca0, .slice Ba0 ma0 oa0, .bool bb0, .slice Ab0 nb0 cb0, .slice Bb0 mb0 ob0] 26)) (w.heap.size + 1) (by simp) 26 #[.bool ba1, .slice Aa1 na1 ca1, .slice Ba1 ma1 oa1, .bool bb1, .slice Ab1 nb1 cb1, .slice Bb1 mb1 ob1]).alloc (.cells #[.bool false, .slice none 0 0, .slice none 0 0, .bool false, .slice none 0 0, .slice none 0 0] 26))⟩
  have OB4 : w.heap.size ≤ w.heap.size + 2 ∧ Own (((w.alloc (.cells #[.bool ba0, .slice Aa0 na0 ca0, .slice Ba0 ma0 oa0, .bool bb0, .slice Ab0 nb0 cb0, .slice Bb0 mb0 ob0] 26)).alloc (.cells #[.bool ba1, .slice Aa1 na1 ca1, .slice Ba1 ma1 oa1, .bool bb1, .slice Ab1 nb1 cb1, .slice Bb1 mb1 ob1] 26)).alloc (.cells #[.bool false, .slice none 0 0, .slice none 0 0, .bool false, .slice none 0 0, .slice none 0 0] 26)) (w.heap.size + 2) 26 #[.bool false, .slice none 0 0, .slice none 0 0, .bool false, .slice none 0 0, .slice none 0 0] := ⟨by omega, (Own.at_ ((w.alloc (.cells #[.bool ba0, .slice Aa0 na0 ca0, .slice Ba0 ma0 oa0, .bool bb0, .slice Ab0 nb0 cb0, .slice Bb0 mb0 ob0] 26)).alloc (.cells #[.bool ba1, .slice Aa1 na1 ca1, .slice Ba1 ma1 oa1, .bool bb1, .slice Ab1 nb1 cb1, .slice Bb1 mb1 ob1] 26)) (w.heap.size + 2) (by simp) 26 #[.bool false, .slice none 0 0, .slice none 0 0, .bool false, .slice none 0 0, .slice none 0 0])⟩
  go_enter Tryz.func33, Tryz.ntmps33
  have a3_0 : (((w.alloc (.cells #[.bool ba0, .slice Aa0 na0 ca0, .slice Ba0 ma0 oa0, .bool bb0, .slice Ab0 nb0 cb0, .slice Bb0 mb0 ob0] 26)).alloc (.cells #[.bool ba1, .slice Aa1 na1 ca1, .slice Ba1 ma1 oa1, .bool bb1, .slice Ab1 nb1 cb1, .slice Bb1 mb1 ob1] 26)).alloc (.cells #[.bool false, .slice none 0 0, .slice none 0 0, .bool false, .slice none 0 0, .slice none 0 0] 26)).cell? ⟨w.heap.size + 1, 0, none⟩ = some (.bool ba1) := OB3.2.cell 0
  have a3_1 : (((w.alloc (.cells #[.bool ba0, .slice Aa0 na0 ca0, .slice Ba0 ma0 oa0, .bool bb0, .slice Ab0 nb0 cb0, .slice Bb0 mb0 ob0] 26)).alloc (.cells #[.bool ba1, .slice Aa1 na1 ca1, .slice Ba1 ma1 oa1, .bool bb1, .slice Ab1 nb1 cb1, .slice Bb1 mb1 ob1] 26)).alloc (.cells #[.bool false, .slice none 0 0, .slice none 0 0, .bool false, .slice none 0 0, .slice none 0 0] 26)).cell? ⟨w.heap.size + 1, 1, none⟩ = some (.slice Aa1 na1 ca1) := OB3.2.cell 1
  have a3_2 : (((w.alloc (.cells #[.bool ba0, .slice Aa0 na0 ca0, .slice Ba0 ma0 oa0, .bool bb0, .slice Ab0 nb0 cb0, .slice Bb0 mb0 ob0] 26)).alloc (.cells #[.bool ba1, .slice Aa1 na1 ca1, .slice Ba1 ma1 oa1, .bool bb1, .slice Ab1 nb1 cb1, .slice Bb1 mb1 ob1] 26)).alloc (.cells #[.bool false, .slice none 0 0, .slice none 0 0, .bool false, .slice none 0 0, .slice none 0 0] 26)).cell? ⟨w.heap.size + 1, 2, none⟩ = some (.slice Ba1 ma1 oa1) := OB3.2.cell 2
  have a3_3 : (((w.alloc (.cells #[.bool ba0, .slice Aa0 na0 ca0, .slice Ba0 ma0 oa0, .bool bb0, .slice Ab0 nb0 cb0, .slice Bb0 mb0 ob0] 26)).alloc (.cells #[.bool ba1, .slice Aa1 na1 ca1, .slice Ba1 ma1 oa1, .bool bb1, .slice Ab1 nb1 cb1, .slice Bb1 mb1 ob1] 26)).alloc (.cells #[.bool false, .slice none 0 0, .slice none 0 0, .bool false, .slice none 0 0, .slice none 0 0] 26)).cell? ⟨w.heap.size + 1, 3, none⟩ = some (.bool bb1) := OB3.2.cell 3
  have a3_4 : (((w.alloc (.cells #[.bool ba0, .slice Aa0 na0 ca0, .slice Ba0 ma0 oa0, .bool bb0, .slice Ab0 nb0 cb0, .slice Bb0 mb0 ob0] 26)).alloc (.cells #[.bool ba1, .slice Aa1 na1 ca1, .slice Ba1 ma1 oa1, .bool bb1, .slice Ab1 nb1 cb1, .slice Bb1 mb1 ob1] 26)).alloc (.cells #[.bool false, .slice none 0 0, .slice none 0 0, .bool false, .slice none 0 0, .slice none 0 0] 26)).cell? ⟨w.heap.size + 1, 4, none⟩ = some (.slice Ab1 nb1 cb1) := OB3.2.cell 4
  have a3_5 : (((w.alloc (.cells #[.bool ba0, .slice Aa0 na0 ca0, .slice Ba0 ma0 oa0, .bool bb0, .slice Ab0 nb0 cb0, .slice Bb0 mb0 ob0] 26)).alloc (.cells #[.bool ba1, .slice Aa1 na1 ca1, .slice Ba1 ma1 oa1, .bool bb1, .slice Ab1 nb1 cb1, .slice Bb1 mb1 ob1] 26)).alloc (.cells #[.bool false, .slice none 0 0, .slice none 0 0, .bool false, .slice none 0 0, .slice none 0 0] 26)).cell? ⟨w.heap.size + 1, 5, none⟩ = some (.slice Bb1 mb1 ob1) := OB3.2.cell 5
  have a3_f0 := OB3.2.frozen 0
  have a3_f1 := OB3.2.frozen 1
  have a3_f2 := OB3.2.frozen 2
  have a3_f3 := OB3.2.frozen 3
  have a3_f4 := OB3.2.frozen 4
  have a3_f5 := OB3.2.frozen 5
  go_wp2_with fail
  refine (rcont3_any _ _ _ lo' hi' 0 L (k.on B) (IsR.fld (isR_zero _ _)) hL2 (by omega)).mono ?_
  rintro e w1 ⟨rfl, P1⟩
  rw [HC.out]
  replace OB2 := And.intro OB2.1 (OB2.2.on P1)
  replace OB3 := And.intro OB3.1 (OB3.2.on P1)
  replace OB4 := And.intro OB4.1 (OB4.2.on P1)
  replace B := B.trans P1
  clear a3_0 a3_f0 a3_1 a3_f1 a3_2 a3_f2 a3_3 a3_f3 a3_4 a3_f4 a3_5 a3_f5
  have c4_0 : w1.cell? ⟨w.heap.size + 2, 0, none⟩ = some (.bool false) := OB4.2.cell 0
  have c4_1 : w1.cell? ⟨w.heap.size + 2, 1, none⟩ = some (.slice none 0 0) := OB4.2.cell 1
  have c4_2 : w1.cell? ⟨w.heap.size + 2, 2, none⟩ = some (.slice none 0 0) := OB4.2.cell 2
  have c4_3 : w1.cell? ⟨w.heap.size + 2, 3, none⟩ = some (.bool false) := OB4.2.cell 3
  have c4_4 : w1.cell? ⟨w.heap.size + 2, 4, none⟩ = some (.slice none 0 0) := OB4.2.cell 4
  have c4_5 : w1.cell? ⟨w.heap.size + 2, 5, none⟩ = some (.slice none 0 0) := OB4.2.cell 5
  have c4_f0 := OB4.2.frozen 0
  have c4_f1 := OB4.2.frozen 1
  have c4_f2 := OB4.2.frozen 2
  have c4_f3 := OB4.2.frozen 3
  have c4_f4 := OB4.2.frozen 4
  have c4_f5 := OB4.2.frozen 5
  have hon := on6 (g := w.heap.size + 2) B (by omega) (.bool false) (.slice none 0 0) (.slice none 0 0) (.bool false) (.slice none 0 0) (.slice none 0 0)
  go_wp2
  exact bodyPost_ret (v := .tuple #[.agg #[.bool false, .slice none 0 0, .slice none 0 0, .bool false, .slice none 0 0, .slice none 0 0], .int .i64 8]) (by simp [results, Tryz.results33, go_sem, c4_0, c4_1, c4_2, c4_3, c4_4, c4_5]) rfl ⟨_, rfl, isS_zero _ _, by first | exact hon | exact B⟩
set_option maxRecDepth 100000 in
set_option maxHeartbeats 1600000 in
theorem rdiv3_ok (w : World) (v v' : Value) (lo hi lo' hi' : Rat) (L : Nat) (h : Sp w v lo hi L) (k : Sp w v' lo' hi' L) (hL2 : 2 ≤ L) (hL : L ≤ 100) (hz : ¬ (lo' ≤ 0 ∧ 0 ≤ hi')) :
    Calls Tryz.prog 33 #[v, v'] w (SpPost2 w (prodLo lo hi hi'⁻¹ lo'⁻¹) (prodHi lo hi hi'⁻¹ lo'⁻¹) (L + L + (L + L)) (.int .i64 0)) := by
  have HC : Hid ((decide (lo' ≤ 0) && decide (0 ≤ hi')) = false) := Lib.hid (by by_cases q : lo' ≤ 0; rw [decide_eq_true q, decide_eq_false (fun e => hz ⟨q, e⟩)]; rfl; rw [decide_eq_false q]; rfl)
  have hle := k.le
  have HN1 : Hid (lo' ≠ 0) := Lib.hid (fun e => hz ⟨by rw [e]; exact Rat.le_refl, by rw [e] at hle; exact hle⟩)
  have HN2 : Hid (hi' ≠ 0) := Lib.hid (fun e => hz ⟨by rw [e] at hle; exact hle, by rw [e]; exact Rat.le_refl⟩)
  have HI := Lib.hid (inv_le_inv hle hz)
  have KS := k.isS hz
  clear hle
  clear hz
  obtain ⟨ba0, Aa0, na0, ca0, Ba0, ma0, oa0, bb0, Ab0, nb0, cb0, Bb0, mb0, ob0, rfl⟩ := h.form
  obtain ⟨ba1, Aa1, na1, ca1, Ba1, ma1, oa1, bb1, Ab1, nb1, cb1, Bb1, mb1, ob1, rfl⟩ := k.form
  obtain ⟨zs, zA, zn, zc, zD, zm, ze, zt, zE, zp, zq, zF, zx, zy, ez, KL, KH⟩ := KS
  injection ez with ez
  injection ez with ez
  simp at ez
  obtain ⟨rfl, ⟨rfl, rfl, rfl⟩, ⟨rfl, rfl, rfl⟩, rfl, ⟨rfl, rfl, rfl⟩, rfl, rfl, rfl⟩ := ez
  have B : On w (((w.alloc (.cells #[.bool ba0, .slice Aa0 na0 ca0, .slice Ba0 ma0 oa0, .bool bb0, .slice Ab0 nb0 cb0, .slice Bb0 mb0 ob0] 26)).alloc (.cells #[.bool ba1, .slice Aa1 na1 ca1, .slice Ba1 ma1 oa1, .bool bb1, .slice Ab1 nb1 cb1, .slice Bb1 mb1 ob1] 26)).alloc (.cells #[.bool false, .slice none 0 0, .slice none 0 0, .bool false, .slice none 0 0, .slice none 0 0] 26)) := On.alloc (On.alloc (On.alloc (On.refl w) _) _) _
  have OB2 : w.heap.size ≤ w.heap.size ∧ Own (((w.alloc (.cells #[.bool ba0, .slice Aa0 na0 ca0, .slice Ba0 ma0 oa0, .bool bb0, .slice Ab0 nb0 cb0, .slice Bb0 mb0 ob0] 26)).alloc (.cells #[.bool ba1, .slice Aa1 na1 ca1, .slice Ba1 ma1 oa1, .bool bb1, .slice Ab1 nb1 cb1, .slice Bb1 mb1 ob1] 26)).alloc (.cells #[.bool false, .slice none 0 0, .slice none 0 0, .bool false, .slice none 0 0, .slice none 0 0] 26)) (w.heap.size) 26 #[.bool ba0, .slice Aa0 na0 ca0, .slice Ba0 ma0 oa0, .bool bb0, .slice Ab0 nb0 cb0, .slice Bb0 mb0 ob0] := ⟨by omega, (((Own.at_ w (w.heap.size) (by simp) 26 #[.bool ba0, .slice Aa0 na0 ca0, .slice Ba0 ma0 oa0, .bool bb0, .slice Ab0 nb0 cb0, .slice Bb0 mb0 ob0]).alloc (.cells #[.bool ba1, .slice Aa1 na1 ca1, .slice Ba1 ma1 oa1, .bool bb1, .slice Ab1 nb1 cb1, .slice Bb1 mb1 ob1] 26)).alloc (.cells #[.bool false, .slice none 0 0, .slice none 0 0, .bool false, .slice none 0 0, .slice none 0 0] 26))⟩
  have OB3 : w.heap.size ≤ w.heap.size + 1 ∧ Own (((w.alloc (.cells #[.bool ba0, .slice Aa0 na0 ca0, .slice Ba0 ma0 oa0, .bool bb0, .slice Ab0 nb0 cb0, .slice Bb0 mb0 ob0] 26)).alloc (.cells #[.bool ba1, .slice Aa1 na1 ca1, .slice Ba1 ma1 oa1, .bool bb1, .slice Ab1 nb1 cb1, .slice Bb1 mb1 ob1] 26)).alloc (.cells #[.bool false, .slice none 0 0, .slice none 0 0, .bool false, .slice none 0 0, .slice none 0 0] 26)) (w.heap.size + 1) 26 #[.bool ba1, .slice Aa1 na1 ca1, .slice Ba1 ma1 oa1, .bool bb1, .slice Ab1 nb1 cb1, .slice Bb1 mb1 ob1] := ⟨by omega, ((Own.at_ (w.alloc (.cells #[.bool ba0, .slice Aa0 na0 ca0, .slice Ba0 ma0 oa0, .bool bb0, .slice Ab0 nb0 cb0, .slice Bb0 mb0 ob0] 26)) (w.heap.size + 1) (by simp) 26 #[.bool ba1, .slice Aa1 na1 ca1, .slice Ba1 ma1 oa1, .bool bb1, .slice Ab1 nb1 cb1, .slice Bb1 mb1 ob1]).alloc (.cells #[.bool false, .slice none 0 0, .slice none 0 0, .bool false, .slice none 0 0, .slice none 0 0] 26))⟩
  have OB4 : w.heap.size ≤ w.heap.size + 2 ∧ Own (((w.alloc (.cells #[.bool ba0, .slice Aa0 na0 ca0, .slice Ba0 ma0 oa0, .bool bb0, .slice Ab0 nb0 cb0, .slice Bb0 mb0 ob0] 26)).alloc (.cells #[.bool ba1, .slice Aa1 na1 ca1, .slice Ba1 ma1 oa1, .bool bb1, .slice Ab1 nb1 cb1, .slice Bb1 mb1 ob1] 26)).alloc (.cells #[.bool false, .slice none 0 0, .slice none 0 0, .bool false, .slice none 0 0, .slice none 0 0] 26)) (w.heap.size + 2) 26 #[.bool false, .slice none 0 0, .slice none 0 0, .bool false, .slice none 0 0, .slice none 0 0] := ⟨by omega, (Own.at_ ((w.alloc (.cells #[.bool ba0, .slice Aa0 na0 ca0, .slice Ba0 ma0 oa0, .bool bb0, .slice Ab0 nb0 cb0, .slice Bb0 mb0 ob0] 26)).alloc (.cells #[.bool ba1, .slice Aa1 na1 ca1, .slice Ba1 ma1 oa1, .bool bb1, .slice Ab1 nb1 cb1, .slice Bb1 mb1 ob1] 26)) (w.heap.size + 2) (by simp) 26 #[.bool false, .slice none 0 0, .slice none 0 0, .bool false, .slice none 0 0, .slice none 0 0])⟩
  go_enter Tryz.func33, Tryz.ntmps33
  have a3_0 : (((w.alloc (.cells #[.bool ba0, .slice Aa0 na0 ca0, .slice Ba0 ma0 oa0, .bool bb0, .slice Ab0 nb0 cb0, .slice Bb0 mb0 ob0] 26)).alloc (.cells #[.bool ba1, .slice Aa1 na1 ca1, .slice Ba1 ma1 oa1, .bool bb1, .slice Ab1 nb1 cb1, .slice Bb1 mb1 ob1] 26)).alloc (.cells #[.bool false, .slice none 0 0, .slice none 0 0, .bool false, .slice none 0 0, .slice none 0 0] 26)).cell? ⟨w.heap.size + 1, 0, none⟩ = some (.bool ba1) := OB3.2.cell 0
  have a3_1 : (((w.alloc (.cells #[.bool ba0, .slice Aa0 na0 ca0, .slice Ba0 ma0 oa0, .bool bb0, .slice Ab0 nb0 cb0, .slice Bb0 mb0 ob0] 26)).alloc (.cells #[.bool ba1, .slice Aa1 na1 ca1, .slice Ba1 ma1 oa1, .bool bb1, .slice Ab1 nb1 cb1, .slice Bb1 mb1 ob1] 26)).alloc (.cells #[.bool false, .slice none 0 0, .slice none 0 0, .bool false, .slice none 0 0, .slice none 0 0] 26)).cell? ⟨w.heap.size + 1, 1, none⟩ = some (.slice Aa1 na1 ca1) := OB3.2.cell 1
  have a3_2 : (((w.alloc (.cells #[.bool ba0, .slice Aa0 na0 ca0, .slice Ba0 ma0 oa0, .bool bb0, .slice Ab0 nb0 cb0, .slice Bb0 mb0 ob0] 26)).alloc (.cells #[.bool ba1, .slice Aa1 na1 ca1, .slice Ba1 ma1 oa1, .bool bb1, .slice Ab1 nb1 cb1, .slice Bb1 mb1 ob1] 26)).alloc (.cells #[.bool false, .slice none 0 0, .slice none 0 0, .bool false, .slice none 0 0, .slice none 0 0] 26)).cell? ⟨w.heap.size + 1, 2, none⟩ = some (.slice Ba1 ma1 oa1) := OB3.2.cell 2
  have a3_3 : (((w.alloc (.cells #[.bool ba0, .slice Aa0 na0 ca0, .slice Ba0 ma0 oa0, .bool bb0, .slice Ab0 nb0 cb0, .slice Bb0 mb0 ob0] 26)).alloc (.cells #[.bool ba1, .slice Aa1 na1 ca1, .slice Ba1 ma1 oa1, .bool bb1, .slice Ab1 nb1 cb1, .slice Bb1 mb1 ob1] 26)).alloc (.cells #[.bool false, .slice none 0 0, .slice none 0 0, .bool false, .slice none 0 0, .slice none 0 0] 26)).cell? ⟨w.heap.size + 1, 3, none⟩ = some (.bool bb1) := OB3.2.cell 3
  have a3_4 : (((w.alloc (.cells #[.bool ba0, .slice Aa0 na0 ca0, .slice Ba0 ma0 oa0, .bool bb0, .slice Ab0 nb0 cb0, .slice Bb0 mb0 ob0] 26)).alloc (.cells #[.bool ba1, .slice Aa1 na1 ca1, .slice Ba1 ma1 oa1, .bool bb1, .slice Ab1 nb1 cb1, .slice Bb1 mb1 ob1] 26)).alloc (.cells #[.bool false, .slice none 0 0, .slice none 0 0, .bool false, .slice none 0 0, .slice none 0 0] 26)).cell? ⟨w.heap.size + 1, 4, none⟩ = some (.slice Ab1 nb1 cb1) := OB3.2.cell 4
  have a3_5 : (((w.alloc (.cells #[.bool ba0, .slice Aa0 na0 ca0, .slice Ba0 ma0 oa0, .bool bb0, .slice Ab0 nb0 cb0, .slice Bb0 mb0 ob0] 26)).alloc (.cells #[.bool ba1, .slice Aa1 na1 ca1, .slice Ba1 ma1 oa1, .bool bb1, .slice Ab1 nb1 cb1, .slice Bb1 mb1 ob1] 26)).alloc (.cells #[.bool false, .slice none 0 0, .slice none 0 0, .bool false, .slice none 0 0, .slice none 0 0] 26)).cell? ⟨w.heap.size + 1, 5, none⟩ = some (.slice Bb1 mb1 ob1) := OB3.2.cell 5
  have a3_f0 := OB3.2.frozen 0
  have a3_f1 := OB3.2.frozen 1
  have a3_f2 := OB3.2.frozen 2
  have a3_f3 := OB3.2.frozen 3
  have a3_f4 := OB3.2.frozen 4
  have a3_f5 := OB3.2.frozen 5
  go_wp2_with fail
  refine (rcont3_any _ _ _ lo' hi' 0 L (k.on B) (IsR.fld (isR_zero _ _)) hL2 (by omega)).mono ?_
  rintro e w1 ⟨rfl, P1⟩
  rw [HC.out]
  replace OB2 := And.intro OB2.1 (OB2.2.on P1)
  replace OB3 := And.intro OB3.1 (OB3.2.on P1)
  replace OB4 := And.intro OB4.1 (OB4.2.on P1)
  replace B := B.trans P1
  clear a3_0 a3_f0 a3_1 a3_f1 a3_2 a3_f2 a3_3 a3_f3 a3_4 a3_f4 a3_5 a3_f5
  have KL1 := IsR.fld KL
  have KH1 := IsR.fld KH
  clear P1 k KL KH
  go_wp2
  refine wp_region_facts (by kernel_rfl) w [Fact.rat (1) (2), Fact.eq (.pointer (some ⟨w.heap.size + 1, 0, none⟩)), Fact.eq (.agg #[.bool ba1, .slice Aa1 na1 ca1, .slice Ba1 ma1 oa1]), Fact.ratE (lo'⁻¹) (L + L) (.int .i64 0), Fact.ratE (lo'⁻¹) (L + L) (.int .i64 0), Fact.rat (lo'⁻¹) (L + L), Fact.eq (.int .i64 0), Fact.any, Fact.any, Fact.eq (.int .i64 0)] [Fact.any, Fact.any, Fact.any, Fact.rat (lo'⁻¹) (L + L)] [⟨10, 2, 26, 10, #[.bool ba0, .slice Aa0 na0 ca0, .slice Ba0 ma0 oa0, .bool bb0, .slice Ab0 nb0 cb0, .slice Bb0 mb0 ob0]⟩, ⟨10, 3, 26, 10, #[.bool ba1, .slice Aa1 na1 ca1, .slice Ba1 ma1 oa1, .bool bb1, .slice Ab1 nb1 cb1, .slice Bb1 mb1 ob1]⟩, ⟨10, 4, 26, 10, #[.bool false, .slice none 0 0, .slice none 0 0, .bool false, .slice none 0 0, .slice none 0 0]⟩, ⟨7, 6, 24, 8, #[.bool false, .slice none 0 0, .slice none 0 0]⟩] [w.heap.size, w.heap.size + 1, w.heap.size + 2] [none, none, none, none, none, none, some 6, some 7, none, none, none, none, none, none, some 14, some 15, some 16, some 17, some 18, some 19, some 20, none, none, none, none, none, none, none, none, none, none, none, none, none] (by kernel_rfl) (by kernel_rfl) (by kernel_rfl) rfl B ?_ ?_ ?_ ?_ ?_
  · exact ⟨fun _ => ⟨by simp, rfl, OB2⟩, fun _ => ⟨by simp, rfl, OB3⟩, fun _ => ⟨by simp, rfl, OB4⟩, fun h => absurd h (by decide), trivial⟩
  · exact .inr (by simp <;> omega)
  · exact ⟨⟨noWords_S _ _ _ _ _ _ _ _ _ _ _ _ _ _, (.inl (Nat.le_refl _)), (.inl (Nat.le_refl _))⟩, ⟨noWords_S _ _ _ _ _ _ _ _ _ _ _ _ _ _, (.inl (Nat.le_refl _)), (.inl (Nat.le_refl _))⟩, ⟨noWords_S _ _ _ _ _ _ _ _ _ _ _ _ _ _, (.inl (Nat.le_refl _)), (.inl (Nat.le_refl _))⟩, ⟨noWords_R _ _ _ _ _ _ _, (.inr ⟨fun _ _ => trivial, _, rfl, fun a w => ⟨rfl, do_value run_allocR⟩⟩), (.inr (store_ob (j := 5) (noWords_R _ _ _ _ _ _ _) rfl rfl rfl (by kernel_rfl) rfl rfl rfl))⟩, trivial⟩
  · refine ⟨?_, ?_, ?_, ?_, ?_, ?_, ?_, ?_, ?_, ?_, trivial⟩
    · refine .inr fun a w hp => ob_yes rfl ?_
      unfold Does
      go_simp
      refine (rofr_any _ 1 (by decide) (by decide)).mono ?_
      rintro e w' ⟨u, rfl, I8, P8⟩
      exact ⟨_, rfl, P8, I8⟩
    · exact .inr fun a w hp => ob_yes rfl (ob_fieldS0 (hp.box (k := 1) rfl (Nat.le_refl _) (.inl (Nat.le_refl _)) (by kernel_rfl) rfl).1 rfl)
    · exact .inr fun a w hp => ob_yes rfl (ob_loadLo (hp.fact 1 16 (by kernel_rfl) rfl) (hp.box (k := 1) rfl (Nat.le_refl _) (.inl (Nat.le_refl _)) (by kernel_rfl) rfl).2 rfl)
    · refine .inr fun a w hp => ob_yes rfl ?_
      have h15 : IsR w (a.tmps.getD 15 undef) (1) (2) := (hp.fact 0 15 (by kernel_rfl) rfl)
      obtain ⟨v15, e15⟩ : ∃ v, a.tmps.getD 15 undef = v := ⟨_, rfl⟩
      rw [e15] at h15
      have h17 : a.tmps.getD 17 undef = .agg #[.bool ba1, .slice Aa1 na1 ca1, .slice Ba1 ma1 oa1] := (hp.fact 2 17 (by kernel_rfl) rfl)
      unfold Does
      go_simp
      refine (sdiv_ok _ _ _ 1 lo' L ((IsR.fld h15).wide hL2) (KL1.on hp.on) hL2 (by omega) HN1.out).mono ?_
      rintro e w' ⟨u, rfl, I8, P8⟩
      rw [Rat.one_mul] at I8
      exact ⟨_, rfl, P8, _, rfl, I8⟩
    · exact .inr fun a w hp => ob_yes rfl (ob_move (hp.fact 3 18 (by kernel_rfl) rfl))
    · refine .inr fun a w hp => ob_yes rfl ?_
      obtain ⟨u, e, h⟩ : ∃ u, a.tmps.getD 14 undef = .tuple #[u, .int .i64 0] ∧ IsR w u (lo'⁻¹) (L + L) := (hp.fact 4 14 (by kernel_rfl) rfl)
      exact ob_ext0 e h
    · refine .inr fun a w hp => ob_yes rfl ?_
      obtain ⟨u, e, h⟩ : ∃ u, a.tmps.getD 14 undef = .tuple #[u, .int .i64 0] ∧ IsR w u (lo'⁻¹) (L + L) := (hp.fact 4 14 (by kernel_rfl) rfl)
      exact ob_ext1 e rfl
    · exact .inl rfl
    · exact .inl rfl
    · exact .inr fun a w hp => ob_yes rfl (ob_assign (hp.fact 6 20 (by kernel_rfl) rfl))
  · intro f wr hon hk hf hb hap
    obtain ⟨q0, q1, q2, q3, qz⟩ := hb
    clear qz
    have O2 : Own wr (w.heap.size) 26 #[.bool ba0, .slice Aa0 na0 ca0, .slice Ba0 ma0 oa0, .bool bb0, .slice Ab0 nb0 cb0, .slice Bb0 mb0 ob0] := q0
    have c2_0 : wr.cell? ⟨w.heap.size, 0, none⟩ = some (.bool ba0) := O2.cell 0
    have z2_0 := O2.frozen 0
    have c2_1 : wr.cell? ⟨w.heap.size, 1, none⟩ = some (.slice Aa0 na0 ca0) := O2.cell 1
    have z2_1 := O2.frozen 1
    have c2_2 : wr.cell? ⟨w.heap.size, 2, none⟩ = some (.slice Ba0 ma0 oa0) := O2.cell 2
    have z2_2 := O2.frozen 2
    have c2_3 : wr.cell? ⟨w.heap.size, 3, none⟩ = some (.bool bb0) := O2.cell 3
    have z2_3 := O2.frozen 3
    have c2_4 : wr.cell? ⟨w.heap.size, 4, none⟩ = some (.slice Ab0 nb0 cb0) := O2.cell 4
    have z2_4 := O2.frozen 4
    have c2_5 : wr.cell? ⟨w.heap.size, 5, none⟩ = some (.slice Bb0 mb0 ob0) := O2.cell 5
    have z2_5 := O2.frozen 5
    clear q0
    have O3 : Own wr (w.heap.size + 1) 26 #[.bool ba1, .slice Aa1 na1 ca1, .slice Ba1 ma1 oa1, .bool bb1, .slice Ab1 nb1 cb1, .slice Bb1 mb1 ob1] := q1
    have c3_0 : wr.cell? ⟨w.heap.size + 1, 0, none⟩ = some (.bool ba1) := O3.cell 0
    have z3_0 := O3.frozen 0
    have c3_1 : wr.cell? ⟨w.heap.size + 1, 1, none⟩ = some (.slice Aa1 na1 ca1) := O3.cell 1
    have z3_1 := O3.frozen 1
    have c3_2 : wr.cell? ⟨w.heap.size + 1, 2, none⟩ = some (.slice Ba1 ma1 oa1) := O3.cell 2
    have z3_2 := O3.frozen 2
    have c3_3 : wr.cell? ⟨w.heap.size + 1, 3, none⟩ = some (.bool bb1) := O3.cell 3
    have z3_3 := O3.frozen 3
    have c3_4 : wr.cell? ⟨w.heap.size + 1, 4, none⟩ = some (.slice Ab1 nb1 cb1) := O3.cell 4
    have z3_4 := O3.frozen 4
    have c3_5 : wr.cell? ⟨w.heap.size + 1, 5, none⟩ = some (.slice Bb1 mb1 ob1) := O3.cell 5
    have z3_5 := O3.frozen 5
    clear q1
    have O4 : Own wr (w.heap.size + 2) 26 #[.bool false, .slice none 0 0, .slice none 0 0, .bool false, .slice none 0 0, .slice none 0 0] := q2
    have c4_0 : wr.cell? ⟨w.heap.size + 2, 0, none⟩ = some (.bool false) := O4.cell 0
    have z4_0 := O4.frozen 0
    have c4_1 : wr.cell? ⟨w.heap.size + 2, 1, none⟩ = some (.slice none 0 0) := O4.cell 1
    have z4_1 := O4.frozen 1
    have c4_2 : wr.cell? ⟨w.heap.size + 2, 2, none⟩ = some (.slice none 0 0) := O4.cell 2
    have z4_2 := O4.frozen 2
    have c4_3 : wr.cell? ⟨w.heap.size + 2, 3, none⟩ = some (.bool false) := O4.cell 3
    have z4_3 := O4.frozen 3
    have c4_4 : wr.cell? ⟨w.heap.size + 2, 4, none⟩ = some (.slice none 0 0) := O4.cell 4
    have z4_4 := O4.frozen 4
    have c4_5 : wr.cell? ⟨w.heap.size + 2, 5, none⟩ = some (.slice none 0 0) := O4.cell 5
    have z4_5 := O4.frozen 5
    clear q2
    obtain ⟨g6, e6, G6, q3⟩ := q3
    change f 6 = _ at e6
    obtain ⟨cur6, O6, I6⟩ : ∃ cur, Own wr (g6) 24 cur ∧ IsR wr (.agg cur) (lo'⁻¹) (L + L) := q3
    obtain ⟨sl6, P6, Pn6, Pc6, R6, Rn6, Rc6, hz6⟩ := isR_form I6
    injection hz6 with hz6
    subst hz6
    have c6_0 : wr.cell? ⟨g6, 0, none⟩ = some (.bool sl6) := O6.cell 0
    have z6_0 := O6.frozen 0
    have c6_1 : wr.cell? ⟨g6, 1, none⟩ = some (.slice P6 Pn6 Pc6) := O6.cell 1
    have z6_1 := O6.frozen 1
    have c6_2 : wr.cell? ⟨g6, 2, none⟩ = some (.slice R6 Rn6 Rc6) := O6.cell 2
    have z6_2 := O6.frozen 2
    clear hf hap
    simp only [fillL]; simp only [e6]
    clear e6
    have m0 := own_ne O6 O2 (by simp)
    have m1 := own_ne O6 O3 (by simp)
    have m2 := own_ne O6 O4 (by simp)
    have OB2 : w.heap.size ≤ w.heap.size ∧ Own wr (w.heap.size) 26 #[.bool ba0, .slice Aa0 na0 ca0, .slice Ba0 ma0 oa0, .bool bb0, .slice Ab0 nb0 cb0, .slice Bb0 mb0 ob0] := ⟨by omega, O2⟩
    clear c2_0 z2_0 c2_1 z2_1 c2_2 z2_2 c2_3 z2_3 c2_4 z2_4 c2_5 z2_5 O2
    have OB3 : w.heap.size ≤ w.heap.size + 1 ∧ Own wr (w.heap.size + 1) 26 #[.bool ba1, .slice Aa1 na1 ca1, .slice Ba1 ma1 oa1, .bool bb1, .slice Ab1 nb1 cb1, .slice Bb1 mb1 ob1] := ⟨by omega, O3⟩
    clear c3_0 z3_0 c3_1 z3_1 c3_2 z3_2 c3_3 z3_3 c3_4 z3_4 c3_5 z3_5 O3
    have OB4 : w.heap.size ≤ w.heap.size + 2 ∧ Own wr (w.heap.size + 2) 26 #[.bool false, .slice none 0 0, .slice none 0 0, .bool false, .slice none 0 0, .slice none 0 0] := ⟨by omega, O4⟩
    clear c4_0 z4_0 c4_1 z4_1 c4_2 z4_2 c4_3 z4_3 c4_4 z4_4 c4_5 z4_5 O4
    clear c6_0 z6_0 c6_1 z6_1 c6_2 z6_2
    have OB6 : w.heap.size ≤ g6 ∧ Own wr g6 24 #[.bool sl6, .slice P6 Pn6 Pc6, .slice R6 Rn6 Rc6] := ⟨G6, O6⟩
    clear O6
    clear B
    have B := hon
    clear hon hk
    go_wp2
    refine wp_region_facts (by kernel_rfl) w [Fact.rat (1) (2), Fact.eq (.pointer (some ⟨w.heap.size + 1, 3, none⟩)), Fact.eq (.agg #[.bool bb1, .slice Ab1 nb1 cb1, .slice Bb1 mb1 ob1]), Fact.ratE (hi'⁻¹) (L + L) (.int .i64 0), Fact.ratE (hi'⁻¹) (L + L) (.int .i64 0), Fact.rat (hi'⁻¹) (L + L), Fact.eq (.int .i64 0), Fact.any, Fact.any, Fact.eq (.int .i64 0)] [Fact.any, Fact.any, Fact.any, Fact.any, Fact.rat (hi'⁻¹) (L + L)] [⟨10, 2, 26, 10, #[.bool ba0, .slice Aa0 na0 ca0, .slice Ba0 ma0 oa0, .bool bb0, .slice Ab0 nb0 cb0, .slice Bb0 mb0 ob0]⟩, ⟨10, 3, 26, 10, #[.bool ba1, .slice Aa1 na1 ca1, .slice Ba1 ma1 oa1, .bool bb1, .slice Ab1 nb1 cb1, .slice Bb1 mb1 ob1]⟩, ⟨10, 4, 26, 10, #[.bool false, .slice none 0 0, .slice none 0 0, .bool false, .slice none 0 0, .slice none 0 0]⟩, ⟨10, 6, 24, 10, #[.bool sl6, .slice P6 Pn6 Pc6, .slice R6 Rn6 Rc6]⟩, ⟨7, 8, 24, 8, #[.bool false, .slice none 0 0, .slice none 0 0]⟩] [w.heap.size, w.heap.size + 1, w.heap.size + 2, g6] [none, none, none, none, none, none, none, none, some 8, some 9, none, none, none, none, none, none, none, none, none, none, none, some 21, some 22, some 23, some 24, some 25, some 26, some 27, none, none, none, none, none, none] (by kernel_rfl) (by kernel_rfl) (by kernel_rfl) rfl B ?_ ?_ ?_ ?_ ?_
    · exact ⟨fun _ => ⟨by simp, rfl, OB2⟩, fun _ => ⟨by simp, rfl, OB3⟩, fun _ => ⟨by simp, rfl, OB4⟩, fun _ => ⟨by simp, rfl, OB6⟩, fun h => absurd h (by decide), trivial⟩
    · exact .inr (by simp <;> omega)
    · exact ⟨⟨noWords_S _ _ _ _ _ _ _ _ _ _ _ _ _ _, (.inl (Nat.le_refl _)), (.inl (Nat.le_refl _))⟩, ⟨noWords_S _ _ _ _ _ _ _ _ _ _ _ _ _ _, (.inl (Nat.le_refl _)), (.inl (Nat.le_refl _))⟩, ⟨noWords_S _ _ _ _ _ _ _ _ _ _ _ _ _ _, (.inl (Nat.le_refl _)), (.inl (Nat.le_refl _))⟩, ⟨noWords_R _ _ _ _ _ _ _, (.inl (Nat.le_refl _)), (.inl (Nat.le_refl _))⟩, ⟨noWords_R _ _ _ _ _ _ _, (.inr ⟨fun _ _ => trivial, _, rfl, fun a w => ⟨rfl, do_value run_allocR⟩⟩), (.inr (store_ob (j := 5) (noWords_R _ _ _ _ _ _ _) rfl rfl rfl (by kernel_rfl) rfl rfl rfl))⟩, trivial⟩
    · refine ⟨?_, ?_, ?_, ?_, ?_, ?_, ?_, ?_, ?_, ?_, trivial⟩
      · refine .inr fun a w hp => ob_yes rfl ?_
        unfold Does
        go_simp
        refine (rofr_any _ 1 (by decide) (by decide)).mono ?_
        rintro e w' ⟨u, rfl, I8, P8⟩
        exact ⟨_, rfl, P8, I8⟩
      · exact .inr fun a w hp => ob_yes rfl (ob_fieldS1 (hp.box (k := 1) rfl (Nat.le_refl _) (.inl (Nat.le_refl _)) (by kernel_rfl) rfl).1 rfl)
      · exact .inr fun a w hp => ob_yes rfl (ob_loadHi (hp.fact 1 23 (by kernel_rfl) rfl) (hp.box (k := 1) rfl (Nat.le_refl _) (.inl (Nat.le_refl _)) (by kernel_rfl) rfl).2 rfl)
      · refine .inr fun a w hp => ob_yes rfl ?_
        have h22 : IsR w (a.tmps.getD 22 undef) (1) (2) := (hp.fact 0 22 (by kernel_rfl) rfl)
        obtain ⟨v22, e22⟩ : ∃ v, a.tmps.getD 22 undef = v := ⟨_, rfl⟩
        rw [e22] at h22
        have h24 : a.tmps.getD 24 undef = .agg #[.bool bb1, .slice Ab1 nb1 cb1, .slice Bb1 mb1 ob1] := (hp.fact 2 24 (by kernel_rfl) rfl)
        unfold Does
        go_simp
        refine (sdiv_ok _ _ _ 1 hi' L ((IsR.fld h22).wide hL2) (KH1.on hp.on) hL2 (by omega) HN2.out).mono ?_
        rintro e w' ⟨u, rfl, I8, P8⟩
        rw [Rat.one_mul] at I8
        exact ⟨_, rfl, P8, _, rfl, I8⟩
      · exact .inr fun a w hp => ob_yes rfl (ob_move (hp.fact 3 25 (by kernel_rfl) rfl))
      · refine .inr fun a w hp => ob_yes rfl ?_
        obtain ⟨u, e, h⟩ : ∃ u, a.tmps.getD 21 undef = .tuple #[u, .int .i64 0] ∧ IsR w u (hi'⁻¹) (L + L) := (hp.fact 4 21 (by kernel_rfl) rfl)
        exact ob_ext0 e h
      · refine .inr fun a w hp => ob_yes rfl ?_
        obtain ⟨u, e, h⟩ : ∃ u, a.tmps.getD 21 undef = .tuple #[u, .int .i64 0] ∧ IsR w u (hi'⁻¹) (L + L) := (hp.fact 4 21 (by kernel_rfl) rfl)
        exact ob_ext1 e rfl
      · exact .inl rfl
      · exact .inl rfl
      · exact .inr fun a w hp => ob_yes rfl (ob_assign (hp.fact 6 27 (by kernel_rfl) rfl))
    · intro f wq hon hk hf hb hap
      obtain ⟨q0, q1, q2, q3, q4, qz⟩ := hb
      clear qz
      have O2 : Own wq (w.heap.size) 26 #[.bool ba0, .slice Aa0 na0 ca0, .slice Ba0 ma0 oa0, .bool bb0, .slice Ab0 nb0 cb0, .slice Bb0 mb0 ob0] := q0
      have c2_0 : wq.cell? ⟨w.heap.size, 0, none⟩ = some (.bool ba0) := O2.cell 0
      have z2_0 := O2.frozen 0
      have c2_1 : wq.cell? ⟨w.heap.size, 1, none⟩ = some (.slice Aa0 na0 ca0) := O2.cell 1
      have z2_1 := O2.frozen 1
      have c2_2 : wq.cell? ⟨w.heap.size, 2, none⟩ = some (.slice Ba0 ma0 oa0) := O2.cell 2
      have z2_2 := O2.frozen 2
      have c2_3 : wq.cell? ⟨w.heap.size, 3, none⟩ = some (.bool bb0) := O2.cell 3
      have z2_3 := O2.frozen 3
      have c2_4 : wq.cell? ⟨w.heap.size, 4, none⟩ = some (.slice Ab0 nb0 cb0) := O2.cell 4
      have z2_4 := O2.frozen 4
      have c2_5 : wq.cell? ⟨w.heap.size, 5, none⟩ = some (.slice Bb0 mb0 ob0) := O2.cell 5
      have z2_5 := O2.frozen 5
      clear q0
      have O3 : Own wq (w.heap.size + 1) 26 #[.bool ba1, .slice Aa1 na1 ca1, .slice Ba1 ma1 oa1, .bool bb1, .slice Ab1 nb1 cb1, .slice Bb1 mb1 ob1] := q1
      have c3_0 : wq.cell? ⟨w.heap.size + 1, 0, none⟩ = some (.bool ba1) := O3.cell 0
      have z3_0 := O3.frozen 0
      have c3_1 : wq.cell? ⟨w.heap.size + 1, 1, none⟩ = some (.slice Aa1 na1 ca1) := O3.cell 1
      have z3_1 := O3.frozen 1
      have c3_2 : wq.cell? ⟨w.heap.size + 1, 2, none⟩ = some (.slice Ba1 ma1 oa1) := O3.cell 2
      have z3_2 := O3.frozen 2
      have c3_3 : wq.cell? ⟨w.heap.size + 1, 3, none⟩ = some (.bool bb1) := O3.cell 3
      have z3_3 := O3.frozen 3
      have c3_4 : wq.cell? ⟨w.heap.size + 1, 4, none⟩ = some (.slice Ab1 nb1 cb1) := O3.cell 4
      have z3_4 := O3.frozen 4
      have c3_5 : wq.cell? ⟨w.heap.size + 1, 5, none⟩ = some (.slice Bb1 mb1 ob1) := O3.cell 5
      have z3_5 := O3.frozen 5
      clear q1
      have O4 : Own wq (w.heap.size + 2) 26 #[.bool false, .slice none 0 0, .slice none 0 0, .bool false, .slice none 0 0, .slice none 0 0] := q2
      have c4_0 : wq.cell? ⟨w.heap.size + 2, 0, none⟩ = some (.bool false) := O4.cell 0
      have z4_0 := O4.frozen 0
      have c4_1 : wq.cell? ⟨w.heap.size + 2, 1, none⟩ = some (.slice none 0 0) := O4.cell 1
      have z4_1 := O4.frozen 1
      have c4_2 : wq.cell? ⟨w.heap.size + 2, 2, none⟩ = some (.slice none 0 0) := O4.cell 2
      have z4_2 := O4.frozen 2
      have c4_3 : wq.cell? ⟨w.heap.size + 2, 3, none⟩ = some (.bool false) := O4.cell 3
      have z4_3 := O4.frozen 3
      have c4_4 : wq.cell? ⟨w.heap.size + 2, 4, none⟩ = some (.slice none 0 0) := O4.cell 4
      have z4_4 := O4.frozen 4
      have c4_5 : wq.cell? ⟨w.heap.size + 2, 5, none⟩ = some (.slice none 0 0) := O4.cell 5
      have z4_5 := O4.frozen 5
      clear q2
      have O6 : Own wq (g6) 24 #[.bool sl6, .slice P6 Pn6 Pc6, .slice R6 Rn6 Rc6] := q3
      have c6_0 : wq.cell? ⟨g6, 0, none⟩ = some (.bool sl6) := O6.cell 0
      have z6_0 := O6.frozen 0
      have c6_1 : wq.cell? ⟨g6, 1, none⟩ = some (.slice P6 Pn6 Pc6) := O6.cell 1
      have z6_1 := O6.frozen 1
      have c6_2 : wq.cell? ⟨g6, 2, none⟩ = some (.slice R6 Rn6 Rc6) := O6.cell 2
      have z6_2 := O6.frozen 2
      clear q3
      obtain ⟨g8, e8, G8, q4⟩ := q4
      change f 8 = _ at e8
      obtain ⟨cur8, O8, I8⟩ : ∃ cur, Own wq (g8) 24 cur ∧ IsR wq (.agg cur) (hi'⁻¹) (L + L) := q4
      obtain ⟨sl8, P8, Pn8, Pc8, R8, Rn8, Rc8, hz8⟩ := isR_form I8
      injection hz8 with hz8
      subst hz8
      have c8_0 : wq.cell? ⟨g8, 0, none⟩ = some (.bool sl8) := O8.cell 0
      have z8_0 := O8.frozen 0
      have c8_1 : wq.cell? ⟨g8, 1, none⟩ = some (.slice P8 Pn8 Pc8) := O8.cell 1
      have z8_1 := O8.frozen 1
      have c8_2 : wq.cell? ⟨g8, 2, none⟩ = some (.slice R8 Rn8 Rc8) := O8.cell 2
      have z8_2 := O8.frozen 2
      have n68 := hap_ne (hap 4 3 _ _ rfl rfl (by decide) (of_decide_eq_true (by kernel_rfl))) (by kernel_rfl) (by kernel_rfl) e8 rfl
      clear hf hap
      simp only [fillL]; simp only [e8]
      clear e8
      have q0 := own_ne O8 O2 (by simp)
      have q1 := own_ne O8 O3 (by simp)
      have q2 := own_ne O8 O4 (by simp)
      replace I6 := I6.kept hk
      have OB2 : w.heap.size ≤ w.heap.size ∧ Own wq (w.heap.size) 26 #[.bool ba0, .slice Aa0 na0 ca0, .slice Ba0 ma0 oa0, .bool bb0, .slice Ab0 nb0 cb0, .slice Bb0 mb0 ob0] := ⟨by omega, O2⟩
      clear c2_0 z2_0 c2_1 z2_1 c2_2 z2_2 c2_3 z2_3 c2_4 z2_4 c2_5 z2_5 O2
      have OB3 : w.heap.size ≤ w.heap.size + 1 ∧ Own wq (w.heap.size + 1) 26 #[.bool ba1, .slice Aa1 na1 ca1, .slice Ba1 ma1 oa1, .bool bb1, .slice Ab1 nb1 cb1, .slice Bb1 mb1 ob1] := ⟨by omega, O3⟩
      clear c3_0 z3_0 c3_1 z3_1 c3_2 z3_2 c3_3 z3_3 c3_4 z3_4 c3_5 z3_5 O3
      have OB4 : w.heap.size ≤ w.heap.size + 2 ∧ Own wq (w.heap.size + 2) 26 #[.bool false, .slice none 0 0, .slice none 0 0, .bool false, .slice none 0 0, .slice none 0 0] := ⟨by omega, O4⟩
      clear c4_0 z4_0 c4_1 z4_1 c4_2 z4_2 c4_3 z4_3 c4_4 z4_4 c4_5 z4_5 O4
      clear c6_0 z6_0 c6_1 z6_1 c6_2 z6_2 c8_0 z8_0 c8_1 z8_1 c8_2 z8_2
      have OB6' : w.heap.size ≤ g6 ∧ Own wq g6 24 #[.bool sl6, .slice P6 Pn6 Pc6, .slice R6 Rn6 Rc6] := ⟨OB6.1, O6⟩
      have OB8 : w.heap.size ≤ g8 ∧ Own wq g8 24 #[.bool sl8, .slice P8 Pn8 Pc8, .slice R8 Rn8 Rc8] := ⟨G8, O8⟩
      clear O6 O8 OB6
      have OB6 := OB6'
      clear OB6'
      clear B
      have B := hon
      clear hon hk
      go_wp2
      refine wp_region_facts (by kernel_rfl) w [Fact.eq (.agg #[.bool ba0, .slice Aa0 na0 ca0, .slice Ba0 ma0 oa0, .bool bb0, .slice Ab0 nb0 cb0, .slice Bb0 mb0 ob0]), Fact.eq (.agg #[.bool sl6, .slice P6 Pn6 Pc6, .slice R6 Rn6 Rc6]), Fact.eq (.agg #[.bool sl8, .slice P8 Pn8 Pc8, .slice R8 Rn8 Rc8]), Fact.frats [lo'⁻¹, hi'⁻¹] (L + L), Fact.sp (hi'⁻¹) (lo'⁻¹) (L + L), Fact.sp (prodLo lo hi hi'⁻¹ lo'⁻¹) (prodHi lo hi hi'⁻¹ lo'⁻¹) (L + L + (L + L)), Fact.any, Fact.eq (.int .i64 0)] [Fact.any, Fact.sp (prodLo lo hi hi'⁻¹ lo'⁻¹) (prodHi lo hi hi'⁻¹ lo'⁻¹) (L + L + (L + L)), Fact.any, Fact.any] [⟨8, 2, 26, 8, #[.bool ba0, .slice Aa0 na0 ca0, .slice Ba0 ma0 oa0, .bool bb0, .slice Ab0 nb0 cb0, .slice Bb0 mb0 ob0]⟩, ⟨8, 4, 26, 6, #[.bool false, .slice none 0 0, .slice none 0 0, .bool false, .slice none 0 0, .slice none 0 0]⟩, ⟨8, 6, 24, 8, #[.bool sl6, .slice P6 Pn6 Pc6, .slice R6 Rn6 Rc6]⟩, ⟨8, 8, 24, 8, #[.bool sl8, .slice P8 Pn8 Pc8, .slice R8 Rn8 Rc8]⟩] [w.heap.size, w.heap.size + 2, g6, g8] [none, none, none, none, none, some 5, none, none, none, none, none, none, none, none, none, none, none, none, none, none, none, none, none, none, none, none, none, none, some 28, some 29, some 30, some 31, some 32, some 33] (by kernel_rfl) (by kernel_rfl) (by kernel_rfl) rfl B ?_ ?_ ?_ ?_ ?_
      · exact ⟨fun _ => ⟨by simp, rfl, OB2⟩, fun _ => ⟨by simp, rfl, OB4⟩, fun _ => ⟨by simp, rfl, OB6⟩, fun _ => ⟨by simp, rfl, OB8⟩, trivial⟩
      · exact .inr (by simp <;> omega)
      · exact ⟨⟨noWords_S _ _ _ _ _ _ _ _ _ _ _ _ _ _, (.inl (Nat.le_refl _)), (.inl (Nat.le_refl _))⟩, ⟨noWords_S _ _ _ _ _ _ _ _ _ _ _ _ _ _, (.inl (Nat.le_refl _)), (.inr (store_obS (j := 5) (noWords_S _ _ _ _ _ _ _ _ _ _ _ _ _ _) rfl rfl rfl (by kernel_rfl) rfl rfl rfl))⟩, ⟨noWords_R _ _ _ _ _ _ _, (.inl (Nat.le_refl _)), (.inl (Nat.le_refl _))⟩, ⟨noWords_R _ _ _ _ _ _ _, (.inl (Nat.le_refl _)), (.inl (Nat.le_refl _))⟩, trivial⟩
      · refine ⟨?_, ?_, ?_, ?_, ?_, ?_, ?_, ?_, trivial⟩
        · exact .inr fun a w hp => ob_yes rfl (ob_loadSp (hp.box (k := 0) rfl (Nat.le_refl _) (.inl (Nat.le_refl _)) (by kernel_rfl) rfl).1 (hp.box (k := 0) rfl (Nat.le_refl _) (.inl (Nat.le_refl _)) (by kernel_rfl) rfl).2 rfl)
        · exact .inr fun a w hp => ob_yes rfl (ob_loadR (hp.box (k := 2) rfl (Nat.le_refl _) (.inl (Nat.le_refl _)) (by kernel_rfl) rfl).1 (hp.box (k := 2) rfl (Nat.le_refl _) (.inl (Nat.le_refl _)) (by kernel_rfl) rfl).2 rfl)
        · exact .inr fun a w hp => ob_yes rfl (ob_loadR (hp.box (k := 3) rfl (Nat.le_refl _) (.inl (Nat.le_refl _)) (by kernel_rfl) rfl).1 (hp.box (k := 3) rfl (Nat.le_refl _) (.inl (Nat.le_refl _)) (by kernel_rfl) rfl).2 rfl)
        · refine .inr fun a w hp => ob_yes rfl ?_
          have h29 : a.tmps.getD 29 undef = .agg #[.bool sl6, .slice P6 Pn6 Pc6, .slice R6 Rn6 Rc6] := (hp.fact 1 29 (by kernel_rfl) rfl)
          have h30 : a.tmps.getD 30 undef = .agg #[.bool sl8, .slice P8 Pn8 Pc8, .slice R8 Rn8 Rc8] := (hp.fact 2 30 (by kernel_rfl) rfl)
          exact ob_build2 h29 h30 (IsR.fld (I6.kept hp.kept)) (IsR.fld (I8.kept hp.kept)) (fun _ _ h => h)
        · refine .inr fun a w hp => ob_yes rfl ?_
          obtain ⟨g31, e31, h31⟩ : ∃ g, a.tmps.getD 31 undef = .slice (some ⟨g, 0, none⟩) 2 2 ∧ FRats w g [lo'⁻¹, hi'⁻¹] (L + L) := (hp.fact 3 31 (by kernel_rfl) rfl)
          unfold Does
          go_simp
          refine (raround3_any _ lo'⁻¹ [hi'⁻¹] g31 2 (L + L) h31 (by omega) (by omega) (by simp) (by decide)).mono ?_
          rw [lo2i HI.out, hi2i HI.out]
          rintro e w' ⟨u, rfl, I9, P9⟩
          exact ⟨_, rfl, P9, I9⟩
        · refine .inr fun a w hp => ob_yes rfl ?_
          have h28 : a.tmps.getD 28 undef = .agg #[.bool ba0, .slice Aa0 na0 ca0, .slice Ba0 ma0 oa0, .bool bb0, .slice Ab0 nb0 cb0, .slice Bb0 mb0 ob0] := (hp.fact 0 28 (by kernel_rfl) rfl)
          have h32 : IsS w (a.tmps.getD 32 undef) (hi'⁻¹) (lo'⁻¹) (L + L) := (hp.fact 4 32 (by kernel_rfl) rfl)
          obtain ⟨v32, e32⟩ : ∃ v, a.tmps.getD 32 undef = v := ⟨_, rfl⟩
          rw [e32] at h32
          unfold Does
          go_simp
          refine (rmul3_any _ _ _ lo hi hi'⁻¹ lo'⁻¹ (L + L) ((h.on hp.on).wide (by omega)) (h32.sp HI.out) (by omega) (by omega)).mono ?_
          rintro e w' ⟨u, rfl, I9, P9⟩
          exact ⟨_, rfl, P9, I9⟩
        · exact .inl rfl
        · exact .inr fun a w hp => ob_yes rfl (does_value rfl rfl)
      · intro f wd hon hk hf hb hap
        obtain ⟨q0, q1, q2, q3, qz⟩ := hb
        clear qz
        have O2 : Own wd (w.heap.size) 26 #[.bool ba0, .slice Aa0 na0 ca0, .slice Ba0 ma0 oa0, .bool bb0, .slice Ab0 nb0 cb0, .slice Bb0 mb0 ob0] := q0
        have c2_0 : wd.cell? ⟨w.heap.size, 0, none⟩ = some (.bool ba0) := O2.cell 0
        have z2_0 := O2.frozen 0
        have c2_1 : wd.cell? ⟨w.heap.size, 1, none⟩ = some (.slice Aa0 na0 ca0) := O2.cell 1
        have z2_1 := O2.frozen 1
        have c2_2 : wd.cell? ⟨w.heap.size, 2, none⟩ = some (.slice Ba0 ma0 oa0) := O2.cell 2
        have z2_2 := O2.frozen 2
        have c2_3 : wd.cell? ⟨w.heap.size, 3, none⟩ = some (.bool bb0) := O2.cell 3
        have z2_3 := O2.frozen 3
        have c2_4 : wd.cell? ⟨w.heap.size, 4, none⟩ = some (.slice Ab0 nb0 cb0) := O2.cell 4
        have z2_4 := O2.frozen 4
        have c2_5 : wd.cell? ⟨w.heap.size, 5, none⟩ = some (.slice Bb0 mb0 ob0) := O2.cell 5
        have z2_5 := O2.frozen 5
        clear q0
        obtain ⟨cur4, O4, I4⟩ : ∃ cur, Own wd (w.heap.size + 2) 26 cur ∧ IsS wd (.agg cur) (prodLo lo hi hi'⁻¹ lo'⁻¹) (prodHi lo hi hi'⁻¹ lo'⁻¹) (L + L + (L + L)) := q1
        obtain ⟨sl4, P4, Pn4, Pc4, R4, Rn4, Rc4, sh4, U4, Un4, Uc4, V4, Vn4, Vc4, hz4, IL4, IH4⟩ := id I4
        injection hz4 with hz4
        subst hz4
        have c4_0 : wd.cell? ⟨w.heap.size + 2, 0, none⟩ = some (.bool sl4) := O4.cell 0
        have z4_0 := O4.frozen 0
        have c4_1 : wd.cell? ⟨w.heap.size + 2, 1, none⟩ = some (.slice P4 Pn4 Pc4) := O4.cell 1
        have z4_1 := O4.frozen 1
        have c4_2 : wd.cell? ⟨w.heap.size + 2, 2, none⟩ = some (.slice R4 Rn4 Rc4) := O4.cell 2
        have z4_2 := O4.frozen 2
        have c4_3 : wd.cell? ⟨w.heap.size + 2, 3, none⟩ = some (.bool sh4) := O4.cell 3
        have z4_3 := O4.frozen 3
        have c4_4 : wd.cell? ⟨w.heap.size + 2, 4, none⟩ = some (.slice U4 Un4 Uc4) := O4.cell 4
        have z4_4 := O4.frozen 4
        have c4_5 : wd.cell? ⟨w.heap.size + 2, 5, none⟩ = some (.slice V4 Vn4 Vc4) := O4.cell 5
        have z4_5 := O4.frozen 5
        have O6 : Own wd (g6) 24 #[.bool sl6, .slice P6 Pn6 Pc6, .slice R6 Rn6 Rc6] := q2
        have c6_0 : wd.cell? ⟨g6, 0, none⟩ = some (.bool sl6) := O6.cell 0
        have z6_0 := O6.frozen 0
        have c6_1 : wd.cell? ⟨g6, 1, none⟩ = some (.slice P6 Pn6 Pc6) := O6.cell 1
        have z6_1 := O6.frozen 1
        have c6_2 : wd.cell? ⟨g6, 2, none⟩ = some (.slice R6 Rn6 Rc6) := O6.cell 2
        have z6_2 := O6.frozen 2
        clear q2
        have O8 : Own wd (g8) 24 #[.bool sl8, .slice P8 Pn8 Pc8, .slice R8 Rn8 Rc8] := q3
        have c8_0 : wd.cell? ⟨g8, 0, none⟩ = some (.bool sl8) := O8.cell 0
        have z8_0 := O8.frozen 0
        have c8_1 : wd.cell? ⟨g8, 1, none⟩ = some (.slice P8 Pn8 Pc8) := O8.cell 1
        have z8_1 := O8.frozen 1
        have c8_2 : wd.cell? ⟨g8, 2, none⟩ = some (.slice R8 Rn8 Rc8) := O8.cell 2
        have z8_2 := O8.frozen 2
        clear q3
        have e5 : f 5 = .int .i64 0 := hf 7 5 rfl
        clear hf hap
        simp only [fillL, e5]
        clear e5
        go_wp2
        exact bodyPost_ret (v := .tuple #[.agg #[.bool sl4, .slice P4 Pn4 Pc4, .slice R4 Rn4 Rc4, .bool sh4, .slice U4 Un4 Uc4, .slice V4 Vn4 Vc4], .int .i64 0]) (by simp [results, Tryz.results33, go_sem, c4_0, c4_1, c4_2, c4_3, c4_4, c4_5]) rfl ⟨_, rfl, I4, hon⟩
end Num
end Go.Proofs.YtkchpagjkgmpmaaGreat
