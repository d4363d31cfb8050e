/-
  The specification's Valid and Arg of spans.
-/
import Derived.Test.YtkchpagjkgmpmaaGreatSrg
namespace Go.Proofs.YtkchpagjkgmpmaaGreat
open Go.RowKit
set_option linter.unusedVariables false
namespace Num
set_option maxRecDepth 100000 in
set_option maxHeartbeats 1600000 in
theorem rvalid3_any (w : World) (v : Value) (lo hi : Rat) (f : Bool) (L : Nat) (h : SRaw w v lo hi f L) (hL2 : 2 ≤ L) (hL : L ≤ 1000) :
    Calls Tryz.prog 12 #[v] w fun e w' => e = .returned (.bool f) ∧ On w w' := by
  obtain ⟨ba0, Aa0, na0, ca0, Ba0, ma0, oa0, bb0, Ab0, nb0, cb0, Bb0, mb0, ob0, xs, ys, us, vs, rfl, R, R', U, U', l1, l2, l3, l4, r1, r2, hf⟩ := id h
  have FL : Fld w (.agg #[.bool ba0, .slice Aa0 na0 ca0, .slice Ba0 ma0 oa0]) lo L := Fld.mk3 R R' l1 l2 r1
  have FH : Fld w (.agg #[.bool bb0, .slice Ab0 nb0 cb0, .slice Bb0 mb0 ob0]) hi L := Fld.mk3 U U' l3 l4 r2
  obtain ⟨f1, hf1⟩ : ∃ x, fitB ba0 xs ys = x := ⟨_, rfl⟩
  obtain ⟨f2, hf2⟩ : ∃ x, fitB bb0 us vs = x := ⟨_, rfl⟩
  rw [hf1, hf2] at hf
  have HF := Lib.hid hf
  have H1 := Lib.hid hf1
  have H2 := Lib.hid hf2
  clear hf hf1 hf2 r1 r2 h
  have B : On w (w.alloc (.cells #[.bool ba0, .slice Aa0 na0 ca0, .slice Ba0 ma0 oa0, .bool bb0, .slice Ab0 nb0 cb0, .slice Bb0 mb0 ob0] 26)) := On.alloc (On.refl w) _
  have OB1 : w.heap.size ≤ w.heap.size ∧ Own (w.alloc (.cells #[.bool ba0, .slice Aa0 na0 ca0, .slice Ba0 ma0 oa0, .bool bb0, .slice Ab0 nb0 cb0, .slice Bb0 mb0 ob0] 26)) (w.heap.size) 26 #[.bool ba0, .slice Aa0 na0 ca0, .slice Ba0 ma0 oa0, .bool bb0, .slice Ab0 nb0 cb0, .slice Bb0 mb0 ob0] := ⟨by omega, (Own.at_ w (w.heap.size) (by simp) 26 #[.bool ba0, .slice Aa0 na0 ca0, .slice Ba0 ma0 oa0, .bool bb0, .slice Ab0 nb0 cb0, .slice Bb0 mb0 ob0])⟩
  go_enter Tryz.func12, Tryz.ntmps12
  go_wp2_with fail
  refine (rvalid_any _ _ _ _ _ _ _ _ _ _ (R.on B) (R'.on B) (by omega) (by omega)).mono ?_
  rintro e w1 ⟨rfl, P1⟩
  rw [H1.out]
  replace OB1 := And.intro OB1.1 (OB1.2.on P1)
  replace B := B.trans P1
  have y1_0 : w1.cell? ⟨w.heap.size, 0, none⟩ = some (.bool ba0) := OB1.2.cell 0
  have y1_1 : w1.cell? ⟨w.heap.size, 1, none⟩ = some (.slice Aa0 na0 ca0) := OB1.2.cell 1
  have y1_2 : w1.cell? ⟨w.heap.size, 2, none⟩ = some (.slice Ba0 ma0 oa0) := OB1.2.cell 2
  have y1_3 : w1.cell? ⟨w.heap.size, 3, none⟩ = some (.bool bb0) := OB1.2.cell 3
  have y1_4 : w1.cell? ⟨w.heap.size, 4, none⟩ = some (.slice Ab0 nb0 cb0) := OB1.2.cell 4
  have y1_5 : w1.cell? ⟨w.heap.size, 5, none⟩ = some (.slice Bb0 mb0 ob0) := OB1.2.cell 5
  have y1_f0 := OB1.2.frozen 0
  have y1_f1 := OB1.2.frozen 1
  have y1_f2 := OB1.2.frozen 2
  have y1_f3 := OB1.2.frozen 3
  have y1_f4 := OB1.2.frozen 4
  have y1_f5 := OB1.2.frozen 5
  cases f1
  · go_wp2
    go_ret
    exact ⟨by rw [HF.out]; rfl, B⟩
  · go_wp2_with fail
    refine (rvalid_any _ _ _ _ _ _ _ _ _ _ (U.on B) (U'.on B) (by omega) (by omega)).mono ?_
    rintro e w2 ⟨rfl, P2⟩
    rw [H2.out]
    clear y1_0 y1_f0 y1_1 y1_f1 y1_2 y1_f2 y1_3 y1_f3 y1_4 y1_f4 y1_5 y1_f5
    replace OB1 := And.intro OB1.1 (OB1.2.on P2)
    replace B := B.trans P2
    have y1_0 : w2.cell? ⟨w.heap.size, 0, none⟩ = some (.bool ba0) := OB1.2.cell 0
    have y1_1 : w2.cell? ⟨w.heap.size, 1, none⟩ = some (.slice Aa0 na0 ca0) := OB1.2.cell 1
    have y1_2 : w2.cell? ⟨w.heap.size, 2, none⟩ = some (.slice Ba0 ma0 oa0) := OB1.2.cell 2
    have y1_3 : w2.cell? ⟨w.heap.size, 3, none⟩ = some (.bool bb0) := OB1.2.cell 3
    have y1_4 : w2.cell? ⟨w.heap.size, 4, none⟩ = some (.slice Ab0 nb0 cb0) := OB1.2.cell 4
    have y1_5 : w2.cell? ⟨w.heap.size, 5, none⟩ = some (.slice Bb0 mb0 ob0) := OB1.2.cell 5
    have y1_f0 := OB1.2.frozen 0
    have y1_f1 := OB1.2.frozen 1
    have y1_f2 := OB1.2.frozen 2
    have y1_f3 := OB1.2.frozen 3
    have y1_f4 := OB1.2.frozen 4
    have y1_f5 := OB1.2.frozen 5
    cases f2
    · go_wp2
      go_ret
      exact ⟨by rw [HF.out]; rfl, B⟩
    · go_wp2_with fail
      refine (scmp_any _ _ _ _ _ L (FL.on B) (FH.on B) hL2 (by omega)).mono ?_
      rintro e w3 ⟨rfl, P3⟩
      have hz := rsg_le_iff lo hi
      obtain ⟨z, ez⟩ : ∃ x, rsg (lo - hi) = x := ⟨_, rfl⟩
      rw [ez] at hz ⊢
      clear ez
      by_cases hl : lo ≤ hi
      · have hzz : z ≤ 0 := hz.2 hl
        have HL := Lib.hid hl
        clear hz hl
        go_wp2
        go_ret
        exact ⟨by rw [HF.out, decide_eq_true HL.out]; first | rfl | (simp; done) | (simp; omega), B.trans P3⟩
      · have hzz : ¬ z ≤ 0 := fun e => hl (hz.1 e)
        have HL := Lib.hid hl
        clear hz hl
        go_wp2
        go_ret
        exact ⟨by rw [HF.out, decide_eq_false HL.out]; first | rfl | (simp; done) | (simp; omega), B.trans P3⟩
set_option maxRecDepth 100000 in
set_option maxHeartbeats 1600000 in
theorem rarg_any (w : World) (v : Value) (lo hi : Rat) (L : Nat) (h : Sp w v lo hi L) (hL2 : 2 ≤ L) (hL : L ≤ 1000) :
    Calls Tryz.prog 55 #[v] w (SpPost w lo hi L) := by
  obtain ⟨p, q, f, h1, hlo, hhi⟩ := h
  obtain ⟨ba0, Aa0, na0, ca0, Ba0, ma0, oa0, bb0, Ab0, nb0, cb0, Bb0, mb0, ob0, rfl⟩ := h1.form
  cases f
  · simp at hlo hhi
    subst hlo; subst hhi
    have B : On w ((w.alloc (.cells #[.bool ba0, .slice Aa0 na0 ca0, .slice Ba0 ma0 oa0, .bool bb0, .slice Ab0 nb0 cb0, .slice Bb0 mb0 ob0] 26)).alloc (.cells #[.bool false, .slice none 0 0, .slice none 0 0, .bool false, .slice none 0 0, .slice none 0 0] 26)) := On.alloc (On.alloc (On.refl w) _) _
    have OB1 : w.heap.size ≤ w.heap.size ∧ Own ((w.alloc (.cells #[.bool ba0, .slice Aa0 na0 ca0, .slice Ba0 ma0 oa0, .bool bb0, .slice Ab0 nb0 cb0, .slice Bb0 mb0 ob0] 26)).alloc (.cells #[.bool false, .slice none 0 0, .slice none 0 0, .bool false, .slice none 0 0, .slice none 0 0] 26)) (w.heap.size) 26 #[.bool ba0, .slice Aa0 na0 ca0, .slice Ba0 ma0 oa0, .bool bb0, .slice Ab0 nb0 cb0, .slice Bb0 mb0 ob0] := ⟨by omega, ((Own.at_ w (w.heap.size) (by simp) 26 #[.bool ba0, .slice Aa0 na0 ca0, .slice Ba0 ma0 oa0, .bool bb0, .slice Ab0 nb0 cb0, .slice Bb0 mb0 ob0]).alloc (.cells #[.bool false, .slice none 0 0, .slice none 0 0, .bool false, .slice none 0 0, .slice none 0 0] 26))⟩
    have OB2 : w.heap.size ≤ w.heap.size + 1 ∧ Own ((w.alloc (.cells #[.bool ba0, .slice Aa0 na0 ca0, .slice Ba0 ma0 oa0, .bool bb0, .slice Ab0 nb0 cb0, .slice Bb0 mb0 ob0] 26)).alloc (.cells #[.bool false, .slice none 0 0, .slice none 0 0, .bool false, .slice none 0 0, .slice none 0 0] 26)) (w.heap.size + 1) 26 #[.bool false, .slice none 0 0, .slice none 0 0, .bool false, .slice none 0 0, .slice none 0 0] := ⟨by omega, (Own.at_ (w.alloc (.cells #[.bool ba0, .slice Aa0 na0 ca0, .slice Ba0 ma0 oa0, .bool bb0, .slice Ab0 nb0 cb0, .slice Bb0 mb0 ob0] 26)) (w.heap.size + 1) (by simp) 26 #[.bool false, .slice none 0 0, .slice none 0 0, .bool false, .slice none 0 0, .slice none 0 0])⟩
    go_enter Tryz.func55, Tryz.ntmps55
    go_wp2_with fail
    refine (rvalid3_any _ _ _ _ _ _ (h1.on B) hL2 hL).mono ?_
    rintro e w1 ⟨rfl, P1⟩
    replace OB1 := And.intro OB1.1 (OB1.2.on P1)
    replace OB2 := And.intro OB2.1 (OB2.2.on P1)
    replace B := B.trans P1
    have y1_0 : w1.cell? ⟨w.heap.size, 0, none⟩ = some (.bool ba0) := OB1.2.cell 0
    have y1_1 : w1.cell? ⟨w.heap.size, 1, none⟩ = some (.slice Aa0 na0 ca0) := OB1.2.cell 1
    have y1_2 : w1.cell? ⟨w.heap.size, 2, none⟩ = some (.slice Ba0 ma0 oa0) := OB1.2.cell 2
    have y1_3 : w1.cell? ⟨w.heap.size, 3, none⟩ = some (.bool bb0) := OB1.2.cell 3
    have y1_4 : w1.cell? ⟨w.heap.size, 4, none⟩ = some (.slice Ab0 nb0 cb0) := OB1.2.cell 4
    have y1_5 : w1.cell? ⟨w.heap.size, 5, none⟩ = some (.slice Bb0 mb0 ob0) := OB1.2.cell 5
    have y1_f0 := OB1.2.frozen 0
    have y1_f1 := OB1.2.frozen 1
    have y1_f2 := OB1.2.frozen 2
    have y1_f3 := OB1.2.frozen 3
    have y1_f4 := OB1.2.frozen 4
    have y1_f5 := OB1.2.frozen 5
    have c2_0 : w1.cell? ⟨w.heap.size + 1, 0, none⟩ = some (.bool false) := OB2.2.cell 0
    have c2_1 : w1.cell? ⟨w.heap.size + 1, 1, none⟩ = some (.slice none 0 0) := OB2.2.cell 1
    have c2_2 : w1.cell? ⟨w.heap.size + 1, 2, none⟩ = some (.slice none 0 0) := OB2.2.cell 2
    have c2_3 : w1.cell? ⟨w.heap.size + 1, 3, none⟩ = some (.bool false) := OB2.2.cell 3
    have c2_4 : w1.cell? ⟨w.heap.size + 1, 4, none⟩ = some (.slice none 0 0) := OB2.2.cell 4
    have c2_5 : w1.cell? ⟨w.heap.size + 1, 5, none⟩ = some (.slice none 0 0) := OB2.2.cell 5
    have c2_f0 := OB2.2.frozen 0
    have c2_f1 := OB2.2.frozen 1
    have c2_f2 := OB2.2.frozen 2
    have c2_f3 := OB2.2.frozen 3
    have c2_f4 := OB2.2.frozen 4
    have c2_f5 := OB2.2.frozen 5
    have hon := on6 (g := w.heap.size + 1) B (by omega) (.bool false) (.slice none 0 0) (.slice none 0 0) (.bool false) (.slice none 0 0) (.slice none 0 0)
    go_wp2
    exact bodyPost_ret (v := .agg #[.bool false, .slice none 0 0, .slice none 0 0, .bool false, .slice none 0 0, .slice none 0 0]) (by simp [results, Tryz.results55, go_sem, c2_0, c2_1, c2_2, c2_3, c2_4, c2_5]) rfl ⟨_, rfl, isS_zero _ _, by first | exact hon | exact B⟩
  · simp at hlo hhi
    subst hlo; subst hhi
    have B : On w ((w.alloc (.cells #[.bool ba0, .slice Aa0 na0 ca0, .slice Ba0 ma0 oa0, .bool bb0, .slice Ab0 nb0 cb0, .slice Bb0 mb0 ob0] 26)).alloc (.cells #[.bool false, .slice none 0 0, .slice none 0 0, .bool false, .slice none 0 0, .slice none 0 0] 26)) := On.alloc (On.alloc (On.refl w) _) _
    have OB1 : w.heap.size ≤ w.heap.size ∧ Own ((w.alloc (.cells #[.bool ba0, .slice Aa0 na0 ca0, .slice Ba0 ma0 oa0, .bool bb0, .slice Ab0 nb0 cb0, .slice Bb0 mb0 ob0] 26)).alloc (.cells #[.bool false, .slice none 0 0, .slice none 0 0, .bool false, .slice none 0 0, .slice none 0 0] 26)) (w.heap.size) 26 #[.bool ba0, .slice Aa0 na0 ca0, .slice Ba0 ma0 oa0, .bool bb0, .slice Ab0 nb0 cb0, .slice Bb0 mb0 ob0] := ⟨by omega, ((Own.at_ w (w.heap.size) (by simp) 26 #[.bool ba0, .slice Aa0 na0 ca0, .slice Ba0 ma0 oa0, .bool bb0, .slice Ab0 nb0 cb0, .slice Bb0 mb0 ob0]).alloc (.cells #[.bool false, .slice none 0 0, .slice none 0 0, .bool false, .slice none 0 0, .slice none 0 0] 26))⟩
    have OB2 : w.heap.size ≤ w.heap.size + 1 ∧ Own ((w.alloc (.cells #[.bool ba0, .slice Aa0 na0 ca0, .slice Ba0 ma0 oa0, .bool bb0, .slice Ab0 nb0 cb0, .slice Bb0 mb0 ob0] 26)).alloc (.cells #[.bool false, .slice none 0 0, .slice none 0 0, .bool false, .slice none 0 0, .slice none 0 0] 26)) (w.heap.size + 1) 26 #[.bool false, .slice none 0 0, .slice none 0 0, .bool false, .slice none 0 0, .slice none 0 0] := ⟨by omega, (Own.at_ (w.alloc (.cells #[.bool ba0, .slice Aa0 na0 ca0, .slice Ba0 ma0 oa0, .bool bb0, .slice Ab0 nb0 cb0, .slice Bb0 mb0 ob0] 26)) (w.heap.size + 1) (by simp) 26 #[.bool false, .slice none 0 0, .slice none 0 0, .bool false, .slice none 0 0, .slice none 0 0])⟩
    go_enter Tryz.func55, Tryz.ntmps55
    go_wp2_with fail
    refine (rvalid3_any _ _ _ _ _ _ (h1.on B) hL2 hL).mono ?_
    rintro e w1 ⟨rfl, P1⟩
    replace OB1 := And.intro OB1.1 (OB1.2.on P1)
    replace OB2 := And.intro OB2.1 (OB2.2.on P1)
    replace B := B.trans P1
    have y1_0 : w1.cell? ⟨w.heap.size, 0, none⟩ = some (.bool ba0) := OB1.2.cell 0
    have y1_1 : w1.cell? ⟨w.heap.size, 1, none⟩ = some (.slice Aa0 na0 ca0) := OB1.2.cell 1
    have y1_2 : w1.cell? ⟨w.heap.size, 2, none⟩ = some (.slice Ba0 ma0 oa0) := OB1.2.cell 2
    have y1_3 : w1.cell? ⟨w.heap.size, 3, none⟩ = some (.bool bb0) := OB1.2.cell 3
    have y1_4 : w1.cell? ⟨w.heap.size, 4, none⟩ = some (.slice Ab0 nb0 cb0) := OB1.2.cell 4
    have y1_5 : w1.cell? ⟨w.heap.size, 5, none⟩ = some (.slice Bb0 mb0 ob0) := OB1.2.cell 5
    have y1_f0 := OB1.2.frozen 0
    have y1_f1 := OB1.2.frozen 1
    have y1_f2 := OB1.2.frozen 2
    have y1_f3 := OB1.2.frozen 3
    have y1_f4 := OB1.2.frozen 4
    have y1_f5 := OB1.2.frozen 5
    have c2_0 : w1.cell? ⟨w.heap.size + 1, 0, none⟩ = some (.bool false) := OB2.2.cell 0
    have c2_1 : w1.cell? ⟨w.heap.size + 1, 1, none⟩ = some (.slice none 0 0) := OB2.2.cell 1
    have c2_2 : w1.cell? ⟨w.heap.size + 1, 2, none⟩ = some (.slice none 0 0) := OB2.2.cell 2
    have c2_3 : w1.cell? ⟨w.heap.size + 1, 3, none⟩ = some (.bool false) := OB2.2.cell 3
    have c2_4 : w1.cell? ⟨w.heap.size + 1, 4, none⟩ = some (.slice none 0 0) := OB2.2.cell 4
    have c2_5 : w1.cell? ⟨w.heap.size + 1, 5, none⟩ = some (.slice none 0 0) := OB2.2.cell 5
    have c2_f0 := OB2.2.frozen 0
    have c2_f1 := OB2.2.frozen 1
    have c2_f2 := OB2.2.frozen 2
    have c2_f3 := OB2.2.frozen 3
    have c2_f4 := OB2.2.frozen 4
    have c2_f5 := OB2.2.frozen 5
    have IS := (raw_isS h1).1.on B
    have IS2 := IS.kept (Kept.only (only6 (w := w1) (g := w.heap.size + 1) (.bool ba0) (.slice Aa0 na0 ca0) (.slice Ba0 ma0 oa0) (.bool bb0) (.slice Ab0 nb0 cb0) (.slice Bb0 mb0 ob0)) OB2.2 (noWords_S _ _ _ _ _ _ _ _ _ _ _ _ _ _))
    have hon := on6 (g := w.heap.size + 1) B (by omega) (.bool ba0) (.slice Aa0 na0 ca0) (.slice Ba0 ma0 oa0) (.bool bb0) (.slice Ab0 nb0 cb0) (.slice Bb0 mb0 ob0)
    go_wp2
    exact bodyPost_ret (v := .agg #[.bool ba0, .slice Aa0 na0 ca0, .slice Ba0 ma0 oa0, .bool bb0, .slice Ab0 nb0 cb0, .slice Bb0 mb0 ob0]) (by simp [results, Tryz.results55, go_sem, c2_0, c2_1, c2_2, c2_3, c2_4, c2_5]) rfl ⟨_, rfl, IS2, hon⟩
end Num
end Go.Proofs.YtkchpagjkgmpmaaGreat
