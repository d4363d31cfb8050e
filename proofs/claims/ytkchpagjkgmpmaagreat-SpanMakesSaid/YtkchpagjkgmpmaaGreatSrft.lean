/-
  The specification's Width and Text of spans.
-/
import Derived.Test.YtkchpagjkgmpmaaGreatSrf
namespace Go.Proofs.YtkchpagjkgmpmaaGreat
open Go.RowKit
set_option linter.unusedVariables false
namespace Num
set_option maxRecDepth 100000 in
set_option maxHeartbeats 1600000 in
theorem rwidth3_any (w : World) (v : Value) (lo hi : Rat) (L : Nat) (h : Sp w v lo hi L) (hL2 : 2 ≤ L) (hL : L ≤ 400) :
    Calls Tryz.prog 19 #[v] w (RatPost w (hi - lo) (L + L + 1)) := by
  obtain ⟨ba0, Aa0, na0, ca0, Ba0, ma0, oa0, bb0, Ab0, nb0, cb0, Bb0, mb0, ob0, rfl⟩ := h.form
  have B : On w ((w.alloc (.cells #[.bool ba0, .slice Aa0 na0 ca0, .slice Ba0 ma0 oa0, .bool bb0, .slice Ab0 nb0 cb0, .slice Bb0 mb0 ob0] 26)).alloc (.cells #[.bool false, .slice none 0 0, .slice none 0 0] 24)) := On.alloc (On.alloc (On.refl w) _) _
  have OB1 : w.heap.size ≤ w.heap.size ∧ Own ((w.alloc (.cells #[.bool ba0, .slice Aa0 na0 ca0, .slice Ba0 ma0 oa0, .bool bb0, .slice Ab0 nb0 cb0, .slice Bb0 mb0 ob0] 26)).alloc (.cells #[.bool false, .slice none 0 0, .slice none 0 0] 24)) (w.heap.size) 26 #[.bool ba0, .slice Aa0 na0 ca0, .slice Ba0 ma0 oa0, .bool bb0, .slice Ab0 nb0 cb0, .slice Bb0 mb0 ob0] := ⟨by omega, ((Own.at_ w (w.heap.size) (by simp) 26 #[.bool ba0, .slice Aa0 na0 ca0, .slice Ba0 ma0 oa0, .bool bb0, .slice Ab0 nb0 cb0, .slice Bb0 mb0 ob0]).alloc (.cells #[.bool false, .slice none 0 0, .slice none 0 0] 24))⟩
  have OB2 : w.heap.size ≤ w.heap.size + 1 ∧ Own ((w.alloc (.cells #[.bool ba0, .slice Aa0 na0 ca0, .slice Ba0 ma0 oa0, .bool bb0, .slice Ab0 nb0 cb0, .slice Bb0 mb0 ob0] 26)).alloc (.cells #[.bool false, .slice none 0 0, .slice none 0 0] 24)) (w.heap.size + 1) 24 #[.bool false, .slice none 0 0, .slice none 0 0] := ⟨by omega, (Own.at_ (w.alloc (.cells #[.bool ba0, .slice Aa0 na0 ca0, .slice Ba0 ma0 oa0, .bool bb0, .slice Ab0 nb0 cb0, .slice Bb0 mb0 ob0] 26)) (w.heap.size + 1) (by simp) 24 #[.bool false, .slice none 0 0, .slice none 0 0])⟩
  go_enter Tryz.func19, Tryz.ntmps19
  go_wp2_with fail
  refine (rarg_any _ _ _ _ L (h.on B) hL2 (by omega)).mono ?_
  rintro e w1 ⟨u, rfl, I, P1⟩
  clear h
  obtain ⟨sl1, P1_, Pn1, Pc1, R1_, Rn1, Rc1, sh1, U1, Un1, Uc1, V1, Vn1, Vc1, rfl, IL, IH⟩ := id I
  replace OB1 := And.intro OB1.1 (OB1.2.on P1)
  replace OB2 := And.intro OB2.1 (OB2.2.on P1)
  replace B := B.trans P1
  have y1_0 : w1.cell? ⟨w.heap.size, 0, none⟩ = some (.bool ba0) := OB1.2.cell 0
  have y1_1 : w1.cell? ⟨w.heap.size, 1, none⟩ = some (.slice Aa0 na0 ca0) := OB1.2.cell 1
  have y1_2 : w1.cell? ⟨w.heap.size, 2, none⟩ = some (.slice Ba0 ma0 oa0) := OB1.2.cell 2
  have y1_3 : w1.cell? ⟨w.heap.size, 3, none⟩ = some (.bool bb0) := OB1.2.cell 3
  have y1_4 : w1.cell? ⟨w.heap.size, 4, none⟩ = some (.slice Ab0 nb0 cb0) := OB1.2.cell 4
  have y1_5 : w1.cell? ⟨w.heap.size, 5, none⟩ = some (.slice Bb0 mb0 ob0) := OB1.2.cell 5
  have y1_f0 := OB1.2.frozen 0
  have y1_f1 := OB1.2.frozen 1
  have y1_f2 := OB1.2.frozen 2
  have y1_f3 := OB1.2.frozen 3
  have y1_f4 := OB1.2.frozen 4
  have y1_f5 := OB1.2.frozen 5
  have oo := only6 (w := w1) (g := w.heap.size) (.bool sl1) (.slice P1_ Pn1 Pc1) (.slice R1_ Rn1 Rc1) (.bool sh1) (.slice U1 Un1 Uc1) (.slice V1 Vn1 Vc1)
  have hk1 := Kept.only oo OB1.2 (noWords_S _ _ _ _ _ _ _ _ _ _ _ _ _ _)
  replace IL := IL.kept hk1
  replace IH := IH.kept hk1
  clear I hk1
  have hon1 := on6 (g := w.heap.size) B (by omega) (.bool sl1) (.slice P1_ Pn1 Pc1) (.slice R1_ Rn1 Rc1) (.bool sh1) (.slice U1 Un1 Uc1) (.slice V1 Vn1 Vc1)
  have ON1 := (((((OB1.2.set_ 0 (.bool sl1)).set_ 1 (.slice P1_ Pn1 Pc1)).set_ 2 (.slice R1_ Rn1 Rc1)).set_ 3 (.bool sh1)).set_ 4 (.slice U1 Un1 Uc1)).set_ 5 (.slice V1 Vn1 Vc1)
  have ON2 := OB2.2.only oo (by omega)
  go_wp2_with fail
  obtain ⟨W, hW⟩ : ∃ W, (((((((w1.setCell ⟨w.heap.size, 0, none⟩ (.bool sl1)).setCell ⟨w.heap.size, 1, none⟩ (.slice P1_ Pn1 Pc1)).setCell ⟨w.heap.size, 2, none⟩ (.slice R1_ Rn1 Rc1)).setCell ⟨w.heap.size, 3, none⟩ (.bool sh1)).setCell ⟨w.heap.size, 4, none⟩ (.slice U1 Un1 Uc1)).setCell ⟨w.heap.size, 5, none⟩ (.slice V1 Vn1 Vc1))) = W := ⟨_, rfl⟩
  rw [hW] at hon1 IL IH ON1 ON2 ⊢
  have OB1' : w.heap.size ≤ w.heap.size ∧ Own W w.heap.size 26 #[.bool sl1, .slice P1_ Pn1 Pc1, .slice R1_ Rn1 Rc1, .bool sh1, .slice U1 Un1 Uc1, .slice V1 Vn1 Vc1] := ⟨Nat.le_refl _, ON1⟩
  have OB2' : w.heap.size ≤ w.heap.size + 1 ∧ Own W (w.heap.size + 1) 24 #[.bool false, .slice none 0 0, .slice none 0 0] := ⟨by omega, ON2⟩
  clear y1_0 y1_f0 y1_1 y1_f1 y1_2 y1_f2 y1_3 y1_f3 y1_4 y1_f4 y1_5 y1_f5
  clear oo B OB1 OB2 ON1 ON2 hW P1
  have OB1 := OB1'
  have OB2 := OB2'
  have B := hon1
  clear OB1' OB2' hon1
  refine (ssub_any _ _ _ hi lo L (IsR.fld IH) (IsR.fld IL) hL2 (by omega)).mono ?_
  rintro e w3 ⟨u3, rfl, J, P3⟩
  obtain ⟨s2, P2, Pn2, Pc2, R2, Rn2, Rc2, rfl⟩ := isR_form J
  replace OB2 := And.intro OB2.1 (OB2.2.on P3)
  replace B := B.trans P3
  have c2_0 : w3.cell? ⟨w.heap.size + 1, 0, none⟩ = some (.bool false) := OB2.2.cell 0
  have c2_1 : w3.cell? ⟨w.heap.size + 1, 1, none⟩ = some (.slice none 0 0) := OB2.2.cell 1
  have c2_2 : w3.cell? ⟨w.heap.size + 1, 2, none⟩ = some (.slice none 0 0) := OB2.2.cell 2
  have c2_f0 := OB2.2.frozen 0
  have c2_f1 := OB2.2.frozen 1
  have c2_f2 := OB2.2.frozen 2
  have J2 := J.kept (Kept.only (only3 (w := w3) (g := w.heap.size + 1) (.bool s2) (.slice P2 Pn2 Pc2) (.slice R2 Rn2 Rc2)) OB2.2 (noWords_R _ _ _ _ _ _ _))
  have hon := on3 (g := w.heap.size + 1) B (by omega) (.bool s2) (.slice P2 Pn2 Pc2) (.slice R2 Rn2 Rc2)
  go_wp2
  exact bodyPost_ret (v := .agg #[.bool s2, .slice P2 Pn2 Pc2, .slice R2 Rn2 Rc2]) (by simp [results, Tryz.results19, go_sem, c2_0, c2_1, c2_2]) rfl ⟨_, rfl, J2, hon⟩
set_option maxRecDepth 100000 in
set_option maxHeartbeats 1600000 in
theorem rtext3_any (w : World) (v : Value) (lo hi : Rat) (L : Nat) (h : Sp w v lo hi L) (hL2 : 2 ≤ L) (hL : L ≤ 400) :
    Calls Tryz.prog 21 #[v] w fun e w' => ∃ bs, e = .returned (.string (str bs)) ∧ STx lo hi bs ∧ On w w' := by
  obtain ⟨ba0, Aa0, na0, ca0, Ba0, ma0, oa0, bb0, Ab0, nb0, cb0, Bb0, mb0, ob0, rfl⟩ := h.form
  have B : On w (w.alloc (.cells #[.bool ba0, .slice Aa0 na0 ca0, .slice Ba0 ma0 oa0, .bool bb0, .slice Ab0 nb0 cb0, .slice Bb0 mb0 ob0] 26)) := On.alloc (On.refl w) _
  have OB1 : w.heap.size ≤ w.heap.size ∧ Own (w.alloc (.cells #[.bool ba0, .slice Aa0 na0 ca0, .slice Ba0 ma0 oa0, .bool bb0, .slice Ab0 nb0 cb0, .slice Bb0 mb0 ob0] 26)) (w.heap.size) 26 #[.bool ba0, .slice Aa0 na0 ca0, .slice Ba0 ma0 oa0, .bool bb0, .slice Ab0 nb0 cb0, .slice Bb0 mb0 ob0] := ⟨by omega, (Own.at_ w (w.heap.size) (by simp) 26 #[.bool ba0, .slice Aa0 na0 ca0, .slice Ba0 ma0 oa0, .bool bb0, .slice Ab0 nb0 cb0, .slice Bb0 mb0 ob0])⟩
  go_enter Tryz.func21, Tryz.ntmps21
  go_wp2_with fail
  refine (rarg_any _ _ _ _ L (h.on B) hL2 (by omega)).mono ?_
  rintro e w1 ⟨u, rfl, I, P1⟩
  clear h
  obtain ⟨sl1, P1_, Pn1, Pc1, R1_, Rn1, Rc1, sh1, U1, Un1, Uc1, V1, Vn1, Vc1, rfl, IL, IH⟩ := id I
  replace OB1 := And.intro OB1.1 (OB1.2.on P1)
  replace B := B.trans P1
  have y1_0 : w1.cell? ⟨w.heap.size, 0, none⟩ = some (.bool ba0) := OB1.2.cell 0
  have y1_1 : w1.cell? ⟨w.heap.size, 1, none⟩ = some (.slice Aa0 na0 ca0) := OB1.2.cell 1
  have y1_2 : w1.cell? ⟨w.heap.size, 2, none⟩ = some (.slice Ba0 ma0 oa0) := OB1.2.cell 2
  have y1_3 : w1.cell? ⟨w.heap.size, 3, none⟩ = some (.bool bb0) := OB1.2.cell 3
  have y1_4 : w1.cell? ⟨w.heap.size, 4, none⟩ = some (.slice Ab0 nb0 cb0) := OB1.2.cell 4
  have y1_5 : w1.cell? ⟨w.heap.size, 5, none⟩ = some (.slice Bb0 mb0 ob0) := OB1.2.cell 5
  have y1_f0 := OB1.2.frozen 0
  have y1_f1 := OB1.2.frozen 1
  have y1_f2 := OB1.2.frozen 2
  have y1_f3 := OB1.2.frozen 3
  have y1_f4 := OB1.2.frozen 4
  have y1_f5 := OB1.2.frozen 5
  have oo := only6 (w := w1) (g := w.heap.size) (.bool sl1) (.slice P1_ Pn1 Pc1) (.slice R1_ Rn1 Rc1) (.bool sh1) (.slice U1 Un1 Uc1) (.slice V1 Vn1 Vc1)
  have hk1 := Kept.only oo OB1.2 (noWords_S _ _ _ _ _ _ _ _ _ _ _ _ _ _)
  replace IL := IL.kept hk1
  replace IH := IH.kept hk1
  clear I hk1
  have hon1 := on6 (g := w.heap.size) B (by omega) (.bool sl1) (.slice P1_ Pn1 Pc1) (.slice R1_ Rn1 Rc1) (.bool sh1) (.slice U1 Un1 Uc1) (.slice V1 Vn1 Vc1)
  have ON1 := (((((OB1.2.set_ 0 (.bool sl1)).set_ 1 (.slice P1_ Pn1 Pc1)).set_ 2 (.slice R1_ Rn1 Rc1)).set_ 3 (.bool sh1)).set_ 4 (.slice U1 Un1 Uc1)).set_ 5 (.slice V1 Vn1 Vc1)
  go_wp2_with fail
  obtain ⟨W, hW⟩ : ∃ W, (((((((w1.setCell ⟨w.heap.size, 0, none⟩ (.bool sl1)).setCell ⟨w.heap.size, 1, none⟩ (.slice P1_ Pn1 Pc1)).setCell ⟨w.heap.size, 2, none⟩ (.slice R1_ Rn1 Rc1)).setCell ⟨w.heap.size, 3, none⟩ (.bool sh1)).setCell ⟨w.heap.size, 4, none⟩ (.slice U1 Un1 Uc1)).setCell ⟨w.heap.size, 5, none⟩ (.slice V1 Vn1 Vc1))) = W := ⟨_, rfl⟩
  rw [hW] at hon1 IL IH ON1 ⊢
  have OB1' : w.heap.size ≤ w.heap.size ∧ Own W w.heap.size 26 #[.bool sl1, .slice P1_ Pn1 Pc1, .slice R1_ Rn1 Rc1, .bool sh1, .slice U1 Un1 Uc1, .slice V1 Vn1 Vc1] := ⟨Nat.le_refl _, ON1⟩
  clear y1_0 y1_f0 y1_1 y1_f1 y1_2 y1_f2 y1_3 y1_f3 y1_4 y1_f4 y1_5 y1_f5
  clear oo B OB1 ON1 hW P1
  have OB1 := OB1'
  have B := hon1
  clear OB1' hon1
  refine wp_region_facts (by kernel_rfl) w [Fact.eq (.pointer (some ⟨w.heap.size, 0, none⟩)), Fact.eq (.agg #[.bool sl1, .slice P1_ Pn1 Pc1, .slice R1_ Rn1 Rc1]), Fact.strP (fun BS => RTx lo BS ∧ BS.length ≤ 9000), Fact.strP (fun BS => ∃ a, RTx lo a ∧ a.length ≤ 9000 ∧ BS = a ++ [46, 46]), Fact.eq (.pointer (some ⟨w.heap.size, 3, none⟩)), Fact.eq (.agg #[.bool sh1, .slice U1 Un1 Uc1, .slice V1 Vn1 Vc1]), Fact.strP (fun BS => RTx hi BS ∧ BS.length ≤ 9000), Fact.strP (fun BS => STx lo hi BS), Fact.strP (fun BS => STx lo hi BS)] [Fact.any] [⟨9, 1, 26, 9, #[.bool sl1, .slice P1_ Pn1 Pc1, .slice R1_ Rn1 Rc1, .bool sh1, .slice U1 Un1 Uc1, .slice V1 Vn1 Vc1]⟩] [w.heap.size] [none, none, some 2, none, none, some 5, some 6, some 7, some 8, some 9, some 10, some 11, some 12] (by kernel_rfl) (by kernel_rfl) (by kernel_rfl) rfl B ?_ ?_ ?_ ?_ ?_
  · exact ⟨fun _ => ⟨by simp, rfl, OB1⟩, trivial⟩
  · exact .inl ⟨Nat.le_refl _, trivial⟩
  · exact ⟨⟨noWords_S _ _ _ _ _ _ _ _ _ _ _ _ _ _, (.inl (Nat.le_refl _)), (.inl (Nat.le_refl _))⟩, trivial⟩
  · refine ⟨?_, ?_, ?_, ?_, ?_, ?_, ?_, ?_, ?_, trivial⟩
    · exact .inr fun a w hp => ob_yes rfl (ob_fieldS0 (hp.box (k := 0) rfl (Nat.le_refl _) (.inl (Nat.le_refl _)) (by kernel_rfl) rfl).1 rfl)
    · exact .inr fun a w hp => ob_yes rfl (ob_loadLo (hp.fact 0 5 (by kernel_rfl) rfl) (hp.box (k := 0) rfl (Nat.le_refl _) (.inl (Nat.le_refl _)) (by kernel_rfl) rfl).2 rfl)
    · refine .inr fun a w hp => ob_yes rfl ?_
      have h6 : a.tmps.getD 6 undef = .agg #[.bool sl1, .slice P1_ Pn1 Pc1, .slice R1_ Rn1 Rc1] := (hp.fact 1 6 (by kernel_rfl) rfl)
      unfold Does
      go_simp
      refine (stext_any _ _ lo L (IsR.fld (IL.kept hp.kept)) (by omega) (by omega)).mono ?_
      rintro e w' ⟨bs, rfl, HT, P8⟩
      exact ⟨_, rfl, P8, bs, rfl, HT, rtx_lenL (IsR.fld IL) HT (by omega) (by omega)⟩
    · refine .inr fun a w hp => ob_yes rfl ?_
      obtain ⟨bs7, e7, h7⟩ : ∃ bs, a.tmps.getD 7 undef = .string (str bs) ∧ RTx lo bs ∧ bs.length ≤ 9000 := (hp.fact 2 7 (by kernel_rfl) rfl)
      have hs7 : (str bs7).size ≤ 9000 := by rw [str_len]; exact h7.2
      have hns : ¬ 9223372036854775807 < (str bs7).size + 2 := by omega
      clear hs7
      unfold Does
      go_simp
      exact ⟨_, rfl, On.refl _, bs7 ++ [46, 46], by rw [← str_app]; rfl, bs7, h7.1, h7.2, rfl⟩
    · exact .inr fun a w hp => ob_yes rfl (ob_fieldS1 (hp.box (k := 0) rfl (Nat.le_refl _) (.inl (Nat.le_refl _)) (by kernel_rfl) rfl).1 rfl)
    · exact .inr fun a w hp => ob_yes rfl (ob_loadHi (hp.fact 4 9 (by kernel_rfl) rfl) (hp.box (k := 0) rfl (Nat.le_refl _) (.inl (Nat.le_refl _)) (by kernel_rfl) rfl).2 rfl)
    · refine .inr fun a w hp => ob_yes rfl ?_
      have h10 : a.tmps.getD 10 undef = .agg #[.bool sh1, .slice U1 Un1 Uc1, .slice V1 Vn1 Vc1] := (hp.fact 5 10 (by kernel_rfl) rfl)
      unfold Does
      go_simp
      refine (stext_any _ _ hi L (IsR.fld (IH.kept hp.kept)) (by omega) (by omega)).mono ?_
      rintro e w' ⟨bs, rfl, HT, P8⟩
      exact ⟨_, rfl, P8, bs, rfl, HT, rtx_lenL (IsR.fld IH) HT (by omega) (by omega)⟩
    · refine .inr fun a w hp => ob_yes rfl ?_
      obtain ⟨bs8, e8, h8⟩ : ∃ bs, a.tmps.getD 8 undef = .string (str bs) ∧ ∃ a, RTx lo a ∧ a.length ≤ 9000 ∧ bs = a ++ [46, 46] := (hp.fact 3 8 (by kernel_rfl) rfl)
      obtain ⟨bs11, e11, h11⟩ : ∃ bs, a.tmps.getD 11 undef = .string (str bs) ∧ RTx hi bs ∧ bs.length ≤ 9000 := (hp.fact 6 11 (by kernel_rfl) rfl)
      obtain ⟨a8, q1, q2, q3⟩ := h8
      subst q3
      have hs8 : (str (a8 ++ [46, 46])).size ≤ 9002 := by rw [str_len]; simp; omega
      have hs11 : (str bs11).size ≤ 9000 := by rw [str_len]; exact h11.2
      have hns : ¬ 9223372036854775807 < (str (a8 ++ [46, 46])).size + (str bs11).size := by omega
      clear hs8 hs11
      unfold Does
      go_simp
      exact ⟨_, rfl, On.refl _, a8 ++ [46, 46] ++ bs11, by rw [← str_app (a8 ++ [46, 46]) bs11], a8, bs11, q1, h11.1, rfl⟩
    · exact .inr fun a w hp => ob_yes rfl (ob_assign (hp.fact 7 12 (by kernel_rfl) rfl))
  · intro f wr hon hk hf hb hap
    obtain ⟨q0, qz⟩ := hb
    clear qz
    have O1 : Own wr (w.heap.size) 26 #[.bool sl1, .slice P1_ Pn1 Pc1, .slice R1_ Rn1 Rc1, .bool sh1, .slice U1 Un1 Uc1, .slice V1 Vn1 Vc1] := q0
    have c1_0 : wr.cell? ⟨w.heap.size, 0, none⟩ = some (.bool sl1) := O1.cell 0
    have z1_0 := O1.frozen 0
    have c1_1 : wr.cell? ⟨w.heap.size, 1, none⟩ = some (.slice P1_ Pn1 Pc1) := O1.cell 1
    have z1_1 := O1.frozen 1
    have c1_2 : wr.cell? ⟨w.heap.size, 2, none⟩ = some (.slice R1_ Rn1 Rc1) := O1.cell 2
    have z1_2 := O1.frozen 2
    have c1_3 : wr.cell? ⟨w.heap.size, 3, none⟩ = some (.bool sh1) := O1.cell 3
    have z1_3 := O1.frozen 3
    have c1_4 : wr.cell? ⟨w.heap.size, 4, none⟩ = some (.slice U1 Un1 Uc1) := O1.cell 4
    have z1_4 := O1.frozen 4
    have c1_5 : wr.cell? ⟨w.heap.size, 5, none⟩ = some (.slice V1 Vn1 Vc1) := O1.cell 5
    have z1_5 := O1.frozen 5
    clear q0
    obtain ⟨bs2, e2, h2⟩ : ∃ bs, f 2 = .string (str bs) ∧ STx lo hi bs := hf 8 2 rfl
    clear hf hap
    simp only [fillL, e2]
    clear e2
    go_wp2
    go_ret
    exact ⟨_, rfl, h2, hon⟩
end Num
end Go.Proofs.YtkchpagjkgmpmaaGreat
