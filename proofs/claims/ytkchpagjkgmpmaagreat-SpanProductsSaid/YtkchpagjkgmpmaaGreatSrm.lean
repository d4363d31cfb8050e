/-
  The specification's Mul of spans.
-/
import Derived.Test.YtkchpagjkgmpmaaGreatRowf
namespace Go.Proofs.YtkchpagjkgmpmaaGreat
open Go.RowKit
set_option linter.unusedVariables false
namespace Num
def prodsL (a b c d : Rat) : List Rat := [a * c, a * d, b * c, b * d]
theorem prods_snoc (a b c d x y : Rat) (k j : Nat) (hk : k < 2) (hj : j < 2) (hx : [a, b][k] = x) (hy : [c, d][j] = y) : (prodsL a b c d).take (2 * k + j) ++ [x * y] = (prodsL a b c d).take (2 * k + j + 1) := by
  subst hx; subst hy
  match k, j, hk, hj with
  | 0, 0, _, _ => rfl
  | 0, 1, _, _ => rfl
  | 1, 0, _, _ => rfl
  | 1, 1, _, _ => rfl
theorem prods_len (a b c d : Rat) (k : Nat) : ((prodsL a b c d).take k).length ≤ 1000000 := by
  rw [List.length_take]
  have : (prodsL a b c d).length = 4 := rfl
  omega
set_option maxRecDepth 100000 in
set_option maxHeartbeats 1600000 in
theorem rmul3_any (w : World) (v v' : Value) (lo hi lo' hi' : Rat) (L : Nat) (h : Sp w v lo hi L) (k : Sp w v' lo' hi' L) (hL2 : 2 ≤ L) (hL : L ≤ 200) :
    Calls Tryz.prog 35 #[v, v'] w (SpPost w (prodLo lo hi lo' hi') (prodHi lo hi lo' hi') (L + L)) := by
  obtain ⟨ba0, Aa0, na0, ca0, Ba0, ma0, oa0, bb0, Ab0, nb0, cb0, Bb0, mb0, ob0, rfl⟩ := h.form
  obtain ⟨ba1, Aa1, na1, ca1, Ba1, ma1, oa1, bb1, Ab1, nb1, cb1, Bb1, mb1, ob1, rfl⟩ := k.form
  have B : On w (((w.alloc (.cells #[.bool ba0, .slice Aa0 na0 ca0, .slice Ba0 ma0 oa0, .bool bb0, .slice Ab0 nb0 cb0, .slice Bb0 mb0 ob0] 26)).alloc (.cells #[.bool ba1, .slice Aa1 na1 ca1, .slice Ba1 ma1 oa1, .bool bb1, .slice Ab1 nb1 cb1, .slice Bb1 mb1 ob1] 26)).alloc (.cells #[.bool false, .slice none 0 0, .slice none 0 0, .bool false, .slice none 0 0, .slice none 0 0] 26)) := On.alloc (On.alloc (On.alloc (On.refl w) _) _) _
  have OB2 : w.heap.size ≤ w.heap.size ∧ Own (((w.alloc (.cells #[.bool ba0, .slice Aa0 na0 ca0, .slice Ba0 ma0 oa0, .bool bb0, .slice Ab0 nb0 cb0, .slice Bb0 mb0 ob0] 26)).alloc (.cells #[.bool ba1, .slice Aa1 na1 ca1, .slice Ba1 ma1 oa1, .bool bb1, .slice Ab1 nb1 cb1, .slice Bb1 mb1 ob1] 26)).alloc (.cells #[.bool false, .slice none 0 0, .slice none 0 0, .bool false, .slice none 0 0, .slice none 0 0] 26)) (w.heap.size) 26 #[.bool ba0, .slice Aa0 na0 ca0, .slice Ba0 ma0 oa0, .bool bb0, .slice Ab0 nb0 cb0, .slice Bb0 mb0 ob0] := ⟨by omega, (((Own.at_ w (w.heap.size) (by simp) 26 #[.bool ba0, .slice Aa0 na0 ca0, .slice Ba0 ma0 oa0, .bool bb0, .slice Ab0 nb0 cb0, .slice Bb0 mb0 ob0]).alloc (.cells #[.bool ba1, .slice Aa1 na1 ca1, .slice Ba1 ma1 oa1, .bool bb1, .slice Ab1 nb1 cb1, .slice Bb1 mb1 ob1] 26)).alloc (.cells #[.bool false, .slice none 0 0, .slice none 0 0, .bool false, .slice none 0 0, .slice none 0 0] 26))⟩
  have OB3 : w.heap.size ≤ w.heap.size + 1 ∧ Own (((w.alloc (.cells #[.bool ba0, .slice Aa0 na0 ca0, .slice Ba0 ma0 oa0, .bool bb0, .slice Ab0 nb0 cb0, .slice Bb0 mb0 ob0] 26)).alloc (.cells #[.bool ba1, .slice Aa1 na1 ca1, .slice Ba1 ma1 oa1, .bool bb1, .slice Ab1 nb1 cb1, .slice Bb1 mb1 ob1] 26)).alloc (.cells #[.bool false, .slice none 0 0, .slice none 0 0, .bool false, .slice none 0 0, .slice none 0 0] 26)) (w.heap.size + 1) 26 #[.bool ba1, .slice Aa1 na1 ca1, .slice Ba1 ma1 oa1, .bool bb1, .slice Ab1 nb1 cb1, .slice Bb1 mb1 ob1] := ⟨by omega, ((Own.at_ (w.alloc (.cells #[.bool ba0, .slice Aa0 na0 ca0, .slice Ba0 ma0 oa0, .bool bb0, .slice Ab0 nb0 cb0, .slice Bb0 mb0 ob0] 26)) (w.heap.size + 1) (by simp) 26 #[.bool ba1, .slice Aa1 na1 ca1, .slice Ba1 ma1 oa1, .bool bb1, .slice Ab1 nb1 cb1, .slice Bb1 mb1 ob1]).alloc (.cells #[.bool false, .slice none 0 0, .slice none 0 0, .bool false, .slice none 0 0, .slice none 0 0] 26))⟩
  have OB4 : w.heap.size ≤ w.heap.size + 2 ∧ Own (((w.alloc (.cells #[.bool ba0, .slice Aa0 na0 ca0, .slice Ba0 ma0 oa0, .bool bb0, .slice Ab0 nb0 cb0, .slice Bb0 mb0 ob0] 26)).alloc (.cells #[.bool ba1, .slice Aa1 na1 ca1, .slice Ba1 ma1 oa1, .bool bb1, .slice Ab1 nb1 cb1, .slice Bb1 mb1 ob1] 26)).alloc (.cells #[.bool false, .slice none 0 0, .slice none 0 0, .bool false, .slice none 0 0, .slice none 0 0] 26)) (w.heap.size + 2) 26 #[.bool false, .slice none 0 0, .slice none 0 0, .bool false, .slice none 0 0, .slice none 0 0] := ⟨by omega, (Own.at_ ((w.alloc (.cells #[.bool ba0, .slice Aa0 na0 ca0, .slice Ba0 ma0 oa0, .bool bb0, .slice Ab0 nb0 cb0, .slice Bb0 mb0 ob0] 26)).alloc (.cells #[.bool ba1, .slice Aa1 na1 ca1, .slice Ba1 ma1 oa1, .bool bb1, .slice Ab1 nb1 cb1, .slice Bb1 mb1 ob1] 26)) (w.heap.size + 2) (by simp) 26 #[.bool false, .slice none 0 0, .slice none 0 0, .bool false, .slice none 0 0, .slice none 0 0])⟩
  go_enter Tryz.func35, Tryz.ntmps35
  go_wp2
  refine wp_region_facts (by kernel_rfl) w [Fact.eq (.agg #[.bool ba0, .slice Aa0 na0 ca0, .slice Ba0 ma0 oa0, .bool bb0, .slice Ab0 nb0 cb0, .slice Bb0 mb0 ob0]), Fact.sp (lo) (hi) (L), Fact.eq (.agg #[.bool ba1, .slice Aa1 na1 ca1, .slice Ba1 ma1 oa1, .bool bb1, .slice Ab1 nb1 cb1, .slice Bb1 mb1 ob1]), Fact.sp (lo') (hi') (L), Fact.any, Fact.any] [Fact.sp (lo) (hi) (L), Fact.sp (lo') (hi') (L), Fact.any] [⟨6, 2, 26, 4, #[.bool ba0, .slice Aa0 na0 ca0, .slice Ba0 ma0 oa0, .bool bb0, .slice Ab0 nb0 cb0, .slice Bb0 mb0 ob0]⟩, ⟨6, 3, 26, 5, #[.bool ba1, .slice Aa1 na1 ca1, .slice Ba1 ma1 oa1, .bool bb1, .slice Ab1 nb1 cb1, .slice Bb1 mb1 ob1]⟩, ⟨6, 4, 26, 6, #[.bool false, .slice none 0 0, .slice none 0 0, .bool false, .slice none 0 0, .slice none 0 0]⟩] [w.heap.size, w.heap.size + 1, w.heap.size + 2] [none, none, none, none, none, none, none, none, none, none, some 10, some 11, some 12, some 13, none, none, none, none, none, none, none, none, none, none, none, none, none, none, none, none, none, none, none, none, none, none, none, none, none, none, none, none, none, none] (by kernel_rfl) (by kernel_rfl) (by kernel_rfl) rfl B ?_ ?_ ?_ ?_ ?_
  · exact ⟨fun _ => ⟨by simp, rfl, OB2⟩, fun _ => ⟨by simp, rfl, OB3⟩, fun _ => ⟨by simp, rfl, OB4⟩, trivial⟩
  · exact .inr (by simp <;> omega)
  · exact ⟨⟨noWords_S _ _ _ _ _ _ _ _ _ _ _ _ _ _, (.inl (Nat.le_refl _)), (.inr (store_obS (j := 1) (noWords_S _ _ _ _ _ _ _ _ _ _ _ _ _ _) rfl rfl rfl (by kernel_rfl) rfl rfl rfl))⟩, ⟨noWords_S _ _ _ _ _ _ _ _ _ _ _ _ _ _, (.inl (Nat.le_refl _)), (.inr (store_obS (j := 3) (noWords_S _ _ _ _ _ _ _ _ _ _ _ _ _ _) rfl rfl rfl (by kernel_rfl) rfl rfl rfl))⟩, ⟨noWords_S _ _ _ _ _ _ _ _ _ _ _ _ _ _, (.inl (Nat.le_refl _)), (.inl (Nat.le_refl _))⟩, trivial⟩
  · refine ⟨?_, ?_, ?_, ?_, ?_, ?_, trivial⟩
    · exact .inr fun a w hp => ob_yes rfl (ob_loadSp (hp.box (k := 0) rfl (Nat.le_refl _) (.inr (.inl (by kernel_rfl))) (by kernel_rfl) rfl).1 (hp.box (k := 0) rfl (Nat.le_refl _) (.inr (.inl (by kernel_rfl))) (by kernel_rfl) rfl).2 rfl)
    · refine .inr fun a w hp => ob_yes rfl ?_
      have h10 : a.tmps.getD 10 undef = .agg #[.bool ba0, .slice Aa0 na0 ca0, .slice Ba0 ma0 oa0, .bool bb0, .slice Ab0 nb0 cb0, .slice Bb0 mb0 ob0] := (hp.fact 0 10 (by kernel_rfl) rfl)
      unfold Does
      go_simp
      refine (rarg_any _ _ _ _ L (h.on hp.on) hL2 (by omega)).mono ?_
      rintro e w' ⟨u, rfl, I8, P8⟩
      exact ⟨_, rfl, P8, I8⟩
    · exact .inr fun a w hp => ob_yes rfl (ob_loadSp (hp.box (k := 1) rfl (Nat.le_refl _) (.inr (.inl (by kernel_rfl))) (by kernel_rfl) rfl).1 (hp.box (k := 1) rfl (Nat.le_refl _) (.inr (.inl (by kernel_rfl))) (by kernel_rfl) rfl).2 rfl)
    · refine .inr fun a w hp => ob_yes rfl ?_
      have h12 : a.tmps.getD 12 undef = .agg #[.bool ba1, .slice Aa1 na1 ca1, .slice Ba1 ma1 oa1, .bool bb1, .slice Ab1 nb1 cb1, .slice Bb1 mb1 ob1] := (hp.fact 2 12 (by kernel_rfl) rfl)
      unfold Does
      go_simp
      refine (rarg_any _ _ _ _ L (k.on hp.on) hL2 (by omega)).mono ?_
      rintro e w' ⟨u, rfl, I8, P8⟩
      exact ⟨_, rfl, P8, I8⟩
    · exact .inl rfl
    · exact .inl rfl
  · intro f wr hon hk hf hb hap
    obtain ⟨q0, q1, q2, qz⟩ := hb
    clear qz
    obtain ⟨cur2, O2, I2⟩ : ∃ cur, Own wr (w.heap.size) 26 cur ∧ IsS wr (.agg cur) (lo) (hi) (L) := q0
    obtain ⟨sl2, P2, Pn2, Pc2, R2, Rn2, Rc2, sh2, U2, Un2, Uc2, V2, Vn2, Vc2, hz2, IL2, IH2⟩ := id I2
    injection hz2 with hz2
    subst hz2
    have c2_0 : wr.cell? ⟨w.heap.size, 0, none⟩ = some (.bool sl2) := O2.cell 0
    have z2_0 := O2.frozen 0
    have c2_1 : wr.cell? ⟨w.heap.size, 1, none⟩ = some (.slice P2 Pn2 Pc2) := O2.cell 1
    have z2_1 := O2.frozen 1
    have c2_2 : wr.cell? ⟨w.heap.size, 2, none⟩ = some (.slice R2 Rn2 Rc2) := O2.cell 2
    have z2_2 := O2.frozen 2
    have c2_3 : wr.cell? ⟨w.heap.size, 3, none⟩ = some (.bool sh2) := O2.cell 3
    have z2_3 := O2.frozen 3
    have c2_4 : wr.cell? ⟨w.heap.size, 4, none⟩ = some (.slice U2 Un2 Uc2) := O2.cell 4
    have z2_4 := O2.frozen 4
    have c2_5 : wr.cell? ⟨w.heap.size, 5, none⟩ = some (.slice V2 Vn2 Vc2) := O2.cell 5
    have z2_5 := O2.frozen 5
    obtain ⟨cur3, O3, I3⟩ : ∃ cur, Own wr (w.heap.size + 1) 26 cur ∧ IsS wr (.agg cur) (lo') (hi') (L) := q1
    obtain ⟨sl3, P3, Pn3, Pc3, R3, Rn3, Rc3, sh3, U3, Un3, Uc3, V3, Vn3, Vc3, hz3, IL3, IH3⟩ := id I3
    injection hz3 with hz3
    subst hz3
    have c3_0 : wr.cell? ⟨w.heap.size + 1, 0, none⟩ = some (.bool sl3) := O3.cell 0
    have z3_0 := O3.frozen 0
    have c3_1 : wr.cell? ⟨w.heap.size + 1, 1, none⟩ = some (.slice P3 Pn3 Pc3) := O3.cell 1
    have z3_1 := O3.frozen 1
    have c3_2 : wr.cell? ⟨w.heap.size + 1, 2, none⟩ = some (.slice R3 Rn3 Rc3) := O3.cell 2
    have z3_2 := O3.frozen 2
    have c3_3 : wr.cell? ⟨w.heap.size + 1, 3, none⟩ = some (.bool sh3) := O3.cell 3
    have z3_3 := O3.frozen 3
    have c3_4 : wr.cell? ⟨w.heap.size + 1, 4, none⟩ = some (.slice U3 Un3 Uc3) := O3.cell 4
    have z3_4 := O3.frozen 4
    have c3_5 : wr.cell? ⟨w.heap.size + 1, 5, none⟩ = some (.slice V3 Vn3 Vc3) := O3.cell 5
    have z3_5 := O3.frozen 5
    have O4 : Own wr (w.heap.size + 2) 26 #[.bool false, .slice none 0 0, .slice none 0 0, .bool false, .slice none 0 0, .slice none 0 0] := q2
    have c4_0 : wr.cell? ⟨w.heap.size + 2, 0, none⟩ = some (.bool false) := O4.cell 0
    have z4_0 := O4.frozen 0
    have c4_1 : wr.cell? ⟨w.heap.size + 2, 1, none⟩ = some (.slice none 0 0) := O4.cell 1
    have z4_1 := O4.frozen 1
    have c4_2 : wr.cell? ⟨w.heap.size + 2, 2, none⟩ = some (.slice none 0 0) := O4.cell 2
    have z4_2 := O4.frozen 2
    have c4_3 : wr.cell? ⟨w.heap.size + 2, 3, none⟩ = some (.bool false) := O4.cell 3
    have z4_3 := O4.frozen 3
    have c4_4 : wr.cell? ⟨w.heap.size + 2, 4, none⟩ = some (.slice none 0 0) := O4.cell 4
    have z4_4 := O4.frozen 4
    have c4_5 : wr.cell? ⟨w.heap.size + 2, 5, none⟩ = some (.slice none 0 0) := O4.cell 5
    have z4_5 := O4.frozen 5
    clear q2
    clear hf hap
    simp only [fillL]
    have HG4 := O4.lt
    clear c3_0 z3_0 c3_1 z3_1 c3_2 z3_2 c3_3 z3_3 c3_4 z3_4 c3_5 z3_5 c4_0 z4_0 c4_1 z4_1 c4_2 z4_2 c4_3 z4_3 c4_4 z4_4 c4_5 z4_5
    clear B h k hk I2 I3 OB2 OB3 OB4
    have FL := IsR.fld IL3
    have FH := IsR.fld IH3
    have HRR := frats_two (IsR.fld IL2) (IsR.fld IH2)
    clear IL2 IH2 IL3 IH3 O2
    have PA := (On.refl wr).alloc (.cells #[.bool sl2, .slice P2 Pn2 Pc2, .slice R2 Rn2 Rc2, .bool sh2, .slice U2 Un2 Uc2, .slice V2 Vn2 Vc2] 24)
    replace O3 := O3.on PA
    replace O4 := O4.on PA
    replace FL := FL.on PA
    replace FH := FH.on PA
    have B := hon.trans PA
    skip
    have hg0 : w.heap.size + 2 < wr.heap.size := HG4
    clear PA hon HG4
    obtain ⟨gA, hgA⟩ : ∃ g, wr.heap.size = g := ⟨_, rfl⟩
    rw [hgA] at HRR hg0
    go_wp2
    go_loopw [5, 20] (fun v i wo => ∃ (k : Nat) (vo : Value), k ≤ 2 ∧ i = .int .i64 (k : Int) ∧ vo = v ∧ RowF wo (gA + 1) vo ((prodsL lo hi lo' hi').take (2 * k)) (L + L) ∧ Own wo (w.heap.size + 1) 26 #[.bool sl3, .slice P3 Pn3 Pc3, .slice R3 Rn3 Rc3, .bool sh3, .slice U3 Un3 Uc3, .slice V3 Vn3 Vc3] ∧ Own wo (w.heap.size + 2) 26 #[.bool false, .slice none 0 0, .slice none 0 0, .bool false, .slice none 0 0, .slice none 0 0] ∧ FRats wo gA [lo, hi] L ∧ Fld wo (.agg #[.bool sl3, .slice P3 Pn3 Pc3, .slice R3 Rn3 Rc3]) lo' L ∧ Fld wo (.agg #[.bool sh3, .slice U3 Un3 Uc3, .slice V3 Vn3 Vc3]) hi' L ∧ On w wo) (fun _ i _ => 2 - (intOf i).toNat)
    case atStart =>
      exact ⟨0, _, by omega, rfl, rfl, RowF.nil _ _ _, O3, O4, HRR, FL, FH, B⟩
    case round =>
      clear O3 O4 HRR FL FH B hgA
      obtain ⟨wo, hwo⟩ : ∃ x, x = wr := ⟨_, rfl⟩
      obtain ⟨k, v, hk, rfl, hv, RW, O3, O4, RA, FL, FH, hon⟩ := hrel
      subst hv
      subst hwo
      have hlo3 := O3.lt
      have hlo4 := O4.lt
      by_cases hlt : k < 2
      · obtain ⟨s, A, n, c1, A', n', c2, d0, d1, d2, IX⟩ := RA.at_ k hlt
        have HX := Lib.hid (show [lo, hi][k] = [lo, hi][k] from rfl)
        obtain ⟨x, hx⟩ : ∃ x, [lo, hi][k]'hlt = x := ⟨_, rfl⟩
        rw [hx] at IX
        clear HX
        have HX := Lib.hid hx
        clear hx
        have hA : gA < wo.heap.size := by obtain ⟨_, q, _⟩ := RA; exact q.lt
        obtain ⟨g7, hg7⟩ : ∃ g, wo.heap.size = g := ⟨_, rfl⟩
        have PA := (On.refl wo).alloc (.cells #[.bool s, .slice A n c1, .slice A' n' c2] 24)
        have O7 := Own.new wo 24 #[.bool s, .slice A n c1, .slice A' n' c2]
        rw [hg7] at O7
        have y3 := O3.on PA
        have w3_0 : (wo.alloc (.cells #[.bool s, .slice A n c1, .slice A' n' c2] 24)).cell? ⟨w.heap.size + 1, 0, none⟩ = some (.bool sl3) := y3.cell 0
        have w3_1 : (wo.alloc (.cells #[.bool s, .slice A n c1, .slice A' n' c2] 24)).cell? ⟨w.heap.size + 1, 1, none⟩ = some (.slice P3 Pn3 Pc3) := y3.cell 1
        have w3_2 : (wo.alloc (.cells #[.bool s, .slice A n c1, .slice A' n' c2] 24)).cell? ⟨w.heap.size + 1, 2, none⟩ = some (.slice R3 Rn3 Rc3) := y3.cell 2
        have w3_3 : (wo.alloc (.cells #[.bool s, .slice A n c1, .slice A' n' c2] 24)).cell? ⟨w.heap.size + 1, 3, none⟩ = some (.bool sh3) := y3.cell 3
        have w3_4 : (wo.alloc (.cells #[.bool s, .slice A n c1, .slice A' n' c2] 24)).cell? ⟨w.heap.size + 1, 4, none⟩ = some (.slice U3 Un3 Uc3) := y3.cell 4
        have w3_5 : (wo.alloc (.cells #[.bool s, .slice A n c1, .slice A' n' c2] 24)).cell? ⟨w.heap.size + 1, 5, none⟩ = some (.slice V3 Vn3 Vc3) := y3.cell 5
        have w3_f0 := y3.frozen 0
        have w3_f1 := y3.frozen 1
        have w3_f2 := y3.frozen 2
        have w3_f3 := y3.frozen 3
        have w3_f4 := y3.frozen 4
        have w3_f5 := y3.frozen 5
        have HB := frats_two (FL.on PA) (FH.on PA)
        rw [show (wo.alloc (.cells #[.bool s, .slice A n c1, .slice A' n' c2] 24)).heap.size = g7 + 1 from by rw [← hg7]; simp] at HB
        have PB := PA.trans ((On.refl (wo.alloc (.cells #[.bool s, .slice A n c1, .slice A' n' c2] 24))).alloc (.cells #[.bool sl3, .slice P3 Pn3 Pc3, .slice R3 Rn3 Rc3, .bool sh3, .slice U3 Un3 Uc3, .slice V3 Vn3 Vc3] 24))
        replace O7 := O7.on ((On.refl (wo.alloc (.cells #[.bool s, .slice A n c1, .slice A' n' c2] 24))).alloc (.cells #[.bool sl3, .slice P3 Pn3 Pc3, .slice R3 Rn3 Rc3, .bool sh3, .slice U3 Un3 Uc3, .slice V3 Vn3 Vc3] 24))
        replace O3 := O3.on PB
        replace O4 := O4.on PB
        replace RA := RA.on PB
        replace FL := FL.on PB
        replace FH := FH.on PB
        replace IX := IX.on PB
        have RW2 := RW.on PB
        have hon2 := hon.trans PB
        have hne : ∀ g, v.ownBlock = some g → g ≠ g7 ∧ g ≠ g7 + 1 := fun g e => by have := (RW.lt g e).2; omega
        have hA7 : gA < g7 := by rw [← hg7]; exact hA
        clear PA PB hon RW y3 hA
        go_wp2
        clear w3_0 w3_f0 w3_1 w3_f1 w3_2 w3_f2 w3_3 w3_f3 w3_4 w3_f4 w3_5 w3_f5 d0 d1 d2
        go_loopw [5, 30] (fun v2 i2 wi => ∃ (j : Nat) (vo : Value), j ≤ 2 ∧ i2 = .int .i64 (j : Int) ∧ vo = v2 ∧ RowF wi (gA + 1) vo ((prodsL lo hi lo' hi').take (2 * k + j)) (L + L) ∧ Own wi (w.heap.size + 1) 26 #[.bool sl3, .slice P3 Pn3 Pc3, .slice R3 Rn3 Rc3, .bool sh3, .slice U3 Un3 Uc3, .slice V3 Vn3 Vc3] ∧ Own wi (w.heap.size + 2) 26 #[.bool false, .slice none 0 0, .slice none 0 0, .bool false, .slice none 0 0, .slice none 0 0] ∧ FRats wi gA [lo, hi] L ∧ Fld wi (.agg #[.bool sl3, .slice P3 Pn3 Pc3, .slice R3 Rn3 Rc3]) lo' L ∧ Fld wi (.agg #[.bool sh3, .slice U3 Un3 Uc3, .slice V3 Vn3 Vc3]) hi' L ∧ On w wi ∧ FRats wi (g7 + 1) [lo', hi'] L ∧ Own wi g7 24 #[.bool s, .slice A n c1, .slice A' n' c2] ∧ Fld wi (.agg #[.bool s, .slice A n c1, .slice A' n' c2]) x L ∧ ∀ g, vo.ownBlock = some g → g ≠ g7 ∧ g ≠ g7 + 1) (fun _ i _ => 2 - (intOf i).toNat)
        case atStart =>
          exact ⟨0, _, by omega, rfl, rfl, RW2, O3, O4, RA, FL, FH, hon2, HB, O7, IX, hne⟩
        case round =>
          clear O3 O4 RA FL FH hon2 HB O7 IX hne RW2 hg7
          obtain ⟨wi, hwi⟩ : ∃ x, x = wr := ⟨_, rfl⟩
          obtain ⟨j, v2, hj, rfl, hv2, RW, O3, O4, RA, FL, FH, hon, HB, O7, IX, hne⟩ := hrel
          subst hv2
          subst hwi
          have hl7 := O7.lt
          by_cases hlj : j < 2
          · obtain ⟨s9, A9, n9, c9, D9, m9, e9, d0, d1, d2, IY⟩ := HB.at_ j hlj
            obtain ⟨y, hy⟩ : ∃ y, [lo', hi'][j]'hlj = y := ⟨_, rfl⟩
            rw [hy] at IY
            have HS := Lib.hid (prods_snoc lo hi lo' hi' x y k j hlt hlj HX.out hy)
            clear hy
            have PA := (On.refl wi).alloc (.cells #[.bool s9, .slice A9 n9 c9, .slice D9 m9 e9] 24)
            have O9 := Own.new wi 24 #[.bool s9, .slice A9 n9 c9, .slice D9 m9 e9]
            have y7 := O7.on PA
            have w7_0 : (wi.alloc (.cells #[.bool s9, .slice A9 n9 c9, .slice D9 m9 e9] 24)).cell? ⟨g7, 0, none⟩ = some (.bool s) := y7.cell 0
            have w7_1 : (wi.alloc (.cells #[.bool s9, .slice A9 n9 c9, .slice D9 m9 e9] 24)).cell? ⟨g7, 1, none⟩ = some (.slice A n c1) := y7.cell 1
            have w7_2 : (wi.alloc (.cells #[.bool s9, .slice A9 n9 c9, .slice D9 m9 e9] 24)).cell? ⟨g7, 2, none⟩ = some (.slice A' n' c2) := y7.cell 2
            have w7_f0 := y7.frozen 0
            have w7_f1 := y7.frozen 1
            have w7_f2 := y7.frozen 2
            have FX := IX.on PA
            have FY := IY.on PA
            go_wp2_with fail
            refine (smul_any _ _ _ x y L FX FY hL2 (by omega)).mono ?_
            rintro e wm ⟨u, rfl, I, Pm⟩
            obtain ⟨s5, A5, n5, c5, D5, m5, e5, rfl⟩ := isR_form I
            clear w7_0 w7_f0 w7_1 w7_f1 w7_2 w7_f2 d0 d1 d2 O9 FX FY IY y7
            have PB := (PA.trans Pm).alloc (.cells #[.bool s5, .slice A5 n5 c5, .slice D5 m5 e5] 24)
            have O6 := Own.new wm 24 #[.bool s5, .slice A5 n5 c5, .slice D5 m5 e5]
            have I6 := IsR.fld (I.on ((On.refl wm).alloc (.cells #[.bool s5, .slice A5 n5 c5, .slice D5 m5 e5] 24)))
            replace O3 := O3.on PB
            replace O4 := O4.on PB
            replace RA := RA.on PB
            replace FL := FL.on PB
            replace FH := FH.on PB
            replace IX := IX.on PB
            replace HB := HB.on PB
            replace O7 := O7.on PB
            replace hon := hon.trans PB
            have HR := Lib.hid (RW.on PB)
            clear RW
            have HC0 := Lib.hid (O6.cell 0)
            have HC1 := Lib.hid (O6.cell 1)
            have HC2 := Lib.hid (O6.cell 2)
            have HF := Lib.hid I6
            have hbs : gA + 1 ≤ (wm.alloc (.cells #[.bool s5, .slice A5 n5 c5, .slice D5 m5 e5] 24)).heap.size := by have := PB.size; have := O7.lt; omega
            have HBS := Lib.hid hbs
            clear hbs I I6 O6 Pm PA
            go_wp2_with (at_builtin; refine wpList_app_rat rfl (.tmp 34) (.tmp 38) rfl (gA + 1) v2 _ (L + L) rfl HR.out wm.heap.size 1 rfl s5 A5 n5 c5 D5 m5 e5 (x * y) HC0.out HC1.out HC2.out HF.out (prods_len _ _ _ _ _) HBS.out ?_; intro v' w5 hrow5 hgrow5 hor5)
            have hfar := HR.out.far
            have hlt5 := HR.out.lt
            have hn1 : some (w.heap.size + 1) ≠ v2.ownBlock := fun e => by have := (hlt5 _ e.symm).1; omega
            have hn2 : some (w.heap.size + 2) ≠ v2.ownBlock := fun e => by have := (hlt5 _ e.symm).1; omega
            have hn3 : some gA ≠ v2.ownBlock := fun e => by have := (hlt5 _ e.symm).1; omega
            have hn4 : some g7 ≠ v2.ownBlock := fun e => (hne _ e.symm).1 rfl
            have hn5 : some (g7 + 1) ≠ v2.ownBlock := fun e => (hne _ e.symm).2 rfl
            have hsz7 : g7 + 1 < (wm.alloc (.cells #[.bool s5, .slice A5 n5 c5, .slice D5 m5 e5] 24)).heap.size := by obtain ⟨_, q, _⟩ := HB; exact q.lt
            rw [HS.out] at hrow5
            replace O3 := own_grown O3 hgrow5 hn1
            replace O4 := own_grown O4 hgrow5 hn2
            replace RA := RA.row hgrow5 hfar hn3
            replace FL := FL.row hgrow5 hfar
            replace FH := FH.row hgrow5 hfar
            replace IX := IX.row hgrow5 hfar
            replace HB := HB.row hgrow5 hfar hn5
            replace O7 := own_grown O7 hgrow5 hn4
            replace hon := on_grown hon hgrow5 (fun g e => by have := (hlt5 g e).1; omega)
            have hne5 : ∀ g, v'.ownBlock = some g → g ≠ g7 ∧ g ≠ g7 + 1 := fun g e => by
              rcases hor5 with q | q
              · exact hne g (by rw [← q]; exact e)
              · rw [q] at e; injection e with e; omega
            clear HR HC0 HC1 HC2 HF HBS PB hgrow5 hor5 hfar hlt5 hn1 hn2 hn3 hn4 hn5 hsz7 hne
            go_wp2
            go_roundw
            case rel =>
              repeat apply Exists.intro
              rw [show decide ((k : Int) < 2) = true from decide_eq_true (by omega)]
              refine ⟨?_, rfl⟩
              exact ⟨j + 1, v', by omega, by go_num, rfl, hrow5, O3, O4, RA, FL, FH, hon, HB, O7, IX, hne5⟩
            case measure =>
              simp [intOf]; omega
          · obtain rfl : j = 2 := by omega
            go_wp2
            rw [show 2 * k + 2 = 2 * (k + 1) from by omega] at RW
            go_roundw
            case rel =>
              exact ⟨k + 1, _, by omega, by go_num, rfl, RW, O3, O4, RA, FL, FH, hon⟩
            case measure =>
              simp [intOf]; omega
      · obtain rfl : k = 2 := by omega
        obtain ⟨g, c, rfl, hc, hcb, HFR⟩ := RW.frats (by show 2 ≤ 4; decide)
        go_wp2_with fail
        refine (raround3_any _ (lo * lo') [lo * hi', hi * lo', hi * hi'] g c (L + L) HFR (by omega) (by omega) hc hcb).mono ?_
        rintro e w2 ⟨u, rfl, I, P2⟩
        obtain ⟨sl5, P5, Pn5, Pc5, R5, Rn5, Rc5, sh5, U5, Un5, Uc5, V5, Vn5, Vc5, rfl, IL5, IH5⟩ := id I
        have hon2 := hon.trans P2
        have OB4 : w.heap.size ≤ w.heap.size + 2 ∧ _ := ⟨by omega, O4.on P2⟩
        have c4_0 : w2.cell? ⟨w.heap.size + 2, 0, none⟩ = some (.bool false) := OB4.2.cell 0
        have c4_1 : w2.cell? ⟨w.heap.size + 2, 1, none⟩ = some (.slice none 0 0) := OB4.2.cell 1
        have c4_2 : w2.cell? ⟨w.heap.size + 2, 2, none⟩ = some (.slice none 0 0) := OB4.2.cell 2
        have c4_3 : w2.cell? ⟨w.heap.size + 2, 3, none⟩ = some (.bool false) := OB4.2.cell 3
        have c4_4 : w2.cell? ⟨w.heap.size + 2, 4, none⟩ = some (.slice none 0 0) := OB4.2.cell 4
        have c4_5 : w2.cell? ⟨w.heap.size + 2, 5, none⟩ = some (.slice none 0 0) := OB4.2.cell 5
        have c4_f0 := OB4.2.frozen 0
        have c4_f1 := OB4.2.frozen 1
        have c4_f2 := OB4.2.frozen 2
        have c4_f3 := OB4.2.frozen 3
        have c4_f4 := OB4.2.frozen 4
        have c4_f5 := OB4.2.frozen 5
        have I5s := I.kept (Kept.only (only6 (w := w2) (g := w.heap.size + 2) (.bool sl5) (.slice P5 Pn5 Pc5) (.slice R5 Rn5 Rc5) (.bool sh5) (.slice U5 Un5 Uc5) (.slice V5 Vn5 Vc5)) OB4.2 (noWords_S _ _ _ _ _ _ _ _ _ _ _ _ _ _))
        have hon6 := on6 (g := w.heap.size + 2) hon2 (by omega) (.bool sl5) (.slice P5 Pn5 Pc5) (.slice R5 Rn5 Rc5) (.bool sh5) (.slice U5 Un5 Uc5) (.slice V5 Vn5 Vc5)
        clear HFR RA FL FH O3 O4 hon
        go_wp2
        exact bodyPost_ret (v := .agg #[.bool sl5, .slice P5 Pn5 Pc5, .slice R5 Rn5 Rc5, .bool sh5, .slice U5 Un5 Uc5, .slice V5 Vn5 Vc5]) (by simp [results, Tryz.results35, go_sem, c4_0, c4_1, c4_2, c4_3, c4_4, c4_5]) rfl ⟨_, rfl, I5s, hon6⟩
end Num
end Go.Proofs.YtkchpagjkgmpmaaGreat
