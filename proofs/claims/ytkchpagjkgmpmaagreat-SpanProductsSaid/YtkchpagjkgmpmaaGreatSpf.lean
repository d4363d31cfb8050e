/-
  The functions of spans: own, Point, Make, Width, Neg, Not, Add, Sub, Hull, Meet, Clip, Contains, Inside.
-/
import Derived.Test.YtkchpagjkgmpmaaGreatSpv
import Derived.Test.YtkchpagjkgmpmaaGreatZcmp
namespace Go.Proofs.YtkchpagjkgmpmaaGreat
open Go.RowKit
set_option linter.unusedVariables false
namespace Num
set_option maxRecDepth 100000 in
set_option maxHeartbeats 1600000 in
theorem sown_any (w : World) (v : Value) (r : Rat) (L : Nat) (h : Fld w v r L) (hL2 : 2 ≤ L) (hL : L ≤ 1000) :
    Calls Tryz.prog 46 #[v] w (RatPost w r (L + L + 1)) := by
  obtain ⟨b0, A0, n0, c0, D0, m0, e0, rfl⟩ := fld_form h
  have B : On w ((w.alloc (.cells #[.bool b0, .slice A0 n0 c0, .slice D0 m0 e0] 24)).alloc (.cells #[.bool false, .slice none 0 0, .slice none 0 0] 24)) := On.alloc (On.alloc (On.refl w) _) _
  have OB1 : w.heap.size ≤ w.heap.size ∧ Own ((w.alloc (.cells #[.bool b0, .slice A0 n0 c0, .slice D0 m0 e0] 24)).alloc (.cells #[.bool false, .slice none 0 0, .slice none 0 0] 24)) (w.heap.size) 24 #[.bool b0, .slice A0 n0 c0, .slice D0 m0 e0] := ⟨by omega, ((Own.at_ w (w.heap.size) (by simp) 24 #[.bool b0, .slice A0 n0 c0, .slice D0 m0 e0]).alloc (.cells #[.bool false, .slice none 0 0, .slice none 0 0] 24))⟩
  have OB2 : w.heap.size ≤ w.heap.size + 1 ∧ Own ((w.alloc (.cells #[.bool b0, .slice A0 n0 c0, .slice D0 m0 e0] 24)).alloc (.cells #[.bool false, .slice none 0 0, .slice none 0 0] 24)) (w.heap.size + 1) 24 #[.bool false, .slice none 0 0, .slice none 0 0] := ⟨by omega, (Own.at_ (w.alloc (.cells #[.bool b0, .slice A0 n0 c0, .slice D0 m0 e0] 24)) (w.heap.size + 1) (by simp) 24 #[.bool false, .slice none 0 0, .slice none 0 0])⟩
  go_enter Tryz.func46, Tryz.ntmps46
  go_wp2_with fail
  refine (addr_any _ _ _ r 0 L (h.on B) (IsR.fld (isR_zero _ _)) hL2 (by omega)).mono ?_
  rintro e w1 ⟨u, rfl, I, P1⟩
  rw [show r + 0 = r from by grind] at I
  obtain ⟨s2, P2, Pn2, Pc2, R2, Rn2, Rc2, rfl⟩ := isR_form I
  replace OB1 := And.intro OB1.1 (OB1.2.on P1)
  replace OB2 := And.intro OB2.1 (OB2.2.on P1)
  replace B := B.trans P1
  have c2_0 : w1.cell? ⟨w.heap.size + 1, 0, none⟩ = some (.bool false) := OB2.2.cell 0
  have c2_1 : w1.cell? ⟨w.heap.size + 1, 1, none⟩ = some (.slice none 0 0) := OB2.2.cell 1
  have c2_2 : w1.cell? ⟨w.heap.size + 1, 2, none⟩ = some (.slice none 0 0) := OB2.2.cell 2
  have c2_f0 := OB2.2.frozen 0
  have c2_f1 := OB2.2.frozen 1
  have c2_f2 := OB2.2.frozen 2
  have I2 := I.kept (Kept.only (only3 (w := w1) (g := w.heap.size + 1) (.bool s2) (.slice P2 Pn2 Pc2) (.slice R2 Rn2 Rc2)) OB2.2 (noWords_R _ _ _ _ _ _ _))
  have hon := on3 (g := w.heap.size + 1) B (by omega) (.bool s2) (.slice P2 Pn2 Pc2) (.slice R2 Rn2 Rc2)
  go_wp2
  exact bodyPost_ret (v := .agg #[.bool s2, .slice P2 Pn2 Pc2, .slice R2 Rn2 Rc2]) (by simp [results, Tryz.results46, go_sem, c2_0, c2_1, c2_2]) rfl ⟨_, rfl, I2, hon⟩
set_option maxRecDepth 100000 in
set_option maxHeartbeats 1600000 in
theorem spoint_any (w : World) (v : Value) (r : Rat) (L : Nat) (h : Fld w v r L) (hL2 : 2 ≤ L) (hL : L ≤ 1000) :
    Calls Tryz.prog 15 #[v] w (SpPost w r r (L + L + 1)) := by
  obtain ⟨b0, A0, n0, c0, D0, m0, e0, rfl⟩ := fld_form h
  have B : On w ((w.alloc (.cells #[.bool b0, .slice A0 n0 c0, .slice D0 m0 e0] 24)).alloc (.cells #[.bool false, .slice none 0 0, .slice none 0 0, .bool false, .slice none 0 0, .slice none 0 0] 26)) := On.alloc (On.alloc (On.refl w) _) _
  have OB1 : w.heap.size ≤ w.heap.size ∧ Own ((w.alloc (.cells #[.bool b0, .slice A0 n0 c0, .slice D0 m0 e0] 24)).alloc (.cells #[.bool false, .slice none 0 0, .slice none 0 0, .bool false, .slice none 0 0, .slice none 0 0] 26)) (w.heap.size) 24 #[.bool b0, .slice A0 n0 c0, .slice D0 m0 e0] := ⟨by omega, ((Own.at_ w (w.heap.size) (by simp) 24 #[.bool b0, .slice A0 n0 c0, .slice D0 m0 e0]).alloc (.cells #[.bool false, .slice none 0 0, .slice none 0 0, .bool false, .slice none 0 0, .slice none 0 0] 26))⟩
  have OB2 : w.heap.size ≤ w.heap.size + 1 ∧ Own ((w.alloc (.cells #[.bool b0, .slice A0 n0 c0, .slice D0 m0 e0] 24)).alloc (.cells #[.bool false, .slice none 0 0, .slice none 0 0, .bool false, .slice none 0 0, .slice none 0 0] 26)) (w.heap.size + 1) 26 #[.bool false, .slice none 0 0, .slice none 0 0, .bool false, .slice none 0 0, .slice none 0 0] := ⟨by omega, (Own.at_ (w.alloc (.cells #[.bool b0, .slice A0 n0 c0, .slice D0 m0 e0] 24)) (w.heap.size + 1) (by simp) 26 #[.bool false, .slice none 0 0, .slice none 0 0, .bool false, .slice none 0 0, .slice none 0 0])⟩
  go_enter Tryz.func15, Tryz.ntmps15
  go_wp2
  refine wp_region_facts (by kernel_rfl) w [Fact.eq (.agg #[.bool b0, .slice A0 n0 c0, .slice D0 m0 e0]), Fact.rat (r) (L + L + 1), Fact.eq (.agg #[.bool b0, .slice A0 n0 c0, .slice D0 m0 e0]), Fact.rat (r) (L + L + 1), Fact.sp (r) (r) (L + L + 1), Fact.any] [Fact.any, Fact.sp (r) (r) (L + L + 1)] [⟨6, 1, 24, 6, #[.bool b0, .slice A0 n0 c0, .slice D0 m0 e0]⟩, ⟨6, 2, 26, 5, #[.bool false, .slice none 0 0, .slice none 0 0, .bool false, .slice none 0 0, .slice none 0 0]⟩] [w.heap.size, w.heap.size + 1] [none, none, none, some 3, some 4, some 5, some 6, some 7] (by kernel_rfl) (by kernel_rfl) (by kernel_rfl) rfl B ?_ ?_ ?_ ?_ ?_
  · exact ⟨fun _ => ⟨by simp, rfl, OB1⟩, fun _ => ⟨by simp, rfl, OB2⟩, trivial⟩
  · exact .inr (by simp <;> omega)
  · exact ⟨⟨noWords_R _ _ _ _ _ _ _, (.inl (Nat.le_refl _)), (.inl (Nat.le_refl _))⟩, ⟨noWords_S _ _ _ _ _ _ _ _ _ _ _ _ _ _, (.inl (Nat.le_refl _)), (.inr (store_obS (j := 4) (noWords_S _ _ _ _ _ _ _ _ _ _ _ _ _ _) rfl rfl rfl (by kernel_rfl) rfl rfl rfl))⟩, trivial⟩
  · refine ⟨?_, ?_, ?_, ?_, ?_, ?_, trivial⟩
    · exact .inr fun a w hp => ob_yes rfl (ob_loadR (hp.box (k := 0) rfl (Nat.le_refl _) (.inl (Nat.le_refl _)) (by kernel_rfl) rfl).1 (hp.box (k := 0) rfl (Nat.le_refl _) (.inl (Nat.le_refl _)) (by kernel_rfl) rfl).2 rfl)
    · refine .inr fun a w hp => ob_yes rfl ?_
      have h3 : a.tmps.getD 3 undef = .agg #[.bool b0, .slice A0 n0 c0, .slice D0 m0 e0] := (hp.fact 0 3 (by kernel_rfl) rfl)
      unfold Does
      go_simp
      refine (sown_any _ _ _ L (h.on hp.on) hL2 hL).mono ?_
      rintro e w' ⟨u, rfl, I8, P8⟩
      exact ⟨_, rfl, P8, I8⟩
    · exact .inr fun a w hp => ob_yes rfl (ob_loadR (hp.box (k := 0) rfl (Nat.le_refl _) (.inl (Nat.le_refl _)) (by kernel_rfl) rfl).1 (hp.box (k := 0) rfl (Nat.le_refl _) (.inl (Nat.le_refl _)) (by kernel_rfl) rfl).2 rfl)
    · refine .inr fun a w hp => ob_yes rfl ?_
      have h5 : a.tmps.getD 5 undef = .agg #[.bool b0, .slice A0 n0 c0, .slice D0 m0 e0] := (hp.fact 2 5 (by kernel_rfl) rfl)
      unfold Does
      go_simp
      refine (sown_any _ _ _ L (h.on hp.on) hL2 hL).mono ?_
      rintro e w' ⟨u, rfl, I8, P8⟩
      exact ⟨_, rfl, P8, I8⟩
    · refine .inr fun a w hp => ob_yes rfl ?_
      have h4 : IsR w (a.tmps.getD 4 undef) (r) (L + L + 1) := (hp.fact 1 4 (by kernel_rfl) rfl)
      obtain ⟨v4, e4⟩ : ∃ v, a.tmps.getD 4 undef = v := ⟨_, rfl⟩
      rw [e4] at h4
      have h6 : IsR w (a.tmps.getD 6 undef) (r) (L + L + 1) := (hp.fact 3 6 (by kernel_rfl) rfl)
      obtain ⟨v6, e6⟩ : ∃ v, a.tmps.getD 6 undef = v := ⟨_, rfl⟩
      rw [e6] at h6
      exact ob_buildS e4 e6 h4 h6 (fun x hx => hx)
    · exact .inl rfl
  · intro f wr hon hk hf hb hap
    obtain ⟨q0, q1, qz⟩ := hb
    clear qz
    have O1 : Own wr (w.heap.size) 24 #[.bool b0, .slice A0 n0 c0, .slice D0 m0 e0] := q0
    have c1_0 : wr.cell? ⟨w.heap.size, 0, none⟩ = some (.bool b0) := O1.cell 0
    have z1_0 := O1.frozen 0
    have c1_1 : wr.cell? ⟨w.heap.size, 1, none⟩ = some (.slice A0 n0 c0) := O1.cell 1
    have z1_1 := O1.frozen 1
    have c1_2 : wr.cell? ⟨w.heap.size, 2, none⟩ = some (.slice D0 m0 e0) := O1.cell 2
    have z1_2 := O1.frozen 2
    clear q0
    obtain ⟨cur2, O2, I2⟩ : ∃ cur, Own wr (w.heap.size + 1) 26 cur ∧ IsS wr (.agg cur) (r) (r) (L + L + 1) := q1
    obtain ⟨sl2, P2, Pn2, Pc2, R2, Rn2, Rc2, sh2, U2, Un2, Uc2, V2, Vn2, Vc2, hz2, IL2, IH2⟩ := id I2
    injection hz2 with hz2
    subst hz2
    have c2_0 : wr.cell? ⟨w.heap.size + 1, 0, none⟩ = some (.bool sl2) := O2.cell 0
    have z2_0 := O2.frozen 0
    have c2_1 : wr.cell? ⟨w.heap.size + 1, 1, none⟩ = some (.slice P2 Pn2 Pc2) := O2.cell 1
    have z2_1 := O2.frozen 1
    have c2_2 : wr.cell? ⟨w.heap.size + 1, 2, none⟩ = some (.slice R2 Rn2 Rc2) := O2.cell 2
    have z2_2 := O2.frozen 2
    have c2_3 : wr.cell? ⟨w.heap.size + 1, 3, none⟩ = some (.bool sh2) := O2.cell 3
    have z2_3 := O2.frozen 3
    have c2_4 : wr.cell? ⟨w.heap.size + 1, 4, none⟩ = some (.slice U2 Un2 Uc2) := O2.cell 4
    have z2_4 := O2.frozen 4
    have c2_5 : wr.cell? ⟨w.heap.size + 1, 5, none⟩ = some (.slice V2 Vn2 Vc2) := O2.cell 5
    have z2_5 := O2.frozen 5
    clear hf hap
    simp only [fillL]
    go_wp2
    exact bodyPost_ret (v := .agg #[.bool sl2, .slice P2 Pn2 Pc2, .slice R2 Rn2 Rc2, .bool sh2, .slice U2 Un2 Uc2, .slice V2 Vn2 Vc2]) (by simp [results, Tryz.results15, go_sem, c2_0, c2_1, c2_2, c2_3, c2_4, c2_5]) rfl ⟨_, rfl, I2, hon⟩
set_option maxRecDepth 100000 in
set_option maxHeartbeats 1600000 in
theorem smake_gt (w : World) (v v' : Value) (r q : Rat) (L : Nat) (h : Fld w v r L) (k : Fld w v' q L) (hL2 : 2 ≤ L) (hL : L ≤ 1000) (hc : q < r) :
    Calls Tryz.prog 9 #[v, v'] w (SpPost2 w 0 0 2 (.iface 51 (.int .i64 3))) := by
  have hz := (rsg_pos_iff r q).2 hc
  obtain ⟨z, ez⟩ : ∃ x, rsg (r - q) = x := ⟨_, rfl⟩
  rw [ez] at hz
  have HZ := Lib.hid ez
  clear ez hc
  obtain ⟨b0, A0, n0, c0, D0, m0, e0, rfl⟩ := fld_form h
  obtain ⟨b1, A1, n1, c1, D1, m1, e1, rfl⟩ := fld_form k
  have B : On w (((w.alloc (.cells #[.bool b0, .slice A0 n0 c0, .slice D0 m0 e0] 24)).alloc (.cells #[.bool b1, .slice A1 n1 c1, .slice D1 m1 e1] 24)).alloc (.cells #[.bool false, .slice none 0 0, .slice none 0 0, .bool false, .slice none 0 0, .slice none 0 0] 26)) := On.alloc (On.alloc (On.alloc (On.refl w) _) _) _
  have OB2 : w.heap.size ≤ w.heap.size ∧ Own (((w.alloc (.cells #[.bool b0, .slice A0 n0 c0, .slice D0 m0 e0] 24)).alloc (.cells #[.bool b1, .slice A1 n1 c1, .slice D1 m1 e1] 24)).alloc (.cells #[.bool false, .slice none 0 0, .slice none 0 0, .bool false, .slice none 0 0, .slice none 0 0] 26)) (w.heap.size) 24 #[.bool b0, .slice A0 n0 c0, .slice D0 m0 e0] := ⟨by omega, (((Own.at_ w (w.heap.size) (by simp) 24 #[.bool b0, .slice A0 n0 c0, .slice D0 m0 e0]).alloc (.cells #[.bool b1, .slice A1 n1 c1, .slice D1 m1 e1] 24)).alloc (.cells #[.bool false, .slice none 0 0, .slice none 0 0, .bool false, .slice none 0 0, .slice none 0 0] 26))⟩
  have OB3 : w.heap.size ≤ w.heap.size + 1 ∧ Own (((w.alloc (.cells #[.bool b0, .slice A0 n0 c0, .slice D0 m0 e0] 24)).alloc (.cells #[.bool b1, .slice A1 n1 c1, .slice D1 m1 e1] 24)).alloc (.cells #[.bool false, .slice none 0 0, .slice none 0 0, .bool false, .slice none 0 0, .slice none 0 0] 26)) (w.heap.size + 1) 24 #[.bool b1, .slice A1 n1 c1, .slice D1 m1 e1] := ⟨by omega, ((Own.at_ (w.alloc (.cells #[.bool b0, .slice A0 n0 c0, .slice D0 m0 e0] 24)) (w.heap.size + 1) (by simp) 24 #[.bool b1, .slice A1 n1 c1, .slice D1 m1 e1]).alloc (.cells #[.bool false, .slice none 0 0, .slice none 0 0, .bool false, .slice none 0 0, .slice none 0 0] 26))⟩
  have OB4 : w.heap.size ≤ w.heap.size + 2 ∧ Own (((w.alloc (.cells #[.bool b0, .slice A0 n0 c0, .slice D0 m0 e0] 24)).alloc (.cells #[.bool b1, .slice A1 n1 c1, .slice D1 m1 e1] 24)).alloc (.cells #[.bool false, .slice none 0 0, .slice none 0 0, .bool false, .slice none 0 0, .slice none 0 0] 26)) (w.heap.size + 2) 26 #[.bool false, .slice none 0 0, .slice none 0 0, .bool false, .slice none 0 0, .slice none 0 0] := ⟨by omega, (Own.at_ ((w.alloc (.cells #[.bool b0, .slice A0 n0 c0, .slice D0 m0 e0] 24)).alloc (.cells #[.bool b1, .slice A1 n1 c1, .slice D1 m1 e1] 24)) (w.heap.size + 2) (by simp) 26 #[.bool false, .slice none 0 0, .slice none 0 0, .bool false, .slice none 0 0, .slice none 0 0])⟩
  go_enter Tryz.func9, Tryz.ntmps9
  go_wp2_with fail
  refine (cmpr_any _ _ _ r q L (h.on B) (k.on B) (by omega)).mono ?_
  rintro e w1 ⟨rfl, P1⟩
  rw [HZ.out]
  replace OB2 := And.intro OB2.1 (OB2.2.on P1)
  replace OB3 := And.intro OB3.1 (OB3.2.on P1)
  replace OB4 := And.intro OB4.1 (OB4.2.on P1)
  replace B := B.trans P1
  have c4_0 : w1.cell? ⟨w.heap.size + 2, 0, none⟩ = some (.bool false) := OB4.2.cell 0
  have c4_1 : w1.cell? ⟨w.heap.size + 2, 1, none⟩ = some (.slice none 0 0) := OB4.2.cell 1
  have c4_2 : w1.cell? ⟨w.heap.size + 2, 2, none⟩ = some (.slice none 0 0) := OB4.2.cell 2
  have c4_3 : w1.cell? ⟨w.heap.size + 2, 3, none⟩ = some (.bool false) := OB4.2.cell 3
  have c4_4 : w1.cell? ⟨w.heap.size + 2, 4, none⟩ = some (.slice none 0 0) := OB4.2.cell 4
  have c4_5 : w1.cell? ⟨w.heap.size + 2, 5, none⟩ = some (.slice none 0 0) := OB4.2.cell 5
  have c4_f0 := OB4.2.frozen 0
  have c4_f1 := OB4.2.frozen 1
  have c4_f2 := OB4.2.frozen 2
  have c4_f3 := OB4.2.frozen 3
  have c4_f4 := OB4.2.frozen 4
  have c4_f5 := OB4.2.frozen 5
  have hon := on6 (g := w.heap.size + 2) B (by omega) (.bool false) (.slice none 0 0) (.slice none 0 0) (.bool false) (.slice none 0 0) (.slice none 0 0)
  go_wp2
  exact bodyPost_ret (v := .tuple #[.agg #[.bool false, .slice none 0 0, .slice none 0 0, .bool false, .slice none 0 0, .slice none 0 0], .iface 51 (.int .i64 3)]) (by simp [results, Tryz.results9, go_sem, c4_0, c4_1, c4_2, c4_3, c4_4, c4_5]) rfl ⟨_, rfl, isS_zero _ _, by first | exact hon | exact B⟩
set_option maxRecDepth 100000 in
set_option maxHeartbeats 1600000 in
theorem smake_ok (w : World) (v v' : Value) (r q : Rat) (L : Nat) (h : Fld w v r L) (k : Fld w v' q L) (hL2 : 2 ≤ L) (hL : L ≤ 1000) (hc : r ≤ q) :
    Calls Tryz.prog 9 #[v, v'] w (SpPost2 w r q (L + L + 1) .nilIface) := by
  have hz := (rsg_le_iff r q).2 hc
  obtain ⟨z, ez⟩ : ∃ x, rsg (r - q) = x := ⟨_, rfl⟩
  rw [ez] at hz
  have HZ := Lib.hid ez
  clear ez hc
  obtain ⟨b0, A0, n0, c0, D0, m0, e0, rfl⟩ := fld_form h
  obtain ⟨b1, A1, n1, c1, D1, m1, e1, rfl⟩ := fld_form k
  have B : On w (((w.alloc (.cells #[.bool b0, .slice A0 n0 c0, .slice D0 m0 e0] 24)).alloc (.cells #[.bool b1, .slice A1 n1 c1, .slice D1 m1 e1] 24)).alloc (.cells #[.bool false, .slice none 0 0, .slice none 0 0, .bool false, .slice none 0 0, .slice none 0 0] 26)) := On.alloc (On.alloc (On.alloc (On.refl w) _) _) _
  have OB2 : w.heap.size ≤ w.heap.size ∧ Own (((w.alloc (.cells #[.bool b0, .slice A0 n0 c0, .slice D0 m0 e0] 24)).alloc (.cells #[.bool b1, .slice A1 n1 c1, .slice D1 m1 e1] 24)).alloc (.cells #[.bool false, .slice none 0 0, .slice none 0 0, .bool false, .slice none 0 0, .slice none 0 0] 26)) (w.heap.size) 24 #[.bool b0, .slice A0 n0 c0, .slice D0 m0 e0] := ⟨by omega, (((Own.at_ w (w.heap.size) (by simp) 24 #[.bool b0, .slice A0 n0 c0, .slice D0 m0 e0]).alloc (.cells #[.bool b1, .slice A1 n1 c1, .slice D1 m1 e1] 24)).alloc (.cells #[.bool false, .slice none 0 0, .slice none 0 0, .bool false, .slice none 0 0, .slice none 0 0] 26))⟩
  have OB3 : w.heap.size ≤ w.heap.size + 1 ∧ Own (((w.alloc (.cells #[.bool b0, .slice A0 n0 c0, .slice D0 m0 e0] 24)).alloc (.cells #[.bool b1, .slice A1 n1 c1, .slice D1 m1 e1] 24)).alloc (.cells #[.bool false, .slice none 0 0, .slice none 0 0, .bool false, .slice none 0 0, .slice none 0 0] 26)) (w.heap.size + 1) 24 #[.bool b1, .slice A1 n1 c1, .slice D1 m1 e1] := ⟨by omega, ((Own.at_ (w.alloc (.cells #[.bool b0, .slice A0 n0 c0, .slice D0 m0 e0] 24)) (w.heap.size + 1) (by simp) 24 #[.bool b1, .slice A1 n1 c1, .slice D1 m1 e1]).alloc (.cells #[.bool false, .slice none 0 0, .slice none 0 0, .bool false, .slice none 0 0, .slice none 0 0] 26))⟩
  have OB4 : w.heap.size ≤ w.heap.size + 2 ∧ Own (((w.alloc (.cells #[.bool b0, .slice A0 n0 c0, .slice D0 m0 e0] 24)).alloc (.cells #[.bool b1, .slice A1 n1 c1, .slice D1 m1 e1] 24)).alloc (.cells #[.bool false, .slice none 0 0, .slice none 0 0, .bool false, .slice none 0 0, .slice none 0 0] 26)) (w.heap.size + 2) 26 #[.bool false, .slice none 0 0, .slice none 0 0, .bool false, .slice none 0 0, .slice none 0 0] := ⟨by omega, (Own.at_ ((w.alloc (.cells #[.bool b0, .slice A0 n0 c0, .slice D0 m0 e0] 24)).alloc (.cells #[.bool b1, .slice A1 n1 c1, .slice D1 m1 e1] 24)) (w.heap.size + 2) (by simp) 26 #[.bool false, .slice none 0 0, .slice none 0 0, .bool false, .slice none 0 0, .slice none 0 0])⟩
  go_enter Tryz.func9, Tryz.ntmps9
  go_wp2_with fail
  refine (cmpr_any _ _ _ r q L (h.on B) (k.on B) (by omega)).mono ?_
  rintro e w1 ⟨rfl, P1⟩
  rw [HZ.out]
  have hz2 : ¬ 0 < z := by omega
  replace OB2 := And.intro OB2.1 (OB2.2.on P1)
  replace OB3 := And.intro OB3.1 (OB3.2.on P1)
  replace OB4 := And.intro OB4.1 (OB4.2.on P1)
  replace B := B.trans P1
  clear P1
  go_wp2
  refine wp_region_facts (by kernel_rfl) w [Fact.eq (.agg #[.bool b0, .slice A0 n0 c0, .slice D0 m0 e0]), Fact.rat (r) (L + L + 1), Fact.eq (.agg #[.bool b1, .slice A1 n1 c1, .slice D1 m1 e1]), Fact.rat (q) (L + L + 1), Fact.sp (r) (q) (L + L + 1), Fact.any, Fact.eq (.nilIface)] [Fact.any, Fact.any, Fact.sp (r) (q) (L + L + 1)] [⟨7, 2, 24, 7, #[.bool b0, .slice A0 n0 c0, .slice D0 m0 e0]⟩, ⟨7, 3, 24, 7, #[.bool b1, .slice A1 n1 c1, .slice D1 m1 e1]⟩, ⟨7, 4, 26, 5, #[.bool false, .slice none 0 0, .slice none 0 0, .bool false, .slice none 0 0, .slice none 0 0]⟩] [w.heap.size, w.heap.size + 1, w.heap.size + 2] [none, none, none, none, none, some 5, none, none, none, none, none, none, some 12, some 13, some 14, some 15, some 16] (by kernel_rfl) (by kernel_rfl) (by kernel_rfl) rfl B ?_ ?_ ?_ ?_ ?_
  · exact ⟨fun _ => ⟨by simp, rfl, OB2⟩, fun _ => ⟨by simp, rfl, OB3⟩, fun _ => ⟨by simp, rfl, OB4⟩, trivial⟩
  · exact .inr (by simp <;> omega)
  · exact ⟨⟨noWords_R _ _ _ _ _ _ _, (.inl (Nat.le_refl _)), (.inl (Nat.le_refl _))⟩, ⟨noWords_R _ _ _ _ _ _ _, (.inl (Nat.le_refl _)), (.inl (Nat.le_refl _))⟩, ⟨noWords_S _ _ _ _ _ _ _ _ _ _ _ _ _ _, (.inl (Nat.le_refl _)), (.inr (store_obS (j := 4) (noWords_S _ _ _ _ _ _ _ _ _ _ _ _ _ _) rfl rfl rfl (by kernel_rfl) rfl rfl rfl))⟩, trivial⟩
  · refine ⟨?_, ?_, ?_, ?_, ?_, ?_, ?_, trivial⟩
    · exact .inr fun a w hp => ob_yes rfl (ob_loadR (hp.box (k := 0) rfl (Nat.le_refl _) (.inl (Nat.le_refl _)) (by kernel_rfl) rfl).1 (hp.box (k := 0) rfl (Nat.le_refl _) (.inl (Nat.le_refl _)) (by kernel_rfl) rfl).2 rfl)
    · refine .inr fun a w hp => ob_yes rfl ?_
      have h12 : a.tmps.getD 12 undef = .agg #[.bool b0, .slice A0 n0 c0, .slice D0 m0 e0] := (hp.fact 0 12 (by kernel_rfl) rfl)
      unfold Does
      go_simp
      refine (sown_any _ _ _ L (h.on hp.on) hL2 hL).mono ?_
      rintro e w' ⟨u, rfl, I8, P8⟩
      exact ⟨_, rfl, P8, I8⟩
    · exact .inr fun a w hp => ob_yes rfl (ob_loadR (hp.box (k := 1) rfl (Nat.le_refl _) (.inl (Nat.le_refl _)) (by kernel_rfl) rfl).1 (hp.box (k := 1) rfl (Nat.le_refl _) (.inl (Nat.le_refl _)) (by kernel_rfl) rfl).2 rfl)
    · refine .inr fun a w hp => ob_yes rfl ?_
      have h14 : a.tmps.getD 14 undef = .agg #[.bool b1, .slice A1 n1 c1, .slice D1 m1 e1] := (hp.fact 2 14 (by kernel_rfl) rfl)
      unfold Does
      go_simp
      refine (sown_any _ _ _ L (k.on hp.on) hL2 hL).mono ?_
      rintro e w' ⟨u, rfl, I8, P8⟩
      exact ⟨_, rfl, P8, I8⟩
    · refine .inr fun a w hp => ob_yes rfl ?_
      have h13 : IsR w (a.tmps.getD 13 undef) (r) (L + L + 1) := (hp.fact 1 13 (by kernel_rfl) rfl)
      obtain ⟨v13, e13⟩ : ∃ v, a.tmps.getD 13 undef = v := ⟨_, rfl⟩
      rw [e13] at h13
      have h15 : IsR w (a.tmps.getD 15 undef) (q) (L + L + 1) := (hp.fact 3 15 (by kernel_rfl) rfl)
      obtain ⟨v15, e15⟩ : ∃ v, a.tmps.getD 15 undef = v := ⟨_, rfl⟩
      rw [e15] at h15
      exact ob_buildS e13 e15 h13 h15 (fun x hx => hx)
    · exact .inl rfl
    · exact .inr fun a w hp => ob_yes rfl (does_value rfl rfl)
  · intro f wr hon hk hf hb hap
    obtain ⟨q0, q1, q2, qz⟩ := hb
    clear qz
    have O2 : Own wr (w.heap.size) 24 #[.bool b0, .slice A0 n0 c0, .slice D0 m0 e0] := q0
    have c2_0 : wr.cell? ⟨w.heap.size, 0, none⟩ = some (.bool b0) := O2.cell 0
    have z2_0 := O2.frozen 0
    have c2_1 : wr.cell? ⟨w.heap.size, 1, none⟩ = some (.slice A0 n0 c0) := O2.cell 1
    have z2_1 := O2.frozen 1
    have c2_2 : wr.cell? ⟨w.heap.size, 2, none⟩ = some (.slice D0 m0 e0) := O2.cell 2
    have z2_2 := O2.frozen 2
    clear q0
    have O3 : Own wr (w.heap.size + 1) 24 #[.bool b1, .slice A1 n1 c1, .slice D1 m1 e1] := q1
    have c3_0 : wr.cell? ⟨w.heap.size + 1, 0, none⟩ = some (.bool b1) := O3.cell 0
    have z3_0 := O3.frozen 0
    have c3_1 : wr.cell? ⟨w.heap.size + 1, 1, none⟩ = some (.slice A1 n1 c1) := O3.cell 1
    have z3_1 := O3.frozen 1
    have c3_2 : wr.cell? ⟨w.heap.size + 1, 2, none⟩ = some (.slice D1 m1 e1) := O3.cell 2
    have z3_2 := O3.frozen 2
    clear q1
    obtain ⟨cur4, O4, I4⟩ : ∃ cur, Own wr (w.heap.size + 2) 26 cur ∧ IsS wr (.agg cur) (r) (q) (L + L + 1) := q2
    obtain ⟨sl4, P4, Pn4, Pc4, R4, Rn4, Rc4, sh4, U4, Un4, Uc4, V4, Vn4, Vc4, hz4, IL4, IH4⟩ := id I4
    injection hz4 with hz4
    subst hz4
    have c4_0 : wr.cell? ⟨w.heap.size + 2, 0, none⟩ = some (.bool sl4) := O4.cell 0
    have z4_0 := O4.frozen 0
    have c4_1 : wr.cell? ⟨w.heap.size + 2, 1, none⟩ = some (.slice P4 Pn4 Pc4) := O4.cell 1
    have z4_1 := O4.frozen 1
    have c4_2 : wr.cell? ⟨w.heap.size + 2, 2, none⟩ = some (.slice R4 Rn4 Rc4) := O4.cell 2
    have z4_2 := O4.frozen 2
    have c4_3 : wr.cell? ⟨w.heap.size + 2, 3, none⟩ = some (.bool sh4) := O4.cell 3
    have z4_3 := O4.frozen 3
    have c4_4 : wr.cell? ⟨w.heap.size + 2, 4, none⟩ = some (.slice U4 Un4 Uc4) := O4.cell 4
    have z4_4 := O4.frozen 4
    have c4_5 : wr.cell? ⟨w.heap.size + 2, 5, none⟩ = some (.slice V4 Vn4 Vc4) := O4.cell 5
    have z4_5 := O4.frozen 5
    have e5 : f 5 = .nilIface := hf 6 5 rfl
    clear hf hap
    simp only [fillL, e5]
    clear e5
    go_wp2
    exact bodyPost_ret (v := .tuple #[.agg #[.bool sl4, .slice P4 Pn4 Pc4, .slice R4 Rn4 Rc4, .bool sh4, .slice U4 Un4 Uc4, .slice V4 Vn4 Vc4], .nilIface]) (by simp [results, Tryz.results9, go_sem, c4_0, c4_1, c4_2, c4_3, c4_4, c4_5]) rfl ⟨_, rfl, I4, hon⟩
set_option maxRecDepth 100000 in
set_option maxHeartbeats 1600000 in
theorem spneg_any (w : World) (v : Value) (lo hi : Rat) (L : Nat) (h : Sp w v lo hi L) (hL2 : 2 ≤ L) (hL : L ≤ 1000) :
    Calls Tryz.prog 26 #[v] w (SpPost w (-hi) (-lo) (L)) := by
  obtain ⟨ba0, Aa0, na0, ca0, Ba0, ma0, oa0, bb0, Ab0, nb0, cb0, Bb0, mb0, ob0, rfl⟩ := h.form
  have B : On w ((w.alloc (.cells #[.bool ba0, .slice Aa0 na0 ca0, .slice Ba0 ma0 oa0, .bool bb0, .slice Ab0 nb0 cb0, .slice Bb0 mb0 ob0] 26)).alloc (.cells #[.bool false, .slice none 0 0, .slice none 0 0, .bool false, .slice none 0 0, .slice none 0 0] 26)) := On.alloc (On.alloc (On.refl w) _) _
  have OB1 : w.heap.size ≤ w.heap.size ∧ Own ((w.alloc (.cells #[.bool ba0, .slice Aa0 na0 ca0, .slice Ba0 ma0 oa0, .bool bb0, .slice Ab0 nb0 cb0, .slice Bb0 mb0 ob0] 26)).alloc (.cells #[.bool false, .slice none 0 0, .slice none 0 0, .bool false, .slice none 0 0, .slice none 0 0] 26)) (w.heap.size) 26 #[.bool ba0, .slice Aa0 na0 ca0, .slice Ba0 ma0 oa0, .bool bb0, .slice Ab0 nb0 cb0, .slice Bb0 mb0 ob0] := ⟨by omega, ((Own.at_ w (w.heap.size) (by simp) 26 #[.bool ba0, .slice Aa0 na0 ca0, .slice Ba0 ma0 oa0, .bool bb0, .slice Ab0 nb0 cb0, .slice Bb0 mb0 ob0]).alloc (.cells #[.bool false, .slice none 0 0, .slice none 0 0, .bool false, .slice none 0 0, .slice none 0 0] 26))⟩
  have OB2 : w.heap.size ≤ w.heap.size + 1 ∧ Own ((w.alloc (.cells #[.bool ba0, .slice Aa0 na0 ca0, .slice Ba0 ma0 oa0, .bool bb0, .slice Ab0 nb0 cb0, .slice Bb0 mb0 ob0] 26)).alloc (.cells #[.bool false, .slice none 0 0, .slice none 0 0, .bool false, .slice none 0 0, .slice none 0 0] 26)) (w.heap.size + 1) 26 #[.bool false, .slice none 0 0, .slice none 0 0, .bool false, .slice none 0 0, .slice none 0 0] := ⟨by omega, (Own.at_ (w.alloc (.cells #[.bool ba0, .slice Aa0 na0 ca0, .slice Ba0 ma0 oa0, .bool bb0, .slice Ab0 nb0 cb0, .slice Bb0 mb0 ob0] 26)) (w.heap.size + 1) (by simp) 26 #[.bool false, .slice none 0 0, .slice none 0 0, .bool false, .slice none 0 0, .slice none 0 0])⟩
  go_enter Tryz.func26, Tryz.ntmps26
  go_wp2_with fail
  refine (svalue_any _ _ _ _ L (h.on B) (by omega)).mono ?_
  rintro e w1 ⟨u, rfl, I, P1⟩
  clear h
  obtain ⟨sl1, P1_, Pn1, Pc1, R1_, Rn1, Rc1, sh1, U1, Un1, Uc1, V1, Vn1, Vc1, rfl, IL, IH⟩ := id I
  replace OB1 := And.intro OB1.1 (OB1.2.on P1)
  replace OB2 := And.intro OB2.1 (OB2.2.on P1)
  replace B := B.trans P1
  have y1_0 : w1.cell? ⟨w.heap.size, 0, none⟩ = some (.bool ba0) := OB1.2.cell 0
  have y1_1 : w1.cell? ⟨w.heap.size, 1, none⟩ = some (.slice Aa0 na0 ca0) := OB1.2.cell 1
  have y1_2 : w1.cell? ⟨w.heap.size, 2, none⟩ = some (.slice Ba0 ma0 oa0) := OB1.2.cell 2
  have y1_3 : w1.cell? ⟨w.heap.size, 3, none⟩ = some (.bool bb0) := OB1.2.cell 3
  have y1_4 : w1.cell? ⟨w.heap.size, 4, none⟩ = some (.slice Ab0 nb0 cb0) := OB1.2.cell 4
  have y1_5 : w1.cell? ⟨w.heap.size, 5, none⟩ = some (.slice Bb0 mb0 ob0) := OB1.2.cell 5
  have y1_f0 := OB1.2.frozen 0
  have y1_f1 := OB1.2.frozen 1
  have y1_f2 := OB1.2.frozen 2
  have y1_f3 := OB1.2.frozen 3
  have y1_f4 := OB1.2.frozen 4
  have y1_f5 := OB1.2.frozen 5
  have oo := only6 (w := w1) (g := w.heap.size) (.bool sl1) (.slice P1_ Pn1 Pc1) (.slice R1_ Rn1 Rc1) (.bool sh1) (.slice U1 Un1 Uc1) (.slice V1 Vn1 Vc1)
  have hk1 := Kept.only oo OB1.2 (noWords_S _ _ _ _ _ _ _ _ _ _ _ _ _ _)
  replace IL := IL.kept hk1
  replace IH := IH.kept hk1
  clear I hk1
  have hon1 := on6 (g := w.heap.size) B (by omega) (.bool sl1) (.slice P1_ Pn1 Pc1) (.slice R1_ Rn1 Rc1) (.bool sh1) (.slice U1 Un1 Uc1) (.slice V1 Vn1 Vc1)
  have ON1 := (((((OB1.2.set_ 0 (.bool sl1)).set_ 1 (.slice P1_ Pn1 Pc1)).set_ 2 (.slice R1_ Rn1 Rc1)).set_ 3 (.bool sh1)).set_ 4 (.slice U1 Un1 Uc1)).set_ 5 (.slice V1 Vn1 Vc1)
  have ON2 := OB2.2.only oo (by omega)
  go_wp2
  obtain ⟨W, hW⟩ : ∃ W, (((((((w1.setCell ⟨w.heap.size, 0, none⟩ (.bool sl1)).setCell ⟨w.heap.size, 1, none⟩ (.slice P1_ Pn1 Pc1)).setCell ⟨w.heap.size, 2, none⟩ (.slice R1_ Rn1 Rc1)).setCell ⟨w.heap.size, 3, none⟩ (.bool sh1)).setCell ⟨w.heap.size, 4, none⟩ (.slice U1 Un1 Uc1)).setCell ⟨w.heap.size, 5, none⟩ (.slice V1 Vn1 Vc1))) = W := ⟨_, rfl⟩
  rw [hW] at hon1 IL IH ON1 ON2 ⊢
  have OB1' : w.heap.size ≤ w.heap.size ∧ Own W w.heap.size 26 #[.bool sl1, .slice P1_ Pn1 Pc1, .slice R1_ Rn1 Rc1, .bool sh1, .slice U1 Un1 Uc1, .slice V1 Vn1 Vc1] := ⟨Nat.le_refl _, ON1⟩
  have OB2' : w.heap.size ≤ w.heap.size + 1 ∧ Own W (w.heap.size + 1) 26 #[.bool false, .slice none 0 0, .slice none 0 0, .bool false, .slice none 0 0, .slice none 0 0] := ⟨by omega, ON2⟩
  clear y1_0 y1_f0 y1_1 y1_f1 y1_2 y1_f2 y1_3 y1_f3 y1_4 y1_f4 y1_5 y1_f5
  clear oo B OB1 OB2 ON1 ON2 hW P1
  have OB1 := OB1'
  have OB2 := OB2'
  have B := hon1
  clear OB1' OB2' hon1
  refine wp_region_facts (by kernel_rfl) w [Fact.eq (.pointer (some ⟨w.heap.size, 3, none⟩)), Fact.eq (.agg #[.bool sh1, .slice U1 Un1 Uc1, .slice V1 Vn1 Vc1]), Fact.rat (-hi) (L), Fact.eq (.pointer (some ⟨w.heap.size, 0, none⟩)), Fact.eq (.agg #[.bool sl1, .slice P1_ Pn1 Pc1, .slice R1_ Rn1 Rc1]), Fact.rat (-lo) (L), Fact.sp (-hi) (-lo) (L), Fact.any] [Fact.any, Fact.sp (-hi) (-lo) (L)] [⟨8, 1, 26, 8, #[.bool sl1, .slice P1_ Pn1 Pc1, .slice R1_ Rn1 Rc1, .bool sh1, .slice U1 Un1 Uc1, .slice V1 Vn1 Vc1]⟩, ⟨8, 2, 26, 7, #[.bool false, .slice none 0 0, .slice none 0 0, .bool false, .slice none 0 0, .slice none 0 0]⟩] [w.heap.size, w.heap.size + 1] [none, none, none, none, none, some 5, some 6, some 7, some 8, some 9, some 10, some 11] (by kernel_rfl) (by kernel_rfl) (by kernel_rfl) rfl B ?_ ?_ ?_ ?_ ?_
  · exact ⟨fun _ => ⟨by simp, rfl, OB1⟩, fun _ => ⟨by simp, rfl, OB2⟩, trivial⟩
  · exact .inr (by simp <;> omega)
  · exact ⟨⟨noWords_S _ _ _ _ _ _ _ _ _ _ _ _ _ _, (.inl (Nat.le_refl _)), (.inl (Nat.le_refl _))⟩, ⟨noWords_S _ _ _ _ _ _ _ _ _ _ _ _ _ _, (.inl (Nat.le_refl _)), (.inr (store_obS (j := 6) (noWords_S _ _ _ _ _ _ _ _ _ _ _ _ _ _) rfl rfl rfl (by kernel_rfl) rfl rfl rfl))⟩, trivial⟩
  · refine ⟨?_, ?_, ?_, ?_, ?_, ?_, ?_, ?_, trivial⟩
    · exact .inr fun a w hp => ob_yes rfl (ob_fieldS1 (hp.box (k := 0) rfl (Nat.le_refl _) (.inl (Nat.le_refl _)) (by kernel_rfl) rfl).1 rfl)
    · exact .inr fun a w hp => ob_yes rfl (ob_loadHi (hp.fact 0 5 (by kernel_rfl) rfl) (hp.box (k := 0) rfl (Nat.le_refl _) (.inl (Nat.le_refl _)) (by kernel_rfl) rfl).2 rfl)
    · refine .inr fun a w hp => ob_yes rfl ?_
      have h6 : a.tmps.getD 6 undef = .agg #[.bool sh1, .slice U1 Un1 Uc1, .slice V1 Vn1 Vc1] := (hp.fact 1 6 (by kernel_rfl) rfl)
      unfold Does
      go_simp
      refine (negr_any _ _ _ L (IsR.fld (IH.kept hp.kept)) (by omega)).mono ?_
      rintro e w' ⟨u, rfl, I8, P8⟩
      exact ⟨_, rfl, P8, I8⟩
    · exact .inr fun a w hp => ob_yes rfl (ob_fieldS0 (hp.box (k := 0) rfl (Nat.le_refl _) (.inl (Nat.le_refl _)) (by kernel_rfl) rfl).1 rfl)
    · exact .inr fun a w hp => ob_yes rfl (ob_loadLo (hp.fact 3 8 (by kernel_rfl) rfl) (hp.box (k := 0) rfl (Nat.le_refl _) (.inl (Nat.le_refl _)) (by kernel_rfl) rfl).2 rfl)
    · refine .inr fun a w hp => ob_yes rfl ?_
      have h9 : a.tmps.getD 9 undef = .agg #[.bool sl1, .slice P1_ Pn1 Pc1, .slice R1_ Rn1 Rc1] := (hp.fact 4 9 (by kernel_rfl) rfl)
      unfold Does
      go_simp
      refine (negr_any _ _ _ L (IsR.fld (IL.kept hp.kept)) (by omega)).mono ?_
      rintro e w' ⟨u, rfl, I8, P8⟩
      exact ⟨_, rfl, P8, I8⟩
    · refine .inr fun a w hp => ob_yes rfl ?_
      have h7 : IsR w (a.tmps.getD 7 undef) (-hi) (L) := (hp.fact 2 7 (by kernel_rfl) rfl)
      obtain ⟨v7, e7⟩ : ∃ v, a.tmps.getD 7 undef = v := ⟨_, rfl⟩
      rw [e7] at h7
      have h10 : IsR w (a.tmps.getD 10 undef) (-lo) (L) := (hp.fact 5 10 (by kernel_rfl) rfl)
      obtain ⟨v10, e10⟩ : ∃ v, a.tmps.getD 10 undef = v := ⟨_, rfl⟩
      rw [e10] at h10
      exact ob_buildS e7 e10 h7 h10 (fun x hx => hx)
    · exact .inl rfl
  · intro f wr hon hk hf hb hap
    obtain ⟨q0, q1, qz⟩ := hb
    clear qz
    have O1 : Own wr (w.heap.size) 26 #[.bool sl1, .slice P1_ Pn1 Pc1, .slice R1_ Rn1 Rc1, .bool sh1, .slice U1 Un1 Uc1, .slice V1 Vn1 Vc1] := q0
    have c1_0 : wr.cell? ⟨w.heap.size, 0, none⟩ = some (.bool sl1) := O1.cell 0
    have z1_0 := O1.frozen 0
    have c1_1 : wr.cell? ⟨w.heap.size, 1, none⟩ = some (.slice P1_ Pn1 Pc1) := O1.cell 1
    have z1_1 := O1.frozen 1
    have c1_2 : wr.cell? ⟨w.heap.size, 2, none⟩ = some (.slice R1_ Rn1 Rc1) := O1.cell 2
    have z1_2 := O1.frozen 2
    have c1_3 : wr.cell? ⟨w.heap.size, 3, none⟩ = some (.bool sh1) := O1.cell 3
    have z1_3 := O1.frozen 3
    have c1_4 : wr.cell? ⟨w.heap.size, 4, none⟩ = some (.slice U1 Un1 Uc1) := O1.cell 4
    have z1_4 := O1.frozen 4
    have c1_5 : wr.cell? ⟨w.heap.size, 5, none⟩ = some (.slice V1 Vn1 Vc1) := O1.cell 5
    have z1_5 := O1.frozen 5
    clear q0
    obtain ⟨cur2, O2, I2⟩ : ∃ cur, Own wr (w.heap.size + 1) 26 cur ∧ IsS wr (.agg cur) (-hi) (-lo) (L) := q1
    obtain ⟨sl2, P2, Pn2, Pc2, R2, Rn2, Rc2, sh2, U2, Un2, Uc2, V2, Vn2, Vc2, hz2, IL2, IH2⟩ := id I2
    injection hz2 with hz2
    subst hz2
    have c2_0 : wr.cell? ⟨w.heap.size + 1, 0, none⟩ = some (.bool sl2) := O2.cell 0
    have z2_0 := O2.frozen 0
    have c2_1 : wr.cell? ⟨w.heap.size + 1, 1, none⟩ = some (.slice P2 Pn2 Pc2) := O2.cell 1
    have z2_1 := O2.frozen 1
    have c2_2 : wr.cell? ⟨w.heap.size + 1, 2, none⟩ = some (.slice R2 Rn2 Rc2) := O2.cell 2
    have z2_2 := O2.frozen 2
    have c2_3 : wr.cell? ⟨w.heap.size + 1, 3, none⟩ = some (.bool sh2) := O2.cell 3
    have z2_3 := O2.frozen 3
    have c2_4 : wr.cell? ⟨w.heap.size + 1, 4, none⟩ = some (.slice U2 Un2 Uc2) := O2.cell 4
    have z2_4 := O2.frozen 4
    have c2_5 : wr.cell? ⟨w.heap.size + 1, 5, none⟩ = some (.slice V2 Vn2 Vc2) := O2.cell 5
    have z2_5 := O2.frozen 5
    clear hf hap
    simp only [fillL]
    go_wp2
    exact bodyPost_ret (v := .agg #[.bool sl2, .slice P2 Pn2 Pc2, .slice R2 Rn2 Rc2, .bool sh2, .slice U2 Un2 Uc2, .slice V2 Vn2 Vc2]) (by simp [results, Tryz.results26, go_sem, c2_0, c2_1, c2_2, c2_3, c2_4, c2_5]) rfl ⟨_, rfl, I2, hon⟩
set_option maxRecDepth 100000 in
set_option maxHeartbeats 1600000 in
theorem spnot_any (w : World) (v : Value) (lo hi : Rat) (L : Nat) (h : Sp w v lo hi L) (hL2 : 2 ≤ L) (hL : L ≤ 1000) :
    Calls Tryz.prog 28 #[v] w (SpPost w (1 - hi) (1 - lo) (L + L + 1)) := by
  obtain ⟨ba0, Aa0, na0, ca0, Ba0, ma0, oa0, bb0, Ab0, nb0, cb0, Bb0, mb0, ob0, rfl⟩ := h.form
  have B : On w ((w.alloc (.cells #[.bool ba0, .slice Aa0 na0 ca0, .slice Ba0 ma0 oa0, .bool bb0, .slice Ab0 nb0 cb0, .slice Bb0 mb0 ob0] 26)).alloc (.cells #[.bool false, .slice none 0 0, .slice none 0 0, .bool false, .slice none 0 0, .slice none 0 0] 26)) := On.alloc (On.alloc (On.refl w) _) _
  have OB1 : w.heap.size ≤ w.heap.size ∧ Own ((w.alloc (.cells #[.bool ba0, .slice Aa0 na0 ca0, .slice Ba0 ma0 oa0, .bool bb0, .slice Ab0 nb0 cb0, .slice Bb0 mb0 ob0] 26)).alloc (.cells #[.bool false, .slice none 0 0, .slice none 0 0, .bool false, .slice none 0 0, .slice none 0 0] 26)) (w.heap.size) 26 #[.bool ba0, .slice Aa0 na0 ca0, .slice Ba0 ma0 oa0, .bool bb0, .slice Ab0 nb0 cb0, .slice Bb0 mb0 ob0] := ⟨by omega, ((Own.at_ w (w.heap.size) (by simp) 26 #[.bool ba0, .slice Aa0 na0 ca0, .slice Ba0 ma0 oa0, .bool bb0, .slice Ab0 nb0 cb0, .slice Bb0 mb0 ob0]).alloc (.cells #[.bool false, .slice none 0 0, .slice none 0 0, .bool false, .slice none 0 0, .slice none 0 0] 26))⟩
  have OB2 : w.heap.size ≤ w.heap.size + 1 ∧ Own ((w.alloc (.cells #[.bool ba0, .slice Aa0 na0 ca0, .slice Ba0 ma0 oa0, .bool bb0, .slice Ab0 nb0 cb0, .slice Bb0 mb0 ob0] 26)).alloc (.cells #[.bool false, .slice none 0 0, .slice none 0 0, .bool false, .slice none 0 0, .slice none 0 0] 26)) (w.heap.size + 1) 26 #[.bool false, .slice none 0 0, .slice none 0 0, .bool false, .slice none 0 0, .slice none 0 0] := ⟨by omega, (Own.at_ (w.alloc (.cells #[.bool ba0, .slice Aa0 na0 ca0, .slice Ba0 ma0 oa0, .bool bb0, .slice Ab0 nb0 cb0, .slice Bb0 mb0 ob0] 26)) (w.heap.size + 1) (by simp) 26 #[.bool false, .slice none 0 0, .slice none 0 0, .bool false, .slice none 0 0, .slice none 0 0])⟩
  go_enter Tryz.func28, Tryz.ntmps28
  go_wp2_with fail
  refine (svalue_any _ _ _ _ L (h.on B) (by omega)).mono ?_
  rintro e w1 ⟨u, rfl, I, P1⟩
  clear h
  obtain ⟨sl1, P1_, Pn1, Pc1, R1_, Rn1, Rc1, sh1, U1, Un1, Uc1, V1, Vn1, Vc1, rfl, IL, IH⟩ := id I
  replace OB1 := And.intro OB1.1 (OB1.2.on P1)
  replace OB2 := And.intro OB2.1 (OB2.2.on P1)
  replace B := B.trans P1
  have y1_0 : w1.cell? ⟨w.heap.size, 0, none⟩ = some (.bool ba0) := OB1.2.cell 0
  have y1_1 : w1.cell? ⟨w.heap.size, 1, none⟩ = some (.slice Aa0 na0 ca0) := OB1.2.cell 1
  have y1_2 : w1.cell? ⟨w.heap.size, 2, none⟩ = some (.slice Ba0 ma0 oa0) := OB1.2.cell 2
  have y1_3 : w1.cell? ⟨w.heap.size, 3, none⟩ = some (.bool bb0) := OB1.2.cell 3
  have y1_4 : w1.cell? ⟨w.heap.size, 4, none⟩ = some (.slice Ab0 nb0 cb0) := OB1.2.cell 4
  have y1_5 : w1.cell? ⟨w.heap.size, 5, none⟩ = some (.slice Bb0 mb0 ob0) := OB1.2.cell 5
  have y1_f0 := OB1.2.frozen 0
  have y1_f1 := OB1.2.frozen 1
  have y1_f2 := OB1.2.frozen 2
  have y1_f3 := OB1.2.frozen 3
  have y1_f4 := OB1.2.frozen 4
  have y1_f5 := OB1.2.frozen 5
  have oo := only6 (w := w1) (g := w.heap.size) (.bool sl1) (.slice P1_ Pn1 Pc1) (.slice R1_ Rn1 Rc1) (.bool sh1) (.slice U1 Un1 Uc1) (.slice V1 Vn1 Vc1)
  have hk1 := Kept.only oo OB1.2 (noWords_S _ _ _ _ _ _ _ _ _ _ _ _ _ _)
  replace IL := IL.kept hk1
  replace IH := IH.kept hk1
  clear I hk1
  have hon1 := on6 (g := w.heap.size) B (by omega) (.bool sl1) (.slice P1_ Pn1 Pc1) (.slice R1_ Rn1 Rc1) (.bool sh1) (.slice U1 Un1 Uc1) (.slice V1 Vn1 Vc1)
  have ON1 := (((((OB1.2.set_ 0 (.bool sl1)).set_ 1 (.slice P1_ Pn1 Pc1)).set_ 2 (.slice R1_ Rn1 Rc1)).set_ 3 (.bool sh1)).set_ 4 (.slice U1 Un1 Uc1)).set_ 5 (.slice V1 Vn1 Vc1)
  have ON2 := OB2.2.only oo (by omega)
  go_wp2_with fail
  obtain ⟨W, hW⟩ : ∃ W, (((((((w1.setCell ⟨w.heap.size, 0, none⟩ (.bool sl1)).setCell ⟨w.heap.size, 1, none⟩ (.slice P1_ Pn1 Pc1)).setCell ⟨w.heap.size, 2, none⟩ (.slice R1_ Rn1 Rc1)).setCell ⟨w.heap.size, 3, none⟩ (.bool sh1)).setCell ⟨w.heap.size, 4, none⟩ (.slice U1 Un1 Uc1)).setCell ⟨w.heap.size, 5, none⟩ (.slice V1 Vn1 Vc1))) = W := ⟨_, rfl⟩
  rw [hW] at hon1 IL IH ON1 ON2 ⊢
  have OB1' : w.heap.size ≤ w.heap.size ∧ Own W w.heap.size 26 #[.bool sl1, .slice P1_ Pn1 Pc1, .slice R1_ Rn1 Rc1, .bool sh1, .slice U1 Un1 Uc1, .slice V1 Vn1 Vc1] := ⟨Nat.le_refl _, ON1⟩
  have OB2' : w.heap.size ≤ w.heap.size + 1 ∧ Own W (w.heap.size + 1) 26 #[.bool false, .slice none 0 0, .slice none 0 0, .bool false, .slice none 0 0, .slice none 0 0] := ⟨by omega, ON2⟩
  clear y1_0 y1_f0 y1_1 y1_f1 y1_2 y1_f2 y1_3 y1_f3 y1_4 y1_f4 y1_5 y1_f5
  clear oo B OB1 OB2 ON1 ON2 hW P1
  have OB1 := OB1'
  have OB2 := OB2'
  have B := hon1
  clear OB1' OB2' hon1
  refine (ofr_any _ 1 (by decide) (by decide)).mono ?_
  rintro e w2 ⟨u2, rfl, J, P2⟩
  rw [show ((1 : Int) : Rat) = 1 from rfl] at J
  obtain ⟨s3, P3, Pn3, Pc3, R3, Rn3, Rc3, rfl⟩ := isR_form J
  have PA := P2.trans ((On.refl w2).alloc (.cells #[.bool s3, .slice P3 Pn3 Pc3, .slice R3 Rn3 Rc3] 24))
  have OB3 : w.heap.size ≤ w2.heap.size ∧ Own (w2.alloc (.cells #[.bool s3, .slice P3 Pn3 Pc3, .slice R3 Rn3 Rc3] 24)) w2.heap.size 24 #[.bool s3, .slice P3 Pn3 Pc3, .slice R3 Rn3 Rc3] := ⟨(B.trans P2).size, Own.new w2 24 #[.bool s3, .slice P3 Pn3 Pc3, .slice R3 Rn3 Rc3]⟩
  have hlt3 : w.heap.size + 1 < w2.heap.size := Nat.lt_of_lt_of_le OB2.2.lt P2.size
  replace J := J.on ((On.refl w2).alloc (.cells #[.bool s3, .slice P3 Pn3 Pc3, .slice R3 Rn3 Rc3] 24))
  replace IL := IL.on PA
  replace IH := IH.on PA
  replace OB1 := And.intro OB1.1 (OB1.2.on PA)
  replace OB2 := And.intro OB2.1 (OB2.2.on PA)
  replace B := B.trans PA
  clear P2 PA
  go_wp2
  refine wp_region_facts (by kernel_rfl) w [Fact.eq (.agg #[.bool s3, .slice P3 Pn3 Pc3, .slice R3 Rn3 Rc3]), Fact.eq (.pointer (some ⟨w.heap.size, 3, none⟩)), Fact.eq (.agg #[.bool sh1, .slice U1 Un1 Uc1, .slice V1 Vn1 Vc1]), Fact.rat (1 - hi) (L + L + 1), Fact.eq (.agg #[.bool s3, .slice P3 Pn3 Pc3, .slice R3 Rn3 Rc3]), Fact.eq (.pointer (some ⟨w.heap.size, 0, none⟩)), Fact.eq (.agg #[.bool sl1, .slice P1_ Pn1 Pc1, .slice R1_ Rn1 Rc1]), Fact.rat (1 - lo) (L + L + 1), Fact.sp (1 - hi) (1 - lo) (L + L + 1), Fact.any] [Fact.any, Fact.sp (1 - hi) (1 - lo) (L + L + 1), Fact.any] [⟨10, 1, 26, 10, #[.bool sl1, .slice P1_ Pn1 Pc1, .slice R1_ Rn1 Rc1, .bool sh1, .slice U1 Un1 Uc1, .slice V1 Vn1 Vc1]⟩, ⟨10, 2, 26, 9, #[.bool false, .slice none 0 0, .slice none 0 0, .bool false, .slice none 0 0, .slice none 0 0]⟩, ⟨10, 3, 24, 10, #[.bool s3, .slice P3 Pn3 Pc3, .slice R3 Rn3 Rc3]⟩] [w.heap.size, w.heap.size + 1, w2.heap.size] [none, none, none, none, none, none, none, some 7, some 8, some 9, some 10, some 11, some 12, some 13, some 14, some 15] (by kernel_rfl) (by kernel_rfl) (by kernel_rfl) rfl B ?_ ?_ ?_ ?_ ?_
  · exact ⟨fun _ => ⟨by simp, rfl, OB1⟩, fun _ => ⟨by simp, rfl, OB2⟩, fun _ => ⟨by simp, rfl, OB3⟩, trivial⟩
  · exact .inr (by simp <;> omega)
  · exact ⟨⟨noWords_S _ _ _ _ _ _ _ _ _ _ _ _ _ _, (.inl (Nat.le_refl _)), (.inl (Nat.le_refl _))⟩, ⟨noWords_S _ _ _ _ _ _ _ _ _ _ _ _ _ _, (.inl (Nat.le_refl _)), (.inr (store_obS (j := 8) (noWords_S _ _ _ _ _ _ _ _ _ _ _ _ _ _) rfl rfl rfl (by kernel_rfl) rfl rfl rfl))⟩, ⟨noWords_R _ _ _ _ _ _ _, (.inl (Nat.le_refl _)), (.inl (Nat.le_refl _))⟩, trivial⟩
  · refine ⟨?_, ?_, ?_, ?_, ?_, ?_, ?_, ?_, ?_, ?_, trivial⟩
    · exact .inr fun a w hp => ob_yes rfl (ob_loadR (hp.box (k := 2) rfl (Nat.le_refl _) (.inl (Nat.le_refl _)) (by kernel_rfl) rfl).1 (hp.box (k := 2) rfl (Nat.le_refl _) (.inl (Nat.le_refl _)) (by kernel_rfl) rfl).2 rfl)
    · exact .inr fun a w hp => ob_yes rfl (ob_fieldS1 (hp.box (k := 0) rfl (Nat.le_refl _) (.inl (Nat.le_refl _)) (by kernel_rfl) rfl).1 rfl)
    · exact .inr fun a w hp => ob_yes rfl (ob_loadHi (hp.fact 1 8 (by kernel_rfl) rfl) (hp.box (k := 0) rfl (Nat.le_refl _) (.inl (Nat.le_refl _)) (by kernel_rfl) rfl).2 rfl)
    · refine .inr fun a w hp => ob_yes rfl ?_
      have h7 : a.tmps.getD 7 undef = .agg #[.bool s3, .slice P3 Pn3 Pc3, .slice R3 Rn3 Rc3] := (hp.fact 0 7 (by kernel_rfl) rfl)
      have h9 : a.tmps.getD 9 undef = .agg #[.bool sh1, .slice U1 Un1 Uc1, .slice V1 Vn1 Vc1] := (hp.fact 2 9 (by kernel_rfl) rfl)
      unfold Does
      go_simp
      refine (subr_any _ _ _ 1 _ L (IsR.fld ((J.kept hp.kept).wide hL2)) (IsR.fld (IH.kept hp.kept)) hL2 (by omega)).mono ?_
      rintro e w' ⟨u, rfl, I8, P8⟩
      exact ⟨_, rfl, P8, I8⟩
    · exact .inr fun a w hp => ob_yes rfl (ob_loadR (hp.box (k := 2) rfl (Nat.le_refl _) (.inl (Nat.le_refl _)) (by kernel_rfl) rfl).1 (hp.box (k := 2) rfl (Nat.le_refl _) (.inl (Nat.le_refl _)) (by kernel_rfl) rfl).2 rfl)
    · exact .inr fun a w hp => ob_yes rfl (ob_fieldS0 (hp.box (k := 0) rfl (Nat.le_refl _) (.inl (Nat.le_refl _)) (by kernel_rfl) rfl).1 rfl)
    · exact .inr fun a w hp => ob_yes rfl (ob_loadLo (hp.fact 5 12 (by kernel_rfl) rfl) (hp.box (k := 0) rfl (Nat.le_refl _) (.inl (Nat.le_refl _)) (by kernel_rfl) rfl).2 rfl)
    · refine .inr fun a w hp => ob_yes rfl ?_
      have h11 : a.tmps.getD 11 undef = .agg #[.bool s3, .slice P3 Pn3 Pc3, .slice R3 Rn3 Rc3] := (hp.fact 4 11 (by kernel_rfl) rfl)
      have h13 : a.tmps.getD 13 undef = .agg #[.bool sl1, .slice P1_ Pn1 Pc1, .slice R1_ Rn1 Rc1] := (hp.fact 6 13 (by kernel_rfl) rfl)
      unfold Does
      go_simp
      refine (subr_any _ _ _ 1 _ L (IsR.fld ((J.kept hp.kept).wide hL2)) (IsR.fld (IL.kept hp.kept)) hL2 (by omega)).mono ?_
      rintro e w' ⟨u, rfl, I8, P8⟩
      exact ⟨_, rfl, P8, I8⟩
    · refine .inr fun a w hp => ob_yes rfl ?_
      have h10 : IsR w (a.tmps.getD 10 undef) (1 - hi) (L + L + 1) := (hp.fact 3 10 (by kernel_rfl) rfl)
      obtain ⟨v10, e10⟩ : ∃ v, a.tmps.getD 10 undef = v := ⟨_, rfl⟩
      rw [e10] at h10
      have h14 : IsR w (a.tmps.getD 14 undef) (1 - lo) (L + L + 1) := (hp.fact 7 14 (by kernel_rfl) rfl)
      obtain ⟨v14, e14⟩ : ∃ v, a.tmps.getD 14 undef = v := ⟨_, rfl⟩
      rw [e14] at h14
      exact ob_buildS e10 e14 h10 h14 (fun x hx => hx)
    · exact .inl rfl
  · intro f wr hon hk hf hb hap
    obtain ⟨q0, q1, q2, qz⟩ := hb
    clear qz
    have O1 : Own wr (w.heap.size) 26 #[.bool sl1, .slice P1_ Pn1 Pc1, .slice R1_ Rn1 Rc1, .bool sh1, .slice U1 Un1 Uc1, .slice V1 Vn1 Vc1] := q0
    have c1_0 : wr.cell? ⟨w.heap.size, 0, none⟩ = some (.bool sl1) := O1.cell 0
    have z1_0 := O1.frozen 0
    have c1_1 : wr.cell? ⟨w.heap.size, 1, none⟩ = some (.slice P1_ Pn1 Pc1) := O1.cell 1
    have z1_1 := O1.frozen 1
    have c1_2 : wr.cell? ⟨w.heap.size, 2, none⟩ = some (.slice R1_ Rn1 Rc1) := O1.cell 2
    have z1_2 := O1.frozen 2
    have c1_3 : wr.cell? ⟨w.heap.size, 3, none⟩ = some (.bool sh1) := O1.cell 3
    have z1_3 := O1.frozen 3
    have c1_4 : wr.cell? ⟨w.heap.size, 4, none⟩ = some (.slice U1 Un1 Uc1) := O1.cell 4
    have z1_4 := O1.frozen 4
    have c1_5 : wr.cell? ⟨w.heap.size, 5, none⟩ = some (.slice V1 Vn1 Vc1) := O1.cell 5
    have z1_5 := O1.frozen 5
    clear q0
    obtain ⟨cur2, O2, I2⟩ : ∃ cur, Own wr (w.heap.size + 1) 26 cur ∧ IsS wr (.agg cur) (1 - hi) (1 - lo) (L + L + 1) := q1
    obtain ⟨sl2, P2, Pn2, Pc2, R2, Rn2, Rc2, sh2, U2, Un2, Uc2, V2, Vn2, Vc2, hz2, IL2, IH2⟩ := id I2
    injection hz2 with hz2
    subst hz2
    have c2_0 : wr.cell? ⟨w.heap.size + 1, 0, none⟩ = some (.bool sl2) := O2.cell 0
    have z2_0 := O2.frozen 0
    have c2_1 : wr.cell? ⟨w.heap.size + 1, 1, none⟩ = some (.slice P2 Pn2 Pc2) := O2.cell 1
    have z2_1 := O2.frozen 1
    have c2_2 : wr.cell? ⟨w.heap.size + 1, 2, none⟩ = some (.slice R2 Rn2 Rc2) := O2.cell 2
    have z2_2 := O2.frozen 2
    have c2_3 : wr.cell? ⟨w.heap.size + 1, 3, none⟩ = some (.bool sh2) := O2.cell 3
    have z2_3 := O2.frozen 3
    have c2_4 : wr.cell? ⟨w.heap.size + 1, 4, none⟩ = some (.slice U2 Un2 Uc2) := O2.cell 4
    have z2_4 := O2.frozen 4
    have c2_5 : wr.cell? ⟨w.heap.size + 1, 5, none⟩ = some (.slice V2 Vn2 Vc2) := O2.cell 5
    have z2_5 := O2.frozen 5
    have O3 : Own wr (w2.heap.size) 24 #[.bool s3, .slice P3 Pn3 Pc3, .slice R3 Rn3 Rc3] := q2
    have c3_0 : wr.cell? ⟨w2.heap.size, 0, none⟩ = some (.bool s3) := O3.cell 0
    have z3_0 := O3.frozen 0
    have c3_1 : wr.cell? ⟨w2.heap.size, 1, none⟩ = some (.slice P3 Pn3 Pc3) := O3.cell 1
    have z3_1 := O3.frozen 1
    have c3_2 : wr.cell? ⟨w2.heap.size, 2, none⟩ = some (.slice R3 Rn3 Rc3) := O3.cell 2
    have z3_2 := O3.frozen 2
    clear q2
    clear hf hap
    simp only [fillL]
    go_wp2
    exact bodyPost_ret (v := .agg #[.bool sl2, .slice P2 Pn2 Pc2, .slice R2 Rn2 Rc2, .bool sh2, .slice U2 Un2 Uc2, .slice V2 Vn2 Vc2]) (by simp [results, Tryz.results28, go_sem, c2_0, c2_1, c2_2, c2_3, c2_4, c2_5]) rfl ⟨_, rfl, I2, hon⟩
def clipR (x : Rat) : Rat := rmax 0 (rmin x 1)
set_option maxRecDepth 100000 in
set_option maxHeartbeats 1600000 in
theorem sclip_any (w : World) (v : Value) (r : Rat) (L : Nat) (h : Fld w v r L) (hL2 : 2 ≤ L) (hL : L ≤ 1000) :
    Calls Tryz.prog 62 #[v] w (RatPost w (clipR r) L) := by
  obtain ⟨b0, A0, n0, c0, D0, m0, e0, rfl⟩ := fld_form h
  have B : On w ((w.alloc (.cells #[.bool b0, .slice A0 n0 c0, .slice D0 m0 e0] 24)).alloc (.cells #[.bool false, .slice none 0 0, .slice none 0 0] 24)) := On.alloc (On.alloc (On.refl w) _) _
  have OB1 : w.heap.size ≤ w.heap.size ∧ Own ((w.alloc (.cells #[.bool b0, .slice A0 n0 c0, .slice D0 m0 e0] 24)).alloc (.cells #[.bool false, .slice none 0 0, .slice none 0 0] 24)) (w.heap.size) 24 #[.bool b0, .slice A0 n0 c0, .slice D0 m0 e0] := ⟨by omega, ((Own.at_ w (w.heap.size) (by simp) 24 #[.bool b0, .slice A0 n0 c0, .slice D0 m0 e0]).alloc (.cells #[.bool false, .slice none 0 0, .slice none 0 0] 24))⟩
  have OB2 : w.heap.size ≤ w.heap.size + 1 ∧ Own ((w.alloc (.cells #[.bool b0, .slice A0 n0 c0, .slice D0 m0 e0] 24)).alloc (.cells #[.bool false, .slice none 0 0, .slice none 0 0] 24)) (w.heap.size + 1) 24 #[.bool false, .slice none 0 0, .slice none 0 0] := ⟨by omega, (Own.at_ (w.alloc (.cells #[.bool b0, .slice A0 n0 c0, .slice D0 m0 e0] 24)) (w.heap.size + 1) (by simp) 24 #[.bool false, .slice none 0 0, .slice none 0 0])⟩
  go_enter Tryz.func62, Tryz.ntmps62
  go_wp2
  refine wp_region_facts (by kernel_rfl) w [Fact.rat (0) (2), Fact.eq (.agg #[.bool b0, .slice A0 n0 c0, .slice D0 m0 e0]), Fact.rat (1) (2), Fact.rat (rmin r 1) (L), Fact.rat (rmax 0 (rmin r 1)) (L), Fact.any] [Fact.any, Fact.rat (rmax 0 (rmin r 1)) (L)] [⟨6, 1, 24, 6, #[.bool b0, .slice A0 n0 c0, .slice D0 m0 e0]⟩, ⟨6, 2, 24, 5, #[.bool false, .slice none 0 0, .slice none 0 0]⟩] [w.heap.size, w.heap.size + 1] [none, none, none, some 3, some 4, some 5, some 6, some 7] (by kernel_rfl) (by kernel_rfl) (by kernel_rfl) rfl B ?_ ?_ ?_ ?_ ?_
  · exact ⟨fun _ => ⟨by simp, rfl, OB1⟩, fun _ => ⟨by simp, rfl, OB2⟩, trivial⟩
  · exact .inr (by simp <;> omega)
  · exact ⟨⟨noWords_R _ _ _ _ _ _ _, (.inl (Nat.le_refl _)), (.inl (Nat.le_refl _))⟩, ⟨noWords_R _ _ _ _ _ _ _, (.inl (Nat.le_refl _)), (.inr (store_ob (j := 4) (noWords_R _ _ _ _ _ _ _) rfl rfl rfl (by kernel_rfl) rfl rfl rfl))⟩, trivial⟩
  · refine ⟨?_, ?_, ?_, ?_, ?_, ?_, trivial⟩
    · exact .inr fun a w hp => ob_yes rfl (ob_zeroR (isR_zero _ _))
    · exact .inr fun a w hp => ob_yes rfl (ob_loadR (hp.box (k := 0) rfl (Nat.le_refl _) (.inl (Nat.le_refl _)) (by kernel_rfl) rfl).1 (hp.box (k := 0) rfl (Nat.le_refl _) (.inl (Nat.le_refl _)) (by kernel_rfl) rfl).2 rfl)
    · refine .inr fun a w hp => ob_yes rfl ?_
      unfold Does
      go_simp
      refine (ofr_any _ 1 (by decide) (by decide)).mono ?_
      rintro e w' ⟨u, rfl, I8, P8⟩
      exact ⟨_, rfl, P8, I8⟩
    · refine .inr fun a w hp => ob_yes rfl ?_
      have h4 : a.tmps.getD 4 undef = .agg #[.bool b0, .slice A0 n0 c0, .slice D0 m0 e0] := (hp.fact 1 4 (by kernel_rfl) rfl)
      have h5 : IsR w (a.tmps.getD 5 undef) (1) (2) := (hp.fact 2 5 (by kernel_rfl) rfl)
      obtain ⟨v5, e5⟩ : ∃ v, a.tmps.getD 5 undef = v := ⟨_, rfl⟩
      rw [e5] at h5
      unfold Does
      go_simp
      refine (minr_any _ _ _ _ _ L (h.on hp.on) (IsR.fld (h5.wide hL2)) (by omega)).mono ?_
      rintro e w' ⟨u, rfl, I8, P8⟩
      exact ⟨_, rfl, P8, I8⟩
    · refine .inr fun a w hp => ob_yes rfl ?_
      have h3 : IsR w (a.tmps.getD 3 undef) (0) (2) := (hp.fact 0 3 (by kernel_rfl) rfl)
      obtain ⟨v3, e3⟩ : ∃ v, a.tmps.getD 3 undef = v := ⟨_, rfl⟩
      rw [e3] at h3
      have h6 : IsR w (a.tmps.getD 6 undef) (rmin r 1) (L) := (hp.fact 3 6 (by kernel_rfl) rfl)
      obtain ⟨v6, e6⟩ : ∃ v, a.tmps.getD 6 undef = v := ⟨_, rfl⟩
      rw [e6] at h6
      unfold Does
      go_simp
      refine (maxr_any _ _ _ _ _ L (IsR.fld (h3.wide hL2)) (IsR.fld h6) (by omega)).mono ?_
      rintro e w' ⟨u, rfl, I8, P8⟩
      exact ⟨_, rfl, P8, I8⟩
    · exact .inl rfl
  · intro f wr hon hk hf hb hap
    obtain ⟨q0, q1, qz⟩ := hb
    clear qz
    have O1 : Own wr (w.heap.size) 24 #[.bool b0, .slice A0 n0 c0, .slice D0 m0 e0] := q0
    have c1_0 : wr.cell? ⟨w.heap.size, 0, none⟩ = some (.bool b0) := O1.cell 0
    have z1_0 := O1.frozen 0
    have c1_1 : wr.cell? ⟨w.heap.size, 1, none⟩ = some (.slice A0 n0 c0) := O1.cell 1
    have z1_1 := O1.frozen 1
    have c1_2 : wr.cell? ⟨w.heap.size, 2, none⟩ = some (.slice D0 m0 e0) := O1.cell 2
    have z1_2 := O1.frozen 2
    clear q0
    obtain ⟨cur2, O2, I2⟩ : ∃ cur, Own wr (w.heap.size + 1) 24 cur ∧ IsR wr (.agg cur) (rmax 0 (rmin r 1)) (L) := q1
    obtain ⟨sl2, P2, Pn2, Pc2, R2, Rn2, Rc2, hz2⟩ := isR_form I2
    injection hz2 with hz2
    subst hz2
    have c2_0 : wr.cell? ⟨w.heap.size + 1, 0, none⟩ = some (.bool sl2) := O2.cell 0
    have z2_0 := O2.frozen 0
    have c2_1 : wr.cell? ⟨w.heap.size + 1, 1, none⟩ = some (.slice P2 Pn2 Pc2) := O2.cell 1
    have z2_1 := O2.frozen 1
    have c2_2 : wr.cell? ⟨w.heap.size + 1, 2, none⟩ = some (.slice R2 Rn2 Rc2) := O2.cell 2
    have z2_2 := O2.frozen 2
    clear hf hap
    simp only [fillL]
    go_wp2
    exact bodyPost_ret (v := .agg #[.bool sl2, .slice P2 Pn2 Pc2, .slice R2 Rn2 Rc2]) (by simp [results, Tryz.results62, go_sem, c2_0, c2_1, c2_2]) rfl ⟨_, rfl, I2, hon⟩
set_option maxRecDepth 100000 in
set_option maxHeartbeats 1600000 in
theorem spclip_any (w : World) (v : Value) (lo hi : Rat) (L : Nat) (h : Sp w v lo hi L) (hL2 : 2 ≤ L) (hL : L ≤ 1000) :
    Calls Tryz.prog 30 #[v] w (SpPost w (clipR lo) (clipR hi) (L)) := by
  obtain ⟨ba0, Aa0, na0, ca0, Ba0, ma0, oa0, bb0, Ab0, nb0, cb0, Bb0, mb0, ob0, rfl⟩ := h.form
  have B : On w ((w.alloc (.cells #[.bool ba0, .slice Aa0 na0 ca0, .slice Ba0 ma0 oa0, .bool bb0, .slice Ab0 nb0 cb0, .slice Bb0 mb0 ob0] 26)).alloc (.cells #[.bool false, .slice none 0 0, .slice none 0 0, .bool false, .slice none 0 0, .slice none 0 0] 26)) := On.alloc (On.alloc (On.refl w) _) _
  have OB1 : w.heap.size ≤ w.heap.size ∧ Own ((w.alloc (.cells #[.bool ba0, .slice Aa0 na0 ca0, .slice Ba0 ma0 oa0, .bool bb0, .slice Ab0 nb0 cb0, .slice Bb0 mb0 ob0] 26)).alloc (.cells #[.bool false, .slice none 0 0, .slice none 0 0, .bool false, .slice none 0 0, .slice none 0 0] 26)) (w.heap.size) 26 #[.bool ba0, .slice Aa0 na0 ca0, .slice Ba0 ma0 oa0, .bool bb0, .slice Ab0 nb0 cb0, .slice Bb0 mb0 ob0] := ⟨by omega, ((Own.at_ w (w.heap.size) (by simp) 26 #[.bool ba0, .slice Aa0 na0 ca0, .slice Ba0 ma0 oa0, .bool bb0, .slice Ab0 nb0 cb0, .slice Bb0 mb0 ob0]).alloc (.cells #[.bool false, .slice none 0 0, .slice none 0 0, .bool false, .slice none 0 0, .slice none 0 0] 26))⟩
  have OB2 : w.heap.size ≤ w.heap.size + 1 ∧ Own ((w.alloc (.cells #[.bool ba0, .slice Aa0 na0 ca0, .slice Ba0 ma0 oa0, .bool bb0, .slice Ab0 nb0 cb0, .slice Bb0 mb0 ob0] 26)).alloc (.cells #[.bool false, .slice none 0 0, .slice none 0 0, .bool false, .slice none 0 0, .slice none 0 0] 26)) (w.heap.size + 1) 26 #[.bool false, .slice none 0 0, .slice none 0 0, .bool false, .slice none 0 0, .slice none 0 0] := ⟨by omega, (Own.at_ (w.alloc (.cells #[.bool ba0, .slice Aa0 na0 ca0, .slice Ba0 ma0 oa0, .bool bb0, .slice Ab0 nb0 cb0, .slice Bb0 mb0 ob0] 26)) (w.heap.size + 1) (by simp) 26 #[.bool false, .slice none 0 0, .slice none 0 0, .bool false, .slice none 0 0, .slice none 0 0])⟩
  go_enter Tryz.func30, Tryz.ntmps30
  go_wp2_with fail
  refine (svalue_any _ _ _ _ L (h.on B) (by omega)).mono ?_
  rintro e w1 ⟨u, rfl, I, P1⟩
  clear h
  obtain ⟨sl1, P1_, Pn1, Pc1, R1_, Rn1, Rc1, sh1, U1, Un1, Uc1, V1, Vn1, Vc1, rfl, IL, IH⟩ := id I
  replace OB1 := And.intro OB1.1 (OB1.2.on P1)
  replace OB2 := And.intro OB2.1 (OB2.2.on P1)
  replace B := B.trans P1
  have y1_0 : w1.cell? ⟨w.heap.size, 0, none⟩ = some (.bool ba0) := OB1.2.cell 0
  have y1_1 : w1.cell? ⟨w.heap.size, 1, none⟩ = some (.slice Aa0 na0 ca0) := OB1.2.cell 1
  have y1_2 : w1.cell? ⟨w.heap.size, 2, none⟩ = some (.slice Ba0 ma0 oa0) := OB1.2.cell 2
  have y1_3 : w1.cell? ⟨w.heap.size, 3, none⟩ = some (.bool bb0) := OB1.2.cell 3
  have y1_4 : w1.cell? ⟨w.heap.size, 4, none⟩ = some (.slice Ab0 nb0 cb0) := OB1.2.cell 4
  have y1_5 : w1.cell? ⟨w.heap.size, 5, none⟩ = some (.slice Bb0 mb0 ob0) := OB1.2.cell 5
  have y1_f0 := OB1.2.frozen 0
  have y1_f1 := OB1.2.frozen 1
  have y1_f2 := OB1.2.frozen 2
  have y1_f3 := OB1.2.frozen 3
  have y1_f4 := OB1.2.frozen 4
  have y1_f5 := OB1.2.frozen 5
  have oo := only6 (w := w1) (g := w.heap.size) (.bool sl1) (.slice P1_ Pn1 Pc1) (.slice R1_ Rn1 Rc1) (.bool sh1) (.slice U1 Un1 Uc1) (.slice V1 Vn1 Vc1)
  have hk1 := Kept.only oo OB1.2 (noWords_S _ _ _ _ _ _ _ _ _ _ _ _ _ _)
  replace IL := IL.kept hk1
  replace IH := IH.kept hk1
  clear I hk1
  have hon1 := on6 (g := w.heap.size) B (by omega) (.bool sl1) (.slice P1_ Pn1 Pc1) (.slice R1_ Rn1 Rc1) (.bool sh1) (.slice U1 Un1 Uc1) (.slice V1 Vn1 Vc1)
  have ON1 := (((((OB1.2.set_ 0 (.bool sl1)).set_ 1 (.slice P1_ Pn1 Pc1)).set_ 2 (.slice R1_ Rn1 Rc1)).set_ 3 (.bool sh1)).set_ 4 (.slice U1 Un1 Uc1)).set_ 5 (.slice V1 Vn1 Vc1)
  have ON2 := OB2.2.only oo (by omega)
  go_wp2
  obtain ⟨W, hW⟩ : ∃ W, (((((((w1.setCell ⟨w.heap.size, 0, none⟩ (.bool sl1)).setCell ⟨w.heap.size, 1, none⟩ (.slice P1_ Pn1 Pc1)).setCell ⟨w.heap.size, 2, none⟩ (.slice R1_ Rn1 Rc1)).setCell ⟨w.heap.size, 3, none⟩ (.bool sh1)).setCell ⟨w.heap.size, 4, none⟩ (.slice U1 Un1 Uc1)).setCell ⟨w.heap.size, 5, none⟩ (.slice V1 Vn1 Vc1))) = W := ⟨_, rfl⟩
  rw [hW] at hon1 IL IH ON1 ON2 ⊢
  have OB1' : w.heap.size ≤ w.heap.size ∧ Own W w.heap.size 26 #[.bool sl1, .slice P1_ Pn1 Pc1, .slice R1_ Rn1 Rc1, .bool sh1, .slice U1 Un1 Uc1, .slice V1 Vn1 Vc1] := ⟨Nat.le_refl _, ON1⟩
  have OB2' : w.heap.size ≤ w.heap.size + 1 ∧ Own W (w.heap.size + 1) 26 #[.bool false, .slice none 0 0, .slice none 0 0, .bool false, .slice none 0 0, .slice none 0 0] := ⟨by omega, ON2⟩
  clear y1_0 y1_f0 y1_1 y1_f1 y1_2 y1_f2 y1_3 y1_f3 y1_4 y1_f4 y1_5 y1_f5
  clear oo B OB1 OB2 ON1 ON2 hW P1
  have OB1 := OB1'
  have OB2 := OB2'
  have B := hon1
  clear OB1' OB2' hon1
  refine wp_region_facts (by kernel_rfl) w [Fact.eq (.pointer (some ⟨w.heap.size, 0, none⟩)), Fact.eq (.agg #[.bool sl1, .slice P1_ Pn1 Pc1, .slice R1_ Rn1 Rc1]), Fact.rat (clipR lo) (L), Fact.eq (.pointer (some ⟨w.heap.size, 3, none⟩)), Fact.eq (.agg #[.bool sh1, .slice U1 Un1 Uc1, .slice V1 Vn1 Vc1]), Fact.rat (clipR hi) (L), Fact.sp (clipR lo) (clipR hi) (L), Fact.any] [Fact.any, Fact.sp (clipR lo) (clipR hi) (L)] [⟨8, 1, 26, 8, #[.bool sl1, .slice P1_ Pn1 Pc1, .slice R1_ Rn1 Rc1, .bool sh1, .slice U1 Un1 Uc1, .slice V1 Vn1 Vc1]⟩, ⟨8, 2, 26, 7, #[.bool false, .slice none 0 0, .slice none 0 0, .bool false, .slice none 0 0, .slice none 0 0]⟩] [w.heap.size, w.heap.size + 1] [none, none, none, none, none, some 5, some 6, some 7, some 8, some 9, some 10, some 11] (by kernel_rfl) (by kernel_rfl) (by kernel_rfl) rfl B ?_ ?_ ?_ ?_ ?_
  · exact ⟨fun _ => ⟨by simp, rfl, OB1⟩, fun _ => ⟨by simp, rfl, OB2⟩, trivial⟩
  · exact .inr (by simp <;> omega)
  · exact ⟨⟨noWords_S _ _ _ _ _ _ _ _ _ _ _ _ _ _, (.inl (Nat.le_refl _)), (.inl (Nat.le_refl _))⟩, ⟨noWords_S _ _ _ _ _ _ _ _ _ _ _ _ _ _, (.inl (Nat.le_refl _)), (.inr (store_obS (j := 6) (noWords_S _ _ _ _ _ _ _ _ _ _ _ _ _ _) rfl rfl rfl (by kernel_rfl) rfl rfl rfl))⟩, trivial⟩
  · refine ⟨?_, ?_, ?_, ?_, ?_, ?_, ?_, ?_, trivial⟩
    · exact .inr fun a w hp => ob_yes rfl (ob_fieldS0 (hp.box (k := 0) rfl (Nat.le_refl _) (.inl (Nat.le_refl _)) (by kernel_rfl) rfl).1 rfl)
    · exact .inr fun a w hp => ob_yes rfl (ob_loadLo (hp.fact 0 5 (by kernel_rfl) rfl) (hp.box (k := 0) rfl (Nat.le_refl _) (.inl (Nat.le_refl _)) (by kernel_rfl) rfl).2 rfl)
    · refine .inr fun a w hp => ob_yes rfl ?_
      have h6 : a.tmps.getD 6 undef = .agg #[.bool sl1, .slice P1_ Pn1 Pc1, .slice R1_ Rn1 Rc1] := (hp.fact 1 6 (by kernel_rfl) rfl)
      unfold Does
      go_simp
      refine (sclip_any _ _ _ L (IsR.fld (IL.kept hp.kept)) hL2 hL).mono ?_
      rintro e w' ⟨u, rfl, I8, P8⟩
      exact ⟨_, rfl, P8, I8⟩
    · exact .inr fun a w hp => ob_yes rfl (ob_fieldS1 (hp.box (k := 0) rfl (Nat.le_refl _) (.inl (Nat.le_refl _)) (by kernel_rfl) rfl).1 rfl)
    · exact .inr fun a w hp => ob_yes rfl (ob_loadHi (hp.fact 3 8 (by kernel_rfl) rfl) (hp.box (k := 0) rfl (Nat.le_refl _) (.inl (Nat.le_refl _)) (by kernel_rfl) rfl).2 rfl)
    · refine .inr fun a w hp => ob_yes rfl ?_
      have h9 : a.tmps.getD 9 undef = .agg #[.bool sh1, .slice U1 Un1 Uc1, .slice V1 Vn1 Vc1] := (hp.fact 4 9 (by kernel_rfl) rfl)
      unfold Does
      go_simp
      refine (sclip_any _ _ _ L (IsR.fld (IH.kept hp.kept)) hL2 hL).mono ?_
      rintro e w' ⟨u, rfl, I8, P8⟩
      exact ⟨_, rfl, P8, I8⟩
    · refine .inr fun a w hp => ob_yes rfl ?_
      have h7 : IsR w (a.tmps.getD 7 undef) (clipR lo) (L) := (hp.fact 2 7 (by kernel_rfl) rfl)
      obtain ⟨v7, e7⟩ : ∃ v, a.tmps.getD 7 undef = v := ⟨_, rfl⟩
      rw [e7] at h7
      have h10 : IsR w (a.tmps.getD 10 undef) (clipR hi) (L) := (hp.fact 5 10 (by kernel_rfl) rfl)
      obtain ⟨v10, e10⟩ : ∃ v, a.tmps.getD 10 undef = v := ⟨_, rfl⟩
      rw [e10] at h10
      exact ob_buildS e7 e10 h7 h10 (fun x hx => hx)
    · exact .inl rfl
  · intro f wr hon hk hf hb hap
    obtain ⟨q0, q1, qz⟩ := hb
    clear qz
    have O1 : Own wr (w.heap.size) 26 #[.bool sl1, .slice P1_ Pn1 Pc1, .slice R1_ Rn1 Rc1, .bool sh1, .slice U1 Un1 Uc1, .slice V1 Vn1 Vc1] := q0
    have c1_0 : wr.cell? ⟨w.heap.size, 0, none⟩ = some (.bool sl1) := O1.cell 0
    have z1_0 := O1.frozen 0
    have c1_1 : wr.cell? ⟨w.heap.size, 1, none⟩ = some (.slice P1_ Pn1 Pc1) := O1.cell 1
    have z1_1 := O1.frozen 1
    have c1_2 : wr.cell? ⟨w.heap.size, 2, none⟩ = some (.slice R1_ Rn1 Rc1) := O1.cell 2
    have z1_2 := O1.frozen 2
    have c1_3 : wr.cell? ⟨w.heap.size, 3, none⟩ = some (.bool sh1) := O1.cell 3
    have z1_3 := O1.frozen 3
    have c1_4 : wr.cell? ⟨w.heap.size, 4, none⟩ = some (.slice U1 Un1 Uc1) := O1.cell 4
    have z1_4 := O1.frozen 4
    have c1_5 : wr.cell? ⟨w.heap.size, 5, none⟩ = some (.slice V1 Vn1 Vc1) := O1.cell 5
    have z1_5 := O1.frozen 5
    clear q0
    obtain ⟨cur2, O2, I2⟩ : ∃ cur, Own wr (w.heap.size + 1) 26 cur ∧ IsS wr (.agg cur) (clipR lo) (clipR hi) (L) := q1
    obtain ⟨sl2, P2, Pn2, Pc2, R2, Rn2, Rc2, sh2, U2, Un2, Uc2, V2, Vn2, Vc2, hz2, IL2, IH2⟩ := id I2
    injection hz2 with hz2
    subst hz2
    have c2_0 : wr.cell? ⟨w.heap.size + 1, 0, none⟩ = some (.bool sl2) := O2.cell 0
    have z2_0 := O2.frozen 0
    have c2_1 : wr.cell? ⟨w.heap.size + 1, 1, none⟩ = some (.slice P2 Pn2 Pc2) := O2.cell 1
    have z2_1 := O2.frozen 1
    have c2_2 : wr.cell? ⟨w.heap.size + 1, 2, none⟩ = some (.slice R2 Rn2 Rc2) := O2.cell 2
    have z2_2 := O2.frozen 2
    have c2_3 : wr.cell? ⟨w.heap.size + 1, 3, none⟩ = some (.bool sh2) := O2.cell 3
    have z2_3 := O2.frozen 3
    have c2_4 : wr.cell? ⟨w.heap.size + 1, 4, none⟩ = some (.slice U2 Un2 Uc2) := O2.cell 4
    have z2_4 := O2.frozen 4
    have c2_5 : wr.cell? ⟨w.heap.size + 1, 5, none⟩ = some (.slice V2 Vn2 Vc2) := O2.cell 5
    have z2_5 := O2.frozen 5
    clear hf hap
    simp only [fillL]
    go_wp2
    exact bodyPost_ret (v := .agg #[.bool sl2, .slice P2 Pn2 Pc2, .slice R2 Rn2 Rc2, .bool sh2, .slice U2 Un2 Uc2, .slice V2 Vn2 Vc2]) (by simp [results, Tryz.results30, go_sem, c2_0, c2_1, c2_2, c2_3, c2_4, c2_5]) rfl ⟨_, rfl, I2, hon⟩
set_option maxRecDepth 100000 in
set_option maxHeartbeats 1600000 in
theorem spadd_any (w : World) (v v' : Value) (lo hi lo' hi' : Rat) (L : Nat) (h : Sp w v lo hi L) (k : Sp w v' lo' hi' L) (hL2 : 2 ≤ L) (hL : L ≤ 1000) :
    Calls Tryz.prog 22 #[v, v'] w (SpPost w (lo + lo') (hi + hi') (L + L + 1)) := by
  obtain ⟨ba0, Aa0, na0, ca0, Ba0, ma0, oa0, bb0, Ab0, nb0, cb0, Bb0, mb0, ob0, rfl⟩ := h.form
  obtain ⟨ba1, Aa1, na1, ca1, Ba1, ma1, oa1, bb1, Ab1, nb1, cb1, Bb1, mb1, ob1, rfl⟩ := k.form
  have B : On w (((w.alloc (.cells #[.bool ba0, .slice Aa0 na0 ca0, .slice Ba0 ma0 oa0, .bool bb0, .slice Ab0 nb0 cb0, .slice Bb0 mb0 ob0] 26)).alloc (.cells #[.bool ba1, .slice Aa1 na1 ca1, .slice Ba1 ma1 oa1, .bool bb1, .slice Ab1 nb1 cb1, .slice Bb1 mb1 ob1] 26)).alloc (.cells #[.bool false, .slice none 0 0, .slice none 0 0, .bool false, .slice none 0 0, .slice none 0 0] 26)) := On.alloc (On.alloc (On.alloc (On.refl w) _) _) _
  have OB2 : w.heap.size ≤ w.heap.size ∧ Own (((w.alloc (.cells #[.bool ba0, .slice Aa0 na0 ca0, .slice Ba0 ma0 oa0, .bool bb0, .slice Ab0 nb0 cb0, .slice Bb0 mb0 ob0] 26)).alloc (.cells #[.bool ba1, .slice Aa1 na1 ca1, .slice Ba1 ma1 oa1, .bool bb1, .slice Ab1 nb1 cb1, .slice Bb1 mb1 ob1] 26)).alloc (.cells #[.bool false, .slice none 0 0, .slice none 0 0, .bool false, .slice none 0 0, .slice none 0 0] 26)) (w.heap.size) 26 #[.bool ba0, .slice Aa0 na0 ca0, .slice Ba0 ma0 oa0, .bool bb0, .slice Ab0 nb0 cb0, .slice Bb0 mb0 ob0] := ⟨by omega, (((Own.at_ w (w.heap.size) (by simp) 26 #[.bool ba0, .slice Aa0 na0 ca0, .slice Ba0 ma0 oa0, .bool bb0, .slice Ab0 nb0 cb0, .slice Bb0 mb0 ob0]).alloc (.cells #[.bool ba1, .slice Aa1 na1 ca1, .slice Ba1 ma1 oa1, .bool bb1, .slice Ab1 nb1 cb1, .slice Bb1 mb1 ob1] 26)).alloc (.cells #[.bool false, .slice none 0 0, .slice none 0 0, .bool false, .slice none 0 0, .slice none 0 0] 26))⟩
  have OB3 : w.heap.size ≤ w.heap.size + 1 ∧ Own (((w.alloc (.cells #[.bool ba0, .slice Aa0 na0 ca0, .slice Ba0 ma0 oa0, .bool bb0, .slice Ab0 nb0 cb0, .slice Bb0 mb0 ob0] 26)).alloc (.cells #[.bool ba1, .slice Aa1 na1 ca1, .slice Ba1 ma1 oa1, .bool bb1, .slice Ab1 nb1 cb1, .slice Bb1 mb1 ob1] 26)).alloc (.cells #[.bool false, .slice none 0 0, .slice none 0 0, .bool false, .slice none 0 0, .slice none 0 0] 26)) (w.heap.size + 1) 26 #[.bool ba1, .slice Aa1 na1 ca1, .slice Ba1 ma1 oa1, .bool bb1, .slice Ab1 nb1 cb1, .slice Bb1 mb1 ob1] := ⟨by omega, ((Own.at_ (w.alloc (.cells #[.bool ba0, .slice Aa0 na0 ca0, .slice Ba0 ma0 oa0, .bool bb0, .slice Ab0 nb0 cb0, .slice Bb0 mb0 ob0] 26)) (w.heap.size + 1) (by simp) 26 #[.bool ba1, .slice Aa1 na1 ca1, .slice Ba1 ma1 oa1, .bool bb1, .slice Ab1 nb1 cb1, .slice Bb1 mb1 ob1]).alloc (.cells #[.bool false, .slice none 0 0, .slice none 0 0, .bool false, .slice none 0 0, .slice none 0 0] 26))⟩
  have OB4 : w.heap.size ≤ w.heap.size + 2 ∧ Own (((w.alloc (.cells #[.bool ba0, .slice Aa0 na0 ca0, .slice Ba0 ma0 oa0, .bool bb0, .slice Ab0 nb0 cb0, .slice Bb0 mb0 ob0] 26)).alloc (.cells #[.bool ba1, .slice Aa1 na1 ca1, .slice Ba1 ma1 oa1, .bool bb1, .slice Ab1 nb1 cb1, .slice Bb1 mb1 ob1] 26)).alloc (.cells #[.bool false, .slice none 0 0, .slice none 0 0, .bool false, .slice none 0 0, .slice none 0 0] 26)) (w.heap.size + 2) 26 #[.bool false, .slice none 0 0, .slice none 0 0, .bool false, .slice none 0 0, .slice none 0 0] := ⟨by omega, (Own.at_ ((w.alloc (.cells #[.bool ba0, .slice Aa0 na0 ca0, .slice Ba0 ma0 oa0, .bool bb0, .slice Ab0 nb0 cb0, .slice Bb0 mb0 ob0] 26)).alloc (.cells #[.bool ba1, .slice Aa1 na1 ca1, .slice Ba1 ma1 oa1, .bool bb1, .slice Ab1 nb1 cb1, .slice Bb1 mb1 ob1] 26)) (w.heap.size + 2) (by simp) 26 #[.bool false, .slice none 0 0, .slice none 0 0, .bool false, .slice none 0 0, .slice none 0 0])⟩
  go_enter Tryz.func22, Tryz.ntmps22
  go_wp2
  refine wp_region_facts (by kernel_rfl) w [Fact.eq (.agg #[.bool ba0, .slice Aa0 na0 ca0, .slice Ba0 ma0 oa0, .bool bb0, .slice Ab0 nb0 cb0, .slice Bb0 mb0 ob0]), Fact.sp (lo) (hi) (L), Fact.eq (.agg #[.bool ba1, .slice Aa1 na1 ca1, .slice Ba1 ma1 oa1, .bool bb1, .slice Ab1 nb1 cb1, .slice Bb1 mb1 ob1]), Fact.sp (lo') (hi') (L), Fact.any, Fact.any] [Fact.sp (lo) (hi) (L), Fact.sp (lo') (hi') (L), Fact.any] [⟨6, 2, 26, 4, #[.bool ba0, .slice Aa0 na0 ca0, .slice Ba0 ma0 oa0, .bool bb0, .slice Ab0 nb0 cb0, .slice Bb0 mb0 ob0]⟩, ⟨6, 3, 26, 5, #[.bool ba1, .slice Aa1 na1 ca1, .slice Ba1 ma1 oa1, .bool bb1, .slice Ab1 nb1 cb1, .slice Bb1 mb1 ob1]⟩, ⟨6, 4, 26, 6, #[.bool false, .slice none 0 0, .slice none 0 0, .bool false, .slice none 0 0, .slice none 0 0]⟩] [w.heap.size, w.heap.size + 1, w.heap.size + 2] [none, none, none, none, none, some 5, some 6, some 7, some 8, none, none, none, none, none, none, none, none, none, none, none] (by kernel_rfl) (by kernel_rfl) (by kernel_rfl) rfl B ?_ ?_ ?_ ?_ ?_
  · exact ⟨fun _ => ⟨by simp, rfl, OB2⟩, fun _ => ⟨by simp, rfl, OB3⟩, fun _ => ⟨by simp, rfl, OB4⟩, trivial⟩
  · exact .inr (by simp <;> omega)
  · exact ⟨⟨noWords_S _ _ _ _ _ _ _ _ _ _ _ _ _ _, (.inl (Nat.le_refl _)), (.inr (store_obS (j := 1) (noWords_S _ _ _ _ _ _ _ _ _ _ _ _ _ _) rfl rfl rfl (by kernel_rfl) rfl rfl rfl))⟩, ⟨noWords_S _ _ _ _ _ _ _ _ _ _ _ _ _ _, (.inl (Nat.le_refl _)), (.inr (store_obS (j := 3) (noWords_S _ _ _ _ _ _ _ _ _ _ _ _ _ _) rfl rfl rfl (by kernel_rfl) rfl rfl rfl))⟩, ⟨noWords_S _ _ _ _ _ _ _ _ _ _ _ _ _ _, (.inl (Nat.le_refl _)), (.inl (Nat.le_refl _))⟩, trivial⟩
  · refine ⟨?_, ?_, ?_, ?_, ?_, ?_, trivial⟩
    · exact .inr fun a w hp => ob_yes rfl (ob_loadSp (hp.box (k := 0) rfl (Nat.le_refl _) (.inr (.inl (by kernel_rfl))) (by kernel_rfl) rfl).1 (hp.box (k := 0) rfl (Nat.le_refl _) (.inr (.inl (by kernel_rfl))) (by kernel_rfl) rfl).2 rfl)
    · refine .inr fun a w hp => ob_yes rfl ?_
      have h5 : a.tmps.getD 5 undef = .agg #[.bool ba0, .slice Aa0 na0 ca0, .slice Ba0 ma0 oa0, .bool bb0, .slice Ab0 nb0 cb0, .slice Bb0 mb0 ob0] := (hp.fact 0 5 (by kernel_rfl) rfl)
      unfold Does
      go_simp
      refine (svalue_any _ _ _ _ L (h.on hp.on) (by omega)).mono ?_
      rintro e w' ⟨u, rfl, I8, P8⟩
      exact ⟨_, rfl, P8, I8⟩
    · exact .inr fun a w hp => ob_yes rfl (ob_loadSp (hp.box (k := 1) rfl (Nat.le_refl _) (.inr (.inl (by kernel_rfl))) (by kernel_rfl) rfl).1 (hp.box (k := 1) rfl (Nat.le_refl _) (.inr (.inl (by kernel_rfl))) (by kernel_rfl) rfl).2 rfl)
    · refine .inr fun a w hp => ob_yes rfl ?_
      have h7 : a.tmps.getD 7 undef = .agg #[.bool ba1, .slice Aa1 na1 ca1, .slice Ba1 ma1 oa1, .bool bb1, .slice Ab1 nb1 cb1, .slice Bb1 mb1 ob1] := (hp.fact 2 7 (by kernel_rfl) rfl)
      unfold Does
      go_simp
      refine (svalue_any _ _ _ _ L (k.on hp.on) (by omega)).mono ?_
      rintro e w' ⟨u, rfl, I8, P8⟩
      exact ⟨_, rfl, P8, I8⟩
    · exact .inl rfl
    · exact .inl rfl
  · intro f wr hon hk hf hb hap
    obtain ⟨q0, q1, q2, qz⟩ := hb
    clear qz
    obtain ⟨cur2, O2, I2⟩ : ∃ cur, Own wr (w.heap.size) 26 cur ∧ IsS wr (.agg cur) (lo) (hi) (L) := q0
    obtain ⟨sl2, P2, Pn2, Pc2, R2, Rn2, Rc2, sh2, U2, Un2, Uc2, V2, Vn2, Vc2, hz2, IL2, IH2⟩ := id I2
    injection hz2 with hz2
    subst hz2
    have c2_0 : wr.cell? ⟨w.heap.size, 0, none⟩ = some (.bool sl2) := O2.cell 0
    have z2_0 := O2.frozen 0
    have c2_1 : wr.cell? ⟨w.heap.size, 1, none⟩ = some (.slice P2 Pn2 Pc2) := O2.cell 1
    have z2_1 := O2.frozen 1
    have c2_2 : wr.cell? ⟨w.heap.size, 2, none⟩ = some (.slice R2 Rn2 Rc2) := O2.cell 2
    have z2_2 := O2.frozen 2
    have c2_3 : wr.cell? ⟨w.heap.size, 3, none⟩ = some (.bool sh2) := O2.cell 3
    have z2_3 := O2.frozen 3
    have c2_4 : wr.cell? ⟨w.heap.size, 4, none⟩ = some (.slice U2 Un2 Uc2) := O2.cell 4
    have z2_4 := O2.frozen 4
    have c2_5 : wr.cell? ⟨w.heap.size, 5, none⟩ = some (.slice V2 Vn2 Vc2) := O2.cell 5
    have z2_5 := O2.frozen 5
    obtain ⟨cur3, O3, I3⟩ : ∃ cur, Own wr (w.heap.size + 1) 26 cur ∧ IsS wr (.agg cur) (lo') (hi') (L) := q1
    obtain ⟨sl3, P3, Pn3, Pc3, R3, Rn3, Rc3, sh3, U3, Un3, Uc3, V3, Vn3, Vc3, hz3, IL3, IH3⟩ := id I3
    injection hz3 with hz3
    subst hz3
    have c3_0 : wr.cell? ⟨w.heap.size + 1, 0, none⟩ = some (.bool sl3) := O3.cell 0
    have z3_0 := O3.frozen 0
    have c3_1 : wr.cell? ⟨w.heap.size + 1, 1, none⟩ = some (.slice P3 Pn3 Pc3) := O3.cell 1
    have z3_1 := O3.frozen 1
    have c3_2 : wr.cell? ⟨w.heap.size + 1, 2, none⟩ = some (.slice R3 Rn3 Rc3) := O3.cell 2
    have z3_2 := O3.frozen 2
    have c3_3 : wr.cell? ⟨w.heap.size + 1, 3, none⟩ = some (.bool sh3) := O3.cell 3
    have z3_3 := O3.frozen 3
    have c3_4 : wr.cell? ⟨w.heap.size + 1, 4, none⟩ = some (.slice U3 Un3 Uc3) := O3.cell 4
    have z3_4 := O3.frozen 4
    have c3_5 : wr.cell? ⟨w.heap.size + 1, 5, none⟩ = some (.slice V3 Vn3 Vc3) := O3.cell 5
    have z3_5 := O3.frozen 5
    have O4 : Own wr (w.heap.size + 2) 26 #[.bool false, .slice none 0 0, .slice none 0 0, .bool false, .slice none 0 0, .slice none 0 0] := q2
    have c4_0 : wr.cell? ⟨w.heap.size + 2, 0, none⟩ = some (.bool false) := O4.cell 0
    have z4_0 := O4.frozen 0
    have c4_1 : wr.cell? ⟨w.heap.size + 2, 1, none⟩ = some (.slice none 0 0) := O4.cell 1
    have z4_1 := O4.frozen 1
    have c4_2 : wr.cell? ⟨w.heap.size + 2, 2, none⟩ = some (.slice none 0 0) := O4.cell 2
    have z4_2 := O4.frozen 2
    have c4_3 : wr.cell? ⟨w.heap.size + 2, 3, none⟩ = some (.bool false) := O4.cell 3
    have z4_3 := O4.frozen 3
    have c4_4 : wr.cell? ⟨w.heap.size + 2, 4, none⟩ = some (.slice none 0 0) := O4.cell 4
    have z4_4 := O4.frozen 4
    have c4_5 : wr.cell? ⟨w.heap.size + 2, 5, none⟩ = some (.slice none 0 0) := O4.cell 5
    have z4_5 := O4.frozen 5
    clear q2
    clear hf hap
    simp only [fillL]
    have OB2 : w.heap.size ≤ w.heap.size ∧ Own wr (w.heap.size) 26 #[.bool sl2, .slice P2 Pn2 Pc2, .slice R2 Rn2 Rc2, .bool sh2, .slice U2 Un2 Uc2, .slice V2 Vn2 Vc2] := ⟨by omega, O2⟩
    clear c2_0 z2_0 c2_1 z2_1 c2_2 z2_2 c2_3 z2_3 c2_4 z2_4 c2_5 z2_5 O2
    have OB3 : w.heap.size ≤ w.heap.size + 1 ∧ Own wr (w.heap.size + 1) 26 #[.bool sl3, .slice P3 Pn3 Pc3, .slice R3 Rn3 Rc3, .bool sh3, .slice U3 Un3 Uc3, .slice V3 Vn3 Vc3] := ⟨by omega, O3⟩
    clear c3_0 z3_0 c3_1 z3_1 c3_2 z3_2 c3_3 z3_3 c3_4 z3_4 c3_5 z3_5 O3
    have OB4 : w.heap.size ≤ w.heap.size + 2 ∧ Own wr (w.heap.size + 2) 26 #[.bool false, .slice none 0 0, .slice none 0 0, .bool false, .slice none 0 0, .slice none 0 0] := ⟨by omega, O4⟩
    clear c4_0 z4_0 c4_1 z4_1 c4_2 z4_2 c4_3 z4_3 c4_4 z4_4 c4_5 z4_5 O4
    clear B
    have B := hon
    clear hon hk h k
    go_wp2
    refine wp_region_facts (by kernel_rfl) w [Fact.eq (.pointer (some ⟨w.heap.size, 0, none⟩)), Fact.eq (.agg #[.bool sl2, .slice P2 Pn2 Pc2, .slice R2 Rn2 Rc2]), Fact.eq (.pointer (some ⟨w.heap.size + 1, 0, none⟩)), Fact.eq (.agg #[.bool sl3, .slice P3 Pn3 Pc3, .slice R3 Rn3 Rc3]), Fact.rat (lo + lo') (L + L + 1), Fact.eq (.pointer (some ⟨w.heap.size, 3, none⟩)), Fact.eq (.agg #[.bool sh2, .slice U2 Un2 Uc2, .slice V2 Vn2 Vc2]), Fact.eq (.pointer (some ⟨w.heap.size + 1, 3, none⟩)), Fact.eq (.agg #[.bool sh3, .slice U3 Un3 Uc3, .slice V3 Vn3 Vc3]), Fact.rat (hi + hi') (L + L + 1), Fact.sp (lo + lo') (hi + hi') (L + L + 1), Fact.any] [Fact.any, Fact.any, Fact.sp (lo + lo') (hi + hi') (L + L + 1)] [⟨12, 2, 26, 12, #[.bool sl2, .slice P2 Pn2 Pc2, .slice R2 Rn2 Rc2, .bool sh2, .slice U2 Un2 Uc2, .slice V2 Vn2 Vc2]⟩, ⟨12, 3, 26, 12, #[.bool sl3, .slice P3 Pn3 Pc3, .slice R3 Rn3 Rc3, .bool sh3, .slice U3 Un3 Uc3, .slice V3 Vn3 Vc3]⟩, ⟨12, 4, 26, 11, #[.bool false, .slice none 0 0, .slice none 0 0, .bool false, .slice none 0 0, .slice none 0 0]⟩] [w.heap.size, w.heap.size + 1, w.heap.size + 2] [none, none, none, none, none, none, none, none, none, some 9, some 10, some 11, some 12, some 13, some 14, some 15, some 16, some 17, some 18, some 19] (by kernel_rfl) (by kernel_rfl) (by kernel_rfl) rfl B ?_ ?_ ?_ ?_ ?_
    · exact ⟨fun _ => ⟨by simp, rfl, OB2⟩, fun _ => ⟨by simp, rfl, OB3⟩, fun _ => ⟨by simp, rfl, OB4⟩, trivial⟩
    · exact .inr (by simp <;> omega)
    · exact ⟨⟨noWords_S _ _ _ _ _ _ _ _ _ _ _ _ _ _, (.inl (Nat.le_refl _)), (.inl (Nat.le_refl _))⟩, ⟨noWords_S _ _ _ _ _ _ _ _ _ _ _ _ _ _, (.inl (Nat.le_refl _)), (.inl (Nat.le_refl _))⟩, ⟨noWords_S _ _ _ _ _ _ _ _ _ _ _ _ _ _, (.inl (Nat.le_refl _)), (.inr (store_obS (j := 10) (noWords_S _ _ _ _ _ _ _ _ _ _ _ _ _ _) rfl rfl rfl (by kernel_rfl) rfl rfl rfl))⟩, trivial⟩
    · refine ⟨?_, ?_, ?_, ?_, ?_, ?_, ?_, ?_, ?_, ?_, ?_, ?_, trivial⟩
      · exact .inr fun a w hp => ob_yes rfl (ob_fieldS0 (hp.box (k := 0) rfl (Nat.le_refl _) (.inl (Nat.le_refl _)) (by kernel_rfl) rfl).1 rfl)
      · exact .inr fun a w hp => ob_yes rfl (ob_loadLo (hp.fact 0 9 (by kernel_rfl) rfl) (hp.box (k := 0) rfl (Nat.le_refl _) (.inl (Nat.le_refl _)) (by kernel_rfl) rfl).2 rfl)
      · exact .inr fun a w hp => ob_yes rfl (ob_fieldS0 (hp.box (k := 1) rfl (Nat.le_refl _) (.inl (Nat.le_refl _)) (by kernel_rfl) rfl).1 rfl)
      · exact .inr fun a w hp => ob_yes rfl (ob_loadLo (hp.fact 2 11 (by kernel_rfl) rfl) (hp.box (k := 1) rfl (Nat.le_refl _) (.inl (Nat.le_refl _)) (by kernel_rfl) rfl).2 rfl)
      · refine .inr fun a w hp => ob_yes rfl ?_
        have h10 : a.tmps.getD 10 undef = .agg #[.bool sl2, .slice P2 Pn2 Pc2, .slice R2 Rn2 Rc2] := (hp.fact 1 10 (by kernel_rfl) rfl)
        have h12 : a.tmps.getD 12 undef = .agg #[.bool sl3, .slice P3 Pn3 Pc3, .slice R3 Rn3 Rc3] := (hp.fact 3 12 (by kernel_rfl) rfl)
        unfold Does
        go_simp
        refine (addr_any _ _ _ _ _ L (IsR.fld (IL2.kept hp.kept)) (IsR.fld (IL3.kept hp.kept)) hL2 (by omega)).mono ?_
        rintro e w' ⟨u, rfl, I8, P8⟩
        exact ⟨_, rfl, P8, I8⟩
      · exact .inr fun a w hp => ob_yes rfl (ob_fieldS1 (hp.box (k := 0) rfl (Nat.le_refl _) (.inl (Nat.le_refl _)) (by kernel_rfl) rfl).1 rfl)
      · exact .inr fun a w hp => ob_yes rfl (ob_loadHi (hp.fact 5 14 (by kernel_rfl) rfl) (hp.box (k := 0) rfl (Nat.le_refl _) (.inl (Nat.le_refl _)) (by kernel_rfl) rfl).2 rfl)
      · exact .inr fun a w hp => ob_yes rfl (ob_fieldS1 (hp.box (k := 1) rfl (Nat.le_refl _) (.inl (Nat.le_refl _)) (by kernel_rfl) rfl).1 rfl)
      · exact .inr fun a w hp => ob_yes rfl (ob_loadHi (hp.fact 7 16 (by kernel_rfl) rfl) (hp.box (k := 1) rfl (Nat.le_refl _) (.inl (Nat.le_refl _)) (by kernel_rfl) rfl).2 rfl)
      · refine .inr fun a w hp => ob_yes rfl ?_
        have h15 : a.tmps.getD 15 undef = .agg #[.bool sh2, .slice U2 Un2 Uc2, .slice V2 Vn2 Vc2] := (hp.fact 6 15 (by kernel_rfl) rfl)
        have h17 : a.tmps.getD 17 undef = .agg #[.bool sh3, .slice U3 Un3 Uc3, .slice V3 Vn3 Vc3] := (hp.fact 8 17 (by kernel_rfl) rfl)
        unfold Does
        go_simp
        refine (addr_any _ _ _ _ _ L (IsR.fld (IH2.kept hp.kept)) (IsR.fld (IH3.kept hp.kept)) hL2 (by omega)).mono ?_
        rintro e w' ⟨u, rfl, I8, P8⟩
        exact ⟨_, rfl, P8, I8⟩
      · refine .inr fun a w hp => ob_yes rfl ?_
        have h13 : IsR w (a.tmps.getD 13 undef) (lo + lo') (L + L + 1) := (hp.fact 4 13 (by kernel_rfl) rfl)
        obtain ⟨v13, e13⟩ : ∃ v, a.tmps.getD 13 undef = v := ⟨_, rfl⟩
        rw [e13] at h13
        have h18 : IsR w (a.tmps.getD 18 undef) (hi + hi') (L + L + 1) := (hp.fact 9 18 (by kernel_rfl) rfl)
        obtain ⟨v18, e18⟩ : ∃ v, a.tmps.getD 18 undef = v := ⟨_, rfl⟩
        rw [e18] at h18
        exact ob_buildS e13 e18 h13 h18 (fun x hx => hx)
      · exact .inl rfl
    · intro f wd hon hk hf hb hap
      obtain ⟨q0, q1, q2, qz⟩ := hb
      clear qz
      have O2 : Own wd (w.heap.size) 26 #[.bool sl2, .slice P2 Pn2 Pc2, .slice R2 Rn2 Rc2, .bool sh2, .slice U2 Un2 Uc2, .slice V2 Vn2 Vc2] := q0
      have c2_0 : wd.cell? ⟨w.heap.size, 0, none⟩ = some (.bool sl2) := O2.cell 0
      have z2_0 := O2.frozen 0
      have c2_1 : wd.cell? ⟨w.heap.size, 1, none⟩ = some (.slice P2 Pn2 Pc2) := O2.cell 1
      have z2_1 := O2.frozen 1
      have c2_2 : wd.cell? ⟨w.heap.size, 2, none⟩ = some (.slice R2 Rn2 Rc2) := O2.cell 2
      have z2_2 := O2.frozen 2
      have c2_3 : wd.cell? ⟨w.heap.size, 3, none⟩ = some (.bool sh2) := O2.cell 3
      have z2_3 := O2.frozen 3
      have c2_4 : wd.cell? ⟨w.heap.size, 4, none⟩ = some (.slice U2 Un2 Uc2) := O2.cell 4
      have z2_4 := O2.frozen 4
      have c2_5 : wd.cell? ⟨w.heap.size, 5, none⟩ = some (.slice V2 Vn2 Vc2) := O2.cell 5
      have z2_5 := O2.frozen 5
      clear q0
      have O3 : Own wd (w.heap.size + 1) 26 #[.bool sl3, .slice P3 Pn3 Pc3, .slice R3 Rn3 Rc3, .bool sh3, .slice U3 Un3 Uc3, .slice V3 Vn3 Vc3] := q1
      have c3_0 : wd.cell? ⟨w.heap.size + 1, 0, none⟩ = some (.bool sl3) := O3.cell 0
      have z3_0 := O3.frozen 0
      have c3_1 : wd.cell? ⟨w.heap.size + 1, 1, none⟩ = some (.slice P3 Pn3 Pc3) := O3.cell 1
      have z3_1 := O3.frozen 1
      have c3_2 : wd.cell? ⟨w.heap.size + 1, 2, none⟩ = some (.slice R3 Rn3 Rc3) := O3.cell 2
      have z3_2 := O3.frozen 2
      have c3_3 : wd.cell? ⟨w.heap.size + 1, 3, none⟩ = some (.bool sh3) := O3.cell 3
      have z3_3 := O3.frozen 3
      have c3_4 : wd.cell? ⟨w.heap.size + 1, 4, none⟩ = some (.slice U3 Un3 Uc3) := O3.cell 4
      have z3_4 := O3.frozen 4
      have c3_5 : wd.cell? ⟨w.heap.size + 1, 5, none⟩ = some (.slice V3 Vn3 Vc3) := O3.cell 5
      have z3_5 := O3.frozen 5
      clear q1
      obtain ⟨cur4, O4, I4⟩ : ∃ cur, Own wd (w.heap.size + 2) 26 cur ∧ IsS wd (.agg cur) (lo + lo') (hi + hi') (L + L + 1) := q2
      obtain ⟨sl4, P4, Pn4, Pc4, R4, Rn4, Rc4, sh4, U4, Un4, Uc4, V4, Vn4, Vc4, hz4, IL4, IH4⟩ := id I4
      injection hz4 with hz4
      subst hz4
      have c4_0 : wd.cell? ⟨w.heap.size + 2, 0, none⟩ = some (.bool sl4) := O4.cell 0
      have z4_0 := O4.frozen 0
      have c4_1 : wd.cell? ⟨w.heap.size + 2, 1, none⟩ = some (.slice P4 Pn4 Pc4) := O4.cell 1
      have z4_1 := O4.frozen 1
      have c4_2 : wd.cell? ⟨w.heap.size + 2, 2, none⟩ = some (.slice R4 Rn4 Rc4) := O4.cell 2
      have z4_2 := O4.frozen 2
      have c4_3 : wd.cell? ⟨w.heap.size + 2, 3, none⟩ = some (.bool sh4) := O4.cell 3
      have z4_3 := O4.frozen 3
      have c4_4 : wd.cell? ⟨w.heap.size + 2, 4, none⟩ = some (.slice U4 Un4 Uc4) := O4.cell 4
      have z4_4 := O4.frozen 4
      have c4_5 : wd.cell? ⟨w.heap.size + 2, 5, none⟩ = some (.slice V4 Vn4 Vc4) := O4.cell 5
      have z4_5 := O4.frozen 5
      clear hf hap
      simp only [fillL]
      go_wp2
      exact bodyPost_ret (v := .agg #[.bool sl4, .slice P4 Pn4 Pc4, .slice R4 Rn4 Rc4, .bool sh4, .slice U4 Un4 Uc4, .slice V4 Vn4 Vc4]) (by simp [results, Tryz.results22, go_sem, c4_0, c4_1, c4_2, c4_3, c4_4, c4_5]) rfl ⟨_, rfl, I4, hon⟩
set_option maxRecDepth 100000 in
set_option maxHeartbeats 1600000 in
theorem spsub_any (w : World) (v v' : Value) (lo hi lo' hi' : Rat) (L : Nat) (h : Sp w v lo hi L) (k : Sp w v' lo' hi' L) (hL2 : 2 ≤ L) (hL : L ≤ 1000) :
    Calls Tryz.prog 24 #[v, v'] w (SpPost w (lo - hi') (hi - lo') (L + L + 1)) := by
  obtain ⟨ba0, Aa0, na0, ca0, Ba0, ma0, oa0, bb0, Ab0, nb0, cb0, Bb0, mb0, ob0, rfl⟩ := h.form
  obtain ⟨ba1, Aa1, na1, ca1, Ba1, ma1, oa1, bb1, Ab1, nb1, cb1, Bb1, mb1, ob1, rfl⟩ := k.form
  have B : On w (((w.alloc (.cells #[.bool ba0, .slice Aa0 na0 ca0, .slice Ba0 ma0 oa0, .bool bb0, .slice Ab0 nb0 cb0, .slice Bb0 mb0 ob0] 26)).alloc (.cells #[.bool ba1, .slice Aa1 na1 ca1, .slice Ba1 ma1 oa1, .bool bb1, .slice Ab1 nb1 cb1, .slice Bb1 mb1 ob1] 26)).alloc (.cells #[.bool false, .slice none 0 0, .slice none 0 0, .bool false, .slice none 0 0, .slice none 0 0] 26)) := On.alloc (On.alloc (On.alloc (On.refl w) _) _) _
  have OB2 : w.heap.size ≤ w.heap.size ∧ Own (((w.alloc (.cells #[.bool ba0, .slice Aa0 na0 ca0, .slice Ba0 ma0 oa0, .bool bb0, .slice Ab0 nb0 cb0, .slice Bb0 mb0 ob0] 26)).alloc (.cells #[.bool ba1, .slice Aa1 na1 ca1, .slice Ba1 ma1 oa1, .bool bb1, .slice Ab1 nb1 cb1, .slice Bb1 mb1 ob1] 26)).alloc (.cells #[.bool false, .slice none 0 0, .slice none 0 0, .bool false, .slice none 0 0, .slice none 0 0] 26)) (w.heap.size) 26 #[.bool ba0, .slice Aa0 na0 ca0, .slice Ba0 ma0 oa0, .bool bb0, .slice Ab0 nb0 cb0, .slice Bb0 mb0 ob0] := ⟨by omega, (((Own.at_ w (w.heap.size) (by simp) 26 #[.bool ba0, .slice Aa0 na0 ca0, .slice Ba0 ma0 oa0, .bool bb0, .slice Ab0 nb0 cb0, .slice Bb0 mb0 ob0]).alloc (.cells #[.bool ba1, .slice Aa1 na1 ca1, .slice Ba1 ma1 oa1, .bool bb1, .slice Ab1 nb1 cb1, .slice Bb1 mb1 ob1] 26)).alloc (.cells #[.bool false, .slice none 0 0, .slice none 0 0, .bool false, .slice none 0 0, .slice none 0 0] 26))⟩
  have OB3 : w.heap.size ≤ w.heap.size + 1 ∧ Own (((w.alloc (.cells #[.bool ba0, .slice Aa0 na0 ca0, .slice Ba0 ma0 oa0, .bool bb0, .slice Ab0 nb0 cb0, .slice Bb0 mb0 ob0] 26)).alloc (.cells #[.bool ba1, .slice Aa1 na1 ca1, .slice Ba1 ma1 oa1, .bool bb1, .slice Ab1 nb1 cb1, .slice Bb1 mb1 ob1] 26)).alloc (.cells #[.bool false, .slice none 0 0, .slice none 0 0, .bool false, .slice none 0 0, .slice none 0 0] 26)) (w.heap.size + 1) 26 #[.bool ba1, .slice Aa1 na1 ca1, .slice Ba1 ma1 oa1, .bool bb1, .slice Ab1 nb1 cb1, .slice Bb1 mb1 ob1] := ⟨by omega, ((Own.at_ (w.alloc (.cells #[.bool ba0, .slice Aa0 na0 ca0, .slice Ba0 ma0 oa0, .bool bb0, .slice Ab0 nb0 cb0, .slice Bb0 mb0 ob0] 26)) (w.heap.size + 1) (by simp) 26 #[.bool ba1, .slice Aa1 na1 ca1, .slice Ba1 ma1 oa1, .bool bb1, .slice Ab1 nb1 cb1, .slice Bb1 mb1 ob1]).alloc (.cells #[.bool false, .slice none 0 0, .slice none 0 0, .bool false, .slice none 0 0, .slice none 0 0] 26))⟩
  have OB4 : w.heap.size ≤ w.heap.size + 2 ∧ Own (((w.alloc (.cells #[.bool ba0, .slice Aa0 na0 ca0, .slice Ba0 ma0 oa0, .bool bb0, .slice Ab0 nb0 cb0, .slice Bb0 mb0 ob0] 26)).alloc (.cells #[.bool ba1, .slice Aa1 na1 ca1, .slice Ba1 ma1 oa1, .bool bb1, .slice Ab1 nb1 cb1, .slice Bb1 mb1 ob1] 26)).alloc (.cells #[.bool false, .slice none 0 0, .slice none 0 0, .bool false, .slice none 0 0, .slice none 0 0] 26)) (w.heap.size + 2) 26 #[.bool false, .slice none 0 0, .slice none 0 0, .bool false, .slice none 0 0, .slice none 0 0] := ⟨by omega, (Own.at_ ((w.alloc (.cells #[.bool ba0, .slice Aa0 na0 ca0, .slice Ba0 ma0 oa0, .bool bb0, .slice Ab0 nb0 cb0, .slice Bb0 mb0 ob0] 26)).alloc (.cells #[.bool ba1, .slice Aa1 na1 ca1, .slice Ba1 ma1 oa1, .bool bb1, .slice Ab1 nb1 cb1, .slice Bb1 mb1 ob1] 26)) (w.heap.size + 2) (by simp) 26 #[.bool false, .slice none 0 0, .slice none 0 0, .bool false, .slice none 0 0, .slice none 0 0])⟩
  go_enter Tryz.func24, Tryz.ntmps24
  go_wp2
  refine wp_region_facts (by kernel_rfl) w [Fact.eq (.agg #[.bool ba0, .slice Aa0 na0 ca0, .slice Ba0 ma0 oa0, .bool bb0, .slice Ab0 nb0 cb0, .slice Bb0 mb0 ob0]), Fact.sp (lo) (hi) (L), Fact.eq (.agg #[.bool ba1, .slice Aa1 na1 ca1, .slice Ba1 ma1 oa1, .bool bb1, .slice Ab1 nb1 cb1, .slice Bb1 mb1 ob1]), Fact.sp (lo') (hi') (L), Fact.any, Fact.any] [Fact.sp (lo) (hi) (L), Fact.sp (lo') (hi') (L), Fact.any] [⟨6, 2, 26, 4, #[.bool ba0, .slice Aa0 na0 ca0, .slice Ba0 ma0 oa0, .bool bb0, .slice Ab0 nb0 cb0, .slice Bb0 mb0 ob0]⟩, ⟨6, 3, 26, 5, #[.bool ba1, .slice Aa1 na1 ca1, .slice Ba1 ma1 oa1, .bool bb1, .slice Ab1 nb1 cb1, .slice Bb1 mb1 ob1]⟩, ⟨6, 4, 26, 6, #[.bool false, .slice none 0 0, .slice none 0 0, .bool false, .slice none 0 0, .slice none 0 0]⟩] [w.heap.size, w.heap.size + 1, w.heap.size + 2] [none, none, none, none, none, some 5, some 6, some 7, some 8, none, none, none, none, none, none, none, none, none, none, none] (by kernel_rfl) (by kernel_rfl) (by kernel_rfl) rfl B ?_ ?_ ?_ ?_ ?_
  · exact ⟨fun _ => ⟨by simp, rfl, OB2⟩, fun _ => ⟨by simp, rfl, OB3⟩, fun _ => ⟨by simp, rfl, OB4⟩, trivial⟩
  · exact .inr (by simp <;> omega)
  · exact ⟨⟨noWords_S _ _ _ _ _ _ _ _ _ _ _ _ _ _, (.inl (Nat.le_refl _)), (.inr (store_obS (j := 1) (noWords_S _ _ _ _ _ _ _ _ _ _ _ _ _ _) rfl rfl rfl (by kernel_rfl) rfl rfl rfl))⟩, ⟨noWords_S _ _ _ _ _ _ _ _ _ _ _ _ _ _, (.inl (Nat.le_refl _)), (.inr (store_obS (j := 3) (noWords_S _ _ _ _ _ _ _ _ _ _ _ _ _ _) rfl rfl rfl (by kernel_rfl) rfl rfl rfl))⟩, ⟨noWords_S _ _ _ _ _ _ _ _ _ _ _ _ _ _, (.inl (Nat.le_refl _)), (.inl (Nat.le_refl _))⟩, trivial⟩
  · refine ⟨?_, ?_, ?_, ?_, ?_, ?_, trivial⟩
    · exact .inr fun a w hp => ob_yes rfl (ob_loadSp (hp.box (k := 0) rfl (Nat.le_refl _) (.inr (.inl (by kernel_rfl))) (by kernel_rfl) rfl).1 (hp.box (k := 0) rfl (Nat.le_refl _) (.inr (.inl (by kernel_rfl))) (by kernel_rfl) rfl).2 rfl)
    · refine .inr fun a w hp => ob_yes rfl ?_
      have h5 : a.tmps.getD 5 undef = .agg #[.bool ba0, .slice Aa0 na0 ca0, .slice Ba0 ma0 oa0, .bool bb0, .slice Ab0 nb0 cb0, .slice Bb0 mb0 ob0] := (hp.fact 0 5 (by kernel_rfl) rfl)
      unfold Does
      go_simp
      refine (svalue_any _ _ _ _ L (h.on hp.on) (by omega)).mono ?_
      rintro e w' ⟨u, rfl, I8, P8⟩
      exact ⟨_, rfl, P8, I8⟩
    · exact .inr fun a w hp => ob_yes rfl (ob_loadSp (hp.box (k := 1) rfl (Nat.le_refl _) (.inr (.inl (by kernel_rfl))) (by kernel_rfl) rfl).1 (hp.box (k := 1) rfl (Nat.le_refl _) (.inr (.inl (by kernel_rfl))) (by kernel_rfl) rfl).2 rfl)
    · refine .inr fun a w hp => ob_yes rfl ?_
      have h7 : a.tmps.getD 7 undef = .agg #[.bool ba1, .slice Aa1 na1 ca1, .slice Ba1 ma1 oa1, .bool bb1, .slice Ab1 nb1 cb1, .slice Bb1 mb1 ob1] := (hp.fact 2 7 (by kernel_rfl) rfl)
      unfold Does
      go_simp
      refine (svalue_any _ _ _ _ L (k.on hp.on) (by omega)).mono ?_
      rintro e w' ⟨u, rfl, I8, P8⟩
      exact ⟨_, rfl, P8, I8⟩
    · exact .inl rfl
    · exact .inl rfl
  · intro f wr hon hk hf hb hap
    obtain ⟨q0, q1, q2, qz⟩ := hb
    clear qz
    obtain ⟨cur2, O2, I2⟩ : ∃ cur, Own wr (w.heap.size) 26 cur ∧ IsS wr (.agg cur) (lo) (hi) (L) := q0
    obtain ⟨sl2, P2, Pn2, Pc2, R2, Rn2, Rc2, sh2, U2, Un2, Uc2, V2, Vn2, Vc2, hz2, IL2, IH2⟩ := id I2
    injection hz2 with hz2
    subst hz2
    have c2_0 : wr.cell? ⟨w.heap.size, 0, none⟩ = some (.bool sl2) := O2.cell 0
    have z2_0 := O2.frozen 0
    have c2_1 : wr.cell? ⟨w.heap.size, 1, none⟩ = some (.slice P2 Pn2 Pc2) := O2.cell 1
    have z2_1 := O2.frozen 1
    have c2_2 : wr.cell? ⟨w.heap.size, 2, none⟩ = some (.slice R2 Rn2 Rc2) := O2.cell 2
    have z2_2 := O2.frozen 2
    have c2_3 : wr.cell? ⟨w.heap.size, 3, none⟩ = some (.bool sh2) := O2.cell 3
    have z2_3 := O2.frozen 3
    have c2_4 : wr.cell? ⟨w.heap.size, 4, none⟩ = some (.slice U2 Un2 Uc2) := O2.cell 4
    have z2_4 := O2.frozen 4
    have c2_5 : wr.cell? ⟨w.heap.size, 5, none⟩ = some (.slice V2 Vn2 Vc2) := O2.cell 5
    have z2_5 := O2.frozen 5
    obtain ⟨cur3, O3, I3⟩ : ∃ cur, Own wr (w.heap.size + 1) 26 cur ∧ IsS wr (.agg cur) (lo') (hi') (L) := q1
    obtain ⟨sl3, P3, Pn3, Pc3, R3, Rn3, Rc3, sh3, U3, Un3, Uc3, V3, Vn3, Vc3, hz3, IL3, IH3⟩ := id I3
    injection hz3 with hz3
    subst hz3
    have c3_0 : wr.cell? ⟨w.heap.size + 1, 0, none⟩ = some (.bool sl3) := O3.cell 0
    have z3_0 := O3.frozen 0
    have c3_1 : wr.cell? ⟨w.heap.size + 1, 1, none⟩ = some (.slice P3 Pn3 Pc3) := O3.cell 1
    have z3_1 := O3.frozen 1
    have c3_2 : wr.cell? ⟨w.heap.size + 1, 2, none⟩ = some (.slice R3 Rn3 Rc3) := O3.cell 2
    have z3_2 := O3.frozen 2
    have c3_3 : wr.cell? ⟨w.heap.size + 1, 3, none⟩ = some (.bool sh3) := O3.cell 3
    have z3_3 := O3.frozen 3
    have c3_4 : wr.cell? ⟨w.heap.size + 1, 4, none⟩ = some (.slice U3 Un3 Uc3) := O3.cell 4
    have z3_4 := O3.frozen 4
    have c3_5 : wr.cell? ⟨w.heap.size + 1, 5, none⟩ = some (.slice V3 Vn3 Vc3) := O3.cell 5
    have z3_5 := O3.frozen 5
    have O4 : Own wr (w.heap.size + 2) 26 #[.bool false, .slice none 0 0, .slice none 0 0, .bool false, .slice none 0 0, .slice none 0 0] := q2
    have c4_0 : wr.cell? ⟨w.heap.size + 2, 0, none⟩ = some (.bool false) := O4.cell 0
    have z4_0 := O4.frozen 0
    have c4_1 : wr.cell? ⟨w.heap.size + 2, 1, none⟩ = some (.slice none 0 0) := O4.cell 1
    have z4_1 := O4.frozen 1
    have c4_2 : wr.cell? ⟨w.heap.size + 2, 2, none⟩ = some (.slice none 0 0) := O4.cell 2
    have z4_2 := O4.frozen 2
    have c4_3 : wr.cell? ⟨w.heap.size + 2, 3, none⟩ = some (.bool false) := O4.cell 3
    have z4_3 := O4.frozen 3
    have c4_4 : wr.cell? ⟨w.heap.size + 2, 4, none⟩ = some (.slice none 0 0) := O4.cell 4
    have z4_4 := O4.frozen 4
    have c4_5 : wr.cell? ⟨w.heap.size + 2, 5, none⟩ = some (.slice none 0 0) := O4.cell 5
    have z4_5 := O4.frozen 5
    clear q2
    clear hf hap
    simp only [fillL]
    have OB2 : w.heap.size ≤ w.heap.size ∧ Own wr (w.heap.size) 26 #[.bool sl2, .slice P2 Pn2 Pc2, .slice R2 Rn2 Rc2, .bool sh2, .slice U2 Un2 Uc2, .slice V2 Vn2 Vc2] := ⟨by omega, O2⟩
    clear c2_0 z2_0 c2_1 z2_1 c2_2 z2_2 c2_3 z2_3 c2_4 z2_4 c2_5 z2_5 O2
    have OB3 : w.heap.size ≤ w.heap.size + 1 ∧ Own wr (w.heap.size + 1) 26 #[.bool sl3, .slice P3 Pn3 Pc3, .slice R3 Rn3 Rc3, .bool sh3, .slice U3 Un3 Uc3, .slice V3 Vn3 Vc3] := ⟨by omega, O3⟩
    clear c3_0 z3_0 c3_1 z3_1 c3_2 z3_2 c3_3 z3_3 c3_4 z3_4 c3_5 z3_5 O3
    have OB4 : w.heap.size ≤ w.heap.size + 2 ∧ Own wr (w.heap.size + 2) 26 #[.bool false, .slice none 0 0, .slice none 0 0, .bool false, .slice none 0 0, .slice none 0 0] := ⟨by omega, O4⟩
    clear c4_0 z4_0 c4_1 z4_1 c4_2 z4_2 c4_3 z4_3 c4_4 z4_4 c4_5 z4_5 O4
    clear B
    have B := hon
    clear hon hk h k
    go_wp2
    refine wp_region_facts (by kernel_rfl) w [Fact.eq (.pointer (some ⟨w.heap.size, 0, none⟩)), Fact.eq (.agg #[.bool sl2, .slice P2 Pn2 Pc2, .slice R2 Rn2 Rc2]), Fact.eq (.pointer (some ⟨w.heap.size + 1, 3, none⟩)), Fact.eq (.agg #[.bool sh3, .slice U3 Un3 Uc3, .slice V3 Vn3 Vc3]), Fact.rat (lo - hi') (L + L + 1), Fact.eq (.pointer (some ⟨w.heap.size, 3, none⟩)), Fact.eq (.agg #[.bool sh2, .slice U2 Un2 Uc2, .slice V2 Vn2 Vc2]), Fact.eq (.pointer (some ⟨w.heap.size + 1, 0, none⟩)), Fact.eq (.agg #[.bool sl3, .slice P3 Pn3 Pc3, .slice R3 Rn3 Rc3]), Fact.rat (hi - lo') (L + L + 1), Fact.sp (lo - hi') (hi - lo') (L + L + 1), Fact.any] [Fact.any, Fact.any, Fact.sp (lo - hi') (hi - lo') (L + L + 1)] [⟨12, 2, 26, 12, #[.bool sl2, .slice P2 Pn2 Pc2, .slice R2 Rn2 Rc2, .bool sh2, .slice U2 Un2 Uc2, .slice V2 Vn2 Vc2]⟩, ⟨12, 3, 26, 12, #[.bool sl3, .slice P3 Pn3 Pc3, .slice R3 Rn3 Rc3, .bool sh3, .slice U3 Un3 Uc3, .slice V3 Vn3 Vc3]⟩, ⟨12, 4, 26, 11, #[.bool false, .slice none 0 0, .slice none 0 0, .bool false, .slice none 0 0, .slice none 0 0]⟩] [w.heap.size, w.heap.size + 1, w.heap.size + 2] [none, none, none, none, none, none, none, none, none, some 9, some 10, some 11, some 12, some 13, some 14, some 15, some 16, some 17, some 18, some 19] (by kernel_rfl) (by kernel_rfl) (by kernel_rfl) rfl B ?_ ?_ ?_ ?_ ?_
    · exact ⟨fun _ => ⟨by simp, rfl, OB2⟩, fun _ => ⟨by simp, rfl, OB3⟩, fun _ => ⟨by simp, rfl, OB4⟩, trivial⟩
    · exact .inr (by simp <;> omega)
    · exact ⟨⟨noWords_S _ _ _ _ _ _ _ _ _ _ _ _ _ _, (.inl (Nat.le_refl _)), (.inl (Nat.le_refl _))⟩, ⟨noWords_S _ _ _ _ _ _ _ _ _ _ _ _ _ _, (.inl (Nat.le_refl _)), (.inl (Nat.le_refl _))⟩, ⟨noWords_S _ _ _ _ _ _ _ _ _ _ _ _ _ _, (.inl (Nat.le_refl _)), (.inr (store_obS (j := 10) (noWords_S _ _ _ _ _ _ _ _ _ _ _ _ _ _) rfl rfl rfl (by kernel_rfl) rfl rfl rfl))⟩, trivial⟩
    · refine ⟨?_, ?_, ?_, ?_, ?_, ?_, ?_, ?_, ?_, ?_, ?_, ?_, trivial⟩
      · exact .inr fun a w hp => ob_yes rfl (ob_fieldS0 (hp.box (k := 0) rfl (Nat.le_refl _) (.inl (Nat.le_refl _)) (by kernel_rfl) rfl).1 rfl)
      · exact .inr fun a w hp => ob_yes rfl (ob_loadLo (hp.fact 0 9 (by kernel_rfl) rfl) (hp.box (k := 0) rfl (Nat.le_refl _) (.inl (Nat.le_refl _)) (by kernel_rfl) rfl).2 rfl)
      · exact .inr fun a w hp => ob_yes rfl (ob_fieldS1 (hp.box (k := 1) rfl (Nat.le_refl _) (.inl (Nat.le_refl _)) (by kernel_rfl) rfl).1 rfl)
      · exact .inr fun a w hp => ob_yes rfl (ob_loadHi (hp.fact 2 11 (by kernel_rfl) rfl) (hp.box (k := 1) rfl (Nat.le_refl _) (.inl (Nat.le_refl _)) (by kernel_rfl) rfl).2 rfl)
      · refine .inr fun a w hp => ob_yes rfl ?_
        have h10 : a.tmps.getD 10 undef = .agg #[.bool sl2, .slice P2 Pn2 Pc2, .slice R2 Rn2 Rc2] := (hp.fact 1 10 (by kernel_rfl) rfl)
        have h12 : a.tmps.getD 12 undef = .agg #[.bool sh3, .slice U3 Un3 Uc3, .slice V3 Vn3 Vc3] := (hp.fact 3 12 (by kernel_rfl) rfl)
        unfold Does
        go_simp
        refine (subr_any _ _ _ _ _ L (IsR.fld (IL2.kept hp.kept)) (IsR.fld (IH3.kept hp.kept)) hL2 (by omega)).mono ?_
        rintro e w' ⟨u, rfl, I8, P8⟩
        exact ⟨_, rfl, P8, I8⟩
      · exact .inr fun a w hp => ob_yes rfl (ob_fieldS1 (hp.box (k := 0) rfl (Nat.le_refl _) (.inl (Nat.le_refl _)) (by kernel_rfl) rfl).1 rfl)
      · exact .inr fun a w hp => ob_yes rfl (ob_loadHi (hp.fact 5 14 (by kernel_rfl) rfl) (hp.box (k := 0) rfl (Nat.le_refl _) (.inl (Nat.le_refl _)) (by kernel_rfl) rfl).2 rfl)
      · exact .inr fun a w hp => ob_yes rfl (ob_fieldS0 (hp.box (k := 1) rfl (Nat.le_refl _) (.inl (Nat.le_refl _)) (by kernel_rfl) rfl).1 rfl)
      · exact .inr fun a w hp => ob_yes rfl (ob_loadLo (hp.fact 7 16 (by kernel_rfl) rfl) (hp.box (k := 1) rfl (Nat.le_refl _) (.inl (Nat.le_refl _)) (by kernel_rfl) rfl).2 rfl)
      · refine .inr fun a w hp => ob_yes rfl ?_
        have h15 : a.tmps.getD 15 undef = .agg #[.bool sh2, .slice U2 Un2 Uc2, .slice V2 Vn2 Vc2] := (hp.fact 6 15 (by kernel_rfl) rfl)
        have h17 : a.tmps.getD 17 undef = .agg #[.bool sl3, .slice P3 Pn3 Pc3, .slice R3 Rn3 Rc3] := (hp.fact 8 17 (by kernel_rfl) rfl)
        unfold Does
        go_simp
        refine (subr_any _ _ _ _ _ L (IsR.fld (IH2.kept hp.kept)) (IsR.fld (IL3.kept hp.kept)) hL2 (by omega)).mono ?_
        rintro e w' ⟨u, rfl, I8, P8⟩
        exact ⟨_, rfl, P8, I8⟩
      · refine .inr fun a w hp => ob_yes rfl ?_
        have h13 : IsR w (a.tmps.getD 13 undef) (lo - hi') (L + L + 1) := (hp.fact 4 13 (by kernel_rfl) rfl)
        obtain ⟨v13, e13⟩ : ∃ v, a.tmps.getD 13 undef = v := ⟨_, rfl⟩
        rw [e13] at h13
        have h18 : IsR w (a.tmps.getD 18 undef) (hi - lo') (L + L + 1) := (hp.fact 9 18 (by kernel_rfl) rfl)
        obtain ⟨v18, e18⟩ : ∃ v, a.tmps.getD 18 undef = v := ⟨_, rfl⟩
        rw [e18] at h18
        exact ob_buildS e13 e18 h13 h18 (fun x hx => hx)
      · exact .inl rfl
    · intro f wd hon hk hf hb hap
      obtain ⟨q0, q1, q2, qz⟩ := hb
      clear qz
      have O2 : Own wd (w.heap.size) 26 #[.bool sl2, .slice P2 Pn2 Pc2, .slice R2 Rn2 Rc2, .bool sh2, .slice U2 Un2 Uc2, .slice V2 Vn2 Vc2] := q0
      have c2_0 : wd.cell? ⟨w.heap.size, 0, none⟩ = some (.bool sl2) := O2.cell 0
      have z2_0 := O2.frozen 0
      have c2_1 : wd.cell? ⟨w.heap.size, 1, none⟩ = some (.slice P2 Pn2 Pc2) := O2.cell 1
      have z2_1 := O2.frozen 1
      have c2_2 : wd.cell? ⟨w.heap.size, 2, none⟩ = some (.slice R2 Rn2 Rc2) := O2.cell 2
      have z2_2 := O2.frozen 2
      have c2_3 : wd.cell? ⟨w.heap.size, 3, none⟩ = some (.bool sh2) := O2.cell 3
      have z2_3 := O2.frozen 3
      have c2_4 : wd.cell? ⟨w.heap.size, 4, none⟩ = some (.slice U2 Un2 Uc2) := O2.cell 4
      have z2_4 := O2.frozen 4
      have c2_5 : wd.cell? ⟨w.heap.size, 5, none⟩ = some (.slice V2 Vn2 Vc2) := O2.cell 5
      have z2_5 := O2.frozen 5
      clear q0
      have O3 : Own wd (w.heap.size + 1) 26 #[.bool sl3, .slice P3 Pn3 Pc3, .slice R3 Rn3 Rc3, .bool sh3, .slice U3 Un3 Uc3, .slice V3 Vn3 Vc3] := q1
      have c3_0 : wd.cell? ⟨w.heap.size + 1, 0, none⟩ = some (.bool sl3) := O3.cell 0
      have z3_0 := O3.frozen 0
      have c3_1 : wd.cell? ⟨w.heap.size + 1, 1, none⟩ = some (.slice P3 Pn3 Pc3) := O3.cell 1
      have z3_1 := O3.frozen 1
      have c3_2 : wd.cell? ⟨w.heap.size + 1, 2, none⟩ = some (.slice R3 Rn3 Rc3) := O3.cell 2
      have z3_2 := O3.frozen 2
      have c3_3 : wd.cell? ⟨w.heap.size + 1, 3, none⟩ = some (.bool sh3) := O3.cell 3
      have z3_3 := O3.frozen 3
      have c3_4 : wd.cell? ⟨w.heap.size + 1, 4, none⟩ = some (.slice U3 Un3 Uc3) := O3.cell 4
      have z3_4 := O3.frozen 4
      have c3_5 : wd.cell? ⟨w.heap.size + 1, 5, none⟩ = some (.slice V3 Vn3 Vc3) := O3.cell 5
      have z3_5 := O3.frozen 5
      clear q1
      obtain ⟨cur4, O4, I4⟩ : ∃ cur, Own wd (w.heap.size + 2) 26 cur ∧ IsS wd (.agg cur) (lo - hi') (hi - lo') (L + L + 1) := q2
      obtain ⟨sl4, P4, Pn4, Pc4, R4, Rn4, Rc4, sh4, U4, Un4, Uc4, V4, Vn4, Vc4, hz4, IL4, IH4⟩ := id I4
      injection hz4 with hz4
      subst hz4
      have c4_0 : wd.cell? ⟨w.heap.size + 2, 0, none⟩ = some (.bool sl4) := O4.cell 0
      have z4_0 := O4.frozen 0
      have c4_1 : wd.cell? ⟨w.heap.size + 2, 1, none⟩ = some (.slice P4 Pn4 Pc4) := O4.cell 1
      have z4_1 := O4.frozen 1
      have c4_2 : wd.cell? ⟨w.heap.size + 2, 2, none⟩ = some (.slice R4 Rn4 Rc4) := O4.cell 2
      have z4_2 := O4.frozen 2
      have c4_3 : wd.cell? ⟨w.heap.size + 2, 3, none⟩ = some (.bool sh4) := O4.cell 3
      have z4_3 := O4.frozen 3
      have c4_4 : wd.cell? ⟨w.heap.size + 2, 4, none⟩ = some (.slice U4 Un4 Uc4) := O4.cell 4
      have z4_4 := O4.frozen 4
      have c4_5 : wd.cell? ⟨w.heap.size + 2, 5, none⟩ = some (.slice V4 Vn4 Vc4) := O4.cell 5
      have z4_5 := O4.frozen 5
      clear hf hap
      simp only [fillL]
      go_wp2
      exact bodyPost_ret (v := .agg #[.bool sl4, .slice P4 Pn4 Pc4, .slice R4 Rn4 Rc4, .bool sh4, .slice U4 Un4 Uc4, .slice V4 Vn4 Vc4]) (by simp [results, Tryz.results24, go_sem, c4_0, c4_1, c4_2, c4_3, c4_4, c4_5]) rfl ⟨_, rfl, I4, hon⟩
set_option maxRecDepth 100000 in
set_option maxHeartbeats 1600000 in
theorem sphull_any (w : World) (v v' : Value) (lo hi lo' hi' : Rat) (L : Nat) (h : Sp w v lo hi L) (k : Sp w v' lo' hi' L) (hL2 : 2 ≤ L) (hL : L ≤ 1000) :
    Calls Tryz.prog 38 #[v, v'] w (SpPost w (rmin lo lo') (rmax hi hi') (L)) := by
  obtain ⟨ba0, Aa0, na0, ca0, Ba0, ma0, oa0, bb0, Ab0, nb0, cb0, Bb0, mb0, ob0, rfl⟩ := h.form
  obtain ⟨ba1, Aa1, na1, ca1, Ba1, ma1, oa1, bb1, Ab1, nb1, cb1, Bb1, mb1, ob1, rfl⟩ := k.form
  have B : On w (((w.alloc (.cells #[.bool ba0, .slice Aa0 na0 ca0, .slice Ba0 ma0 oa0, .bool bb0, .slice Ab0 nb0 cb0, .slice Bb0 mb0 ob0] 26)).alloc (.cells #[.bool ba1, .slice Aa1 na1 ca1, .slice Ba1 ma1 oa1, .bool bb1, .slice Ab1 nb1 cb1, .slice Bb1 mb1 ob1] 26)).alloc (.cells #[.bool false, .slice none 0 0, .slice none 0 0, .bool false, .slice none 0 0, .slice none 0 0] 26)) := On.alloc (On.alloc (On.alloc (On.refl w) _) _) _
  have OB2 : w.heap.size ≤ w.heap.size ∧ Own (((w.alloc (.cells #[.bool ba0, .slice Aa0 na0 ca0, .slice Ba0 ma0 oa0, .bool bb0, .slice Ab0 nb0 cb0, .slice Bb0 mb0 ob0] 26)).alloc (.cells #[.bool ba1, .slice Aa1 na1 ca1, .slice Ba1 ma1 oa1, .bool bb1, .slice Ab1 nb1 cb1, .slice Bb1 mb1 ob1] 26)).alloc (.cells #[.bool false, .slice none 0 0, .slice none 0 0, .bool false, .slice none 0 0, .slice none 0 0] 26)) (w.heap.size) 26 #[.bool ba0, .slice Aa0 na0 ca0, .slice Ba0 ma0 oa0, .bool bb0, .slice Ab0 nb0 cb0, .slice Bb0 mb0 ob0] := ⟨by omega, (((Own.at_ w (w.heap.size) (by simp) 26 #[.bool ba0, .slice Aa0 na0 ca0, .slice Ba0 ma0 oa0, .bool bb0, .slice Ab0 nb0 cb0, .slice Bb0 mb0 ob0]).alloc (.cells #[.bool ba1, .slice Aa1 na1 ca1, .slice Ba1 ma1 oa1, .bool bb1, .slice Ab1 nb1 cb1, .slice Bb1 mb1 ob1] 26)).alloc (.cells #[.bool false, .slice none 0 0, .slice none 0 0, .bool false, .slice none 0 0, .slice none 0 0] 26))⟩
  have OB3 : w.heap.size ≤ w.heap.size + 1 ∧ Own (((w.alloc (.cells #[.bool ba0, .slice Aa0 na0 ca0, .slice Ba0 ma0 oa0, .bool bb0, .slice Ab0 nb0 cb0, .slice Bb0 mb0 ob0] 26)).alloc (.cells #[.bool ba1, .slice Aa1 na1 ca1, .slice Ba1 ma1 oa1, .bool bb1, .slice Ab1 nb1 cb1, .slice Bb1 mb1 ob1] 26)).alloc (.cells #[.bool false, .slice none 0 0, .slice none 0 0, .bool false, .slice none 0 0, .slice none 0 0] 26)) (w.heap.size + 1) 26 #[.bool ba1, .slice Aa1 na1 ca1, .slice Ba1 ma1 oa1, .bool bb1, .slice Ab1 nb1 cb1, .slice Bb1 mb1 ob1] := ⟨by omega, ((Own.at_ (w.alloc (.cells #[.bool ba0, .slice Aa0 na0 ca0, .slice Ba0 ma0 oa0, .bool bb0, .slice Ab0 nb0 cb0, .slice Bb0 mb0 ob0] 26)) (w.heap.size + 1) (by simp) 26 #[.bool ba1, .slice Aa1 na1 ca1, .slice Ba1 ma1 oa1, .bool bb1, .slice Ab1 nb1 cb1, .slice Bb1 mb1 ob1]).alloc (.cells #[.bool false, .slice none 0 0, .slice none 0 0, .bool false, .slice none 0 0, .slice none 0 0] 26))⟩
  have OB4 : w.heap.size ≤ w.heap.size + 2 ∧ Own (((w.alloc (.cells #[.bool ba0, .slice Aa0 na0 ca0, .slice Ba0 ma0 oa0, .bool bb0, .slice Ab0 nb0 cb0, .slice Bb0 mb0 ob0] 26)).alloc (.cells #[.bool ba1, .slice Aa1 na1 ca1, .slice Ba1 ma1 oa1, .bool bb1, .slice Ab1 nb1 cb1, .slice Bb1 mb1 ob1] 26)).alloc (.cells #[.bool false, .slice none 0 0, .slice none 0 0, .bool false, .slice none 0 0, .slice none 0 0] 26)) (w.heap.size + 2) 26 #[.bool false, .slice none 0 0, .slice none 0 0, .bool false, .slice none 0 0, .slice none 0 0] := ⟨by omega, (Own.at_ ((w.alloc (.cells #[.bool ba0, .slice Aa0 na0 ca0, .slice Ba0 ma0 oa0, .bool bb0, .slice Ab0 nb0 cb0, .slice Bb0 mb0 ob0] 26)).alloc (.cells #[.bool ba1, .slice Aa1 na1 ca1, .slice Ba1 ma1 oa1, .bool bb1, .slice Ab1 nb1 cb1, .slice Bb1 mb1 ob1] 26)) (w.heap.size + 2) (by simp) 26 #[.bool false, .slice none 0 0, .slice none 0 0, .bool false, .slice none 0 0, .slice none 0 0])⟩
  go_enter Tryz.func38, Tryz.ntmps38
  go_wp2
  refine wp_region_facts (by kernel_rfl) w [Fact.eq (.agg #[.bool ba0, .slice Aa0 na0 ca0, .slice Ba0 ma0 oa0, .bool bb0, .slice Ab0 nb0 cb0, .slice Bb0 mb0 ob0]), Fact.sp (lo) (hi) (L), Fact.eq (.agg #[.bool ba1, .slice Aa1 na1 ca1, .slice Ba1 ma1 oa1, .bool bb1, .slice Ab1 nb1 cb1, .slice Bb1 mb1 ob1]), Fact.sp (lo') (hi') (L), Fact.any, Fact.any] [Fact.sp (lo) (hi) (L), Fact.sp (lo') (hi') (L), Fact.any] [⟨6, 2, 26, 4, #[.bool ba0, .slice Aa0 na0 ca0, .slice Ba0 ma0 oa0, .bool bb0, .slice Ab0 nb0 cb0, .slice Bb0 mb0 ob0]⟩, ⟨6, 3, 26, 5, #[.bool ba1, .slice Aa1 na1 ca1, .slice Ba1 ma1 oa1, .bool bb1, .slice Ab1 nb1 cb1, .slice Bb1 mb1 ob1]⟩, ⟨6, 4, 26, 6, #[.bool false, .slice none 0 0, .slice none 0 0, .bool false, .slice none 0 0, .slice none 0 0]⟩] [w.heap.size, w.heap.size + 1, w.heap.size + 2] [none, none, none, none, none, some 5, some 6, some 7, some 8, none, none, none, none, none, none, none, none, none, none, none] (by kernel_rfl) (by kernel_rfl) (by kernel_rfl) rfl B ?_ ?_ ?_ ?_ ?_
  · exact ⟨fun _ => ⟨by simp, rfl, OB2⟩, fun _ => ⟨by simp, rfl, OB3⟩, fun _ => ⟨by simp, rfl, OB4⟩, trivial⟩
  · exact .inr (by simp <;> omega)
  · exact ⟨⟨noWords_S _ _ _ _ _ _ _ _ _ _ _ _ _ _, (.inl (Nat.le_refl _)), (.inr (store_obS (j := 1) (noWords_S _ _ _ _ _ _ _ _ _ _ _ _ _ _) rfl rfl rfl (by kernel_rfl) rfl rfl rfl))⟩, ⟨noWords_S _ _ _ _ _ _ _ _ _ _ _ _ _ _, (.inl (Nat.le_refl _)), (.inr (store_obS (j := 3) (noWords_S _ _ _ _ _ _ _ _ _ _ _ _ _ _) rfl rfl rfl (by kernel_rfl) rfl rfl rfl))⟩, ⟨noWords_S _ _ _ _ _ _ _ _ _ _ _ _ _ _, (.inl (Nat.le_refl _)), (.inl (Nat.le_refl _))⟩, trivial⟩
  · refine ⟨?_, ?_, ?_, ?_, ?_, ?_, trivial⟩
    · exact .inr fun a w hp => ob_yes rfl (ob_loadSp (hp.box (k := 0) rfl (Nat.le_refl _) (.inr (.inl (by kernel_rfl))) (by kernel_rfl) rfl).1 (hp.box (k := 0) rfl (Nat.le_refl _) (.inr (.inl (by kernel_rfl))) (by kernel_rfl) rfl).2 rfl)
    · refine .inr fun a w hp => ob_yes rfl ?_
      have h5 : a.tmps.getD 5 undef = .agg #[.bool ba0, .slice Aa0 na0 ca0, .slice Ba0 ma0 oa0, .bool bb0, .slice Ab0 nb0 cb0, .slice Bb0 mb0 ob0] := (hp.fact 0 5 (by kernel_rfl) rfl)
      unfold Does
      go_simp
      refine (svalue_any _ _ _ _ L (h.on hp.on) (by omega)).mono ?_
      rintro e w' ⟨u, rfl, I8, P8⟩
      exact ⟨_, rfl, P8, I8⟩
    · exact .inr fun a w hp => ob_yes rfl (ob_loadSp (hp.box (k := 1) rfl (Nat.le_refl _) (.inr (.inl (by kernel_rfl))) (by kernel_rfl) rfl).1 (hp.box (k := 1) rfl (Nat.le_refl _) (.inr (.inl (by kernel_rfl))) (by kernel_rfl) rfl).2 rfl)
    · refine .inr fun a w hp => ob_yes rfl ?_
      have h7 : a.tmps.getD 7 undef = .agg #[.bool ba1, .slice Aa1 na1 ca1, .slice Ba1 ma1 oa1, .bool bb1, .slice Ab1 nb1 cb1, .slice Bb1 mb1 ob1] := (hp.fact 2 7 (by kernel_rfl) rfl)
      unfold Does
      go_simp
      refine (svalue_any _ _ _ _ L (k.on hp.on) (by omega)).mono ?_
      rintro e w' ⟨u, rfl, I8, P8⟩
      exact ⟨_, rfl, P8, I8⟩
    · exact .inl rfl
    · exact .inl rfl
  · intro f wr hon hk hf hb hap
    obtain ⟨q0, q1, q2, qz⟩ := hb
    clear qz
    obtain ⟨cur2, O2, I2⟩ : ∃ cur, Own wr (w.heap.size) 26 cur ∧ IsS wr (.agg cur) (lo) (hi) (L) := q0
    obtain ⟨sl2, P2, Pn2, Pc2, R2, Rn2, Rc2, sh2, U2, Un2, Uc2, V2, Vn2, Vc2, hz2, IL2, IH2⟩ := id I2
    injection hz2 with hz2
    subst hz2
    have c2_0 : wr.cell? ⟨w.heap.size, 0, none⟩ = some (.bool sl2) := O2.cell 0
    have z2_0 := O2.frozen 0
    have c2_1 : wr.cell? ⟨w.heap.size, 1, none⟩ = some (.slice P2 Pn2 Pc2) := O2.cell 1
    have z2_1 := O2.frozen 1
    have c2_2 : wr.cell? ⟨w.heap.size, 2, none⟩ = some (.slice R2 Rn2 Rc2) := O2.cell 2
    have z2_2 := O2.frozen 2
    have c2_3 : wr.cell? ⟨w.heap.size, 3, none⟩ = some (.bool sh2) := O2.cell 3
    have z2_3 := O2.frozen 3
    have c2_4 : wr.cell? ⟨w.heap.size, 4, none⟩ = some (.slice U2 Un2 Uc2) := O2.cell 4
    have z2_4 := O2.frozen 4
    have c2_5 : wr.cell? ⟨w.heap.size, 5, none⟩ = some (.slice V2 Vn2 Vc2) := O2.cell 5
    have z2_5 := O2.frozen 5
    obtain ⟨cur3, O3, I3⟩ : ∃ cur, Own wr (w.heap.size + 1) 26 cur ∧ IsS wr (.agg cur) (lo') (hi') (L) := q1
    obtain ⟨sl3, P3, Pn3, Pc3, R3, Rn3, Rc3, sh3, U3, Un3, Uc3, V3, Vn3, Vc3, hz3, IL3, IH3⟩ := id I3
    injection hz3 with hz3
    subst hz3
    have c3_0 : wr.cell? ⟨w.heap.size + 1, 0, none⟩ = some (.bool sl3) := O3.cell 0
    have z3_0 := O3.frozen 0
    have c3_1 : wr.cell? ⟨w.heap.size + 1, 1, none⟩ = some (.slice P3 Pn3 Pc3) := O3.cell 1
    have z3_1 := O3.frozen 1
    have c3_2 : wr.cell? ⟨w.heap.size + 1, 2, none⟩ = some (.slice R3 Rn3 Rc3) := O3.cell 2
    have z3_2 := O3.frozen 2
    have c3_3 : wr.cell? ⟨w.heap.size + 1, 3, none⟩ = some (.bool sh3) := O3.cell 3
    have z3_3 := O3.frozen 3
    have c3_4 : wr.cell? ⟨w.heap.size + 1, 4, none⟩ = some (.slice U3 Un3 Uc3) := O3.cell 4
    have z3_4 := O3.frozen 4
    have c3_5 : wr.cell? ⟨w.heap.size + 1, 5, none⟩ = some (.slice V3 Vn3 Vc3) := O3.cell 5
    have z3_5 := O3.frozen 5
    have O4 : Own wr (w.heap.size + 2) 26 #[.bool false, .slice none 0 0, .slice none 0 0, .bool false, .slice none 0 0, .slice none 0 0] := q2
    have c4_0 : wr.cell? ⟨w.heap.size + 2, 0, none⟩ = some (.bool false) := O4.cell 0
    have z4_0 := O4.frozen 0
    have c4_1 : wr.cell? ⟨w.heap.size + 2, 1, none⟩ = some (.slice none 0 0) := O4.cell 1
    have z4_1 := O4.frozen 1
    have c4_2 : wr.cell? ⟨w.heap.size + 2, 2, none⟩ = some (.slice none 0 0) := O4.cell 2
    have z4_2 := O4.frozen 2
    have c4_3 : wr.cell? ⟨w.heap.size + 2, 3, none⟩ = some (.bool false) := O4.cell 3
    have z4_3 := O4.frozen 3
    have c4_4 : wr.cell? ⟨w.heap.size + 2, 4, none⟩ = some (.slice none 0 0) := O4.cell 4
    have z4_4 := O4.frozen 4
    have c4_5 : wr.cell? ⟨w.heap.size + 2, 5, none⟩ = some (.slice none 0 0) := O4.cell 5
    have z4_5 := O4.frozen 5
    clear q2
    clear hf hap
    simp only [fillL]
    have OB2 : w.heap.size ≤ w.heap.size ∧ Own wr (w.heap.size) 26 #[.bool sl2, .slice P2 Pn2 Pc2, .slice R2 Rn2 Rc2, .bool sh2, .slice U2 Un2 Uc2, .slice V2 Vn2 Vc2] := ⟨by omega, O2⟩
    clear c2_0 z2_0 c2_1 z2_1 c2_2 z2_2 c2_3 z2_3 c2_4 z2_4 c2_5 z2_5 O2
    have OB3 : w.heap.size ≤ w.heap.size + 1 ∧ Own wr (w.heap.size + 1) 26 #[.bool sl3, .slice P3 Pn3 Pc3, .slice R3 Rn3 Rc3, .bool sh3, .slice U3 Un3 Uc3, .slice V3 Vn3 Vc3] := ⟨by omega, O3⟩
    clear c3_0 z3_0 c3_1 z3_1 c3_2 z3_2 c3_3 z3_3 c3_4 z3_4 c3_5 z3_5 O3
    have OB4 : w.heap.size ≤ w.heap.size + 2 ∧ Own wr (w.heap.size + 2) 26 #[.bool false, .slice none 0 0, .slice none 0 0, .bool false, .slice none 0 0, .slice none 0 0] := ⟨by omega, O4⟩
    clear c4_0 z4_0 c4_1 z4_1 c4_2 z4_2 c4_3 z4_3 c4_4 z4_4 c4_5 z4_5 O4
    clear B
    have B := hon
    clear hon hk h k
    go_wp2
    refine wp_region_facts (by kernel_rfl) w [Fact.eq (.pointer (some ⟨w.heap.size, 0, none⟩)), Fact.eq (.agg #[.bool sl2, .slice P2 Pn2 Pc2, .slice R2 Rn2 Rc2]), Fact.eq (.pointer (some ⟨w.heap.size + 1, 0, none⟩)), Fact.eq (.agg #[.bool sl3, .slice P3 Pn3 Pc3, .slice R3 Rn3 Rc3]), Fact.rat (rmin lo lo') (L), Fact.eq (.pointer (some ⟨w.heap.size, 3, none⟩)), Fact.eq (.agg #[.bool sh2, .slice U2 Un2 Uc2, .slice V2 Vn2 Vc2]), Fact.eq (.pointer (some ⟨w.heap.size + 1, 3, none⟩)), Fact.eq (.agg #[.bool sh3, .slice U3 Un3 Uc3, .slice V3 Vn3 Vc3]), Fact.rat (rmax hi hi') (L), Fact.sp (rmin lo lo') (rmax hi hi') (L), Fact.any] [Fact.any, Fact.any, Fact.sp (rmin lo lo') (rmax hi hi') (L)] [⟨12, 2, 26, 12, #[.bool sl2, .slice P2 Pn2 Pc2, .slice R2 Rn2 Rc2, .bool sh2, .slice U2 Un2 Uc2, .slice V2 Vn2 Vc2]⟩, ⟨12, 3, 26, 12, #[.bool sl3, .slice P3 Pn3 Pc3, .slice R3 Rn3 Rc3, .bool sh3, .slice U3 Un3 Uc3, .slice V3 Vn3 Vc3]⟩, ⟨12, 4, 26, 11, #[.bool false, .slice none 0 0, .slice none 0 0, .bool false, .slice none 0 0, .slice none 0 0]⟩] [w.heap.size, w.heap.size + 1, w.heap.size + 2] [none, none, none, none, none, none, none, none, none, some 9, some 10, some 11, some 12, some 13, some 14, some 15, some 16, some 17, some 18, some 19] (by kernel_rfl) (by kernel_rfl) (by kernel_rfl) rfl B ?_ ?_ ?_ ?_ ?_
    · exact ⟨fun _ => ⟨by simp, rfl, OB2⟩, fun _ => ⟨by simp, rfl, OB3⟩, fun _ => ⟨by simp, rfl, OB4⟩, trivial⟩
    · exact .inr (by simp <;> omega)
    · exact ⟨⟨noWords_S _ _ _ _ _ _ _ _ _ _ _ _ _ _, (.inl (Nat.le_refl _)), (.inl (Nat.le_refl _))⟩, ⟨noWords_S _ _ _ _ _ _ _ _ _ _ _ _ _ _, (.inl (Nat.le_refl _)), (.inl (Nat.le_refl _))⟩, ⟨noWords_S _ _ _ _ _ _ _ _ _ _ _ _ _ _, (.inl (Nat.le_refl _)), (.inr (store_obS (j := 10) (noWords_S _ _ _ _ _ _ _ _ _ _ _ _ _ _) rfl rfl rfl (by kernel_rfl) rfl rfl rfl))⟩, trivial⟩
    · refine ⟨?_, ?_, ?_, ?_, ?_, ?_, ?_, ?_, ?_, ?_, ?_, ?_, trivial⟩
      · exact .inr fun a w hp => ob_yes rfl (ob_fieldS0 (hp.box (k := 0) rfl (Nat.le_refl _) (.inl (Nat.le_refl _)) (by kernel_rfl) rfl).1 rfl)
      · exact .inr fun a w hp => ob_yes rfl (ob_loadLo (hp.fact 0 9 (by kernel_rfl) rfl) (hp.box (k := 0) rfl (Nat.le_refl _) (.inl (Nat.le_refl _)) (by kernel_rfl) rfl).2 rfl)
      · exact .inr fun a w hp => ob_yes rfl (ob_fieldS0 (hp.box (k := 1) rfl (Nat.le_refl _) (.inl (Nat.le_refl _)) (by kernel_rfl) rfl).1 rfl)
      · exact .inr fun a w hp => ob_yes rfl (ob_loadLo (hp.fact 2 11 (by kernel_rfl) rfl) (hp.box (k := 1) rfl (Nat.le_refl _) (.inl (Nat.le_refl _)) (by kernel_rfl) rfl).2 rfl)
      · refine .inr fun a w hp => ob_yes rfl ?_
        have h10 : a.tmps.getD 10 undef = .agg #[.bool sl2, .slice P2 Pn2 Pc2, .slice R2 Rn2 Rc2] := (hp.fact 1 10 (by kernel_rfl) rfl)
        have h12 : a.tmps.getD 12 undef = .agg #[.bool sl3, .slice P3 Pn3 Pc3, .slice R3 Rn3 Rc3] := (hp.fact 3 12 (by kernel_rfl) rfl)
        unfold Does
        go_simp
        refine (minr_any _ _ _ _ _ L (IsR.fld (IL2.kept hp.kept)) (IsR.fld (IL3.kept hp.kept)) (by omega)).mono ?_
        rintro e w' ⟨u, rfl, I8, P8⟩
        exact ⟨_, rfl, P8, I8⟩
      · exact .inr fun a w hp => ob_yes rfl (ob_fieldS1 (hp.box (k := 0) rfl (Nat.le_refl _) (.inl (Nat.le_refl _)) (by kernel_rfl) rfl).1 rfl)
      · exact .inr fun a w hp => ob_yes rfl (ob_loadHi (hp.fact 5 14 (by kernel_rfl) rfl) (hp.box (k := 0) rfl (Nat.le_refl _) (.inl (Nat.le_refl _)) (by kernel_rfl) rfl).2 rfl)
      · exact .inr fun a w hp => ob_yes rfl (ob_fieldS1 (hp.box (k := 1) rfl (Nat.le_refl _) (.inl (Nat.le_refl _)) (by kernel_rfl) rfl).1 rfl)
      · exact .inr fun a w hp => ob_yes rfl (ob_loadHi (hp.fact 7 16 (by kernel_rfl) rfl) (hp.box (k := 1) rfl (Nat.le_refl _) (.inl (Nat.le_refl _)) (by kernel_rfl) rfl).2 rfl)
      · refine .inr fun a w hp => ob_yes rfl ?_
        have h15 : a.tmps.getD 15 undef = .agg #[.bool sh2, .slice U2 Un2 Uc2, .slice V2 Vn2 Vc2] := (hp.fact 6 15 (by kernel_rfl) rfl)
        have h17 : a.tmps.getD 17 undef = .agg #[.bool sh3, .slice U3 Un3 Uc3, .slice V3 Vn3 Vc3] := (hp.fact 8 17 (by kernel_rfl) rfl)
        unfold Does
        go_simp
        refine (maxr_any _ _ _ _ _ L (IsR.fld (IH2.kept hp.kept)) (IsR.fld (IH3.kept hp.kept)) (by omega)).mono ?_
        rintro e w' ⟨u, rfl, I8, P8⟩
        exact ⟨_, rfl, P8, I8⟩
      · refine .inr fun a w hp => ob_yes rfl ?_
        have h13 : IsR w (a.tmps.getD 13 undef) (rmin lo lo') (L) := (hp.fact 4 13 (by kernel_rfl) rfl)
        obtain ⟨v13, e13⟩ : ∃ v, a.tmps.getD 13 undef = v := ⟨_, rfl⟩
        rw [e13] at h13
        have h18 : IsR w (a.tmps.getD 18 undef) (rmax hi hi') (L) := (hp.fact 9 18 (by kernel_rfl) rfl)
        obtain ⟨v18, e18⟩ : ∃ v, a.tmps.getD 18 undef = v := ⟨_, rfl⟩
        rw [e18] at h18
        exact ob_buildS e13 e18 h13 h18 (fun x hx => hx)
      · exact .inl rfl
    · intro f wd hon hk hf hb hap
      obtain ⟨q0, q1, q2, qz⟩ := hb
      clear qz
      have O2 : Own wd (w.heap.size) 26 #[.bool sl2, .slice P2 Pn2 Pc2, .slice R2 Rn2 Rc2, .bool sh2, .slice U2 Un2 Uc2, .slice V2 Vn2 Vc2] := q0
      have c2_0 : wd.cell? ⟨w.heap.size, 0, none⟩ = some (.bool sl2) := O2.cell 0
      have z2_0 := O2.frozen 0
      have c2_1 : wd.cell? ⟨w.heap.size, 1, none⟩ = some (.slice P2 Pn2 Pc2) := O2.cell 1
      have z2_1 := O2.frozen 1
      have c2_2 : wd.cell? ⟨w.heap.size, 2, none⟩ = some (.slice R2 Rn2 Rc2) := O2.cell 2
      have z2_2 := O2.frozen 2
      have c2_3 : wd.cell? ⟨w.heap.size, 3, none⟩ = some (.bool sh2) := O2.cell 3
      have z2_3 := O2.frozen 3
      have c2_4 : wd.cell? ⟨w.heap.size, 4, none⟩ = some (.slice U2 Un2 Uc2) := O2.cell 4
      have z2_4 := O2.frozen 4
      have c2_5 : wd.cell? ⟨w.heap.size, 5, none⟩ = some (.slice V2 Vn2 Vc2) := O2.cell 5
      have z2_5 := O2.frozen 5
      clear q0
      have O3 : Own wd (w.heap.size + 1) 26 #[.bool sl3, .slice P3 Pn3 Pc3, .slice R3 Rn3 Rc3, .bool sh3, .slice U3 Un3 Uc3, .slice V3 Vn3 Vc3] := q1
      have c3_0 : wd.cell? ⟨w.heap.size + 1, 0, none⟩ = some (.bool sl3) := O3.cell 0
      have z3_0 := O3.frozen 0
      have c3_1 : wd.cell? ⟨w.heap.size + 1, 1, none⟩ = some (.slice P3 Pn3 Pc3) := O3.cell 1
      have z3_1 := O3.frozen 1
      have c3_2 : wd.cell? ⟨w.heap.size + 1, 2, none⟩ = some (.slice R3 Rn3 Rc3) := O3.cell 2
      have z3_2 := O3.frozen 2
      have c3_3 : wd.cell? ⟨w.heap.size + 1, 3, none⟩ = some (.bool sh3) := O3.cell 3
      have z3_3 := O3.frozen 3
      have c3_4 : wd.cell? ⟨w.heap.size + 1, 4, none⟩ = some (.slice U3 Un3 Uc3) := O3.cell 4
      have z3_4 := O3.frozen 4
      have c3_5 : wd.cell? ⟨w.heap.size + 1, 5, none⟩ = some (.slice V3 Vn3 Vc3) := O3.cell 5
      have z3_5 := O3.frozen 5
      clear q1
      obtain ⟨cur4, O4, I4⟩ : ∃ cur, Own wd (w.heap.size + 2) 26 cur ∧ IsS wd (.agg cur) (rmin lo lo') (rmax hi hi') (L) := q2
      obtain ⟨sl4, P4, Pn4, Pc4, R4, Rn4, Rc4, sh4, U4, Un4, Uc4, V4, Vn4, Vc4, hz4, IL4, IH4⟩ := id I4
      injection hz4 with hz4
      subst hz4
      have c4_0 : wd.cell? ⟨w.heap.size + 2, 0, none⟩ = some (.bool sl4) := O4.cell 0
      have z4_0 := O4.frozen 0
      have c4_1 : wd.cell? ⟨w.heap.size + 2, 1, none⟩ = some (.slice P4 Pn4 Pc4) := O4.cell 1
      have z4_1 := O4.frozen 1
      have c4_2 : wd.cell? ⟨w.heap.size + 2, 2, none⟩ = some (.slice R4 Rn4 Rc4) := O4.cell 2
      have z4_2 := O4.frozen 2
      have c4_3 : wd.cell? ⟨w.heap.size + 2, 3, none⟩ = some (.bool sh4) := O4.cell 3
      have z4_3 := O4.frozen 3
      have c4_4 : wd.cell? ⟨w.heap.size + 2, 4, none⟩ = some (.slice U4 Un4 Uc4) := O4.cell 4
      have z4_4 := O4.frozen 4
      have c4_5 : wd.cell? ⟨w.heap.size + 2, 5, none⟩ = some (.slice V4 Vn4 Vc4) := O4.cell 5
      have z4_5 := O4.frozen 5
      clear hf hap
      simp only [fillL]
      go_wp2
      exact bodyPost_ret (v := .agg #[.bool sl4, .slice P4 Pn4 Pc4, .slice R4 Rn4 Rc4, .bool sh4, .slice U4 Un4 Uc4, .slice V4 Vn4 Vc4]) (by simp [results, Tryz.results38, go_sem, c4_0, c4_1, c4_2, c4_3, c4_4, c4_5]) rfl ⟨_, rfl, I4, hon⟩
end Num
end Go.Proofs.YtkchpagjkgmpmaaGreat
