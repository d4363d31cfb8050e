/-
  Round; facts on floors.
-/
import Derived.Test.YtikmjlaeadockaaGreatRcom
import Derived.Test.YtikmjlaeadockaaGreatRatB
namespace Go.Proofs.YtikmjlaeadockaaGreat
open Go.RowKit
set_option linter.unusedVariables false
namespace Num
theorem flr_le (r : Rat) : ((flr r : Int) : Rat) ≤ r := by
  have h := Rat.floor_le (a := r)
  have e : r.floor = flr r := by rw [Rat.floor_def]; rfl
  rw [e] at h; exact h
theorem lt_flr (r : Rat) : r < ((flr r : Int) : Rat) + 1 := by
  have h := Rat.lt_floor_add_one (a := r)
  have e : r.floor = flr r := by rw [Rat.floor_def]; rfl
  rw [e, Rat.intCast_add] at h; exact h
theorem flr_int (n : Int) : flr ((n : Int) : Rat) = n := by
  unfold flr
  rw [Rat.num_intCast, Rat.den_intCast]; simp
theorem int_ne {d : Int} (h : 1 ≤ d) : ((d : Int) : Rat) ≠ 0 := by
  intro e
  have := congrArg Rat.num e
  simp at this
  omega
theorem floor_fld (w : World) (v : Value) (r : Rat) (L : Nat) (h : Fld w v r L) (hL2 : 2 ≤ L) (hL : L ≤ 4000) : Calls Tryz.prog 39 #[v] w (RatPost w ((flr r : Int) : Rat) (L + 1)) := by
  obtain ⟨s, A, n, c, A', n', c', xs, ys, rfl, h1, h2, h3, h4, rfl⟩ := h
  exact floorr_any w s A A' n c n' c' L xs ys h1 h2 h3 h4 hL2 hL
set_option maxRecDepth 100000 in
set_option maxHeartbeats 1600000 in
theorem round_ok (w : World) (v : Value) (r : Rat) (L : Nat) (d : Int) (h : Fld w v r L) (hL2 : 2 ≤ L) (hL : L ≤ 1000) (hd1 : 1 ≤ d) (hd2 : d ≤ 2147483648) :
    Calls Tryz.prog 35 #[v, .int .i64 d] w (RatPost2 w (((flr (r * (d : Rat)) : Int) : Rat) * (d : Rat)⁻¹) (L + L + 1 + (L + L + 1)) .nilIface) := by
  obtain ⟨b, A, n, c, A', n', c', xs, ys, rfl, R, R', h1, h2, h3⟩ := id h
  clear h3
  have HNZ := Lib.hid (int_ne hd1)
  obtain ⟨k, hk⟩ : ∃ x : Rat, (d : Rat) = x := ⟨_, rfl⟩
  have HK := Lib.hid hk
  rw [hk] at HNZ ⊢
  clear hk
  obtain ⟨fl, hfl⟩ : ∃ x : Rat, ((flr (r * k) : Int) : Rat) = x := ⟨_, rfl⟩
  have HFL := Lib.hid hfl
  rw [hfl]
  clear hfl
  have B : On w ((w.alloc (.cells #[.bool b, .slice A n c, .slice A' n' c'] 24)).alloc (.cells #[.bool false, .slice none 0 0, .slice none 0 0] 24)) := On.alloc (On.alloc (On.refl w) _) _
  have OB2 : w.heap.size ≤ w.heap.size ∧ Own ((w.alloc (.cells #[.bool b, .slice A n c, .slice A' n' c'] 24)).alloc (.cells #[.bool false, .slice none 0 0, .slice none 0 0] 24)) (w.heap.size) 24 #[.bool b, .slice A n c, .slice A' n' c'] := ⟨by omega, ((Own.at_ w (w.heap.size) (by simp) 24 #[.bool b, .slice A n c, .slice A' n' c']).alloc (.cells #[.bool false, .slice none 0 0, .slice none 0 0] 24))⟩
  have OB4 : w.heap.size ≤ w.heap.size + 1 ∧ Own ((w.alloc (.cells #[.bool b, .slice A n c, .slice A' n' c'] 24)).alloc (.cells #[.bool false, .slice none 0 0, .slice none 0 0] 24)) (w.heap.size + 1) 24 #[.bool false, .slice none 0 0, .slice none 0 0] := ⟨by omega, (Own.at_ (w.alloc (.cells #[.bool b, .slice A n c, .slice A' n' c'] 24)) (w.heap.size + 1) (by simp) 24 #[.bool false, .slice none 0 0, .slice none 0 0])⟩
  go_enter Tryz.func35, Tryz.ntmps35
  go_wp2_with fail
  refine (ofr_any _ d (by omega) (by omega)).mono ?_
  rintro e w1 ⟨v1, rfl, I1, P1⟩
  rw [HK.out] at I1
  obtain ⟨Q1, Qn, Qc, _, Q2, Qm, Qd, _, rfl, _⟩ := id I1
  replace OB2 := And.intro OB2.1 (OB2.2.on P1)
  replace OB4 := And.intro OB4.1 (OB4.2.on P1)
  replace B := B.trans P1
  have PQ := (On.refl w1).alloc (.cells #[.bool (decide (k < 0)), .slice Q1 Qn Qc, .slice Q2 Qm Qd] 24)
  have OB6 : w.heap.size ≤ w1.heap.size ∧ _ := ⟨B.size, Own.new w1 24 #[.bool (decide (k < 0)), .slice Q1 Qn Qc, .slice Q2 Qm Qd]⟩
  have hs1 : w.heap.size + 2 ≤ w1.heap.size := by have := P1.size; simpa using this
  replace I1 := I1.on PQ
  replace OB2 := And.intro OB2.1 (OB2.2.on PQ)
  replace OB4 := And.intro OB4.1 (OB4.2.on PQ)
  replace B := B.trans PQ
  clear PQ P1
  go_wp2
  refine wp_region_facts (by kernel_rfl) w [Fact.eq (.agg #[.bool b, .slice A n c, .slice A' n' c']), Fact.rat (r) (L), Fact.eq (.agg #[.bool (decide (k < 0)), .slice Q1 Qn Qc, .slice Q2 Qm Qd]), Fact.rat (r * k) (L + L), Fact.rat (fl) (L + L + 1), Fact.eq (.agg #[.bool (decide (k < 0)), .slice Q1 Qn Qc, .slice Q2 Qm Qd]), Fact.rat (k⁻¹) (L), Fact.rat (fl * k⁻¹) (L + L + 1 + (L + L + 1)), Fact.any, Fact.eq (.nilIface)] [Fact.any, Fact.rat (fl * k⁻¹) (L + L + 1 + (L + L + 1)), Fact.any] [⟨10, 2, 24, 10, #[.bool b, .slice A n c, .slice A' n' c']⟩, ⟨10, 4, 24, 8, #[.bool false, .slice none 0 0, .slice none 0 0]⟩, ⟨10, 6, 24, 10, #[.bool (decide (k < 0)), .slice Q1 Qn Qc, .slice Q2 Qm Qd]⟩] [w.heap.size, w.heap.size + 1, w1.heap.size] [none, none, none, none, none, some 5, none, none, none, none, none, none, none, none, none, none, none, some 17, some 18, some 19, some 20, some 21, some 22, some 23, some 24] (by kernel_rfl) (by kernel_rfl) (by kernel_rfl) rfl B ?_ ?_ ?_ ?_ ?_
  · exact ⟨fun _ => ⟨by simp, rfl, OB2⟩, fun _ => ⟨by simp, rfl, OB4⟩, fun _ => ⟨by simp, rfl, OB6⟩, trivial⟩
  · exact .inr (by simp <;> omega)
  · exact ⟨⟨noWords_R _ _ _ _ _ _ _, (.inl (Nat.le_refl _)), (.inl (Nat.le_refl _))⟩, ⟨noWords_R _ _ _ _ _ _ _, (.inl (Nat.le_refl _)), (.inr (store_ob (j := 7) (noWords_R _ _ _ _ _ _ _) rfl rfl rfl (by kernel_rfl) rfl rfl rfl))⟩, ⟨noWords_R _ _ _ _ _ _ _, (.inl (Nat.le_refl _)), (.inl (Nat.le_refl _))⟩, trivial⟩
  · refine ⟨?_, ?_, ?_, ?_, ?_, ?_, ?_, ?_, ?_, ?_, trivial⟩
    · exact .inr fun a w hp => ob_yes rfl (ob_loadR (hp.box (k := 0) rfl (Nat.le_refl _) (.inl (Nat.le_refl _)) (by kernel_rfl) rfl).1 (hp.box (k := 0) rfl (Nat.le_refl _) (.inl (Nat.le_refl _)) (by kernel_rfl) rfl).2 rfl)
    · refine .inr fun a w hp => ob_yes rfl ?_
      have h17 : a.tmps.getD 17 undef = .agg #[.bool b, .slice A n c, .slice A' n' c'] := (hp.fact 0 17 (by kernel_rfl) rfl)
      unfold Does
      go_simp
      refine (value_fld _ _ _ L (h.on hp.on) (by omega)).mono ?_
      rintro e w' ⟨u, rfl, I8, P8⟩
      exact ⟨_, rfl, P8, I8⟩
    · exact .inr fun a w hp => ob_yes rfl (ob_loadR (hp.box (k := 2) rfl (Nat.le_refl _) (.inl (Nat.le_refl _)) (by kernel_rfl) rfl).1 (hp.box (k := 2) rfl (Nat.le_refl _) (.inl (Nat.le_refl _)) (by kernel_rfl) rfl).2 rfl)
    · refine .inr fun a w hp => ob_yes rfl ?_
      have h18 : IsR w (a.tmps.getD 18 undef) (r) (L) := (hp.fact 1 18 (by kernel_rfl) rfl)
      obtain ⟨v18, e18⟩ : ∃ v, a.tmps.getD 18 undef = v := ⟨_, rfl⟩
      rw [e18] at h18
      have h19 : a.tmps.getD 19 undef = .agg #[.bool (decide (k < 0)), .slice Q1 Qn Qc, .slice Q2 Qm Qd] := (hp.fact 2 19 (by kernel_rfl) rfl)
      unfold Does
      go_simp
      refine (product_any _ _ _ _ _ L h18 ((I1.kept hp.kept).wide hL2) hL2 (by omega)).mono ?_
      rintro e w' ⟨u, rfl, I8, P8⟩
      exact ⟨_, rfl, P8, I8⟩
    · refine .inr fun a w hp => ob_yes rfl ?_
      have h20 : IsR w (a.tmps.getD 20 undef) (r * k) (L + L) := (hp.fact 3 20 (by kernel_rfl) rfl)
      obtain ⟨v20, e20⟩ : ∃ v, a.tmps.getD 20 undef = v := ⟨_, rfl⟩
      rw [e20] at h20
      unfold Does
      go_simp
      refine (floor_any _ _ _ (L + L) h20 (by omega) (by omega)).mono ?_
      rintro e w' ⟨u, rfl, I8, P8⟩
      rw [HFL.out] at I8
      exact ⟨_, rfl, P8, I8⟩
    · exact .inr fun a w hp => ob_yes rfl (ob_loadR (hp.box (k := 2) rfl (Nat.le_refl _) (.inl (Nat.le_refl _)) (by kernel_rfl) rfl).1 (hp.box (k := 2) rfl (Nat.le_refl _) (.inl (Nat.le_refl _)) (by kernel_rfl) rfl).2 rfl)
    · refine .inr fun a w hp => ob_yes rfl ?_
      have h22 : a.tmps.getD 22 undef = .agg #[.bool (decide (k < 0)), .slice Q1 Qn Qc, .slice Q2 Qm Qd] := (hp.fact 5 22 (by kernel_rfl) rfl)
      unfold Does
      go_simp
      refine (inverse_any _ _ _ L ((I1.kept hp.kept).wide hL2) HNZ.out).mono ?_
      rintro e w' ⟨u, rfl, I8, P8⟩
      exact ⟨_, rfl, P8, I8⟩
    · refine .inr fun a w hp => ob_yes rfl ?_
      have h21 : IsR w (a.tmps.getD 21 undef) (fl) (L + L + 1) := (hp.fact 4 21 (by kernel_rfl) rfl)
      obtain ⟨v21, e21⟩ : ∃ v, a.tmps.getD 21 undef = v := ⟨_, rfl⟩
      rw [e21] at h21
      have h23 : IsR w (a.tmps.getD 23 undef) (k⁻¹) (L) := (hp.fact 6 23 (by kernel_rfl) rfl)
      obtain ⟨v23, e23⟩ : ∃ v, a.tmps.getD 23 undef = v := ⟨_, rfl⟩
      rw [e23] at h23
      unfold Does
      go_simp
      refine (product_any _ _ _ _ _ (L + L + 1) h21 (h23.wide (by omega)) (by omega) (by omega)).mono ?_
      rintro e w' ⟨u, rfl, I8, P8⟩
      exact ⟨_, rfl, P8, I8⟩
    · exact .inl rfl
    · exact .inr fun a w hp => ob_yes rfl (does_value rfl rfl)
  · intro f wd hon hk hf hb hap
    obtain ⟨q0, q1, q2, qz⟩ := hb
    clear qz
    have O2 : Own wd (w.heap.size) 24 #[.bool b, .slice A n c, .slice A' n' c'] := q0
    have c2_0 : wd.cell? ⟨w.heap.size, 0, none⟩ = some (.bool b) := O2.cell 0
    have z2_0 := O2.frozen 0
    have c2_1 : wd.cell? ⟨w.heap.size, 1, none⟩ = some (.slice A n c) := O2.cell 1
    have z2_1 := O2.frozen 1
    have c2_2 : wd.cell? ⟨w.heap.size, 2, none⟩ = some (.slice A' n' c') := O2.cell 2
    have z2_2 := O2.frozen 2
    clear q0
    obtain ⟨cur4, O4, I4⟩ : ∃ cur, Own wd (w.heap.size + 1) 24 cur ∧ IsR wd (.agg cur) (fl * k⁻¹) (L + L + 1 + (L + L + 1)) := q1
    obtain ⟨P4, Pn4, Pc4, _, R4, Rn4, Rc4, _, hz4, _⟩ := id I4
    injection hz4 with hz4
    subst hz4
    have c4_0 : wd.cell? ⟨w.heap.size + 1, 0, none⟩ = some (.bool (decide (fl * k⁻¹ < 0))) := O4.cell 0
    have z4_0 := O4.frozen 0
    have c4_1 : wd.cell? ⟨w.heap.size + 1, 1, none⟩ = some (.slice P4 Pn4 Pc4) := O4.cell 1
    have z4_1 := O4.frozen 1
    have c4_2 : wd.cell? ⟨w.heap.size + 1, 2, none⟩ = some (.slice R4 Rn4 Rc4) := O4.cell 2
    have z4_2 := O4.frozen 2
    have O6 : Own wd (w1.heap.size) 24 #[.bool (decide (k < 0)), .slice Q1 Qn Qc, .slice Q2 Qm Qd] := q2
    have c6_0 : wd.cell? ⟨w1.heap.size, 0, none⟩ = some (.bool (decide (k < 0))) := O6.cell 0
    have z6_0 := O6.frozen 0
    have c6_1 : wd.cell? ⟨w1.heap.size, 1, none⟩ = some (.slice Q1 Qn Qc) := O6.cell 1
    have z6_1 := O6.frozen 1
    have c6_2 : wd.cell? ⟨w1.heap.size, 2, none⟩ = some (.slice Q2 Qm Qd) := O6.cell 2
    have z6_2 := O6.frozen 2
    clear q2
    have e5 : f 5 = .nilIface := hf 9 5 rfl
    clear hf hap
    simp only [fillL, e5]
    clear e5
    go_wp2
    exact bodyPost_ret (v := .tuple #[.agg #[.bool (decide (fl * k⁻¹ < 0)), .slice P4 Pn4 Pc4, .slice R4 Rn4 Rc4], .nilIface]) (by simp [results, Tryz.results35, go_sem, c4_0, c4_1, c4_2]) rfl ⟨_, rfl, I4, hon⟩
end Num
end Go.Proofs.YtikmjlaeadockaaGreat
