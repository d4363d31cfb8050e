/-
  product: the product of two fractions; inverse.
-/
import Derived.Test.YtkchpagjkgmpmaaGreatRcmp
namespace Go.Proofs.YtkchpagjkgmpmaaGreat
open Go.RowKit
set_option linter.unusedVariables false
namespace Num
theorem val_of_num {r : Rat} : (r.num.natAbs = 0) ↔ r = 0 := rat_zero_iff r
theorem mul_flag {r q : Rat} (h : r ≠ 0) (k : q ≠ 0) : decide (r * q < 0) = (decide (r < 0) != decide (q < 0)) := by
  rw [Bool.eq_iff_iff]
  simp only [decide_eq_true_iff, bne_iff_ne, ne_eq, decide_eq_decide]
  have h1 : r < 0 ∨ 0 < r := by grind
  have h2 : q < 0 ∨ 0 < q := by grind
  rcases h1 with a | a <;> rcases h2 with b | b
  · have : 0 < r * q := by have := Rat.mul_pos (a := -r) (b := -q) (by grind) (by grind); grind
    grind
  · have : 0 < -(r * q) := by have := Rat.mul_pos (a := -r) (b := q) (by grind) (by grind); grind
    grind
  · have : 0 < -(r * q) := by have := Rat.mul_pos (a := r) (b := -q) (by grind) (by grind); grind
    grind
  · have : 0 < r * q := Rat.mul_pos a b
    grind
theorem mul_ne {r q : Rat} (h : r ≠ 0) (k : q ≠ 0) : r * q ≠ 0 := by
  intro e
  rcases Rat.mul_eq_zero.1 e with e | e
  · exact h e
  · exact k e
theorem isR_product {W : World} {A1 A2 : Option Addr} {n1 c1 n2 c2 M : Nat} {r q : Rat} (h : r ≠ 0) (k : q ≠ 0) (N1 : Nm W A1 n1 c1 (r.num.natAbs / Nat.gcd r.num.natAbs q.den * (q.num.natAbs / Nat.gcd q.num.natAbs r.den)) M) (N2 : Nm W A2 n2 c2 (r.den / Nat.gcd q.num.natAbs r.den * (q.den / Nat.gcd r.num.natAbs q.den)) M) :
    IsR W (.agg #[.bool (decide (r < 0) != decide (q < 0)), .slice A1 n1 c1, .slice A2 n2 c2]) (r * q) M := by
  obtain ⟨x1, R1, C1, V1, L1⟩ := N1
  obtain ⟨x2, R2, C2, V2, L2⟩ := N2
  have hm := mul_fields r q
  simp only at hm
  exact ⟨A1, n1, c1, x1, A2, n2, c2, x2, by rw [mul_flag h k], R1, R2, C1, C2, L1, L2, by rw [V1, hm.1], by rw [V2, dn_ne (mul_ne h k), hm.2]⟩
set_option maxRecDepth 100000 in
set_option maxHeartbeats 1600000 in
theorem product_ne (w : World) (v v' : Value) (r q : Rat) (L : Nat) (h : IsR w v r L) (k : IsR w v' q L) (hL2 : 2 ≤ L) (hL : L ≤ 5000) (hr0 : r ≠ 0) (hq0 : q ≠ 0) :
    Calls Tryz.prog 123 #[v, v'] w (RatPost w (r * q) (L + L)) := by
  obtain ⟨A, n, c, xs, A', n', c', ys, rfl, R, R', C, C', h1, h2, h3, h4⟩ := id h
  obtain ⟨E, m, o, us, E', m', o', vs, rfl, U, U', D, D', k1, k2, k3, k4⟩ := id k
  obtain ⟨b, hb⟩ : ∃ x, decide (r < 0) = x := ⟨_, rfl⟩
  obtain ⟨d, hd⟩ : ∃ x, decide (q < 0) = x := ⟨_, rfl⟩
  rw [hb] at h
  rw [hd] at k
  rw [hb, hd]
  have hL2' : 2 ≤ L := hL2
  have tx : tl xs ≤ L := Nat.le_trans (tl_le _) (by rw [R.len]; exact h1)
  have ty : tl ys ≤ L := Nat.le_trans (tl_le _) (by rw [R'.len]; exact h2)
  have tu : tl us ≤ L := Nat.le_trans (tl_le _) (by rw [U.len]; exact k1)
  have tv : tl vs ≤ L := Nat.le_trans (tl_le _) (by rw [U'.len]; exact k2)
  obtain ⟨g1, eg1⟩ : ∃ x, Nat.gcd (val xs) (val vs) = x := ⟨_, rfl⟩
  obtain ⟨g2, eg2⟩ : ∃ x, Nat.gcd (val us) (val ys) = x := ⟨_, rfl⟩
  have hxp : 0 < val xs := by rw [h3]; exact num_pos_of_ne hr0
  have hup : 0 < val us := by rw [k3]; exact num_pos_of_ne hq0
  have GP1 : Hid (0 < g1) := Lib.hid (by rw [← eg1]; exact Nat.gcd_pos_of_pos_left _ hxp)
  have GP2 : Hid (0 < g2) := Lib.hid (by rw [← eg2]; exact Nat.gcd_pos_of_pos_left _ hup)
  have HF : Hid (∀ (W : World) (A1 : Option Addr) (n1 c1 : Nat) (A2 : Option Addr) (n2 c2 : Nat), Nm W A1 n1 c1 (val xs / g1 * (val us / g2)) (L + L) → Nm W A2 n2 c2 (val ys / g2 * (val vs / g1)) (L + L) → IsR W (.agg #[.bool (b != d), .slice A1 n1 c1, .slice A2 n2 c2]) (r * q) (L + L)) := Lib.hid (by
    rw [← hb, ← hd, ← eg1, ← eg2, h3, h4, k3, k4, dn_ne hr0, dn_ne hq0]
    exact fun W A1 n1 c1 A2 n2 c2 => isR_product hr0 hq0)
  have HZ1 := Lib.hid (decide_eq_false hr0)
  have HZ2 := Lib.hid (decide_eq_false hq0)
  have E1 := Lib.hid eg1
  have E2 := Lib.hid eg2
  clear hb hd hr0 hq0 eg1 eg2 hxp hup h3 h4 k3 k4 hL2'
  have B : On w (((w.alloc (.cells #[.bool b, .slice A n c, .slice A' n' c'] 24)).alloc (.cells #[.bool d, .slice E m o, .slice E' m' o'] 24)).alloc (.cells #[.bool false, .slice none 0 0, .slice none 0 0] 24)) := On.alloc (On.alloc (On.alloc (On.refl w) _) _) _
  have OB2 : w.heap.size ≤ w.heap.size ∧ Own (((w.alloc (.cells #[.bool b, .slice A n c, .slice A' n' c'] 24)).alloc (.cells #[.bool d, .slice E m o, .slice E' m' o'] 24)).alloc (.cells #[.bool false, .slice none 0 0, .slice none 0 0] 24)) (w.heap.size) 24 #[.bool b, .slice A n c, .slice A' n' c'] := ⟨by omega, (((Own.at_ w (w.heap.size) (by simp) 24 #[.bool b, .slice A n c, .slice A' n' c']).alloc (.cells #[.bool d, .slice E m o, .slice E' m' o'] 24)).alloc (.cells #[.bool false, .slice none 0 0, .slice none 0 0] 24))⟩
  have OB3 : w.heap.size ≤ w.heap.size + 1 ∧ Own (((w.alloc (.cells #[.bool b, .slice A n c, .slice A' n' c'] 24)).alloc (.cells #[.bool d, .slice E m o, .slice E' m' o'] 24)).alloc (.cells #[.bool false, .slice none 0 0, .slice none 0 0] 24)) (w.heap.size + 1) 24 #[.bool d, .slice E m o, .slice E' m' o'] := ⟨by omega, ((Own.at_ (w.alloc (.cells #[.bool b, .slice A n c, .slice A' n' c'] 24)) (w.heap.size + 1) (by simp) 24 #[.bool d, .slice E m o, .slice E' m' o']).alloc (.cells #[.bool false, .slice none 0 0, .slice none 0 0] 24))⟩
  have OB4 : w.heap.size ≤ w.heap.size + 2 ∧ Own (((w.alloc (.cells #[.bool b, .slice A n c, .slice A' n' c'] 24)).alloc (.cells #[.bool d, .slice E m o, .slice E' m' o'] 24)).alloc (.cells #[.bool false, .slice none 0 0, .slice none 0 0] 24)) (w.heap.size + 2) 24 #[.bool false, .slice none 0 0, .slice none 0 0] := ⟨by omega, (Own.at_ ((w.alloc (.cells #[.bool b, .slice A n c, .slice A' n' c'] 24)).alloc (.cells #[.bool d, .slice E m o, .slice E' m' o'] 24)) (w.heap.size + 2) (by simp) 24 #[.bool false, .slice none 0 0, .slice none 0 0])⟩
  have OBB := OB4
  go_enter Tryz.func123, Tryz.ntmps123
  go_wp2_with fail
  refine (iszero_any _ _ _ _ (h.on B)).mono ?_
  rintro e w5 ⟨rfl, P5⟩
  rw [HZ1.out]
  have a20 := (OB2.2.on P5).cell 0
  have a30 : w5.cell? ⟨w.heap.size + 1, 0, none⟩ = some (.bool d) := (OB3.2.on P5).cell 0
  have a31 : w5.cell? ⟨w.heap.size + 1, 1, none⟩ = some (.slice E m o) := (OB3.2.on P5).cell 1
  have a32 : w5.cell? ⟨w.heap.size + 1, 2, none⟩ = some (.slice E' m' o') := (OB3.2.on P5).cell 2
  clear a20
  go_wp2_with fail
  refine (iszero_any _ _ _ _ ((k.on B).on P5)).mono ?_
  rintro e w6 ⟨rfl, P6⟩
  rw [HZ2.out]
  clear a30 a31 a32
  have B6 := (B.trans P5).trans P6
  have OC2 := OB2.2.on (P5.trans P6)
  have OC3 := OB3.2.on (P5.trans P6)
  have OC4 := OB4.2.on (P5.trans P6)
  clear OB2 OB3 OB4 OBB B P5 P6
  have B := B6
  clear B6
  have OB2 : w.heap.size ≤ w.heap.size ∧ Own w6 w.heap.size 24 #[.bool b, .slice A n c, .slice A' n' c'] := ⟨by omega, OC2⟩
  have OB3 : w.heap.size ≤ w.heap.size + 1 ∧ Own w6 (w.heap.size + 1) 24 #[.bool d, .slice E m o, .slice E' m' o'] := ⟨by omega, OC3⟩
  have OB4 : w.heap.size ≤ w.heap.size + 2 ∧ Own w6 (w.heap.size + 2) 24 #[.bool false, .slice none 0 0, .slice none 0 0] := ⟨by omega, OC4⟩
  clear OC2 OC3 OC4
  go_wp2
  refine wp_region_facts (by kernel_rfl) w [Fact.eq (.pointer (some ⟨w.heap.size, 1, none⟩)), Fact.eq (.slice A n c), Fact.eq (.pointer (some ⟨w.heap.size + 1, 2, none⟩)), Fact.eq (.slice E' m' o'), Fact.nm (Nat.gcd (val xs) (val vs)) (L), Fact.eq (.pointer (some ⟨w.heap.size + 1, 1, none⟩)), Fact.eq (.slice E m o), Fact.eq (.pointer (some ⟨w.heap.size, 2, none⟩)), Fact.eq (.slice A' n' c'), Fact.nm (Nat.gcd (val us) (val ys)) (L), Fact.nm (Nat.gcd (val xs) (val vs)) (L), Fact.nm (Nat.gcd (val us) (val ys)) (L)] [Fact.any, Fact.any, Fact.any] [⟨12, 2, 24, 12, #[.bool b, .slice A n c, .slice A' n' c']⟩, ⟨12, 3, 24, 12, #[.bool d, .slice E m o, .slice E' m' o']⟩, ⟨12, 4, 24, 12, #[.bool false, .slice none 0 0, .slice none 0 0]⟩] [w.heap.size, w.heap.size + 1, w.heap.size + 2] [none, none, none, none, none, some 5, some 6, none, none, none, none, none, none, none, none, none, some 16, some 17, some 18, some 19, some 20, some 21, some 22, some 23, some 24, some 25, none, none, none, none, none, none, none, none, none, none, none, none, none, none, none, none, none, none, none, none, none, none, none, none, none, none] (by kernel_rfl) (by kernel_rfl) (by kernel_rfl) rfl B ?_ ?_ ?_ ?_ ?_
  · exact ⟨fun _ => ⟨by simp, rfl, OB2⟩, fun _ => ⟨by simp, rfl, OB3⟩, fun _ => ⟨by simp, rfl, OB4⟩, trivial⟩
  · exact .inl ⟨Nat.le_refl _, Nat.le_refl _, Nat.le_refl _, trivial⟩
  · exact ⟨⟨noWords_R _ _ _ _ _ _ _, (.inl (Nat.le_refl _)), (.inl (Nat.le_refl _))⟩, ⟨noWords_R _ _ _ _ _ _ _, (.inl (Nat.le_refl _)), (.inl (Nat.le_refl _))⟩, ⟨noWords_R _ _ _ _ _ _ _, (.inl (Nat.le_refl _)), (.inl (Nat.le_refl _))⟩, trivial⟩
  · refine ⟨?_, ?_, ?_, ?_, ?_, ?_, ?_, ?_, ?_, ?_, ?_, ?_, trivial⟩
    · exact .inr fun a w hp => ob_yes rfl (ob_fieldR (hp.box (k := 0) rfl (Nat.le_refl _) (.inl (Nat.le_refl _)) (by kernel_rfl) rfl).1 (by decide) rfl)
    · exact .inr fun a w hp => ob_yes rfl (ob_loadS (hp.fact 0 16 (by kernel_rfl) rfl) (hp.box (k := 0) rfl (Nat.le_refl _) (.inl (Nat.le_refl _)) (by kernel_rfl) rfl).2 rfl rfl)
    · exact .inr fun a w hp => ob_yes rfl (ob_fieldR (hp.box (k := 1) rfl (Nat.le_refl _) (.inl (Nat.le_refl _)) (by kernel_rfl) rfl).1 (by decide) rfl)
    · exact .inr fun a w hp => ob_yes rfl (ob_loadS (hp.fact 2 18 (by kernel_rfl) rfl) (hp.box (k := 1) rfl (Nat.le_refl _) (.inl (Nat.le_refl _)) (by kernel_rfl) rfl).2 rfl rfl)
    · refine .inr fun a w hp => ob_yes rfl ?_
      have h17 : a.tmps.getD 17 undef = .slice A n c := (hp.fact 1 17 (by kernel_rfl) rfl)
      have h19 : a.tmps.getD 19 undef = .slice E' m' o' := (hp.fact 3 19 (by kernel_rfl) rfl)
      unfold Does
      go_simp
      refine (gcd_any _ _ _ _ _ _ _ L _ _ (R.on hp.on) (U'.on hp.on) (by omega) (by omega) tx tv hL2 (by omega)).mono ?_
      rintro e w' ⟨A8, n8, c8, rfl, N8, P8⟩
      exact ⟨_, rfl, P8, A8, n8, c8, rfl, N8⟩
    · exact .inr fun a w hp => ob_yes rfl (ob_fieldR (hp.box (k := 1) rfl (Nat.le_refl _) (.inl (Nat.le_refl _)) (by kernel_rfl) rfl).1 (by decide) rfl)
    · exact .inr fun a w hp => ob_yes rfl (ob_loadS (hp.fact 5 21 (by kernel_rfl) rfl) (hp.box (k := 1) rfl (Nat.le_refl _) (.inl (Nat.le_refl _)) (by kernel_rfl) rfl).2 rfl rfl)
    · exact .inr fun a w hp => ob_yes rfl (ob_fieldR (hp.box (k := 0) rfl (Nat.le_refl _) (.inl (Nat.le_refl _)) (by kernel_rfl) rfl).1 (by decide) rfl)
    · exact .inr fun a w hp => ob_yes rfl (ob_loadS (hp.fact 7 23 (by kernel_rfl) rfl) (hp.box (k := 0) rfl (Nat.le_refl _) (.inl (Nat.le_refl _)) (by kernel_rfl) rfl).2 rfl rfl)
    · refine .inr fun a w hp => ob_yes rfl ?_
      have h22 : a.tmps.getD 22 undef = .slice E m o := (hp.fact 6 22 (by kernel_rfl) rfl)
      have h24 : a.tmps.getD 24 undef = .slice A' n' c' := (hp.fact 8 24 (by kernel_rfl) rfl)
      unfold Does
      go_simp
      refine (gcd_any _ _ _ _ _ _ _ L _ _ (U.on hp.on) (R'.on hp.on) (by omega) (by omega) tu ty hL2 (by omega)).mono ?_
      rintro e w' ⟨A8, n8, c8, rfl, N8, P8⟩
      exact ⟨_, rfl, P8, A8, n8, c8, rfl, N8⟩
    · exact .inr fun a w hp => ob_yes rfl (ob_assign (hp.fact 4 20 (by kernel_rfl) rfl))
    · exact .inr fun a w hp => ob_yes rfl (ob_assign (hp.fact 9 25 (by kernel_rfl) rfl))
  · intro f wr hon hk hf hb hap
    obtain ⟨q0, q1, q2, qz⟩ := hb
    clear qz
    have O2 : Own wr (w.heap.size) 24 #[.bool b, .slice A n c, .slice A' n' c'] := q0
    have c2_0 : wr.cell? ⟨w.heap.size, 0, none⟩ = some (.bool b) := O2.cell 0
    have z2_0 := O2.frozen 0
    have c2_1 : wr.cell? ⟨w.heap.size, 1, none⟩ = some (.slice A n c) := O2.cell 1
    have z2_1 := O2.frozen 1
    have c2_2 : wr.cell? ⟨w.heap.size, 2, none⟩ = some (.slice A' n' c') := O2.cell 2
    have z2_2 := O2.frozen 2
    clear q0
    have O3 : Own wr (w.heap.size + 1) 24 #[.bool d, .slice E m o, .slice E' m' o'] := q1
    have c3_0 : wr.cell? ⟨w.heap.size + 1, 0, none⟩ = some (.bool d) := O3.cell 0
    have z3_0 := O3.frozen 0
    have c3_1 : wr.cell? ⟨w.heap.size + 1, 1, none⟩ = some (.slice E m o) := O3.cell 1
    have z3_1 := O3.frozen 1
    have c3_2 : wr.cell? ⟨w.heap.size + 1, 2, none⟩ = some (.slice E' m' o') := O3.cell 2
    have z3_2 := O3.frozen 2
    clear q1
    have O4 : Own wr (w.heap.size + 2) 24 #[.bool false, .slice none 0 0, .slice none 0 0] := q2
    have c4_0 : wr.cell? ⟨w.heap.size + 2, 0, none⟩ = some (.bool false) := O4.cell 0
    have z4_0 := O4.frozen 0
    have c4_1 : wr.cell? ⟨w.heap.size + 2, 1, none⟩ = some (.slice none 0 0) := O4.cell 1
    have z4_1 := O4.frozen 1
    have c4_2 : wr.cell? ⟨w.heap.size + 2, 2, none⟩ = some (.slice none 0 0) := O4.cell 2
    have z4_2 := O4.frozen 2
    clear q2
    obtain ⟨A20, n20, c20, e20, h20⟩ : ∃ A n c, f 20 = .slice A n c ∧ Nm wr A n c (Nat.gcd (val xs) (val vs)) (L) := hf 4 20 rfl
    obtain ⟨A25, n25, c25, e25, h25⟩ : ∃ A n c, f 25 = .slice A n c ∧ Nm wr A n c (Nat.gcd (val us) (val ys)) (L) := hf 9 25 rfl
    obtain ⟨A5, n5, c5, e5, h5⟩ : ∃ A n c, f 5 = .slice A n c ∧ Nm wr A n c (Nat.gcd (val xs) (val vs)) (L) := hf 10 5 rfl
    obtain ⟨A6, n6, c6, e6, h6⟩ : ∃ A n c, f 6 = .slice A n c ∧ Nm wr A n c (Nat.gcd (val us) (val ys)) (L) := hf 11 6 rfl
    clear hf hap
    simp only [fillL, e20, e25, e5, e6]
    clear e20 e25 e5 e6
    have OB2 : w.heap.size ≤ w.heap.size ∧ Own wr (w.heap.size) 24 #[.bool b, .slice A n c, .slice A' n' c'] := ⟨by omega, O2⟩
    clear c2_0 z2_0 c2_1 z2_1 c2_2 z2_2 O2
    have OB3 : w.heap.size ≤ w.heap.size + 1 ∧ Own wr (w.heap.size + 1) 24 #[.bool d, .slice E m o, .slice E' m' o'] := ⟨by omega, O3⟩
    clear c3_0 z3_0 c3_1 z3_1 c3_2 z3_2 O3
    have OB4 : w.heap.size ≤ w.heap.size + 2 ∧ Own wr (w.heap.size + 2) 24 #[.bool false, .slice none 0 0, .slice none 0 0] := ⟨by omega, O4⟩
    clear c4_0 z4_0 c4_1 z4_1 c4_2 z4_2 O4
    clear B
    have B := hon
    clear hon
    rw [E1.out] at h20 h5
    rw [E2.out] at h25 h6
    clear h20 h25
    go_wp2
    refine wp_region_facts (by kernel_rfl) w [Fact.eq (.pointer (some ⟨w.heap.size, 1, none⟩)), Fact.eq (.slice A n c), Fact.nm (g1) (L), Fact.nm (val xs / g1) (L), Fact.eq (.pointer (some ⟨w.heap.size + 1, 1, none⟩)), Fact.eq (.slice E m o), Fact.nm (g2) (L), Fact.nm (val us / g2) (L), Fact.nm (val xs / g1 * (val us / g2)) (L + L), Fact.nm (val xs / g1 * (val us / g2)) (L + L)] [Fact.any, Fact.any, Fact.any] [⟨10, 2, 24, 10, #[.bool b, .slice A n c, .slice A' n' c']⟩, ⟨10, 3, 24, 10, #[.bool d, .slice E m o, .slice E' m' o']⟩, ⟨10, 4, 24, 10, #[.bool false, .slice none 0 0, .slice none 0 0]⟩] [w.heap.size, w.heap.size + 1, w.heap.size + 2] [none, none, none, none, none, none, none, some 7, none, none, none, none, none, none, none, none, none, none, none, none, none, none, none, none, none, none, some 26, some 27, some 28, some 29, some 30, some 31, some 32, some 33, some 34, none, none, none, none, none, none, none, none, none, none, none, none, none, none, none, none, none] (by kernel_rfl) (by kernel_rfl) (by kernel_rfl) rfl B ?_ ?_ ?_ ?_ ?_
    · exact ⟨fun _ => ⟨by simp, rfl, OB2⟩, fun _ => ⟨by simp, rfl, OB3⟩, fun _ => ⟨by simp, rfl, OB4⟩, trivial⟩
    · exact .inl ⟨Nat.le_refl _, Nat.le_refl _, Nat.le_refl _, trivial⟩
    · exact ⟨⟨noWords_R _ _ _ _ _ _ _, (.inl (Nat.le_refl _)), (.inl (Nat.le_refl _))⟩, ⟨noWords_R _ _ _ _ _ _ _, (.inl (Nat.le_refl _)), (.inl (Nat.le_refl _))⟩, ⟨noWords_R _ _ _ _ _ _ _, (.inl (Nat.le_refl _)), (.inl (Nat.le_refl _))⟩, trivial⟩
    · refine ⟨?_, ?_, ?_, ?_, ?_, ?_, ?_, ?_, ?_, ?_, trivial⟩
      · exact .inr fun a w hp => ob_yes rfl (ob_fieldR (hp.box (k := 0) rfl (Nat.le_refl _) (.inl (Nat.le_refl _)) (by kernel_rfl) rfl).1 (by decide) rfl)
      · exact .inr fun a w hp => ob_yes rfl (ob_loadS (hp.fact 0 26 (by kernel_rfl) rfl) (hp.box (k := 0) rfl (Nat.le_refl _) (.inl (Nat.le_refl _)) (by kernel_rfl) rfl).2 rfl rfl)
      · refine .inr fun a w hp => ob_yes rfl (ob_move ?_)
        rw [show a.tmps.getD 5 undef = _ from (hp.same 5 (by kernel_rfl))]
        exact ⟨_, _, _, rfl, h5.kept hp.kept⟩
      · refine .inr fun a w hp => ob_yes rfl ?_
        have h27 : a.tmps.getD 27 undef = .slice A n c := (hp.fact 1 27 (by kernel_rfl) rfl)
        obtain ⟨A28, n28, c28, e28, h28⟩ : ∃ A n c, a.tmps.getD 28 undef = .slice A n c ∧ Nm w A n c (g1) (L) := (hp.fact 2 28 (by kernel_rfl) rfl)
        unfold Does
        go_simp
        obtain ⟨gs, RG, CG, VG, LG⟩ := h28
        refine (quotient_any _ _ _ _ _ _ _ L _ _ (R.on hp.on) RG (by rw [VG]; exact GP1.out) (by omega) tx (Nat.le_trans (tl_le _) (by rw [RG.len]; exact LG)) hL2).mono ?_
        rintro e w' ⟨A8, n8, c8, rfl, N8, P8⟩
        rw [VG] at N8
        exact ⟨_, rfl, P8, A8, n8, c8, rfl, N8⟩
      · exact .inr fun a w hp => ob_yes rfl (ob_fieldR (hp.box (k := 1) rfl (Nat.le_refl _) (.inl (Nat.le_refl _)) (by kernel_rfl) rfl).1 (by decide) rfl)
      · exact .inr fun a w hp => ob_yes rfl (ob_loadS (hp.fact 4 30 (by kernel_rfl) rfl) (hp.box (k := 1) rfl (Nat.le_refl _) (.inl (Nat.le_refl _)) (by kernel_rfl) rfl).2 rfl rfl)
      · refine .inr fun a w hp => ob_yes rfl (ob_move ?_)
        rw [show a.tmps.getD 6 undef = _ from (hp.same 6 (by kernel_rfl))]
        exact ⟨_, _, _, rfl, h6.kept hp.kept⟩
      · refine .inr fun a w hp => ob_yes rfl ?_
        have h31 : a.tmps.getD 31 undef = .slice E m o := (hp.fact 5 31 (by kernel_rfl) rfl)
        obtain ⟨A32, n32, c32, e32, h32⟩ : ∃ A n c, a.tmps.getD 32 undef = .slice A n c ∧ Nm w A n c (g2) (L) := (hp.fact 6 32 (by kernel_rfl) rfl)
        unfold Does
        go_simp
        obtain ⟨gs, RG, CG, VG, LG⟩ := h32
        refine (quotient_any _ _ _ _ _ _ _ L _ _ (U.on hp.on) RG (by rw [VG]; exact GP2.out) (by omega) tu (Nat.le_trans (tl_le _) (by rw [RG.len]; exact LG)) hL2).mono ?_
        rintro e w' ⟨A8, n8, c8, rfl, N8, P8⟩
        rw [VG] at N8
        exact ⟨_, rfl, P8, A8, n8, c8, rfl, N8⟩
      · refine .inr fun a w hp => ob_yes rfl ?_
        obtain ⟨A29, n29, c29, e29, h29⟩ : ∃ A n c, a.tmps.getD 29 undef = .slice A n c ∧ Nm w A n c (val xs / g1) (L) := (hp.fact 3 29 (by kernel_rfl) rfl)
        obtain ⟨A33, n33, c33, e33, h33⟩ : ∃ A n c, a.tmps.getD 33 undef = .slice A n c ∧ Nm w A n c (val us / g2) (L) := (hp.fact 7 33 (by kernel_rfl) rfl)
        unfold Does
        go_simp
        obtain ⟨x1, RX, _, VX, LX⟩ := h29
        obtain ⟨x2, RY, _, VY, LY⟩ := h33
        refine (mul_any _ _ _ _ _ _ _ L L _ _ RX RY (Nat.le_trans (tl_le _) (by rw [RX.len]; exact LX)) (Nat.le_trans (tl_le _) (by rw [RY.len]; exact LY)) (by omega) (by omega)).mono ?_
        rintro e w' ⟨A8, n8, c8, rfl, N8, P8⟩
        rw [VX, VY] at N8
        exact ⟨_, rfl, P8, A8, n8, c8, rfl, N8⟩
      · exact .inr fun a w hp => ob_yes rfl (ob_assign (hp.fact 8 34 (by kernel_rfl) rfl))
    · intro f wq hon hk hf hb hap
      obtain ⟨q0, q1, q2, qz⟩ := hb
      clear qz
      have O2 : Own wq (w.heap.size) 24 #[.bool b, .slice A n c, .slice A' n' c'] := q0
      have c2_0 : wq.cell? ⟨w.heap.size, 0, none⟩ = some (.bool b) := O2.cell 0
      have z2_0 := O2.frozen 0
      have c2_1 : wq.cell? ⟨w.heap.size, 1, none⟩ = some (.slice A n c) := O2.cell 1
      have z2_1 := O2.frozen 1
      have c2_2 : wq.cell? ⟨w.heap.size, 2, none⟩ = some (.slice A' n' c') := O2.cell 2
      have z2_2 := O2.frozen 2
      clear q0
      have O3 : Own wq (w.heap.size + 1) 24 #[.bool d, .slice E m o, .slice E' m' o'] := q1
      have c3_0 : wq.cell? ⟨w.heap.size + 1, 0, none⟩ = some (.bool d) := O3.cell 0
      have z3_0 := O3.frozen 0
      have c3_1 : wq.cell? ⟨w.heap.size + 1, 1, none⟩ = some (.slice E m o) := O3.cell 1
      have z3_1 := O3.frozen 1
      have c3_2 : wq.cell? ⟨w.heap.size + 1, 2, none⟩ = some (.slice E' m' o') := O3.cell 2
      have z3_2 := O3.frozen 2
      clear q1
      have O4 : Own wq (w.heap.size + 2) 24 #[.bool false, .slice none 0 0, .slice none 0 0] := q2
      have c4_0 : wq.cell? ⟨w.heap.size + 2, 0, none⟩ = some (.bool false) := O4.cell 0
      have z4_0 := O4.frozen 0
      have c4_1 : wq.cell? ⟨w.heap.size + 2, 1, none⟩ = some (.slice none 0 0) := O4.cell 1
      have z4_1 := O4.frozen 1
      have c4_2 : wq.cell? ⟨w.heap.size + 2, 2, none⟩ = some (.slice none 0 0) := O4.cell 2
      have z4_2 := O4.frozen 2
      clear q2
      obtain ⟨A7, n7, c7, e7, h7⟩ : ∃ A n c, f 7 = .slice A n c ∧ Nm wq A n c (val xs / g1 * (val us / g2)) (L + L) := hf 9 7 rfl
      clear hf hap
      simp only [fillL, e7]
      clear e7
      have OB2 : w.heap.size ≤ w.heap.size ∧ Own wq (w.heap.size) 24 #[.bool b, .slice A n c, .slice A' n' c'] := ⟨by omega, O2⟩
      clear c2_0 z2_0 c2_1 z2_1 c2_2 z2_2 O2
      have OB3 : w.heap.size ≤ w.heap.size + 1 ∧ Own wq (w.heap.size + 1) 24 #[.bool d, .slice E m o, .slice E' m' o'] := ⟨by omega, O3⟩
      clear c3_0 z3_0 c3_1 z3_1 c3_2 z3_2 O3
      have OB4 : w.heap.size ≤ w.heap.size + 2 ∧ Own wq (w.heap.size + 2) 24 #[.bool false, .slice none 0 0, .slice none 0 0] := ⟨by omega, O4⟩
      clear c4_0 z4_0 c4_1 z4_1 c4_2 z4_2 O4
      clear B
      have B := hon
      clear hon
      replace h5 := h5.kept hk
      replace h6 := h6.kept hk
      clear hk
      go_wp2
      refine wp_region_facts (by kernel_rfl) w [Fact.eq (.pointer (some ⟨w.heap.size, 2, none⟩)), Fact.eq (.slice A' n' c'), Fact.nm (g2) (L), Fact.nm (val ys / g2) (L), Fact.eq (.pointer (some ⟨w.heap.size + 1, 2, none⟩)), Fact.eq (.slice E' m' o'), Fact.nm (g1) (L), Fact.nm (val vs / g1) (L), Fact.nm (val ys / g2 * (val vs / g1)) (L + L), Fact.nm (val ys / g2 * (val vs / g1)) (L + L)] [Fact.any, Fact.any, Fact.any] [⟨10, 2, 24, 10, #[.bool b, .slice A n c, .slice A' n' c']⟩, ⟨10, 3, 24, 10, #[.bool d, .slice E m o, .slice E' m' o']⟩, ⟨10, 4, 24, 10, #[.bool false, .slice none 0 0, .slice none 0 0]⟩] [w.heap.size, w.heap.size + 1, w.heap.size + 2] [none, none, none, none, none, none, none, none, some 8, none, none, none, none, none, none, none, none, none, none, none, none, none, none, none, none, none, none, none, none, none, none, none, none, none, none, some 35, some 36, some 37, some 38, some 39, some 40, some 41, some 42, some 43, none, none, none, none, none, none, none, none] (by kernel_rfl) (by kernel_rfl) (by kernel_rfl) rfl B ?_ ?_ ?_ ?_ ?_
      · exact ⟨fun _ => ⟨by simp, rfl, OB2⟩, fun _ => ⟨by simp, rfl, OB3⟩, fun _ => ⟨by simp, rfl, OB4⟩, trivial⟩
      · exact .inl ⟨Nat.le_refl _, Nat.le_refl _, Nat.le_refl _, trivial⟩
      · exact ⟨⟨noWords_R _ _ _ _ _ _ _, (.inl (Nat.le_refl _)), (.inl (Nat.le_refl _))⟩, ⟨noWords_R _ _ _ _ _ _ _, (.inl (Nat.le_refl _)), (.inl (Nat.le_refl _))⟩, ⟨noWords_R _ _ _ _ _ _ _, (.inl (Nat.le_refl _)), (.inl (Nat.le_refl _))⟩, trivial⟩
      · refine ⟨?_, ?_, ?_, ?_, ?_, ?_, ?_, ?_, ?_, ?_, trivial⟩
        · exact .inr fun a w hp => ob_yes rfl (ob_fieldR (hp.box (k := 0) rfl (Nat.le_refl _) (.inl (Nat.le_refl _)) (by kernel_rfl) rfl).1 (by decide) rfl)
        · exact .inr fun a w hp => ob_yes rfl (ob_loadS (hp.fact 0 35 (by kernel_rfl) rfl) (hp.box (k := 0) rfl (Nat.le_refl _) (.inl (Nat.le_refl _)) (by kernel_rfl) rfl).2 rfl rfl)
        · refine .inr fun a w hp => ob_yes rfl (ob_move ?_)
          rw [show a.tmps.getD 6 undef = _ from (hp.same 6 (by kernel_rfl))]
          exact ⟨_, _, _, rfl, h6.kept hp.kept⟩
        · refine .inr fun a w hp => ob_yes rfl ?_
          have h36 : a.tmps.getD 36 undef = .slice A' n' c' := (hp.fact 1 36 (by kernel_rfl) rfl)
          obtain ⟨A37, n37, c37, e37, h37⟩ : ∃ A n c, a.tmps.getD 37 undef = .slice A n c ∧ Nm w A n c (g2) (L) := (hp.fact 2 37 (by kernel_rfl) rfl)
          unfold Does
          go_simp
          obtain ⟨gs, RG, CG, VG, LG⟩ := h37
          refine (quotient_any _ _ _ _ _ _ _ L _ _ (R'.on hp.on) RG (by rw [VG]; exact GP2.out) (by omega) ty (Nat.le_trans (tl_le _) (by rw [RG.len]; exact LG)) hL2).mono ?_
          rintro e w' ⟨A8, n8, c8, rfl, N8, P8⟩
          rw [VG] at N8
          exact ⟨_, rfl, P8, A8, n8, c8, rfl, N8⟩
        · exact .inr fun a w hp => ob_yes rfl (ob_fieldR (hp.box (k := 1) rfl (Nat.le_refl _) (.inl (Nat.le_refl _)) (by kernel_rfl) rfl).1 (by decide) rfl)
        · exact .inr fun a w hp => ob_yes rfl (ob_loadS (hp.fact 4 39 (by kernel_rfl) rfl) (hp.box (k := 1) rfl (Nat.le_refl _) (.inl (Nat.le_refl _)) (by kernel_rfl) rfl).2 rfl rfl)
        · refine .inr fun a w hp => ob_yes rfl (ob_move ?_)
          rw [show a.tmps.getD 5 undef = _ from (hp.same 5 (by kernel_rfl))]
          exact ⟨_, _, _, rfl, h5.kept hp.kept⟩
        · refine .inr fun a w hp => ob_yes rfl ?_
          have h40 : a.tmps.getD 40 undef = .slice E' m' o' := (hp.fact 5 40 (by kernel_rfl) rfl)
          obtain ⟨A41, n41, c41, e41, h41⟩ : ∃ A n c, a.tmps.getD 41 undef = .slice A n c ∧ Nm w A n c (g1) (L) := (hp.fact 6 41 (by kernel_rfl) rfl)
          unfold Does
          go_simp
          obtain ⟨gs, RG, CG, VG, LG⟩ := h41
          refine (quotient_any _ _ _ _ _ _ _ L _ _ (U'.on hp.on) RG (by rw [VG]; exact GP1.out) (by omega) tv (Nat.le_trans (tl_le _) (by rw [RG.len]; exact LG)) hL2).mono ?_
          rintro e w' ⟨A8, n8, c8, rfl, N8, P8⟩
          rw [VG] at N8
          exact ⟨_, rfl, P8, A8, n8, c8, rfl, N8⟩
        · refine .inr fun a w hp => ob_yes rfl ?_
          obtain ⟨A38, n38, c38, e38, h38⟩ : ∃ A n c, a.tmps.getD 38 undef = .slice A n c ∧ Nm w A n c (val ys / g2) (L) := (hp.fact 3 38 (by kernel_rfl) rfl)
          obtain ⟨A42, n42, c42, e42, h42⟩ : ∃ A n c, a.tmps.getD 42 undef = .slice A n c ∧ Nm w A n c (val vs / g1) (L) := (hp.fact 7 42 (by kernel_rfl) rfl)
          unfold Does
          go_simp
          obtain ⟨x1, RX, _, VX, LX⟩ := h38
          obtain ⟨x2, RY, _, VY, LY⟩ := h42
          refine (mul_any _ _ _ _ _ _ _ L L _ _ RX RY (Nat.le_trans (tl_le _) (by rw [RX.len]; exact LX)) (Nat.le_trans (tl_le _) (by rw [RY.len]; exact LY)) (by omega) (by omega)).mono ?_
          rintro e w' ⟨A8, n8, c8, rfl, N8, P8⟩
          rw [VX, VY] at N8
          exact ⟨_, rfl, P8, A8, n8, c8, rfl, N8⟩
        · exact .inr fun a w hp => ob_yes rfl (ob_assign (hp.fact 8 43 (by kernel_rfl) rfl))
      · intro f wp hon hk hf hb hap
        obtain ⟨q0, q1, q2, qz⟩ := hb
        clear qz
        have O2 : Own wp (w.heap.size) 24 #[.bool b, .slice A n c, .slice A' n' c'] := q0
        have c2_0 : wp.cell? ⟨w.heap.size, 0, none⟩ = some (.bool b) := O2.cell 0
        have z2_0 := O2.frozen 0
        have c2_1 : wp.cell? ⟨w.heap.size, 1, none⟩ = some (.slice A n c) := O2.cell 1
        have z2_1 := O2.frozen 1
        have c2_2 : wp.cell? ⟨w.heap.size, 2, none⟩ = some (.slice A' n' c') := O2.cell 2
        have z2_2 := O2.frozen 2
        clear q0
        have O3 : Own wp (w.heap.size + 1) 24 #[.bool d, .slice E m o, .slice E' m' o'] := q1
        have c3_0 : wp.cell? ⟨w.heap.size + 1, 0, none⟩ = some (.bool d) := O3.cell 0
        have z3_0 := O3.frozen 0
        have c3_1 : wp.cell? ⟨w.heap.size + 1, 1, none⟩ = some (.slice E m o) := O3.cell 1
        have z3_1 := O3.frozen 1
        have c3_2 : wp.cell? ⟨w.heap.size + 1, 2, none⟩ = some (.slice E' m' o') := O3.cell 2
        have z3_2 := O3.frozen 2
        clear q1
        have O4 : Own wp (w.heap.size + 2) 24 #[.bool false, .slice none 0 0, .slice none 0 0] := q2
        have c4_0 : wp.cell? ⟨w.heap.size + 2, 0, none⟩ = some (.bool false) := O4.cell 0
        have z4_0 := O4.frozen 0
        have c4_1 : wp.cell? ⟨w.heap.size + 2, 1, none⟩ = some (.slice none 0 0) := O4.cell 1
        have z4_1 := O4.frozen 1
        have c4_2 : wp.cell? ⟨w.heap.size + 2, 2, none⟩ = some (.slice none 0 0) := O4.cell 2
        have z4_2 := O4.frozen 2
        clear q2
        obtain ⟨A8, n8, c8, e8, h8⟩ : ∃ A n c, f 8 = .slice A n c ∧ Nm wp A n c (val ys / g2 * (val vs / g1)) (L + L) := hf 9 8 rfl
        clear hf hap
        simp only [fillL, e8]
        clear e8
        replace h7 := h7.kept hk
        go_wp2
        have hon2 := on3 (g := w.heap.size + 2) hon (by omega) (.bool (b != d)) (.slice A7 n7 c7) (.slice A8 n8 c8)
        exact bodyPost_ret (v := .agg #[.bool (b != d), .slice A7 n7 c7, .slice A8 n8 c8]) (by simp [results, Tryz.results123, go_sem, c4_0, c4_1, c4_2] <;> (cases b <;> cases d <;> rfl)) rfl ⟨_, rfl, isR_put (HF.out _ _ _ _ _ _ _ h7 h8) O4 _ _ _, hon2⟩
end Num
end Go.Proofs.YtkchpagjkgmpmaaGreat
