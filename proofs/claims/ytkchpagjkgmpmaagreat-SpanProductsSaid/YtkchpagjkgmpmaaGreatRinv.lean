/-
  product of any two; inverse.
-/
import Derived.Test.YtkchpagjkgmpmaaGreatRpro
namespace Go.Proofs.YtkchpagjkgmpmaaGreat
open Go.RowKit
set_option linter.unusedVariables false
namespace Num
set_option maxRecDepth 100000 in
set_option maxHeartbeats 1600000 in
theorem product_z1 (w : World) (v v' : Value) (r q : Rat) (L : Nat) (h : IsR w v r L) (k : IsR w v' q L) (hr0 : r = 0) :
    Calls Tryz.prog 123 #[v, v'] w (RatPost w 0 (L + L)) := by
  obtain ⟨A, n, c, xs, A', n', c', ys, rfl, R, R', C, C', h1, h2, h3, h4⟩ := id h
  obtain ⟨E, m, o, us, E', m', o', vs, rfl, U, U', D, D', k1, k2, k3, k4⟩ := id k
  obtain ⟨b, hb⟩ : ∃ x, decide (r < 0) = x := ⟨_, rfl⟩
  obtain ⟨d, hd⟩ : ∃ x, decide (q < 0) = x := ⟨_, rfl⟩
  rw [hb] at h
  rw [hd] at k
  rw [hb, hd]
  have HZ1 := Lib.hid (decide_eq_true hr0)
  clear hb hd hr0 h3 h4 k3 k4
  have B : On w (((w.alloc (.cells #[.bool b, .slice A n c, .slice A' n' c'] 24)).alloc (.cells #[.bool d, .slice E m o, .slice E' m' o'] 24)).alloc (.cells #[.bool false, .slice none 0 0, .slice none 0 0] 24)) := On.alloc (On.alloc (On.alloc (On.refl w) _) _) _
  have OB2 : w.heap.size ≤ w.heap.size ∧ Own (((w.alloc (.cells #[.bool b, .slice A n c, .slice A' n' c'] 24)).alloc (.cells #[.bool d, .slice E m o, .slice E' m' o'] 24)).alloc (.cells #[.bool false, .slice none 0 0, .slice none 0 0] 24)) (w.heap.size) 24 #[.bool b, .slice A n c, .slice A' n' c'] := ⟨by omega, (((Own.at_ w (w.heap.size) (by simp) 24 #[.bool b, .slice A n c, .slice A' n' c']).alloc (.cells #[.bool d, .slice E m o, .slice E' m' o'] 24)).alloc (.cells #[.bool false, .slice none 0 0, .slice none 0 0] 24))⟩
  have OB3 : w.heap.size ≤ w.heap.size + 1 ∧ Own (((w.alloc (.cells #[.bool b, .slice A n c, .slice A' n' c'] 24)).alloc (.cells #[.bool d, .slice E m o, .slice E' m' o'] 24)).alloc (.cells #[.bool false, .slice none 0 0, .slice none 0 0] 24)) (w.heap.size + 1) 24 #[.bool d, .slice E m o, .slice E' m' o'] := ⟨by omega, ((Own.at_ (w.alloc (.cells #[.bool b, .slice A n c, .slice A' n' c'] 24)) (w.heap.size + 1) (by simp) 24 #[.bool d, .slice E m o, .slice E' m' o']).alloc (.cells #[.bool false, .slice none 0 0, .slice none 0 0] 24))⟩
  have OB4 : w.heap.size ≤ w.heap.size + 2 ∧ Own (((w.alloc (.cells #[.bool b, .slice A n c, .slice A' n' c'] 24)).alloc (.cells #[.bool d, .slice E m o, .slice E' m' o'] 24)).alloc (.cells #[.bool false, .slice none 0 0, .slice none 0 0] 24)) (w.heap.size + 2) 24 #[.bool false, .slice none 0 0, .slice none 0 0] := ⟨by omega, (Own.at_ ((w.alloc (.cells #[.bool b, .slice A n c, .slice A' n' c'] 24)).alloc (.cells #[.bool d, .slice E m o, .slice E' m' o'] 24)) (w.heap.size + 2) (by simp) 24 #[.bool false, .slice none 0 0, .slice none 0 0])⟩
  go_enter Tryz.func123, Tryz.ntmps123
  go_wp2_with fail
  refine (iszero_any _ _ _ _ (h.on B)).mono ?_
  rintro e w5 ⟨rfl, P5⟩
  rw [HZ1.out]
  have z0 : w5.cell? ⟨w.heap.size + 2, 0, none⟩ = some (.bool false) := (OB4.2.on P5).cell 0
  have z1 : w5.cell? ⟨w.heap.size + 2, 1, none⟩ = some (.slice none 0 0) := (OB4.2.on P5).cell 1
  have z2 : w5.cell? ⟨w.heap.size + 2, 2, none⟩ = some (.slice none 0 0) := (OB4.2.on P5).cell 2
  have zf0 := (OB4.2.on P5).frozen 0
  have zf1 := (OB4.2.on P5).frozen 1
  have zf2 := (OB4.2.on P5).frozen 2
  go_wp2
  have hon := on3 (g := w.heap.size + 2) (B.trans P5) (by omega) (.bool false) (.slice none 0 0) (.slice none 0 0)
  exact bodyPost_ret (v := .agg #[.bool false, .slice none 0 0, .slice none 0 0]) (by simp [results, Tryz.results123, go_sem, z0, z1, z2]) rfl ⟨_, rfl, isR_zero _ _, hon⟩
set_option maxRecDepth 100000 in
set_option maxHeartbeats 1600000 in
theorem product_z2 (w : World) (v v' : Value) (r q : Rat) (L : Nat) (h : IsR w v r L) (k : IsR w v' q L) (hr0 : r ≠ 0) (hq0 : q = 0) :
    Calls Tryz.prog 123 #[v, v'] w (RatPost w 0 (L + L)) := by
  obtain ⟨A, n, c, xs, A', n', c', ys, rfl, R, R', C, C', h1, h2, h3, h4⟩ := id h
  obtain ⟨E, m, o, us, E', m', o', vs, rfl, U, U', D, D', k1, k2, k3, k4⟩ := id k
  obtain ⟨b, hb⟩ : ∃ x, decide (r < 0) = x := ⟨_, rfl⟩
  obtain ⟨d, hd⟩ : ∃ x, decide (q < 0) = x := ⟨_, rfl⟩
  rw [hb] at h
  rw [hd] at k
  rw [hb, hd]
  have HZ1 := Lib.hid (decide_eq_false hr0)
  have HZ2 := Lib.hid (decide_eq_true hq0)
  clear hb hd hr0 h3 h4 k3 k4 hq0
  have B : On w (((w.alloc (.cells #[.bool b, .slice A n c, .slice A' n' c'] 24)).alloc (.cells #[.bool d, .slice E m o, .slice E' m' o'] 24)).alloc (.cells #[.bool false, .slice none 0 0, .slice none 0 0] 24)) := On.alloc (On.alloc (On.alloc (On.refl w) _) _) _
  have OB2 : w.heap.size ≤ w.heap.size ∧ Own (((w.alloc (.cells #[.bool b, .slice A n c, .slice A' n' c'] 24)).alloc (.cells #[.bool d, .slice E m o, .slice E' m' o'] 24)).alloc (.cells #[.bool false, .slice none 0 0, .slice none 0 0] 24)) (w.heap.size) 24 #[.bool b, .slice A n c, .slice A' n' c'] := ⟨by omega, (((Own.at_ w (w.heap.size) (by simp) 24 #[.bool b, .slice A n c, .slice A' n' c']).alloc (.cells #[.bool d, .slice E m o, .slice E' m' o'] 24)).alloc (.cells #[.bool false, .slice none 0 0, .slice none 0 0] 24))⟩
  have OB3 : w.heap.size ≤ w.heap.size + 1 ∧ Own (((w.alloc (.cells #[.bool b, .slice A n c, .slice A' n' c'] 24)).alloc (.cells #[.bool d, .slice E m o, .slice E' m' o'] 24)).alloc (.cells #[.bool false, .slice none 0 0, .slice none 0 0] 24)) (w.heap.size + 1) 24 #[.bool d, .slice E m o, .slice E' m' o'] := ⟨by omega, ((Own.at_ (w.alloc (.cells #[.bool b, .slice A n c, .slice A' n' c'] 24)) (w.heap.size + 1) (by simp) 24 #[.bool d, .slice E m o, .slice E' m' o']).alloc (.cells #[.bool false, .slice none 0 0, .slice none 0 0] 24))⟩
  have OB4 : w.heap.size ≤ w.heap.size + 2 ∧ Own (((w.alloc (.cells #[.bool b, .slice A n c, .slice A' n' c'] 24)).alloc (.cells #[.bool d, .slice E m o, .slice E' m' o'] 24)).alloc (.cells #[.bool false, .slice none 0 0, .slice none 0 0] 24)) (w.heap.size + 2) 24 #[.bool false, .slice none 0 0, .slice none 0 0] := ⟨by omega, (Own.at_ ((w.alloc (.cells #[.bool b, .slice A n c, .slice A' n' c'] 24)).alloc (.cells #[.bool d, .slice E m o, .slice E' m' o'] 24)) (w.heap.size + 2) (by simp) 24 #[.bool false, .slice none 0 0, .slice none 0 0])⟩
  go_enter Tryz.func123, Tryz.ntmps123
  go_wp2_with fail
  refine (iszero_any _ _ _ _ (h.on B)).mono ?_
  rintro e w5 ⟨rfl, P5⟩
  rw [HZ1.out]
  have y0 : w5.cell? ⟨w.heap.size + 1, 0, none⟩ = some (.bool d) := (OB3.2.on P5).cell 0
  have y1 : w5.cell? ⟨w.heap.size + 1, 1, none⟩ = some (.slice E m o) := (OB3.2.on P5).cell 1
  have y2 : w5.cell? ⟨w.heap.size + 1, 2, none⟩ = some (.slice E' m' o') := (OB3.2.on P5).cell 2
  have yf0 := (OB3.2.on P5).frozen 0
  have yf1 := (OB3.2.on P5).frozen 1
  have yf2 := (OB3.2.on P5).frozen 2
  go_wp2_with fail
  refine (iszero_any _ _ _ _ ((k.on B).on P5)).mono ?_
  rintro e w6 ⟨rfl, P6⟩
  rw [HZ2.out]
  have z0 : w6.cell? ⟨w.heap.size + 2, 0, none⟩ = some (.bool false) := (OB4.2.on (P5.trans P6)).cell 0
  have z1 : w6.cell? ⟨w.heap.size + 2, 1, none⟩ = some (.slice none 0 0) := (OB4.2.on (P5.trans P6)).cell 1
  have z2 : w6.cell? ⟨w.heap.size + 2, 2, none⟩ = some (.slice none 0 0) := (OB4.2.on (P5.trans P6)).cell 2
  have zf0 := (OB4.2.on (P5.trans P6)).frozen 0
  have zf1 := (OB4.2.on (P5.trans P6)).frozen 1
  have zf2 := (OB4.2.on (P5.trans P6)).frozen 2
  go_wp2
  have hon := on3 (g := w.heap.size + 2) ((B.trans P5).trans P6) (by omega) (.bool false) (.slice none 0 0) (.slice none 0 0)
  exact bodyPost_ret (v := .agg #[.bool false, .slice none 0 0, .slice none 0 0]) (by simp [results, Tryz.results123, go_sem, z0, z1, z2]) rfl ⟨_, rfl, isR_zero _ _, hon⟩
theorem product_any (w : World) (v v' : Value) (r q : Rat) (L : Nat) (h : IsR w v r L) (k : IsR w v' q L) (hL2 : 2 ≤ L) (hL : L ≤ 5000) :
    Calls Tryz.prog 123 #[v, v'] w (RatPost w (r * q) (L + L)) := by
  by_cases h1 : r = 0
  · have := product_z1 w v v' r q L h k h1
    rw [h1, Rat.zero_mul]; exact this
  · by_cases h2 : q = 0
    · have := product_z2 w v v' r q L h k h1 h2
      rw [h2, Rat.mul_zero]; exact this
    · exact product_ne w v v' r q L h k hL2 hL h1 h2
theorem inv_fr {r : Rat} (h : r ≠ 0) : r⁻¹ = fr (decide (r < 0)) r.den r.num.natAbs := by
  have h0 : r.num ≠ 0 := fun e => h (Rat.num_eq_zero.1 e)
  unfold fr
  rw [Rat.inv_def]
  have hs : decide (r < 0) = decide (r.num < 0) := by simp only [rat_neg_iff]
  rw [hs]
  rcases Int.lt_or_gt_of_ne h0 with hl | hl
  · have : r.num = -(r.num.natAbs : Int) := by omega
    rw [show decide (r.num < 0) = true from decide_eq_true hl]
    conv => lhs; rw [this]
    rw [Rat.divInt_neg']
    unfold sgn
    rw [if_pos rfl, Rat.divInt_ofNat]
  · have : r.num = (r.num.natAbs : Int) := by omega
    rw [show decide (r.num < 0) = false from decide_eq_false (by omega)]
    conv => lhs; rw [this]
    unfold sgn
    rw [if_neg (by decide), Rat.divInt_ofNat]
set_option maxRecDepth 100000 in
set_option maxHeartbeats 1600000 in
theorem inverse_any (w : World) (v : Value) (r : Rat) (L : Nat) (h : IsR w v r L) (hr0 : r ≠ 0) :
    Calls Tryz.prog 124 #[v] w (RatPost w r⁻¹ L) := by
  obtain ⟨A, n, c, xs, A', n', c', ys, rfl, R, R', C, C', h1, h2, h3, h4⟩ := id h
  have HF : Hid (∀ W, On w W → IsR W (.agg #[.bool (decide (r < 0)), .slice A' n' c', .slice A n c]) r⁻¹ L) := Lib.hid (fun W hW => by
    rw [inv_fr hr0, ← h3, ← dn_ne hr0, ← h4]
    refine isR_one (R'.on hW) (R.on hW) C' C h2 h1 ?_ ?_ ?_
    · rw [h4, dn_ne hr0]; exact r.den_pos
    · rw [h3]; exact num_pos_of_ne hr0
    · rw [h3, h4, dn_ne hr0, Nat.gcd_comm]; exact r.reduced)
  obtain ⟨b, hb⟩ : ∃ x, decide (r < 0) = x := ⟨_, rfl⟩
  rw [hb] at h HF ⊢
  clear hb hr0 h3 h4
  have B : On w ((w.alloc (.cells #[.bool b, .slice A n c, .slice A' n' c'] 24)).alloc (.cells #[.bool false, .slice none 0 0, .slice none 0 0] 24)) := On.alloc (On.alloc (On.refl w) _) _
  have OB1 : w.heap.size ≤ w.heap.size ∧ Own ((w.alloc (.cells #[.bool b, .slice A n c, .slice A' n' c'] 24)).alloc (.cells #[.bool false, .slice none 0 0, .slice none 0 0] 24)) (w.heap.size) 24 #[.bool b, .slice A n c, .slice A' n' c'] := ⟨by omega, ((Own.at_ w (w.heap.size) (by simp) 24 #[.bool b, .slice A n c, .slice A' n' c']).alloc (.cells #[.bool false, .slice none 0 0, .slice none 0 0] 24))⟩
  have OB2 : w.heap.size ≤ w.heap.size + 1 ∧ Own ((w.alloc (.cells #[.bool b, .slice A n c, .slice A' n' c'] 24)).alloc (.cells #[.bool false, .slice none 0 0, .slice none 0 0] 24)) (w.heap.size + 1) 24 #[.bool false, .slice none 0 0, .slice none 0 0] := ⟨by omega, (Own.at_ (w.alloc (.cells #[.bool b, .slice A n c, .slice A' n' c'] 24)) (w.heap.size + 1) (by simp) 24 #[.bool false, .slice none 0 0, .slice none 0 0])⟩
  have a0 := OB1.2.cell 0
  have a1 := OB1.2.cell 1
  have a2 := OB1.2.cell 2
  have f0 := OB1.2.frozen 0
  have f1 := OB1.2.frozen 1
  have f2 := OB1.2.frozen 2
  have r0 := OB2.2.cell 0
  have r1 := OB2.2.cell 1
  have r2 := OB2.2.cell 2
  have g0 := OB2.2.frozen 0
  have g1 := OB2.2.frozen 1
  have g2 := OB2.2.frozen 2
  go_enter Tryz.func124, Tryz.ntmps124
  go_wp2
  have hon := ((On.refl w).alloc (.cells #[.bool b, .slice A' n' c', .slice A n c] 24)).alloc (.cells #[.bool b, .slice A' n' c', .slice A n c] 24)
  exact bodyPost_ret (v := .agg #[.bool b, .slice A' n' c', .slice A n c]) (by simp [results, Tryz.results124, go_sem]) rfl ⟨_, rfl, HF.out _ hon, hon⟩
end Num
end Go.Proofs.YtkchpagjkgmpmaaGreat
