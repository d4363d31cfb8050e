/-
  The specification's Power of fractions.
-/
import Derived.Test.YtikmjlaeadockaaGreatZdiv
namespace Go.Proofs.YtikmjlaeadockaaGreat
open Go.RowKit
set_option linter.unusedVariables false
namespace Num
theorem Fld.num_lt {w : World} {v : Value} {r : Rat} {L : Nat} (h : Fld w v r L) (hL : 1 ≤ L) : r.num.natAbs < BB ^ L ∧ r.den < BB ^ L := by
  obtain ⟨s, A, n, c, A', n', c', xs, ys, _, R, R', h1, h2, h3⟩ := h
  by_cases hf : fitB s xs ys = true ∧ 0 < xs.length
  · obtain ⟨C, C', p1, p2, g⟩ := fit_parts hf.1 hf.2
    rw [raw_fit hf.1 hf.2] at h3
    rw [← h3, fr_abs _ _ _ p2, fr_den _ _ _ p2, g, Nat.div_one, Nat.div_one]
    exact ⟨Nat.lt_of_lt_of_le (val_lt R.ok) (Nat.pow_le_pow_right (by decide) (by rw [R.len]; exact h1)), Nat.lt_of_lt_of_le (val_lt R'.ok) (Nat.pow_le_pow_right (by decide) (by rw [R'.len]; exact h2))⟩
  · have h0 : r = 0 := by
      rw [← h3]; unfold raw
      rw [if_neg (fun e => hf ⟨decide_eq_true e.1, e.2⟩)]
    subst h0
    have h1 : 1 < BB ^ L := Nat.one_lt_pow (by omega) (by decide)
    exact ⟨Nat.lt_trans Nat.zero_lt_one h1, h1⟩
theorem rpow_lt {r : Rat} {L m k M : Nat} (h : r.num.natAbs < BB ^ L ∧ r.den < BB ^ L) (hk : k ≤ m) (hM : L * m < M) : (r ^ k).num.natAbs < BB ^ M ∧ dn (r ^ k) < BB ^ M := by
  have h1 := powl_lt _ k m L M h.1 hk hM
  have h2 := powl_lt _ k m L M h.2 hk hM
  refine ⟨by rw [Rat.num_pow, Int.natAbs_pow]; exact h1, ?_⟩
  unfold dn
  split
  · exact Nat.pow_pos (by decide)
  · rw [Rat.den_pow]; exact h2
theorem rpow_ne {r : Rat} (h : r ≠ 0) (k : Nat) : r ^ k ≠ 0 := by
  intro e
  have h1 : (r ^ k).num = 0 := by rw [e]; rfl
  rw [Rat.num_pow] at h1
  have h2 : r.num ≠ 0 := fun e2 => h (Rat.num_eq_zero.1 e2)
  exact (Int.pow_ne_zero h2) h1
set_option maxRecDepth 100000 in
set_option maxHeartbeats 1600000 in
theorem spow_range (w : World) (v : Value) (r : Rat) (L : Nat) (h : Fld w v r L) (a : Int) (ha : a < -64 ∨ 64 < a) :
    Calls Tryz.prog 24 #[v, .int .i64 a] w (RatPost2 w 0 2 (.int .i64 3)) := by
  obtain ⟨b, A, n, c, A', n', c', xs, ys, rfl, R, R', h1, h2, h3⟩ := id h
  clear h3
  have hd : decide (a < -64) = true ∨ (decide (a < -64) = false ∧ decide (64 < a) = true) := by
    rcases ha with e | e
    · exact .inl (decide_eq_true e)
    · exact .inr ⟨decide_eq_false (by omega), decide_eq_true e⟩
  clear ha
  have B : On w ((w.alloc (.cells #[.bool b, .slice A n c, .slice A' n' c'] 24)).alloc (.cells #[.bool false, .slice none 0 0, .slice none 0 0] 24)) := On.alloc (On.alloc (On.refl w) _) _
  have OB2 : w.heap.size ≤ w.heap.size ∧ Own ((w.alloc (.cells #[.bool b, .slice A n c, .slice A' n' c'] 24)).alloc (.cells #[.bool false, .slice none 0 0, .slice none 0 0] 24)) (w.heap.size) 24 #[.bool b, .slice A n c, .slice A' n' c'] := ⟨by omega, ((Own.at_ w (w.heap.size) (by simp) 24 #[.bool b, .slice A n c, .slice A' n' c']).alloc (.cells #[.bool false, .slice none 0 0, .slice none 0 0] 24))⟩
  have OB4 : w.heap.size ≤ w.heap.size + 1 ∧ Own ((w.alloc (.cells #[.bool b, .slice A n c, .slice A' n' c'] 24)).alloc (.cells #[.bool false, .slice none 0 0, .slice none 0 0] 24)) (w.heap.size + 1) 24 #[.bool false, .slice none 0 0, .slice none 0 0] := ⟨by omega, (Own.at_ (w.alloc (.cells #[.bool b, .slice A n c, .slice A' n' c'] 24)) (w.heap.size + 1) (by simp) 24 #[.bool false, .slice none 0 0, .slice none 0 0])⟩
  rcases hd with h1 | ⟨h1, h2⟩
  all_goals
    go_enter Tryz.func24, Tryz.ntmps24
    have y4_0 : ((w.alloc (.cells #[.bool b, .slice A n c, .slice A' n' c'] 24)).alloc (.cells #[.bool false, .slice none 0 0, .slice none 0 0] 24)).cell? ⟨w.heap.size + 1, 0, none⟩ = some (.bool false) := OB4.2.cell 0
    have y4_1 : ((w.alloc (.cells #[.bool b, .slice A n c, .slice A' n' c'] 24)).alloc (.cells #[.bool false, .slice none 0 0, .slice none 0 0] 24)).cell? ⟨w.heap.size + 1, 1, none⟩ = some (.slice none 0 0) := OB4.2.cell 1
    have y4_2 : ((w.alloc (.cells #[.bool b, .slice A n c, .slice A' n' c'] 24)).alloc (.cells #[.bool false, .slice none 0 0, .slice none 0 0] 24)).cell? ⟨w.heap.size + 1, 2, none⟩ = some (.slice none 0 0) := OB4.2.cell 2
    have y4_f0 := OB4.2.frozen 0
    have y4_f1 := OB4.2.frozen 1
    have y4_f2 := OB4.2.frozen 2
    go_wp2
    exact bodyPost_ret (v := .tuple #[.agg #[.bool false, .slice none 0 0, .slice none 0 0], .int .i64 3]) (by simp [results, Tryz.results24, go_sem, y4_0, y4_1, y4_2]) rfl ⟨_, rfl, isR_zero _ _, B⟩
set_option maxRecDepth 100000 in
set_option maxHeartbeats 1600000 in
theorem spow_pos (w : World) (v : Value) (r : Rat) (L : Nat) (h : Fld w v r L) (hL1 : 1 ≤ L) (hL : L ≤ 12) (m : Nat) (hm : m ≤ 64) (hLm : L * m < 193) :
    Calls Tryz.prog 24 #[v, .int .i64 (m : Int)] w (RatPost2 w (r ^ m) 193 (.int .i64 0)) := by
  obtain ⟨b, A, n, c, A', n', c', xs, ys, rfl, R, R', h1, h2, h3⟩ := id h
  clear h3
  have HB := Lib.hid (h.num_lt hL1)
  have HLM := Lib.hid hLm
  clear hLm
  have B : On w ((w.alloc (.cells #[.bool b, .slice A n c, .slice A' n' c'] 24)).alloc (.cells #[.bool false, .slice none 0 0, .slice none 0 0] 24)) := On.alloc (On.alloc (On.refl w) _) _
  have OB2 : w.heap.size ≤ w.heap.size ∧ Own ((w.alloc (.cells #[.bool b, .slice A n c, .slice A' n' c'] 24)).alloc (.cells #[.bool false, .slice none 0 0, .slice none 0 0] 24)) (w.heap.size) 24 #[.bool b, .slice A n c, .slice A' n' c'] := ⟨by omega, ((Own.at_ w (w.heap.size) (by simp) 24 #[.bool b, .slice A n c, .slice A' n' c']).alloc (.cells #[.bool false, .slice none 0 0, .slice none 0 0] 24))⟩
  have OB4 : w.heap.size ≤ w.heap.size + 1 ∧ Own ((w.alloc (.cells #[.bool b, .slice A n c, .slice A' n' c'] 24)).alloc (.cells #[.bool false, .slice none 0 0, .slice none 0 0] 24)) (w.heap.size + 1) 24 #[.bool false, .slice none 0 0, .slice none 0 0] := ⟨by omega, (Own.at_ (w.alloc (.cells #[.bool b, .slice A n c, .slice A' n' c'] 24)) (w.heap.size + 1) (by simp) 24 #[.bool false, .slice none 0 0, .slice none 0 0])⟩
  go_enter Tryz.func24, Tryz.ntmps24
  go_wp2_with fail
  refine (rofr_any _ 1 (by decide) (by decide)).mono ?_
  rintro e w5 ⟨v5, rfl, I5, P5⟩
  obtain ⟨S6, Sn6, Sc6, _, T6, Tn6, Tc6, _, rfl, _⟩ := id I5
  obtain ⟨s6, hs6⟩ : ∃ x, decide (((1 : Int) : Rat) < 0) = x := ⟨_, rfl⟩
  rw [hs6] at I5
  try rw [hs6]
  clear hs6
  have hsz : w.heap.size + 2 ≤ w5.heap.size := by have := P5.size; simp at this; omega
  have PA := (On.refl w5).alloc (.cells #[.bool s6, .slice S6 Sn6 Sc6, .slice T6 Tn6 Tc6] 24)
  replace OB2 := And.intro OB2.1 (OB2.2.on P5)
  replace OB4 := And.intro OB4.1 (OB4.2.on P5)
  replace B := B.trans P5
  replace OB2 := And.intro OB2.1 (OB2.2.on PA)
  replace OB4 := And.intro OB4.1 (OB4.2.on PA)
  replace B := B.trans PA
  have O6 := Own.new w5 24 #[.bool s6, .slice S6 Sn6 Sc6, .slice T6 Tn6 Tc6]
  replace I5 := I5.on PA
  clear PA P5
  go_wp2
  go_loopw [19] (fun s wr => ∃ (k : Nat) (b6 : Bool) (P6 : Option Addr) (Pn6 Pc6 : Nat) (R6 : Option Addr) (Rn6 Rc6 : Nat), k ≤ m ∧ s = .int .i64 (k : Int) ∧ Own wr (w.heap.size) 24 #[.bool b, .slice A n c, .slice A' n' c'] ∧ Own wr (w.heap.size + 1) 24 #[.bool false, .slice none 0 0, .slice none 0 0] ∧ Own wr (w5.heap.size) 24 #[.bool b6, .slice P6 Pn6 Pc6, .slice R6 Rn6 Rc6] ∧ IsR wr (.agg #[.bool b6, .slice P6 Pn6 Pc6, .slice R6 Rn6 Rc6]) (r ^ k) 193 ∧ On w wr) (fun s _ => m - (intOf s).toNat)
  case atStart => exact ⟨0, s6, S6, Sn6, Sc6, T6, Tn6, Tc6, by omega, rfl, OB2.2, OB4.2, O6, by rw [Rat.pow_zero]; exact I5.wide (by decide), B⟩
  case round =>
    clear OB2 OB4 O6 I5 B
    obtain ⟨k, b6, P6, Pn6, Pc6, R6, Rn6, Rc6, hk, rfl, O2, O4, O6, I, B⟩ := hrel
    have y6_0 : wr.cell? ⟨w5.heap.size, 0, none⟩ = some (.bool b6) := O6.cell 0
    have y6_1 : wr.cell? ⟨w5.heap.size, 1, none⟩ = some (.slice P6 Pn6 Pc6) := O6.cell 1
    have y6_2 : wr.cell? ⟨w5.heap.size, 2, none⟩ = some (.slice R6 Rn6 Rc6) := O6.cell 2
    have y6_f0 := O6.frozen 0
    have y6_f1 := O6.frozen 1
    have y6_f2 := O6.frozen 2
    by_cases hlt : k < m
    · have y2_0 : wr.cell? ⟨w.heap.size, 0, none⟩ = some (.bool b) := O2.cell 0
      have y2_1 : wr.cell? ⟨w.heap.size, 1, none⟩ = some (.slice A n c) := O2.cell 1
      have y2_2 : wr.cell? ⟨w.heap.size, 2, none⟩ = some (.slice A' n' c') := O2.cell 2
      go_wp2_with fail
      refine (smul_any _ _ _ (r ^ k) r 193 (IsR.fld I) ((h.on B).wide (by omega)) (by decide) (by decide)).mono ?_
      rintro e w7 ⟨v7, rfl, I7, P7⟩
      rw [← Rat.pow_succ] at I7
      replace I7 := I7.tight (M := 193) (rpow_lt HB.out (show k + 1 ≤ m from hlt) HLM.out).1 (rpow_lt HB.out (show k + 1 ≤ m from hlt) HLM.out).2
      obtain ⟨S6, Sn6, Sc6, _, T6, Tn6, Tc6, _, rfl, _⟩ := id I7
      obtain ⟨s6, hs6⟩ : ∃ x, decide (r ^ (k + 1) < 0) = x := ⟨_, rfl⟩
      rw [hs6] at I7
      try rw [hs6]
      clear hs6
      clear y6_0 y6_f0 y6_1 y6_f1 y6_2 y6_f2 y2_0 y2_1 y2_2
      replace O2 := O2.on P7
      replace O4 := O4.on P7
      replace O6 := O6.on P7
      have y6_0 : w7.cell? ⟨w5.heap.size, 0, none⟩ = some (.bool b6) := O6.cell 0
      have y6_1 : w7.cell? ⟨w5.heap.size, 1, none⟩ = some (.slice P6 Pn6 Pc6) := O6.cell 1
      have y6_2 : w7.cell? ⟨w5.heap.size, 2, none⟩ = some (.slice R6 Rn6 Rc6) := O6.cell 2
      have y6_f0 := O6.frozen 0
      have y6_f1 := O6.frozen 1
      have y6_f2 := O6.frozen 2
      go_wp2
      have oo := only3 (w := w7) (g := w5.heap.size) (.bool s6) (.slice S6 Sn6 Sc6) (.slice T6 Tn6 Tc6)
      refine ⟨⟨k + 1, s6, S6, Sn6, Sc6, T6, Tn6, Tc6, hlt, by go_num, O2.only oo (by omega), O4.only oo (by omega), ((O6.set_ 0 (.bool s6)).set_ 1 (.slice S6 Sn6 Sc6)).set_ 2 (.slice T6 Tn6 Tc6), isR_put I7 O6 _ _ _, (B.trans P7).only oo (by omega)⟩, by simp [intOf]; omega⟩
    · obtain rfl : k = m := by omega
      have y4_0 : wr.cell? ⟨w.heap.size + 1, 0, none⟩ = some (.bool false) := O4.cell 0
      have y4_1 : wr.cell? ⟨w.heap.size + 1, 1, none⟩ = some (.slice none 0 0) := O4.cell 1
      have y4_2 : wr.cell? ⟨w.heap.size + 1, 2, none⟩ = some (.slice none 0 0) := O4.cell 2
      have y4_f0 := O4.frozen 0
      have y4_f1 := O4.frozen 1
      have y4_f2 := O4.frozen 2
      go_wp2
      have hon := on3 (g := w.heap.size + 1) B (by omega) (.bool b6) (.slice P6 Pn6 Pc6) (.slice R6 Rn6 Rc6)
      exact bodyPost_ret (v := .tuple #[.agg #[.bool b6, .slice P6 Pn6 Pc6, .slice R6 Rn6 Rc6], .int .i64 0]) (by simp [results, Tryz.results24, go_sem, y4_0, y4_1, y4_2]) rfl ⟨_, rfl, isR_put I O4 _ _ _, hon⟩
set_option maxRecDepth 100000 in
set_option maxHeartbeats 1600000 in
theorem spow_nez (w : World) (v : Value) (r : Rat) (L : Nat) (h : Fld w v r L) (hL1 : 1 ≤ L) (hL : L ≤ 12) (m : Nat) (hm : m ≤ 64) (hLm : L * m < 193) (h0 : 0 < m) (hr : r = 0) :
    Calls Tryz.prog 24 #[v, .int .i64 (-(m : Int))] w (RatPost2 w 0 386 (.int .i64 8)) := by
  obtain ⟨b, A, n, c, A', n', c', xs, ys, rfl, R, R', h1, h2, h3⟩ := id h
  clear h3
  have HB := Lib.hid (h.num_lt hL1)
  have HLM := Lib.hid hLm
  clear hLm
  have HR := Lib.hid hr
  clear hr
  have B : On w ((w.alloc (.cells #[.bool b, .slice A n c, .slice A' n' c'] 24)).alloc (.cells #[.bool false, .slice none 0 0, .slice none 0 0] 24)) := On.alloc (On.alloc (On.refl w) _) _
  have OB2 : w.heap.size ≤ w.heap.size ∧ Own ((w.alloc (.cells #[.bool b, .slice A n c, .slice A' n' c'] 24)).alloc (.cells #[.bool false, .slice none 0 0, .slice none 0 0] 24)) (w.heap.size) 24 #[.bool b, .slice A n c, .slice A' n' c'] := ⟨by omega, ((Own.at_ w (w.heap.size) (by simp) 24 #[.bool b, .slice A n c, .slice A' n' c']).alloc (.cells #[.bool false, .slice none 0 0, .slice none 0 0] 24))⟩
  have OB4 : w.heap.size ≤ w.heap.size + 1 ∧ Own ((w.alloc (.cells #[.bool b, .slice A n c, .slice A' n' c'] 24)).alloc (.cells #[.bool false, .slice none 0 0, .slice none 0 0] 24)) (w.heap.size + 1) 24 #[.bool false, .slice none 0 0, .slice none 0 0] := ⟨by omega, (Own.at_ (w.alloc (.cells #[.bool b, .slice A n c, .slice A' n' c'] 24)) (w.heap.size + 1) (by simp) 24 #[.bool false, .slice none 0 0, .slice none 0 0])⟩
  go_enter Tryz.func24, Tryz.ntmps24
  go_wp2_with fail
  refine (rofr_any _ 1 (by decide) (by decide)).mono ?_
  rintro e w5 ⟨v5, rfl, I5, P5⟩
  obtain ⟨S6, Sn6, Sc6, _, T6, Tn6, Tc6, _, rfl, _⟩ := id I5
  obtain ⟨s6, hs6⟩ : ∃ x, decide (((1 : Int) : Rat) < 0) = x := ⟨_, rfl⟩
  rw [hs6] at I5
  try rw [hs6]
  clear hs6
  have hsz : w.heap.size + 2 ≤ w5.heap.size := by have := P5.size; simp at this; omega
  have PA := (On.refl w5).alloc (.cells #[.bool s6, .slice S6 Sn6 Sc6, .slice T6 Tn6 Tc6] 24)
  replace OB2 := And.intro OB2.1 (OB2.2.on P5)
  replace OB4 := And.intro OB4.1 (OB4.2.on P5)
  replace B := B.trans P5
  replace OB2 := And.intro OB2.1 (OB2.2.on PA)
  replace OB4 := And.intro OB4.1 (OB4.2.on PA)
  replace B := B.trans PA
  have O6 := Own.new w5 24 #[.bool s6, .slice S6 Sn6 Sc6, .slice T6 Tn6 Tc6]
  replace I5 := I5.on PA
  clear PA P5
  go_wp2
  go_loopw [19] (fun s wr => ∃ (k : Nat) (b6 : Bool) (P6 : Option Addr) (Pn6 Pc6 : Nat) (R6 : Option Addr) (Rn6 Rc6 : Nat), k ≤ m ∧ s = .int .i64 (k : Int) ∧ Own wr (w.heap.size) 24 #[.bool b, .slice A n c, .slice A' n' c'] ∧ Own wr (w.heap.size + 1) 24 #[.bool false, .slice none 0 0, .slice none 0 0] ∧ Own wr (w5.heap.size) 24 #[.bool b6, .slice P6 Pn6 Pc6, .slice R6 Rn6 Rc6] ∧ IsR wr (.agg #[.bool b6, .slice P6 Pn6 Pc6, .slice R6 Rn6 Rc6]) (r ^ k) 193 ∧ On w wr) (fun s _ => m - (intOf s).toNat)
  case atStart => exact ⟨0, s6, S6, Sn6, Sc6, T6, Tn6, Tc6, by omega, rfl, OB2.2, OB4.2, O6, by rw [Rat.pow_zero]; exact I5.wide (by decide), B⟩
  case round =>
    clear OB2 OB4 O6 I5 B
    obtain ⟨k, b6, P6, Pn6, Pc6, R6, Rn6, Rc6, hk, rfl, O2, O4, O6, I, B⟩ := hrel
    have y6_0 : wr.cell? ⟨w5.heap.size, 0, none⟩ = some (.bool b6) := O6.cell 0
    have y6_1 : wr.cell? ⟨w5.heap.size, 1, none⟩ = some (.slice P6 Pn6 Pc6) := O6.cell 1
    have y6_2 : wr.cell? ⟨w5.heap.size, 2, none⟩ = some (.slice R6 Rn6 Rc6) := O6.cell 2
    have y6_f0 := O6.frozen 0
    have y6_f1 := O6.frozen 1
    have y6_f2 := O6.frozen 2
    by_cases hlt : k < m
    · have y2_0 : wr.cell? ⟨w.heap.size, 0, none⟩ = some (.bool b) := O2.cell 0
      have y2_1 : wr.cell? ⟨w.heap.size, 1, none⟩ = some (.slice A n c) := O2.cell 1
      have y2_2 : wr.cell? ⟨w.heap.size, 2, none⟩ = some (.slice A' n' c') := O2.cell 2
      go_wp2_with fail
      refine (smul_any _ _ _ (r ^ k) r 193 (IsR.fld I) ((h.on B).wide (by omega)) (by decide) (by decide)).mono ?_
      rintro e w7 ⟨v7, rfl, I7, P7⟩
      rw [← Rat.pow_succ] at I7
      replace I7 := I7.tight (M := 193) (rpow_lt HB.out (show k + 1 ≤ m from hlt) HLM.out).1 (rpow_lt HB.out (show k + 1 ≤ m from hlt) HLM.out).2
      obtain ⟨S6, Sn6, Sc6, _, T6, Tn6, Tc6, _, rfl, _⟩ := id I7
      obtain ⟨s6, hs6⟩ : ∃ x, decide (r ^ (k + 1) < 0) = x := ⟨_, rfl⟩
      rw [hs6] at I7
      try rw [hs6]
      clear hs6
      clear y6_0 y6_f0 y6_1 y6_f1 y6_2 y6_f2 y2_0 y2_1 y2_2
      replace O2 := O2.on P7
      replace O4 := O4.on P7
      replace O6 := O6.on P7
      have y6_0 : w7.cell? ⟨w5.heap.size, 0, none⟩ = some (.bool b6) := O6.cell 0
      have y6_1 : w7.cell? ⟨w5.heap.size, 1, none⟩ = some (.slice P6 Pn6 Pc6) := O6.cell 1
      have y6_2 : w7.cell? ⟨w5.heap.size, 2, none⟩ = some (.slice R6 Rn6 Rc6) := O6.cell 2
      have y6_f0 := O6.frozen 0
      have y6_f1 := O6.frozen 1
      have y6_f2 := O6.frozen 2
      go_wp2
      have oo := only3 (w := w7) (g := w5.heap.size) (.bool s6) (.slice S6 Sn6 Sc6) (.slice T6 Tn6 Tc6)
      refine ⟨⟨k + 1, s6, S6, Sn6, Sc6, T6, Tn6, Tc6, hlt, by go_num, O2.only oo (by omega), O4.only oo (by omega), ((O6.set_ 0 (.bool s6)).set_ 1 (.slice S6 Sn6 Sc6)).set_ 2 (.slice T6 Tn6 Tc6), isR_put I7 O6 _ _ _, (B.trans P7).only oo (by omega)⟩, by simp [intOf]; omega⟩
    · obtain rfl : k = m := by omega
      clear y6_0 y6_f0 y6_1 y6_f1 y6_2 y6_f2
      obtain ⟨q6, hq6⟩ : ∃ x, r ^ k = x := ⟨_, rfl⟩
      rw [hq6] at I
      have HQ6 : Hid (q6 = 0) := Lib.hid (by rw [← hq6, HR.out]; obtain ⟨j, rfl⟩ : ∃ j, k = j + 1 := ⟨k - 1, by omega⟩; rw [Rat.pow_succ, Rat.mul_zero])
      have HQK := Lib.hid hq6
      clear hq6
      obtain ⟨g6, hg6⟩ : ∃ x, w5.heap.size = x := ⟨_, rfl⟩
      rw [hg6] at O6 hsz
      try rw [hg6]
      have OB4 : w.heap.size ≤ w.heap.size + 1 ∧ _ := ⟨by omega, O4⟩
      have OB6 : w.heap.size ≤ g6 ∧ _ := ⟨by omega, O6⟩
      clear O2 O4 O6
      go_wp2
      refine wp_region_facts (by kernel_rfl) w [Fact.rat (1) (2), Fact.eq (.agg #[.bool b6, .slice P6 Pn6 Pc6, .slice R6 Rn6 Rc6]), Fact.ratE (0) (386) (.int .i64 8), Fact.rat (0) (386), Fact.eq (.int .i64 8), Fact.any, Fact.eq (.int .i64 8)] [Fact.rat (0) (386), Fact.any] [⟨7, 4, 24, 5, #[.bool false, .slice none 0 0, .slice none 0 0]⟩, ⟨7, 6, 24, 7, #[.bool b6, .slice P6 Pn6 Pc6, .slice R6 Rn6 Rc6]⟩] [w.heap.size + 1, g6] [none, none, none, none, none, some 5, none, none, none, none, none, none, none, none, none, none, none, none, none, none, none, none, none, none, none, none, none, some 27, some 28, some 29, some 30, some 31, none] (by kernel_rfl) (by kernel_rfl) (by kernel_rfl) rfl B ?_ ?_ ?_ ?_ ?_
      · exact ⟨fun _ => ⟨by simp, rfl, OB4⟩, fun _ => ⟨by simp, rfl, OB6⟩, trivial⟩
      · exact .inr (by simp <;> omega)
      · exact ⟨⟨noWords_R _ _ _ _ _ _ _, (.inl (Nat.le_refl _)), (.inr (store_ob (j := 3) (noWords_R _ _ _ _ _ _ _) rfl rfl rfl (by kernel_rfl) rfl rfl rfl))⟩, ⟨noWords_R _ _ _ _ _ _ _, (.inl (Nat.le_refl _)), (.inl (Nat.le_refl _))⟩, trivial⟩
      · refine ⟨?_, ?_, ?_, ?_, ?_, ?_, ?_, trivial⟩
        · refine .inr fun a w hp => ob_yes rfl ?_
          unfold Does
          go_simp
          refine (rofr_any _ 1 (by decide) (by decide)).mono ?_
          rintro e w' ⟨u, rfl, I8, P8⟩
          exact ⟨_, rfl, P8, I8⟩
        · exact .inr fun a w hp => ob_yes rfl (ob_loadR (hp.box (k := 1) rfl (Nat.le_refl _) (.inl (Nat.le_refl _)) (by kernel_rfl) rfl).1 (hp.box (k := 1) rfl (Nat.le_refl _) (.inl (Nat.le_refl _)) (by kernel_rfl) rfl).2 rfl)
        · refine .inr fun a w hp => ob_yes rfl ?_
          have h27 : IsR w (a.tmps.getD 27 undef) (1) (2) := (hp.fact 0 27 (by kernel_rfl) rfl)
          obtain ⟨v27, e27⟩ : ∃ v, a.tmps.getD 27 undef = v := ⟨_, rfl⟩
          rw [e27] at h27
          have h28 : a.tmps.getD 28 undef = .agg #[.bool b6, .slice P6 Pn6 Pc6, .slice R6 Rn6 Rc6] := (hp.fact 1 28 (by kernel_rfl) rfl)
          unfold Does
          go_simp
          refine (sdiv_zero _ _ _ 1 q6 193 ((IsR.fld h27).wide (by decide)) (IsR.fld (I.kept hp.kept)) (by decide) (by decide) HQ6.out).mono ?_
          rintro e w' ⟨u, rfl, I8, P8⟩
          exact ⟨_, rfl, P8, _, rfl, I8⟩
        · refine .inr fun a w hp => ob_yes rfl ?_
          obtain ⟨u, e, h⟩ : ∃ u, a.tmps.getD 29 undef = .tuple #[u, .int .i64 8] ∧ IsR w u (0) (386) := (hp.fact 2 29 (by kernel_rfl) rfl)
          exact ob_ext0 e h
        · refine .inr fun a w hp => ob_yes rfl ?_
          obtain ⟨u, e, h⟩ : ∃ u, a.tmps.getD 29 undef = .tuple #[u, .int .i64 8] ∧ IsR w u (0) (386) := (hp.fact 2 29 (by kernel_rfl) rfl)
          exact ob_ext1 e rfl
        · exact .inl rfl
        · exact .inr fun a w hp => ob_yes rfl (ob_assign (hp.fact 4 31 (by kernel_rfl) rfl))
      · intro f wr hon hk hf hb hap
        obtain ⟨q0, q1, qz⟩ := hb
        clear qz
        obtain ⟨cur4, O4, I4⟩ : ∃ cur, Own wr (w.heap.size + 1) 24 cur ∧ IsR wr (.agg cur) (0) (386) := q0
        obtain ⟨P4, Pn4, Pc4, _, R4, Rn4, Rc4, _, hz4, _⟩ := id I4
        injection hz4 with hz4
        subst hz4
        have c4_0 : wr.cell? ⟨w.heap.size + 1, 0, none⟩ = some (.bool (decide (0 < 0))) := O4.cell 0
        have z4_0 := O4.frozen 0
        have c4_1 : wr.cell? ⟨w.heap.size + 1, 1, none⟩ = some (.slice P4 Pn4 Pc4) := O4.cell 1
        have z4_1 := O4.frozen 1
        have c4_2 : wr.cell? ⟨w.heap.size + 1, 2, none⟩ = some (.slice R4 Rn4 Rc4) := O4.cell 2
        have z4_2 := O4.frozen 2
        have O6 : Own wr (g6) 24 #[.bool b6, .slice P6 Pn6 Pc6, .slice R6 Rn6 Rc6] := q1
        have c6_0 : wr.cell? ⟨g6, 0, none⟩ = some (.bool b6) := O6.cell 0
        have z6_0 := O6.frozen 0
        have c6_1 : wr.cell? ⟨g6, 1, none⟩ = some (.slice P6 Pn6 Pc6) := O6.cell 1
        have z6_1 := O6.frozen 1
        have c6_2 : wr.cell? ⟨g6, 2, none⟩ = some (.slice R6 Rn6 Rc6) := O6.cell 2
        have z6_2 := O6.frozen 2
        clear q1
        have e5 : f 5 = .int .i64 8 := hf 6 5 rfl
        clear hf hap
        simp only [fillL, e5]
        clear e5
        go_wp2
        exact bodyPost_ret (v := .tuple #[.agg #[.bool (decide (0 < 0)), .slice P4 Pn4 Pc4, .slice R4 Rn4 Rc4], .int .i64 8]) (by simp [results, Tryz.results24, go_sem, c4_0, c4_1, c4_2]) rfl ⟨_, rfl, by first | exact I4 | (rw [HQK.out]; exact I4), hon⟩
set_option maxRecDepth 100000 in
set_option maxHeartbeats 1600000 in
theorem spow_neg (w : World) (v : Value) (r : Rat) (L : Nat) (h : Fld w v r L) (hL1 : 1 ≤ L) (hL : L ≤ 12) (m : Nat) (hm : m ≤ 64) (hLm : L * m < 193) (h0 : 0 < m) (hr : r ≠ 0) :
    Calls Tryz.prog 24 #[v, .int .i64 (-(m : Int))] w (RatPost2 w ((r ^ m)⁻¹) 386 (.int .i64 0)) := by
  obtain ⟨b, A, n, c, A', n', c', xs, ys, rfl, R, R', h1, h2, h3⟩ := id h
  clear h3
  have HB := Lib.hid (h.num_lt hL1)
  have HLM := Lib.hid hLm
  clear hLm
  have HR := Lib.hid hr
  clear hr
  have B : On w ((w.alloc (.cells #[.bool b, .slice A n c, .slice A' n' c'] 24)).alloc (.cells #[.bool false, .slice none 0 0, .slice none 0 0] 24)) := On.alloc (On.alloc (On.refl w) _) _
  have OB2 : w.heap.size ≤ w.heap.size ∧ Own ((w.alloc (.cells #[.bool b, .slice A n c, .slice A' n' c'] 24)).alloc (.cells #[.bool false, .slice none 0 0, .slice none 0 0] 24)) (w.heap.size) 24 #[.bool b, .slice A n c, .slice A' n' c'] := ⟨by omega, ((Own.at_ w (w.heap.size) (by simp) 24 #[.bool b, .slice A n c, .slice A' n' c']).alloc (.cells #[.bool false, .slice none 0 0, .slice none 0 0] 24))⟩
  have OB4 : w.heap.size ≤ w.heap.size + 1 ∧ Own ((w.alloc (.cells #[.bool b, .slice A n c, .slice A' n' c'] 24)).alloc (.cells #[.bool false, .slice none 0 0, .slice none 0 0] 24)) (w.heap.size + 1) 24 #[.bool false, .slice none 0 0, .slice none 0 0] := ⟨by omega, (Own.at_ (w.alloc (.cells #[.bool b, .slice A n c, .slice A' n' c'] 24)) (w.heap.size + 1) (by simp) 24 #[.bool false, .slice none 0 0, .slice none 0 0])⟩
  go_enter Tryz.func24, Tryz.ntmps24
  go_wp2_with fail
  refine (rofr_any _ 1 (by decide) (by decide)).mono ?_
  rintro e w5 ⟨v5, rfl, I5, P5⟩
  obtain ⟨S6, Sn6, Sc6, _, T6, Tn6, Tc6, _, rfl, _⟩ := id I5
  obtain ⟨s6, hs6⟩ : ∃ x, decide (((1 : Int) : Rat) < 0) = x := ⟨_, rfl⟩
  rw [hs6] at I5
  try rw [hs6]
  clear hs6
  have hsz : w.heap.size + 2 ≤ w5.heap.size := by have := P5.size; simp at this; omega
  have PA := (On.refl w5).alloc (.cells #[.bool s6, .slice S6 Sn6 Sc6, .slice T6 Tn6 Tc6] 24)
  replace OB2 := And.intro OB2.1 (OB2.2.on P5)
  replace OB4 := And.intro OB4.1 (OB4.2.on P5)
  replace B := B.trans P5
  replace OB2 := And.intro OB2.1 (OB2.2.on PA)
  replace OB4 := And.intro OB4.1 (OB4.2.on PA)
  replace B := B.trans PA
  have O6 := Own.new w5 24 #[.bool s6, .slice S6 Sn6 Sc6, .slice T6 Tn6 Tc6]
  replace I5 := I5.on PA
  clear PA P5
  go_wp2
  go_loopw [19] (fun s wr => ∃ (k : Nat) (b6 : Bool) (P6 : Option Addr) (Pn6 Pc6 : Nat) (R6 : Option Addr) (Rn6 Rc6 : Nat), k ≤ m ∧ s = .int .i64 (k : Int) ∧ Own wr (w.heap.size) 24 #[.bool b, .slice A n c, .slice A' n' c'] ∧ Own wr (w.heap.size + 1) 24 #[.bool false, .slice none 0 0, .slice none 0 0] ∧ Own wr (w5.heap.size) 24 #[.bool b6, .slice P6 Pn6 Pc6, .slice R6 Rn6 Rc6] ∧ IsR wr (.agg #[.bool b6, .slice P6 Pn6 Pc6, .slice R6 Rn6 Rc6]) (r ^ k) 193 ∧ On w wr) (fun s _ => m - (intOf s).toNat)
  case atStart => exact ⟨0, s6, S6, Sn6, Sc6, T6, Tn6, Tc6, by omega, rfl, OB2.2, OB4.2, O6, by rw [Rat.pow_zero]; exact I5.wide (by decide), B⟩
  case round =>
    clear OB2 OB4 O6 I5 B
    obtain ⟨k, b6, P6, Pn6, Pc6, R6, Rn6, Rc6, hk, rfl, O2, O4, O6, I, B⟩ := hrel
    have y6_0 : wr.cell? ⟨w5.heap.size, 0, none⟩ = some (.bool b6) := O6.cell 0
    have y6_1 : wr.cell? ⟨w5.heap.size, 1, none⟩ = some (.slice P6 Pn6 Pc6) := O6.cell 1
    have y6_2 : wr.cell? ⟨w5.heap.size, 2, none⟩ = some (.slice R6 Rn6 Rc6) := O6.cell 2
    have y6_f0 := O6.frozen 0
    have y6_f1 := O6.frozen 1
    have y6_f2 := O6.frozen 2
    by_cases hlt : k < m
    · have y2_0 : wr.cell? ⟨w.heap.size, 0, none⟩ = some (.bool b) := O2.cell 0
      have y2_1 : wr.cell? ⟨w.heap.size, 1, none⟩ = some (.slice A n c) := O2.cell 1
      have y2_2 : wr.cell? ⟨w.heap.size, 2, none⟩ = some (.slice A' n' c') := O2.cell 2
      go_wp2_with fail
      refine (smul_any _ _ _ (r ^ k) r 193 (IsR.fld I) ((h.on B).wide (by omega)) (by decide) (by decide)).mono ?_
      rintro e w7 ⟨v7, rfl, I7, P7⟩
      rw [← Rat.pow_succ] at I7
      replace I7 := I7.tight (M := 193) (rpow_lt HB.out (show k + 1 ≤ m from hlt) HLM.out).1 (rpow_lt HB.out (show k + 1 ≤ m from hlt) HLM.out).2
      obtain ⟨S6, Sn6, Sc6, _, T6, Tn6, Tc6, _, rfl, _⟩ := id I7
      obtain ⟨s6, hs6⟩ : ∃ x, decide (r ^ (k + 1) < 0) = x := ⟨_, rfl⟩
      rw [hs6] at I7
      try rw [hs6]
      clear hs6
      clear y6_0 y6_f0 y6_1 y6_f1 y6_2 y6_f2 y2_0 y2_1 y2_2
      replace O2 := O2.on P7
      replace O4 := O4.on P7
      replace O6 := O6.on P7
      have y6_0 : w7.cell? ⟨w5.heap.size, 0, none⟩ = some (.bool b6) := O6.cell 0
      have y6_1 : w7.cell? ⟨w5.heap.size, 1, none⟩ = some (.slice P6 Pn6 Pc6) := O6.cell 1
      have y6_2 : w7.cell? ⟨w5.heap.size, 2, none⟩ = some (.slice R6 Rn6 Rc6) := O6.cell 2
      have y6_f0 := O6.frozen 0
      have y6_f1 := O6.frozen 1
      have y6_f2 := O6.frozen 2
      go_wp2
      have oo := only3 (w := w7) (g := w5.heap.size) (.bool s6) (.slice S6 Sn6 Sc6) (.slice T6 Tn6 Tc6)
      refine ⟨⟨k + 1, s6, S6, Sn6, Sc6, T6, Tn6, Tc6, hlt, by go_num, O2.only oo (by omega), O4.only oo (by omega), ((O6.set_ 0 (.bool s6)).set_ 1 (.slice S6 Sn6 Sc6)).set_ 2 (.slice T6 Tn6 Tc6), isR_put I7 O6 _ _ _, (B.trans P7).only oo (by omega)⟩, by simp [intOf]; omega⟩
    · obtain rfl : k = m := by omega
      clear y6_0 y6_f0 y6_1 y6_f1 y6_2 y6_f2
      obtain ⟨q6, hq6⟩ : ∃ x, r ^ k = x := ⟨_, rfl⟩
      rw [hq6] at I
      have HQ6 : Hid (q6 ≠ 0) := Lib.hid (by rw [← hq6]; exact rpow_ne HR.out k)
      have HQK := Lib.hid hq6
      clear hq6
      obtain ⟨g6, hg6⟩ : ∃ x, w5.heap.size = x := ⟨_, rfl⟩
      rw [hg6] at O6 hsz
      try rw [hg6]
      have OB4 : w.heap.size ≤ w.heap.size + 1 ∧ _ := ⟨by omega, O4⟩
      have OB6 : w.heap.size ≤ g6 ∧ _ := ⟨by omega, O6⟩
      clear O2 O4 O6
      go_wp2
      refine wp_region_facts (by kernel_rfl) w [Fact.rat (1) (2), Fact.eq (.agg #[.bool b6, .slice P6 Pn6 Pc6, .slice R6 Rn6 Rc6]), Fact.ratE (q6⁻¹) (386) (.int .i64 0), Fact.rat (q6⁻¹) (386), Fact.eq (.int .i64 0), Fact.any, Fact.eq (.int .i64 0)] [Fact.rat (q6⁻¹) (386), Fact.any] [⟨7, 4, 24, 5, #[.bool false, .slice none 0 0, .slice none 0 0]⟩, ⟨7, 6, 24, 7, #[.bool b6, .slice P6 Pn6 Pc6, .slice R6 Rn6 Rc6]⟩] [w.heap.size + 1, g6] [none, none, none, none, none, some 5, none, none, none, none, none, none, none, none, none, none, none, none, none, none, none, none, none, none, none, none, none, some 27, some 28, some 29, some 30, some 31, none] (by kernel_rfl) (by kernel_rfl) (by kernel_rfl) rfl B ?_ ?_ ?_ ?_ ?_
      · exact ⟨fun _ => ⟨by simp, rfl, OB4⟩, fun _ => ⟨by simp, rfl, OB6⟩, trivial⟩
      · exact .inr (by simp <;> omega)
      · exact ⟨⟨noWords_R _ _ _ _ _ _ _, (.inl (Nat.le_refl _)), (.inr (store_ob (j := 3) (noWords_R _ _ _ _ _ _ _) rfl rfl rfl (by kernel_rfl) rfl rfl rfl))⟩, ⟨noWords_R _ _ _ _ _ _ _, (.inl (Nat.le_refl _)), (.inl (Nat.le_refl _))⟩, trivial⟩
      · refine ⟨?_, ?_, ?_, ?_, ?_, ?_, ?_, trivial⟩
        · refine .inr fun a w hp => ob_yes rfl ?_
          unfold Does
          go_simp
          refine (rofr_any _ 1 (by decide) (by decide)).mono ?_
          rintro e w' ⟨u, rfl, I8, P8⟩
          exact ⟨_, rfl, P8, I8⟩
        · exact .inr fun a w hp => ob_yes rfl (ob_loadR (hp.box (k := 1) rfl (Nat.le_refl _) (.inl (Nat.le_refl _)) (by kernel_rfl) rfl).1 (hp.box (k := 1) rfl (Nat.le_refl _) (.inl (Nat.le_refl _)) (by kernel_rfl) rfl).2 rfl)
        · refine .inr fun a w hp => ob_yes rfl ?_
          have h27 : IsR w (a.tmps.getD 27 undef) (1) (2) := (hp.fact 0 27 (by kernel_rfl) rfl)
          obtain ⟨v27, e27⟩ : ∃ v, a.tmps.getD 27 undef = v := ⟨_, rfl⟩
          rw [e27] at h27
          have h28 : a.tmps.getD 28 undef = .agg #[.bool b6, .slice P6 Pn6 Pc6, .slice R6 Rn6 Rc6] := (hp.fact 1 28 (by kernel_rfl) rfl)
          unfold Does
          go_simp
          refine (sdiv_ok _ _ _ 1 q6 193 ((IsR.fld h27).wide (by decide)) (IsR.fld (I.kept hp.kept)) (by decide) (by decide) HQ6.out).mono ?_
          rintro e w' ⟨u, rfl, I8, P8⟩
          rw [Rat.one_mul] at I8
          exact ⟨_, rfl, P8, _, rfl, I8⟩
        · refine .inr fun a w hp => ob_yes rfl ?_
          obtain ⟨u, e, h⟩ : ∃ u, a.tmps.getD 29 undef = .tuple #[u, .int .i64 0] ∧ IsR w u (q6⁻¹) (386) := (hp.fact 2 29 (by kernel_rfl) rfl)
          exact ob_ext0 e h
        · refine .inr fun a w hp => ob_yes rfl ?_
          obtain ⟨u, e, h⟩ : ∃ u, a.tmps.getD 29 undef = .tuple #[u, .int .i64 0] ∧ IsR w u (q6⁻¹) (386) := (hp.fact 2 29 (by kernel_rfl) rfl)
          exact ob_ext1 e rfl
        · exact .inl rfl
        · exact .inr fun a w hp => ob_yes rfl (ob_assign (hp.fact 4 31 (by kernel_rfl) rfl))
      · intro f wr hon hk hf hb hap
        obtain ⟨q0, q1, qz⟩ := hb
        clear qz
        obtain ⟨cur4, O4, I4⟩ : ∃ cur, Own wr (w.heap.size + 1) 24 cur ∧ IsR wr (.agg cur) (q6⁻¹) (386) := q0
        obtain ⟨P4, Pn4, Pc4, _, R4, Rn4, Rc4, _, hz4, _⟩ := id I4
        injection hz4 with hz4
        subst hz4
        have c4_0 : wr.cell? ⟨w.heap.size + 1, 0, none⟩ = some (.bool (decide (q6⁻¹ < 0))) := O4.cell 0
        have z4_0 := O4.frozen 0
        have c4_1 : wr.cell? ⟨w.heap.size + 1, 1, none⟩ = some (.slice P4 Pn4 Pc4) := O4.cell 1
        have z4_1 := O4.frozen 1
        have c4_2 : wr.cell? ⟨w.heap.size + 1, 2, none⟩ = some (.slice R4 Rn4 Rc4) := O4.cell 2
        have z4_2 := O4.frozen 2
        have O6 : Own wr (g6) 24 #[.bool b6, .slice P6 Pn6 Pc6, .slice R6 Rn6 Rc6] := q1
        have c6_0 : wr.cell? ⟨g6, 0, none⟩ = some (.bool b6) := O6.cell 0
        have z6_0 := O6.frozen 0
        have c6_1 : wr.cell? ⟨g6, 1, none⟩ = some (.slice P6 Pn6 Pc6) := O6.cell 1
        have z6_1 := O6.frozen 1
        have c6_2 : wr.cell? ⟨g6, 2, none⟩ = some (.slice R6 Rn6 Rc6) := O6.cell 2
        have z6_2 := O6.frozen 2
        clear q1
        have e5 : f 5 = .int .i64 0 := hf 6 5 rfl
        clear hf hap
        simp only [fillL, e5]
        clear e5
        go_wp2
        exact bodyPost_ret (v := .tuple #[.agg #[.bool (decide (q6⁻¹ < 0)), .slice P4 Pn4 Pc4, .slice R4 Rn4 Rc4], .int .i64 0]) (by simp [results, Tryz.results24, go_sem, c4_0, c4_1, c4_2]) rfl ⟨_, rfl, by first | exact I4 | (rw [HQK.out]; exact I4), hon⟩
end Num
end Go.Proofs.YtikmjlaeadockaaGreat
