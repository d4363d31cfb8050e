/-
  RationalSums, walked; the program's Neg, Abs; the specification's Sub.
-/
import Derived.Test.YtkchpagjkgmpmaaGreatZadd
namespace Go.Proofs.YtkchpagjkgmpmaaGreat
open Go.RowKit
set_option linter.unusedVariables false
namespace Num
theorem rlens2 {w : World} {g t : Nat} (b0 : Bool) (A0 D0 : Option Addr) (n0 c0 m0 e0 : Nat) (x0 y0 : List Nat) (R0 : Rd w A0 n0 c0 x0) (S0 : Rd w D0 m0 e0 y0) (b1 : Bool) (A1 D1 : Option Addr) (n1 c1 m1 e1 : Nat) (x1 y1 : List Nat) (R1 : Rd w A1 n1 c1 x1) (S1 : Rd w D1 m1 e1 y1) (h : Own w g t #[.bool b0, .slice A0 n0 c0, .slice D0 m0 e0, .bool b1, .slice A1 n1 c1, .slice D1 m1 e1]) : RLens w g [(n0, m0), (n1, m1)] := by
  refine ⟨h.lt, fun i p hp => ?_⟩
  rcases i with _ | i
  · simp at hp; subst hp
    exact ⟨b0, A0, c0, D0, e0, h.cell 0, h.cell 1, h.cell 2, R0.max, R0.cap, S0.max, S0.cap⟩
  rcases i with _ | i
  · simp at hp; subst hp
    exact ⟨b1, A1, c1, D1, e1, h.cell 3, h.cell 4, h.cell 5, R1.max, R1.cap, S1.max, S1.cap⟩
  · simp at hp
set_option maxRecDepth 100000 in
set_option maxHeartbeats 1600000 in
theorem negr_any (w : World) (v : Value) (r : Rat) (L : Nat) (h : Fld w v r L) (hL : L ≤ 4000) :
    Calls Tryz.prog 60 #[v] w (RatPost w (-r) L) := by
  obtain ⟨b, A, n, c, A', n', c', xs, ys, rfl, R, R', h1, h2, h3⟩ := id h
  clear h3
  have B : On w ((w.alloc (.cells #[.bool b, .slice A n c, .slice A' n' c'] 24)).alloc (.cells #[.bool false, .slice none 0 0, .slice none 0 0] 24)) := On.alloc (On.alloc (On.refl w) _) _
  have OB1 : w.heap.size ≤ w.heap.size ∧ Own ((w.alloc (.cells #[.bool b, .slice A n c, .slice A' n' c'] 24)).alloc (.cells #[.bool false, .slice none 0 0, .slice none 0 0] 24)) (w.heap.size) 24 #[.bool b, .slice A n c, .slice A' n' c'] := ⟨by omega, ((Own.at_ w (w.heap.size) (by simp) 24 #[.bool b, .slice A n c, .slice A' n' c']).alloc (.cells #[.bool false, .slice none 0 0, .slice none 0 0] 24))⟩
  have OB2 : w.heap.size ≤ w.heap.size + 1 ∧ Own ((w.alloc (.cells #[.bool b, .slice A n c, .slice A' n' c'] 24)).alloc (.cells #[.bool false, .slice none 0 0, .slice none 0 0] 24)) (w.heap.size + 1) 24 #[.bool false, .slice none 0 0, .slice none 0 0] := ⟨by omega, (Own.at_ (w.alloc (.cells #[.bool b, .slice A n c, .slice A' n' c'] 24)) (w.heap.size + 1) (by simp) 24 #[.bool false, .slice none 0 0, .slice none 0 0])⟩
  go_enter Tryz.func60, Tryz.ntmps60
  go_wp2_with fail
  refine (value_fld _ _ r L (h.on B) (by omega)).mono ?_
  rintro e w1 ⟨v1, rfl, I1, P1⟩
  go_wp2_with fail
  refine (negative_any _ _ _ L I1).mono ?_
  rintro e w2 ⟨v2, rfl, I2, P2⟩
  go_wp2_with fail
  refine (own_any _ _ _ L I2 (by omega)).mono ?_
  rintro e w3 ⟨v3, rfl, I3, P3⟩
  obtain ⟨Q1, Qn, Qc, _, Q2, Qm, Qd, _, rfl, _⟩ := id I3
  replace OB2 := And.intro OB2.1 (OB2.2.on P1)
  replace B := B.trans P1
  replace OB2 := And.intro OB2.1 (OB2.2.on P2)
  replace B := B.trans P2
  replace OB2 := And.intro OB2.1 (OB2.2.on P3)
  replace B := B.trans P3
  have y2_0 : w3.cell? ⟨w.heap.size + 1, 0, none⟩ = some (.bool false) := OB2.2.cell 0
  have y2_1 : w3.cell? ⟨w.heap.size + 1, 1, none⟩ = some (.slice none 0 0) := OB2.2.cell 1
  have y2_2 : w3.cell? ⟨w.heap.size + 1, 2, none⟩ = some (.slice none 0 0) := OB2.2.cell 2
  have y2_f0 := OB2.2.frozen 0
  have y2_f1 := OB2.2.frozen 1
  have y2_f2 := OB2.2.frozen 2
  go_wp2
  have hon := on3 (g := w.heap.size + 1) B (by omega) (.bool (decide (-r < 0))) (.slice Q1 Qn Qc) (.slice Q2 Qm Qd)
  exact bodyPost_ret (v := .agg #[.bool (decide (-r < 0)), .slice Q1 Qn Qc, .slice Q2 Qm Qd]) (by simp [results, Tryz.results60, go_sem, y2_0, y2_1, y2_2]) rfl ⟨_, rfl, isR_put I3 OB2.2 _ _ _, hon⟩
theorem rabs_num (r : Rat) : (rabs r).num.natAbs = r.num.natAbs ∧ dn (rabs r) = dn r ∧ decide (rabs r < 0) = false := by
  unfold rabs
  by_cases h : r < 0
  · rw [if_pos h, Rat.neg_num, Int.natAbs_neg, dn_neg]
    exact ⟨rfl, rfl, decide_eq_false (by grind)⟩
  · rw [if_neg h]
    exact ⟨rfl, rfl, decide_eq_false h⟩
theorem isR_abs {w : World} {b : Bool} {A A' : Option Addr} {n c n' c' L : Nat} {r : Rat} (h : IsR w (.agg #[.bool b, .slice A n c, .slice A' n' c']) r L) : IsR w (.agg #[.bool false, .slice A n c, .slice A' n' c']) (rabs r) L := by
  obtain ⟨B, m, d, xs, B', m', d', ys, e, R, R', C, C', h1, h2, h3, h4⟩ := h
  injection e with e
  have e1 : Value.slice A n c = .slice B m d := by have := congrArg (fun x : Array Value => x[1]?) e; simpa using this
  have e2 : Value.slice A' n' c' = .slice B' m' d' := by have := congrArg (fun x : Array Value => x[2]?) e; simpa using this
  injection e1 with p1 p2 p3
  injection e2 with p4 p5 p6
  subst p1 p2 p3 p4 p5 p6
  have ha := rabs_num r
  exact ⟨A, n, c, xs, A', n', c', ys, by rw [ha.2.2], R, R', C, C', h1, h2, by rw [ha.1]; exact h3, by rw [ha.2.1]; exact h4⟩
set_option maxRecDepth 100000 in
set_option maxHeartbeats 1600000 in
theorem ssub_any (w : World) (v v' : Value) (r q : Rat) (L : Nat) (h : Fld w v r L) (k : Fld w v' q L) (hL2 : 2 ≤ L) (hL : L ≤ 1000) :
    Calls Tryz.prog 56 #[v, v'] w (RatPost w (r - q) (L + L + 1)) := by
  obtain ⟨b, A, n, c, A', n', c', xs, ys, rfl, R, R', h1, h2, h3⟩ := id h
  obtain ⟨d, E, m, o, E', m', o', us, vs, rfl, U, U', k1, k2, k3⟩ := id k
  clear h3 k3
  have B : On w (((w.alloc (.cells #[.bool b, .slice A n c, .slice A' n' c'] 24)).alloc (.cells #[.bool d, .slice E m o, .slice E' m' o'] 24)).alloc (.cells #[.bool false, .slice none 0 0, .slice none 0 0] 24)) := On.alloc (On.alloc (On.alloc (On.refl w) _) _) _
  have OB2 : w.heap.size ≤ w.heap.size ∧ Own (((w.alloc (.cells #[.bool b, .slice A n c, .slice A' n' c'] 24)).alloc (.cells #[.bool d, .slice E m o, .slice E' m' o'] 24)).alloc (.cells #[.bool false, .slice none 0 0, .slice none 0 0] 24)) (w.heap.size) 24 #[.bool b, .slice A n c, .slice A' n' c'] := ⟨by omega, (((Own.at_ w (w.heap.size) (by simp) 24 #[.bool b, .slice A n c, .slice A' n' c']).alloc (.cells #[.bool d, .slice E m o, .slice E' m' o'] 24)).alloc (.cells #[.bool false, .slice none 0 0, .slice none 0 0] 24))⟩
  have OB3 : w.heap.size ≤ w.heap.size + 1 ∧ Own (((w.alloc (.cells #[.bool b, .slice A n c, .slice A' n' c'] 24)).alloc (.cells #[.bool d, .slice E m o, .slice E' m' o'] 24)).alloc (.cells #[.bool false, .slice none 0 0, .slice none 0 0] 24)) (w.heap.size + 1) 24 #[.bool d, .slice E m o, .slice E' m' o'] := ⟨by omega, ((Own.at_ (w.alloc (.cells #[.bool b, .slice A n c, .slice A' n' c'] 24)) (w.heap.size + 1) (by simp) 24 #[.bool d, .slice E m o, .slice E' m' o']).alloc (.cells #[.bool false, .slice none 0 0, .slice none 0 0] 24))⟩
  have OB4 : w.heap.size ≤ w.heap.size + 2 ∧ Own (((w.alloc (.cells #[.bool b, .slice A n c, .slice A' n' c'] 24)).alloc (.cells #[.bool d, .slice E m o, .slice E' m' o'] 24)).alloc (.cells #[.bool false, .slice none 0 0, .slice none 0 0] 24)) (w.heap.size + 2) 24 #[.bool false, .slice none 0 0, .slice none 0 0] := ⟨by omega, (Own.at_ ((w.alloc (.cells #[.bool b, .slice A n c, .slice A' n' c'] 24)).alloc (.cells #[.bool d, .slice E m o, .slice E' m' o'] 24)) (w.heap.size + 2) (by simp) 24 #[.bool false, .slice none 0 0, .slice none 0 0])⟩
  go_enter Tryz.func56, Tryz.ntmps56
  go_wp2
  refine wp_region_facts (by kernel_rfl) w [Fact.eq (.agg #[.bool b, .slice A n c, .slice A' n' c']), Fact.eq (.agg #[.bool d, .slice E m o, .slice E' m' o']), Fact.rat (-q) (L), Fact.rat (r - q) (L + L + 1), Fact.any] [Fact.any, Fact.any, Fact.rat (r - q) (L + L + 1)] [⟨5, 2, 24, 5, #[.bool b, .slice A n c, .slice A' n' c']⟩, ⟨5, 3, 24, 5, #[.bool d, .slice E m o, .slice E' m' o']⟩, ⟨5, 4, 24, 4, #[.bool false, .slice none 0 0, .slice none 0 0]⟩] [w.heap.size, w.heap.size + 1, w.heap.size + 2] [none, none, none, none, none, some 5, some 6, some 7, some 8] (by kernel_rfl) (by kernel_rfl) (by kernel_rfl) rfl B ?_ ?_ ?_ ?_ ?_
  · exact ⟨fun _ => ⟨by simp, rfl, OB2⟩, fun _ => ⟨by simp, rfl, OB3⟩, fun _ => ⟨by simp, rfl, OB4⟩, trivial⟩
  · exact .inr (by simp <;> omega)
  · exact ⟨⟨noWords_R _ _ _ _ _ _ _, (.inl (Nat.le_refl _)), (.inl (Nat.le_refl _))⟩, ⟨noWords_R _ _ _ _ _ _ _, (.inl (Nat.le_refl _)), (.inl (Nat.le_refl _))⟩, ⟨noWords_R _ _ _ _ _ _ _, (.inl (Nat.le_refl _)), (.inr (store_ob (j := 3) (noWords_R _ _ _ _ _ _ _) rfl rfl rfl (by kernel_rfl) rfl rfl rfl))⟩, trivial⟩
  · refine ⟨?_, ?_, ?_, ?_, ?_, trivial⟩
    · exact .inr fun a w hp => ob_yes rfl (ob_loadR (hp.box (k := 0) rfl (Nat.le_refl _) (.inl (Nat.le_refl _)) (by kernel_rfl) rfl).1 (hp.box (k := 0) rfl (Nat.le_refl _) (.inl (Nat.le_refl _)) (by kernel_rfl) rfl).2 rfl)
    · exact .inr fun a w hp => ob_yes rfl (ob_loadR (hp.box (k := 1) rfl (Nat.le_refl _) (.inl (Nat.le_refl _)) (by kernel_rfl) rfl).1 (hp.box (k := 1) rfl (Nat.le_refl _) (.inl (Nat.le_refl _)) (by kernel_rfl) rfl).2 rfl)
    · refine .inr fun a w hp => ob_yes rfl ?_
      have h6 : a.tmps.getD 6 undef = .agg #[.bool d, .slice E m o, .slice E' m' o'] := (hp.fact 1 6 (by kernel_rfl) rfl)
      unfold Does
      go_simp
      refine (sneg_any _ _ _ L (k.on hp.on) hL2 (by omega)).mono ?_
      rintro e w' ⟨u, rfl, I8, P8⟩
      exact ⟨_, rfl, P8, I8⟩
    · refine .inr fun a w hp => ob_yes rfl ?_
      have h5 : a.tmps.getD 5 undef = .agg #[.bool b, .slice A n c, .slice A' n' c'] := (hp.fact 0 5 (by kernel_rfl) rfl)
      have h7 : IsR w (a.tmps.getD 7 undef) (-q) (L) := (hp.fact 2 7 (by kernel_rfl) rfl)
      obtain ⟨v7, e7⟩ : ∃ v, a.tmps.getD 7 undef = v := ⟨_, rfl⟩
      rw [e7] at h7
      unfold Does
      go_simp
      refine (sadd_any _ _ _ _ _ L (h.on hp.on) (IsR.fld h7) hL2 hL).mono ?_
      rintro e w' ⟨u, rfl, I8, P8⟩
      rw [sub_add] at I8
      exact ⟨_, rfl, P8, I8⟩
    · exact .inl rfl
  · intro f wr hon hk hf hb hap
    obtain ⟨q0, q1, q2, qz⟩ := hb
    clear qz
    have O2 : Own wr (w.heap.size) 24 #[.bool b, .slice A n c, .slice A' n' c'] := q0
    have c2_0 : wr.cell? ⟨w.heap.size, 0, none⟩ = some (.bool b) := O2.cell 0
    have z2_0 := O2.frozen 0
    have c2_1 : wr.cell? ⟨w.heap.size, 1, none⟩ = some (.slice A n c) := O2.cell 1
    have z2_1 := O2.frozen 1
    have c2_2 : wr.cell? ⟨w.heap.size, 2, none⟩ = some (.slice A' n' c') := O2.cell 2
    have z2_2 := O2.frozen 2
    clear q0
    have O3 : Own wr (w.heap.size + 1) 24 #[.bool d, .slice E m o, .slice E' m' o'] := q1
    have c3_0 : wr.cell? ⟨w.heap.size + 1, 0, none⟩ = some (.bool d) := O3.cell 0
    have z3_0 := O3.frozen 0
    have c3_1 : wr.cell? ⟨w.heap.size + 1, 1, none⟩ = some (.slice E m o) := O3.cell 1
    have z3_1 := O3.frozen 1
    have c3_2 : wr.cell? ⟨w.heap.size + 1, 2, none⟩ = some (.slice E' m' o') := O3.cell 2
    have z3_2 := O3.frozen 2
    clear q1
    obtain ⟨cur4, O4, I4⟩ : ∃ cur, Own wr (w.heap.size + 2) 24 cur ∧ IsR wr (.agg cur) (r - q) (L + L + 1) := q2
    obtain ⟨P4, Pn4, Pc4, _, R4, Rn4, Rc4, _, hz4, _⟩ := id I4
    injection hz4 with hz4
    subst hz4
    have c4_0 : wr.cell? ⟨w.heap.size + 2, 0, none⟩ = some (.bool (decide (r - q < 0))) := O4.cell 0
    have z4_0 := O4.frozen 0
    have c4_1 : wr.cell? ⟨w.heap.size + 2, 1, none⟩ = some (.slice P4 Pn4 Pc4) := O4.cell 1
    have z4_1 := O4.frozen 1
    have c4_2 : wr.cell? ⟨w.heap.size + 2, 2, none⟩ = some (.slice R4 Rn4 Rc4) := O4.cell 2
    have z4_2 := O4.frozen 2
    clear hf hap
    simp only [fillL]
    go_wp2
    exact bodyPost_ret (v := .agg #[.bool (decide (r - q < 0)), .slice P4 Pn4 Pc4, .slice R4 Rn4 Rc4]) (by simp [results, Tryz.results56, go_sem, c4_0, c4_1, c4_2]) rfl ⟨_, rfl, I4, hon⟩
end Num
end Go.Proofs.YtkchpagjkgmpmaaGreat
