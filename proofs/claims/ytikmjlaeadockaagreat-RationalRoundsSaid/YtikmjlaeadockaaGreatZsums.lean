/-
  RationalSums, walked; the program's Neg, Abs; the specification's Sub.
-/
import Derived.Test.YtikmjlaeadockaaGreatZadd
namespace Go.Proofs.YtikmjlaeadockaaGreat
open Go.RowKit
set_option linter.unusedVariables false
namespace Num
theorem rlens2 {w : World} {g t : Nat} (b0 : Bool) (A0 D0 : Option Addr) (n0 c0 m0 e0 : Nat) (x0 y0 : List Nat) (R0 : Rd w A0 n0 c0 x0) (S0 : Rd w D0 m0 e0 y0) (b1 : Bool) (A1 D1 : Option Addr) (n1 c1 m1 e1 : Nat) (x1 y1 : List Nat) (R1 : Rd w A1 n1 c1 x1) (S1 : Rd w D1 m1 e1 y1) (h : Own w g t #[.bool b0, .slice A0 n0 c0, .slice D0 m0 e0, .bool b1, .slice A1 n1 c1, .slice D1 m1 e1]) : RLens w g [(n0, m0), (n1, m1)] := by
  refine ⟨h.lt, fun i p hp => ?_⟩
  rcases i with _ | i
  · simp at hp; subst hp
    exact ⟨b0, A0, c0, D0, e0, h.cell 0, h.cell 1, h.cell 2, R0.max, R0.cap, S0.max, S0.cap⟩
  rcases i with _ | i
  · simp at hp; subst hp
    exact ⟨b1, A1, c1, D1, e1, h.cell 3, h.cell 4, h.cell 5, R1.max, R1.cap, S1.max, S1.cap⟩
  · simp at hp
set_option maxRecDepth 100000 in
set_option maxHeartbeats 1600000 in
theorem negr_any (w : World) (v : Value) (r : Rat) (L : Nat) (h : Fld w v r L) (hL : L ≤ 4000) :
    Calls Tryz.prog 14 #[v] w (RatPost w (-r) L) := by
  obtain ⟨b, A, n, c, A', n', c', xs, ys, rfl, R, R', h1, h2, h3⟩ := id h
  clear h3
  have B : On w ((w.alloc (.cells #[.bool b, .slice A n c, .slice A' n' c'] 24)).alloc (.cells #[.bool false, .slice none 0 0, .slice none 0 0] 24)) := On.alloc (On.alloc (On.refl w) _) _
  have OB1 : w.heap.size ≤ w.heap.size ∧ Own ((w.alloc (.cells #[.bool b, .slice A n c, .slice A' n' c'] 24)).alloc (.cells #[.bool false, .slice none 0 0, .slice none 0 0] 24)) (w.heap.size) 24 #[.bool b, .slice A n c, .slice A' n' c'] := ⟨by omega, ((Own.at_ w (w.heap.size) (by simp) 24 #[.bool b, .slice A n c, .slice A' n' c']).alloc (.cells #[.bool false, .slice none 0 0, .slice none 0 0] 24))⟩
  have OB2 : w.heap.size ≤ w.heap.size + 1 ∧ Own ((w.alloc (.cells #[.bool b, .slice A n c, .slice A' n' c'] 24)).alloc (.cells #[.bool false, .slice none 0 0, .slice none 0 0] 24)) (w.heap.size + 1) 24 #[.bool false, .slice none 0 0, .slice none 0 0] := ⟨by omega, (Own.at_ (w.alloc (.cells #[.bool b, .slice A n c, .slice A' n' c'] 24)) (w.heap.size + 1) (by simp) 24 #[.bool false, .slice none 0 0, .slice none 0 0])⟩
  go_enter Tryz.func14, Tryz.ntmps14
  go_wp2_with fail
  refine (value_fld _ _ r L (h.on B) (by omega)).mono ?_
  rintro e w1 ⟨v1, rfl, I1, P1⟩
  go_wp2_with fail
  refine (negative_any _ _ _ L I1).mono ?_
  rintro e w2 ⟨v2, rfl, I2, P2⟩
  go_wp2_with fail
  refine (own_any _ _ _ L I2 (by omega)).mono ?_
  rintro e w3 ⟨v3, rfl, I3, P3⟩
  obtain ⟨Q1, Qn, Qc, _, Q2, Qm, Qd, _, rfl, _⟩ := id I3
  replace OB2 := And.intro OB2.1 (OB2.2.on P1)
  replace B := B.trans P1
  replace OB2 := And.intro OB2.1 (OB2.2.on P2)
  replace B := B.trans P2
  replace OB2 := And.intro OB2.1 (OB2.2.on P3)
  replace B := B.trans P3
  have y2_0 : w3.cell? ⟨w.heap.size + 1, 0, none⟩ = some (.bool false) := OB2.2.cell 0
  have y2_1 : w3.cell? ⟨w.heap.size + 1, 1, none⟩ = some (.slice none 0 0) := OB2.2.cell 1
  have y2_2 : w3.cell? ⟨w.heap.size + 1, 2, none⟩ = some (.slice none 0 0) := OB2.2.cell 2
  have y2_f0 := OB2.2.frozen 0
  have y2_f1 := OB2.2.frozen 1
  have y2_f2 := OB2.2.frozen 2
  go_wp2
  have hon := on3 (g := w.heap.size + 1) B (by omega) (.bool (decide (-r < 0))) (.slice Q1 Qn Qc) (.slice Q2 Qm Qd)
  exact bodyPost_ret (v := .agg #[.bool (decide (-r < 0)), .slice Q1 Qn Qc, .slice Q2 Qm Qd]) (by simp [results, Tryz.results14, go_sem, y2_0, y2_1, y2_2]) rfl ⟨_, rfl, isR_put I3 OB2.2 _ _ _, hon⟩
theorem rabs_num (r : Rat) : (rabs r).num.natAbs = r.num.natAbs ∧ dn (rabs r) = dn r ∧ decide (rabs r < 0) = false := by
  unfold rabs
  by_cases h : r < 0
  · rw [if_pos h, Rat.neg_num, Int.natAbs_neg, dn_neg]
    exact ⟨rfl, rfl, decide_eq_false (by grind)⟩
  · rw [if_neg h]
    exact ⟨rfl, rfl, decide_eq_false h⟩
theorem isR_abs {w : World} {b : Bool} {A A' : Option Addr} {n c n' c' L : Nat} {r : Rat} (h : IsR w (.agg #[.bool b, .slice A n c, .slice A' n' c']) r L) : IsR w (.agg #[.bool false, .slice A n c, .slice A' n' c']) (rabs r) L := by
  obtain ⟨B, m, d, xs, B', m', d', ys, e, R, R', C, C', h1, h2, h3, h4⟩ := h
  injection e with e
  have e1 : Value.slice A n c = .slice B m d := by have := congrArg (fun x : Array Value => x[1]?) e; simpa using this
  have e2 : Value.slice A' n' c' = .slice B' m' d' := by have := congrArg (fun x : Array Value => x[2]?) e; simpa using this
  injection e1 with p1 p2 p3
  injection e2 with p4 p5 p6
  subst p1 p2 p3 p4 p5 p6
  have ha := rabs_num r
  exact ⟨A, n, c, xs, A', n', c', ys, by rw [ha.2.2], R, R', C, C', h1, h2, by rw [ha.1]; exact h3, by rw [ha.2.1]; exact h4⟩
set_option maxRecDepth 100000 in
set_option maxHeartbeats 1600000 in
theorem absr_any (w : World) (v : Value) (r : Rat) (L : Nat) (h : Fld w v r L) (hL : L ≤ 4000) :
    Calls Tryz.prog 16 #[v] w (RatPost w (rabs r) L) := by
  obtain ⟨b, A, n, c, A', n', c', xs, ys, rfl, R, R', h1, h2, h3⟩ := id h
  clear h3
  obtain ⟨z, hz⟩ : ∃ x, rabs r = x := ⟨_, rfl⟩
  rw [hz]
  have HZQ := Lib.hid hz
  clear hz
  have B : On w ((w.alloc (.cells #[.bool b, .slice A n c, .slice A' n' c'] 24)).alloc (.cells #[.bool false, .slice none 0 0, .slice none 0 0] 24)) := On.alloc (On.alloc (On.refl w) _) _
  have OB1 : w.heap.size ≤ w.heap.size ∧ Own ((w.alloc (.cells #[.bool b, .slice A n c, .slice A' n' c'] 24)).alloc (.cells #[.bool false, .slice none 0 0, .slice none 0 0] 24)) (w.heap.size) 24 #[.bool b, .slice A n c, .slice A' n' c'] := ⟨by omega, ((Own.at_ w (w.heap.size) (by simp) 24 #[.bool b, .slice A n c, .slice A' n' c']).alloc (.cells #[.bool false, .slice none 0 0, .slice none 0 0] 24))⟩
  have OB2 : w.heap.size ≤ w.heap.size + 1 ∧ Own ((w.alloc (.cells #[.bool b, .slice A n c, .slice A' n' c'] 24)).alloc (.cells #[.bool false, .slice none 0 0, .slice none 0 0] 24)) (w.heap.size + 1) 24 #[.bool false, .slice none 0 0, .slice none 0 0] := ⟨by omega, (Own.at_ (w.alloc (.cells #[.bool b, .slice A n c, .slice A' n' c'] 24)) (w.heap.size + 1) (by simp) 24 #[.bool false, .slice none 0 0, .slice none 0 0])⟩
  go_enter Tryz.func16, Tryz.ntmps16
  go_wp2_with fail
  refine (value_fld _ _ r L (h.on B) (by omega)).mono ?_
  rintro e w1 ⟨v1, rfl, I1, P1⟩
  go_wp2_with fail
  refine (own_any _ _ _ L I1 (by omega)).mono ?_
  rintro e w3 ⟨v3, rfl, I3, P3⟩
  obtain ⟨Q1, Qn, Qc, _, Q2, Qm, Qd, _, rfl, _⟩ := id I3
  replace I3 := isR_abs I3
  rw [HZQ.out] at I3
  obtain ⟨sb, hsb⟩ : ∃ x, decide (r < 0) = x := ⟨_, rfl⟩
  try rw [hsb]
  have hzf : decide (z < 0) = false := by rw [← HZQ.out]; exact (rabs_num r).2.2
  have HZF := Lib.hid hzf
  clear hsb hzf
  replace OB1 := And.intro OB1.1 (OB1.2.on P1)
  replace OB2 := And.intro OB2.1 (OB2.2.on P1)
  replace B := B.trans P1
  replace OB1 := And.intro OB1.1 (OB1.2.on P3)
  replace OB2 := And.intro OB2.1 (OB2.2.on P3)
  replace B := B.trans P3
  have y2_0 : w3.cell? ⟨w.heap.size + 1, 0, none⟩ = some (.bool false) := OB2.2.cell 0
  have y2_1 : w3.cell? ⟨w.heap.size + 1, 1, none⟩ = some (.slice none 0 0) := OB2.2.cell 1
  have y2_2 : w3.cell? ⟨w.heap.size + 1, 2, none⟩ = some (.slice none 0 0) := OB2.2.cell 2
  have y2_f0 := OB2.2.frozen 0
  have y2_f1 := OB2.2.frozen 1
  have y2_f2 := OB2.2.frozen 2
  have y1_0 : w3.cell? ⟨w.heap.size, 0, none⟩ = some (.bool b) := OB1.2.cell 0
  have y1_1 : w3.cell? ⟨w.heap.size, 1, none⟩ = some (.slice A n c) := OB1.2.cell 1
  have y1_2 : w3.cell? ⟨w.heap.size, 2, none⟩ = some (.slice A' n' c') := OB1.2.cell 2
  have y1_f0 := OB1.2.frozen 0
  have y1_f1 := OB1.2.frozen 1
  have y1_f2 := OB1.2.frozen 2
  go_wp2
  have oo := (only3 (w := w3) (g := w.heap.size) (.bool sb) (.slice Q1 Qn Qc) (.slice Q2 Qm Qd)).set_ 0 (.bool false)
  have hk1 := Kept.only oo OB1.2 (noWords_R _ _ _ _ _ _ _)
  have O2' := OB2.2.only oo (by omega)
  have hk2 := Kept.only (only3 (.bool false) (.slice Q1 Qn Qc) (.slice Q2 Qm Qd)) O2' (noWords_R _ _ _ _ _ _ _)
  have hon := (B.only oo (Nat.le_refl _)).only (only3 (g := w.heap.size + 1) (.bool false) (.slice Q1 Qn Qc) (.slice Q2 Qm Qd)) (by omega)
  exact bodyPost_ret (v := .agg #[.bool false, .slice Q1 Qn Qc, .slice Q2 Qm Qd]) (by simp [results, Tryz.results16, go_sem, y2_0, y2_1, y2_2]) rfl ⟨_, rfl, I3.kept (hk1.trans hk2), hon⟩
set_option maxRecDepth 100000 in
set_option maxHeartbeats 1600000 in
theorem ssub_any (w : World) (v v' : Value) (r q : Rat) (L : Nat) (h : Fld w v r L) (k : Fld w v' q L) (hL2 : 2 ≤ L) (hL : L ≤ 1000) :
    Calls Tryz.prog 13 #[v, v'] w (RatPost w (r - q) (L + L + 1)) := by
  obtain ⟨b, A, n, c, A', n', c', xs, ys, rfl, R, R', h1, h2, h3⟩ := id h
  obtain ⟨d, E, m, o, E', m', o', us, vs, rfl, U, U', k1, k2, k3⟩ := id k
  clear h3 k3
  have B : On w (((w.alloc (.cells #[.bool b, .slice A n c, .slice A' n' c'] 24)).alloc (.cells #[.bool d, .slice E m o, .slice E' m' o'] 24)).alloc (.cells #[.bool false, .slice none 0 0, .slice none 0 0] 24)) := On.alloc (On.alloc (On.alloc (On.refl w) _) _) _
  have OB2 : w.heap.size ≤ w.heap.size ∧ Own (((w.alloc (.cells #[.bool b, .slice A n c, .slice A' n' c'] 24)).alloc (.cells #[.bool d, .slice E m o, .slice E' m' o'] 24)).alloc (.cells #[.bool false, .slice none 0 0, .slice none 0 0] 24)) (w.heap.size) 24 #[.bool b, .slice A n c, .slice A' n' c'] := ⟨by omega, (((Own.at_ w (w.heap.size) (by simp) 24 #[.bool b, .slice A n c, .slice A' n' c']).alloc (.cells #[.bool d, .slice E m o, .slice E' m' o'] 24)).alloc (.cells #[.bool false, .slice none 0 0, .slice none 0 0] 24))⟩
  have OB3 : w.heap.size ≤ w.heap.size + 1 ∧ Own (((w.alloc (.cells #[.bool b, .slice A n c, .slice A' n' c'] 24)).alloc (.cells #[.bool d, .slice E m o, .slice E' m' o'] 24)).alloc (.cells #[.bool false, .slice none 0 0, .slice none 0 0] 24)) (w.heap.size + 1) 24 #[.bool d, .slice E m o, .slice E' m' o'] := ⟨by omega, ((Own.at_ (w.alloc (.cells #[.bool b, .slice A n c, .slice A' n' c'] 24)) (w.heap.size + 1) (by simp) 24 #[.bool d, .slice E m o, .slice E' m' o']).alloc (.cells #[.bool false, .slice none 0 0, .slice none 0 0] 24))⟩
  have OB4 : w.heap.size ≤ w.heap.size + 2 ∧ Own (((w.alloc (.cells #[.bool b, .slice A n c, .slice A' n' c'] 24)).alloc (.cells #[.bool d, .slice E m o, .slice E' m' o'] 24)).alloc (.cells #[.bool false, .slice none 0 0, .slice none 0 0] 24)) (w.heap.size + 2) 24 #[.bool false, .slice none 0 0, .slice none 0 0] := ⟨by omega, (Own.at_ ((w.alloc (.cells #[.bool b, .slice A n c, .slice A' n' c'] 24)).alloc (.cells #[.bool d, .slice E m o, .slice E' m' o'] 24)) (w.heap.size + 2) (by simp) 24 #[.bool false, .slice none 0 0, .slice none 0 0])⟩
  go_enter Tryz.func13, Tryz.ntmps13
  go_wp2
  refine wp_region_facts (by kernel_rfl) w [Fact.eq (.agg #[.bool b, .slice A n c, .slice A' n' c']), Fact.eq (.agg #[.bool d, .slice E m o, .slice E' m' o']), Fact.rat (-q) (L), Fact.rat (r - q) (L + L + 1), Fact.any] [Fact.any, Fact.any, Fact.rat (r - q) (L + L + 1)] [⟨5, 2, 24, 5, #[.bool b, .slice A n c, .slice A' n' c']⟩, ⟨5, 3, 24, 5, #[.bool d, .slice E m o, .slice E' m' o']⟩, ⟨5, 4, 24, 4, #[.bool false, .slice none 0 0, .slice none 0 0]⟩] [w.heap.size, w.heap.size + 1, w.heap.size + 2] [none, none, none, none, none, some 5, some 6, some 7, some 8] (by kernel_rfl) (by kernel_rfl) (by kernel_rfl) rfl B ?_ ?_ ?_ ?_ ?_
  · exact ⟨fun _ => ⟨by simp, rfl, OB2⟩, fun _ => ⟨by simp, rfl, OB3⟩, fun _ => ⟨by simp, rfl, OB4⟩, trivial⟩
  · exact .inr (by simp <;> omega)
  · exact ⟨⟨noWords_R _ _ _ _ _ _ _, (.inl (Nat.le_refl _)), (.inl (Nat.le_refl _))⟩, ⟨noWords_R _ _ _ _ _ _ _, (.inl (Nat.le_refl _)), (.inl (Nat.le_refl _))⟩, ⟨noWords_R _ _ _ _ _ _ _, (.inl (Nat.le_refl _)), (.inr (store_ob (j := 3) (noWords_R _ _ _ _ _ _ _) rfl rfl rfl (by kernel_rfl) rfl rfl rfl))⟩, trivial⟩
  · refine ⟨?_, ?_, ?_, ?_, ?_, trivial⟩
    · exact .inr fun a w hp => ob_yes rfl (ob_loadR (hp.box (k := 0) rfl (Nat.le_refl _) (.inl (Nat.le_refl _)) (by kernel_rfl) rfl).1 (hp.box (k := 0) rfl (Nat.le_refl _) (.inl (Nat.le_refl _)) (by kernel_rfl) rfl).2 rfl)
    · exact .inr fun a w hp => ob_yes rfl (ob_loadR (hp.box (k := 1) rfl (Nat.le_refl _) (.inl (Nat.le_refl _)) (by kernel_rfl) rfl).1 (hp.box (k := 1) rfl (Nat.le_refl _) (.inl (Nat.le_refl _)) (by kernel_rfl) rfl).2 rfl)
    · refine .inr fun a w hp => ob_yes rfl ?_
      have h6 : a.tmps.getD 6 undef = .agg #[.bool d, .slice E m o, .slice E' m' o'] := (hp.fact 1 6 (by kernel_rfl) rfl)
      unfold Does
      go_simp
      refine (sneg_any _ _ _ L (k.on hp.on) hL2 (by omega)).mono ?_
      rintro e w' ⟨u, rfl, I8, P8⟩
      exact ⟨_, rfl, P8, I8⟩
    · refine .inr fun a w hp => ob_yes rfl ?_
      have h5 : a.tmps.getD 5 undef = .agg #[.bool b, .slice A n c, .slice A' n' c'] := (hp.fact 0 5 (by kernel_rfl) rfl)
      have h7 : IsR w (a.tmps.getD 7 undef) (-q) (L) := (hp.fact 2 7 (by kernel_rfl) rfl)
      obtain ⟨v7, e7⟩ : ∃ v, a.tmps.getD 7 undef = v := ⟨_, rfl⟩
      rw [e7] at h7
      unfold Does
      go_simp
      refine (sadd_any _ _ _ _ _ L (h.on hp.on) (IsR.fld h7) hL2 hL).mono ?_
      rintro e w' ⟨u, rfl, I8, P8⟩
      rw [sub_add] at I8
      exact ⟨_, rfl, P8, I8⟩
    · exact .inl rfl
  · intro f wr hon hk hf hb hap
    obtain ⟨q0, q1, q2, qz⟩ := hb
    clear qz
    have O2 : Own wr (w.heap.size) 24 #[.bool b, .slice A n c, .slice A' n' c'] := q0
    have c2_0 : wr.cell? ⟨w.heap.size, 0, none⟩ = some (.bool b) := O2.cell 0
    have z2_0 := O2.frozen 0
    have c2_1 : wr.cell? ⟨w.heap.size, 1, none⟩ = some (.slice A n c) := O2.cell 1
    have z2_1 := O2.frozen 1
    have c2_2 : wr.cell? ⟨w.heap.size, 2, none⟩ = some (.slice A' n' c') := O2.cell 2
    have z2_2 := O2.frozen 2
    clear q0
    have O3 : Own wr (w.heap.size + 1) 24 #[.bool d, .slice E m o, .slice E' m' o'] := q1
    have c3_0 : wr.cell? ⟨w.heap.size + 1, 0, none⟩ = some (.bool d) := O3.cell 0
    have z3_0 := O3.frozen 0
    have c3_1 : wr.cell? ⟨w.heap.size + 1, 1, none⟩ = some (.slice E m o) := O3.cell 1
    have z3_1 := O3.frozen 1
    have c3_2 : wr.cell? ⟨w.heap.size + 1, 2, none⟩ = some (.slice E' m' o') := O3.cell 2
    have z3_2 := O3.frozen 2
    clear q1
    obtain ⟨cur4, O4, I4⟩ : ∃ cur, Own wr (w.heap.size + 2) 24 cur ∧ IsR wr (.agg cur) (r - q) (L + L + 1) := q2
    obtain ⟨P4, Pn4, Pc4, _, R4, Rn4, Rc4, _, hz4, _⟩ := id I4
    injection hz4 with hz4
    subst hz4
    have c4_0 : wr.cell? ⟨w.heap.size + 2, 0, none⟩ = some (.bool (decide (r - q < 0))) := O4.cell 0
    have z4_0 := O4.frozen 0
    have c4_1 : wr.cell? ⟨w.heap.size + 2, 1, none⟩ = some (.slice P4 Pn4 Pc4) := O4.cell 1
    have z4_1 := O4.frozen 1
    have c4_2 : wr.cell? ⟨w.heap.size + 2, 2, none⟩ = some (.slice R4 Rn4 Rc4) := O4.cell 2
    have z4_2 := O4.frozen 2
    clear hf hap
    simp only [fillL]
    go_wp2
    exact bodyPost_ret (v := .agg #[.bool (decide (r - q < 0)), .slice P4 Pn4 Pc4, .slice R4 Rn4 Rc4]) (by simp [results, Tryz.results13, go_sem, c4_0, c4_1, c4_2]) rfl ⟨_, rfl, I4, hon⟩
set_option maxRecDepth 100000 in
set_option maxHeartbeats 1600000 in
theorem sums_large (w : World) (hx : MX w) (b0 : Bool) (A0 D0 : Option Addr) (n0 c0 m0 e0 : Nat) (x0 y0 : List Nat) (R0 : Rd w A0 n0 c0 x0) (S0 : Rd w D0 m0 e0 y0) (b1 : Bool) (A1 D1 : Option Addr) (n1 c1 m1 e1 : Nat) (x1 y1 : List Nat) (R1 : Rd w A1 n1 c1 x1) (S1 : Rd w D1 m1 e1 y1)  (mi : Nat) (qi : Nat × Nat) (hmi : [(n0, m0), (n1, m1)][mi]? = some qi) (hyi : 12 < qi.1 ∨ 12 < qi.2) :
    Calls Tryz.prog 3 #[.agg #[.bool b0, .slice A0 n0 c0, .slice D0 m0 e0], .agg #[.bool b1, .slice A1 n1 c1, .slice D1 m1 e1]] w fun e w' => e = .returned (.bool true) ∧ On w w' := by
  have HMI := Lib.hid hmi
  have HYI := Lib.hid hyi
  clear hmi hyi
  have B : On w ((w.alloc (.cells #[.bool b0, .slice A0 n0 c0, .slice D0 m0 e0] 24)).alloc (.cells #[.bool b1, .slice A1 n1 c1, .slice D1 m1 e1] 24)) := On.alloc (On.alloc (On.refl w) _) _
  have OB2 : w.heap.size ≤ w.heap.size ∧ Own ((w.alloc (.cells #[.bool b0, .slice A0 n0 c0, .slice D0 m0 e0] 24)).alloc (.cells #[.bool b1, .slice A1 n1 c1, .slice D1 m1 e1] 24)) (w.heap.size) 24 #[.bool b0, .slice A0 n0 c0, .slice D0 m0 e0] := ⟨by omega, ((Own.at_ w (w.heap.size) (by simp) 24 #[.bool b0, .slice A0 n0 c0, .slice D0 m0 e0]).alloc (.cells #[.bool b1, .slice A1 n1 c1, .slice D1 m1 e1] 24))⟩
  have OB3 : w.heap.size ≤ w.heap.size + 1 ∧ Own ((w.alloc (.cells #[.bool b0, .slice A0 n0 c0, .slice D0 m0 e0] 24)).alloc (.cells #[.bool b1, .slice A1 n1 c1, .slice D1 m1 e1] 24)) (w.heap.size + 1) 24 #[.bool b1, .slice A1 n1 c1, .slice D1 m1 e1] := ⟨by omega, (Own.at_ (w.alloc (.cells #[.bool b0, .slice A0 n0 c0, .slice D0 m0 e0] 24)) (w.heap.size + 1) (by simp) 24 #[.bool b1, .slice A1 n1 c1, .slice D1 m1 e1])⟩
  go_enter Tryz.func3, Tryz.ntmps3
  go_wp2_with fail
  refine (awake02 _ (hx.on B)).mono ?_
  rintro e w1 ⟨rfl, P1⟩
  replace OB2 := And.intro OB2.1 (OB2.2.on P1)
  replace OB3 := And.intro OB3.1 (OB3.2.on P1)
  replace B := B.trans P1
  have y2_0 : w1.cell? ⟨w.heap.size, 0, none⟩ = some (.bool b0) := OB2.2.cell 0
  have y2_1 : w1.cell? ⟨w.heap.size, 1, none⟩ = some (.slice A0 n0 c0) := OB2.2.cell 1
  have y2_2 : w1.cell? ⟨w.heap.size, 2, none⟩ = some (.slice D0 m0 e0) := OB2.2.cell 2
  have y2_f0 := OB2.2.frozen 0
  have y2_f1 := OB2.2.frozen 1
  have y2_f2 := OB2.2.frozen 2
  have y3_0 : w1.cell? ⟨w.heap.size + 1, 0, none⟩ = some (.bool b1) := OB3.2.cell 0
  have y3_1 : w1.cell? ⟨w.heap.size + 1, 1, none⟩ = some (.slice A1 n1 c1) := OB3.2.cell 1
  have y3_2 : w1.cell? ⟨w.heap.size + 1, 2, none⟩ = some (.slice D1 m1 e1) := OB3.2.cell 2
  have y3_f0 := OB3.2.frozen 0
  have y3_f1 := OB3.2.frozen 1
  have y3_f2 := OB3.2.frozen 2
  go_wp2_with fail
  clear y2_0 y2_f0 y2_1 y2_f1 y2_2 y2_f2
  clear y3_0 y3_f0 y3_1 y3_f1 y3_2 y3_f2
  have B1 := (On.refl w1).alloc (.cells #[.bool b0, .slice A0 n0 c0, .slice D0 m0 e0, .bool b1, .slice A1 n1 c1, .slice D1 m1 e1] 24)
  replace OB2 := And.intro OB2.1 (OB2.2.on B1)
  replace OB3 := And.intro OB3.1 (OB3.2.on B1)
  replace B := B.trans B1
  have hlens := rlens2 b0 A0 D0 n0 c0 m0 e0 x0 y0 (R0.on B) (S0.on B) b1 A1 D1 n1 c1 m1 e1 x1 y1 (R1.on B) (S1.on B) (Own.new w1 24 #[.bool b0, .slice A0 n0 c0, .slice D0 m0 e0, .bool b1, .slice A1 n1 c1, .slice D1 m1 e1])
  refine (rlarge_yes _ _ 2 2 _ hlens rfl (by decide) (by decide) (by decide) mi qi HMI.out HYI.out).mono ?_
  rintro e w2 ⟨rfl, P2⟩
  clear hlens B1 P1
  replace OB2 := And.intro OB2.1 (OB2.2.on P2)
  replace OB3 := And.intro OB3.1 (OB3.2.on P2)
  replace B := B.trans P2
  clear P2
  go_wp2_with fail
  refine (awake02 _ (hx.on B)).mono ?_
  rintro e w3 ⟨rfl, P3⟩
  go_wp2
  go_ret
  exact ⟨rfl, B.trans P3⟩
set_option maxRecDepth 100000 in
set_option maxHeartbeats 1600000 in
theorem sums_small (w : World) (hx : MX w) (b0 : Bool) (A0 D0 : Option Addr) (n0 c0 m0 e0 : Nat) (x0 y0 : List Nat) (R0 : Rd w A0 n0 c0 x0) (S0 : Rd w D0 m0 e0 y0) (b1 : Bool) (A1 D1 : Option Addr) (n1 c1 m1 e1 : Nat) (x1 y1 : List Nat) (R1 : Rd w A1 n1 c1 x1) (S1 : Rd w D1 m1 e1 y1) (hs : n0 ≤ 12 ∧ m0 ≤ 12 ∧ n1 ≤ 12 ∧ m1 ≤ 12) :
    Calls Tryz.prog 3 #[.agg #[.bool b0, .slice A0 n0 c0, .slice D0 m0 e0], .agg #[.bool b1, .slice A1 n1 c1, .slice D1 m1 e1]] w fun e w' => e = .returned (.bool true) ∧ On w w' := by
  obtain ⟨r0, hr0⟩ : ∃ x, raw b0 x0 y0 = x := ⟨_, rfl⟩
  have F0 : Fld w (.agg #[.bool b0, .slice A0 n0 c0, .slice D0 m0 e0]) r0 12 := Fld.mk3 R0 S0 (by omega) (by omega) hr0
  obtain ⟨r1, hr1⟩ : ∃ x, raw b1 x1 y1 = x := ⟨_, rfl⟩
  have F1 : Fld w (.agg #[.bool b1, .slice A1 n1 c1, .slice D1 m1 e1]) r1 12 := Fld.mk3 R1 S1 (by omega) (by omega) hr1
  clear hr0 hr1
  have B : On w ((w.alloc (.cells #[.bool b0, .slice A0 n0 c0, .slice D0 m0 e0] 24)).alloc (.cells #[.bool b1, .slice A1 n1 c1, .slice D1 m1 e1] 24)) := On.alloc (On.alloc (On.refl w) _) _
  have OB2 : w.heap.size ≤ w.heap.size ∧ Own ((w.alloc (.cells #[.bool b0, .slice A0 n0 c0, .slice D0 m0 e0] 24)).alloc (.cells #[.bool b1, .slice A1 n1 c1, .slice D1 m1 e1] 24)) (w.heap.size) 24 #[.bool b0, .slice A0 n0 c0, .slice D0 m0 e0] := ⟨by omega, ((Own.at_ w (w.heap.size) (by simp) 24 #[.bool b0, .slice A0 n0 c0, .slice D0 m0 e0]).alloc (.cells #[.bool b1, .slice A1 n1 c1, .slice D1 m1 e1] 24))⟩
  have OB3 : w.heap.size ≤ w.heap.size + 1 ∧ Own ((w.alloc (.cells #[.bool b0, .slice A0 n0 c0, .slice D0 m0 e0] 24)).alloc (.cells #[.bool b1, .slice A1 n1 c1, .slice D1 m1 e1] 24)) (w.heap.size + 1) 24 #[.bool b1, .slice A1 n1 c1, .slice D1 m1 e1] := ⟨by omega, (Own.at_ (w.alloc (.cells #[.bool b0, .slice A0 n0 c0, .slice D0 m0 e0] 24)) (w.heap.size + 1) (by simp) 24 #[.bool b1, .slice A1 n1 c1, .slice D1 m1 e1])⟩
  go_enter Tryz.func3, Tryz.ntmps3
  go_wp2_with fail
  refine (awake02 _ (hx.on B)).mono ?_
  rintro e w1 ⟨rfl, P1⟩
  replace OB2 := And.intro OB2.1 (OB2.2.on P1)
  replace OB3 := And.intro OB3.1 (OB3.2.on P1)
  replace B := B.trans P1
  have y2_0 : w1.cell? ⟨w.heap.size, 0, none⟩ = some (.bool b0) := OB2.2.cell 0
  have y2_1 : w1.cell? ⟨w.heap.size, 1, none⟩ = some (.slice A0 n0 c0) := OB2.2.cell 1
  have y2_2 : w1.cell? ⟨w.heap.size, 2, none⟩ = some (.slice D0 m0 e0) := OB2.2.cell 2
  have y2_f0 := OB2.2.frozen 0
  have y2_f1 := OB2.2.frozen 1
  have y2_f2 := OB2.2.frozen 2
  have y3_0 : w1.cell? ⟨w.heap.size + 1, 0, none⟩ = some (.bool b1) := OB3.2.cell 0
  have y3_1 : w1.cell? ⟨w.heap.size + 1, 1, none⟩ = some (.slice A1 n1 c1) := OB3.2.cell 1
  have y3_2 : w1.cell? ⟨w.heap.size + 1, 2, none⟩ = some (.slice D1 m1 e1) := OB3.2.cell 2
  have y3_f0 := OB3.2.frozen 0
  have y3_f1 := OB3.2.frozen 1
  have y3_f2 := OB3.2.frozen 2
  go_wp2_with fail
  clear y2_0 y2_f0 y2_1 y2_f1 y2_2 y2_f2
  clear y3_0 y3_f0 y3_1 y3_f1 y3_2 y3_f2
  have B1 := (On.refl w1).alloc (.cells #[.bool b0, .slice A0 n0 c0, .slice D0 m0 e0, .bool b1, .slice A1 n1 c1, .slice D1 m1 e1] 24)
  replace OB2 := And.intro OB2.1 (OB2.2.on B1)
  replace OB3 := And.intro OB3.1 (OB3.2.on B1)
  replace B := B.trans B1
  have hlens := rlens2 b0 A0 D0 n0 c0 m0 e0 x0 y0 (R0.on B) (S0.on B) b1 A1 D1 n1 c1 m1 e1 x1 y1 (R1.on B) (S1.on B) (Own.new w1 24 #[.bool b0, .slice A0 n0 c0, .slice D0 m0 e0, .bool b1, .slice A1 n1 c1, .slice D1 m1 e1])
  refine (rlarge_no _ _ 2 2 _ hlens rfl (by decide) (by decide) (by decide) (by simp; omega)).mono ?_
  rintro e w2 ⟨rfl, P2⟩
  clear hlens B1 P1
  replace OB2 := And.intro OB2.1 (OB2.2.on P2)
  replace OB3 := And.intro OB3.1 (OB3.2.on P2)
  replace B := B.trans P2
  clear P2
  clear hx
  go_wp2
  refine wp_region_facts (by kernel_rfl) w [Fact.eq (.agg #[.bool b0, .slice A0 n0 c0, .slice D0 m0 e0]), Fact.eq (.agg #[.bool b1, .slice A1 n1 c1, .slice D1 m1 e1]), Fact.rat (r0 + r1) (12 + 12 + 1), Fact.eq (.agg #[.bool b0, .slice A0 n0 c0, .slice D0 m0 e0]), Fact.eq (.agg #[.bool b1, .slice A1 n1 c1, .slice D1 m1 e1]), Fact.rat (r0 + r1) (12 + 12 + 1), Fact.eq (.bool true), Fact.eq (.bool true), Fact.eq (.agg #[.bool b0, .slice A0 n0 c0, .slice D0 m0 e0]), Fact.eq (.agg #[.bool b1, .slice A1 n1 c1, .slice D1 m1 e1]), Fact.rat (r0 - r1) (12 + 12 + 1), Fact.eq (.agg #[.bool b0, .slice A0 n0 c0, .slice D0 m0 e0]), Fact.eq (.agg #[.bool b1, .slice A1 n1 c1, .slice D1 m1 e1]), Fact.rat (r0 - r1) (12 + 12 + 1), Fact.eq (.bool true), Fact.eq (.bool true), Fact.eq (.bool true), Fact.eq (.agg #[.bool b0, .slice A0 n0 c0, .slice D0 m0 e0]), Fact.rat (-r0) (12), Fact.eq (.agg #[.bool b0, .slice A0 n0 c0, .slice D0 m0 e0]), Fact.rat (-r0) (12), Fact.eq (.bool true), Fact.eq (.bool true), Fact.eq (.bool true), Fact.eq (.agg #[.bool b0, .slice A0 n0 c0, .slice D0 m0 e0]), Fact.rat (rabs r0) (12), Fact.eq (.agg #[.bool b0, .slice A0 n0 c0, .slice D0 m0 e0]), Fact.rat (rabs r0) (12), Fact.eq (.bool true), Fact.eq (.bool true), Fact.eq (.bool true)] [Fact.any, Fact.any] [⟨31, 2, 24, 31, #[.bool b0, .slice A0 n0 c0, .slice D0 m0 e0]⟩, ⟨31, 3, 24, 31, #[.bool b1, .slice A1 n1 c1, .slice D1 m1 e1]⟩] [w.heap.size, w.heap.size + 1] [none, none, none, none, some 4, none, none, none, none, none, none, none, none, none, some 14, some 15, some 16, some 17, some 18, some 19, some 20, some 21, some 22, some 23, some 24, some 25, some 26, some 27, some 28, some 29, some 30, some 31, some 32, some 33, some 34, some 35, some 36, some 37, some 38, some 39, some 40, some 41, some 42, some 43] (by kernel_rfl) (by kernel_rfl) (by kernel_rfl) rfl B ?_ ?_ ?_ ?_ ?_
  · exact ⟨fun _ => ⟨by simp, rfl, OB2⟩, fun _ => ⟨by simp, rfl, OB3⟩, trivial⟩
  · exact .inl ⟨Nat.le_refl _, Nat.le_refl _, trivial⟩
  · exact ⟨⟨noWords_R _ _ _ _ _ _ _, (.inl (Nat.le_refl _)), (.inl (Nat.le_refl _))⟩, ⟨noWords_R _ _ _ _ _ _ _, (.inl (Nat.le_refl _)), (.inl (Nat.le_refl _))⟩, trivial⟩
  · refine ⟨?_, ?_, ?_, ?_, ?_, ?_, ?_, ?_, ?_, ?_, ?_, ?_, ?_, ?_, ?_, ?_, ?_, ?_, ?_, ?_, ?_, ?_, ?_, ?_, ?_, ?_, ?_, ?_, ?_, ?_, ?_, trivial⟩
    · exact .inr fun a w hp => ob_yes rfl (ob_loadR (hp.box (k := 0) rfl (Nat.le_refl _) (.inl (Nat.le_refl _)) (by kernel_rfl) rfl).1 (hp.box (k := 0) rfl (Nat.le_refl _) (.inl (Nat.le_refl _)) (by kernel_rfl) rfl).2 rfl)
    · exact .inr fun a w hp => ob_yes rfl (ob_loadR (hp.box (k := 1) rfl (Nat.le_refl _) (.inl (Nat.le_refl _)) (by kernel_rfl) rfl).1 (hp.box (k := 1) rfl (Nat.le_refl _) (.inl (Nat.le_refl _)) (by kernel_rfl) rfl).2 rfl)
    · refine .inr fun a w hp => ob_yes rfl ?_
      have h14 : a.tmps.getD 14 undef = .agg #[.bool b0, .slice A0 n0 c0, .slice D0 m0 e0] := (hp.fact 0 14 (by kernel_rfl) rfl)
      have h15 : a.tmps.getD 15 undef = .agg #[.bool b1, .slice A1 n1 c1, .slice D1 m1 e1] := (hp.fact 1 15 (by kernel_rfl) rfl)
      unfold Does
      go_simp
      refine (addr_any _ _ _ _ _ 12 (F0.on hp.on) (F1.on hp.on) (by decide) (by decide)).mono ?_
      rintro e w' ⟨u, rfl, I8, P8⟩
      exact ⟨_, rfl, P8, I8⟩
    · exact .inr fun a w hp => ob_yes rfl (ob_loadR (hp.box (k := 0) rfl (Nat.le_refl _) (.inl (Nat.le_refl _)) (by kernel_rfl) rfl).1 (hp.box (k := 0) rfl (Nat.le_refl _) (.inl (Nat.le_refl _)) (by kernel_rfl) rfl).2 rfl)
    · exact .inr fun a w hp => ob_yes rfl (ob_loadR (hp.box (k := 1) rfl (Nat.le_refl _) (.inl (Nat.le_refl _)) (by kernel_rfl) rfl).1 (hp.box (k := 1) rfl (Nat.le_refl _) (.inl (Nat.le_refl _)) (by kernel_rfl) rfl).2 rfl)
    · refine .inr fun a w hp => ob_yes rfl ?_
      have h17 : a.tmps.getD 17 undef = .agg #[.bool b0, .slice A0 n0 c0, .slice D0 m0 e0] := (hp.fact 3 17 (by kernel_rfl) rfl)
      have h18 : a.tmps.getD 18 undef = .agg #[.bool b1, .slice A1 n1 c1, .slice D1 m1 e1] := (hp.fact 4 18 (by kernel_rfl) rfl)
      unfold Does
      go_simp
      refine (sadd_any _ _ _ _ _ 12 (F0.on hp.on) (F1.on hp.on) (by decide) (by decide)).mono ?_
      rintro e w' ⟨u, rfl, I8, P8⟩
      exact ⟨_, rfl, P8, I8⟩
    · refine .inr fun a w hp => ob_yes rfl ?_
      have h16 : IsR w (a.tmps.getD 16 undef) (r0 + r1) (12 + 12 + 1) := (hp.fact 2 16 (by kernel_rfl) rfl)
      obtain ⟨v16, e16⟩ : ∃ v, a.tmps.getD 16 undef = v := ⟨_, rfl⟩
      rw [e16] at h16
      have h19 : IsR w (a.tmps.getD 19 undef) (r0 + r1) (12 + 12 + 1) := (hp.fact 5 19 (by kernel_rfl) rfl)
      obtain ⟨v19, e19⟩ : ∃ v, a.tmps.getD 19 undef = v := ⟨_, rfl⟩
      rw [e19] at h19
      unfold Does
      go_simp
      refine (rat_same _ _ _ _ _ _ h16 h19).mono ?_
      rintro e w' ⟨rfl, P8⟩
      exact ⟨_, rfl, P8, rfl⟩
    · exact .inr fun a w hp => ob_yes rfl (ob_move (hp.fact 6 20 (by kernel_rfl) rfl))
    · exact .inr fun a w hp => ob_yes (wanted_yes (P := Tryz.prog) (j := 7) (d := 21) (b := true) rfl rfl (hp.fact 7 21 (by kernel_rfl) rfl)) (ob_loadR (hp.box (k := 0) rfl (Nat.le_refl _) (.inl (Nat.le_refl _)) (by kernel_rfl) rfl).1 (hp.box (k := 0) rfl (Nat.le_refl _) (.inl (Nat.le_refl _)) (by kernel_rfl) rfl).2 rfl)
    · exact .inr fun a w hp => ob_yes (wanted_yes (P := Tryz.prog) (j := 7) (d := 21) (b := true) rfl rfl (hp.fact 7 21 (by kernel_rfl) rfl)) (ob_loadR (hp.box (k := 1) rfl (Nat.le_refl _) (.inl (Nat.le_refl _)) (by kernel_rfl) rfl).1 (hp.box (k := 1) rfl (Nat.le_refl _) (.inl (Nat.le_refl _)) (by kernel_rfl) rfl).2 rfl)
    · refine .inr fun a w hp => ob_yes (wanted_yes (P := Tryz.prog) (j := 7) (d := 21) (b := true) rfl rfl (hp.fact 7 21 (by kernel_rfl) rfl)) ?_
      have h22 : a.tmps.getD 22 undef = .agg #[.bool b0, .slice A0 n0 c0, .slice D0 m0 e0] := (hp.fact 8 22 (by kernel_rfl) rfl)
      have h23 : a.tmps.getD 23 undef = .agg #[.bool b1, .slice A1 n1 c1, .slice D1 m1 e1] := (hp.fact 9 23 (by kernel_rfl) rfl)
      unfold Does
      go_simp
      refine (subr_any _ _ _ _ _ 12 (F0.on hp.on) (F1.on hp.on) (by decide) (by decide)).mono ?_
      rintro e w' ⟨u, rfl, I8, P8⟩
      exact ⟨_, rfl, P8, I8⟩
    · exact .inr fun a w hp => ob_yes (wanted_yes (P := Tryz.prog) (j := 7) (d := 21) (b := true) rfl rfl (hp.fact 7 21 (by kernel_rfl) rfl)) (ob_loadR (hp.box (k := 0) rfl (Nat.le_refl _) (.inl (Nat.le_refl _)) (by kernel_rfl) rfl).1 (hp.box (k := 0) rfl (Nat.le_refl _) (.inl (Nat.le_refl _)) (by kernel_rfl) rfl).2 rfl)
    · exact .inr fun a w hp => ob_yes (wanted_yes (P := Tryz.prog) (j := 7) (d := 21) (b := true) rfl rfl (hp.fact 7 21 (by kernel_rfl) rfl)) (ob_loadR (hp.box (k := 1) rfl (Nat.le_refl _) (.inl (Nat.le_refl _)) (by kernel_rfl) rfl).1 (hp.box (k := 1) rfl (Nat.le_refl _) (.inl (Nat.le_refl _)) (by kernel_rfl) rfl).2 rfl)
    · refine .inr fun a w hp => ob_yes (wanted_yes (P := Tryz.prog) (j := 7) (d := 21) (b := true) rfl rfl (hp.fact 7 21 (by kernel_rfl) rfl)) ?_
      have h25 : a.tmps.getD 25 undef = .agg #[.bool b0, .slice A0 n0 c0, .slice D0 m0 e0] := (hp.fact 11 25 (by kernel_rfl) rfl)
      have h26 : a.tmps.getD 26 undef = .agg #[.bool b1, .slice A1 n1 c1, .slice D1 m1 e1] := (hp.fact 12 26 (by kernel_rfl) rfl)
      unfold Does
      go_simp
      refine (ssub_any _ _ _ _ _ 12 (F0.on hp.on) (F1.on hp.on) (by decide) (by decide)).mono ?_
      rintro e w' ⟨u, rfl, I8, P8⟩
      exact ⟨_, rfl, P8, I8⟩
    · refine .inr fun a w hp => ob_yes (wanted_yes (P := Tryz.prog) (j := 7) (d := 21) (b := true) rfl rfl (hp.fact 7 21 (by kernel_rfl) rfl)) ?_
      have h24 : IsR w (a.tmps.getD 24 undef) (r0 - r1) (12 + 12 + 1) := (hp.fact 10 24 (by kernel_rfl) rfl)
      obtain ⟨v24, e24⟩ : ∃ v, a.tmps.getD 24 undef = v := ⟨_, rfl⟩
      rw [e24] at h24
      have h27 : IsR w (a.tmps.getD 27 undef) (r0 - r1) (12 + 12 + 1) := (hp.fact 13 27 (by kernel_rfl) rfl)
      obtain ⟨v27, e27⟩ : ∃ v, a.tmps.getD 27 undef = v := ⟨_, rfl⟩
      rw [e27] at h27
      unfold Does
      go_simp
      refine (rat_same _ _ _ _ _ _ h24 h27).mono ?_
      rintro e w' ⟨rfl, P8⟩
      exact ⟨_, rfl, P8, rfl⟩
    · refine .inr fun a w hp => ob_yes rfl ?_
      have h21 : a.tmps.getD 21 undef = .bool true := (hp.fact 7 21 (by kernel_rfl) rfl)
      have h28 : a.tmps.getD 28 undef = .bool true := (hp.fact 14 28 (by kernel_rfl) rfl)
      unfold Does
      go_simp
      exact ⟨_, rfl, On.refl _, rfl⟩
    · exact .inr fun a w hp => ob_yes rfl (ob_move (hp.fact 15 29 (by kernel_rfl) rfl))
    · exact .inr fun a w hp => ob_yes (wanted_yes (P := Tryz.prog) (j := 16) (d := 30) (b := true) rfl rfl (hp.fact 16 30 (by kernel_rfl) rfl)) (ob_loadR (hp.box (k := 0) rfl (Nat.le_refl _) (.inl (Nat.le_refl _)) (by kernel_rfl) rfl).1 (hp.box (k := 0) rfl (Nat.le_refl _) (.inl (Nat.le_refl _)) (by kernel_rfl) rfl).2 rfl)
    · refine .inr fun a w hp => ob_yes (wanted_yes (P := Tryz.prog) (j := 16) (d := 30) (b := true) rfl rfl (hp.fact 16 30 (by kernel_rfl) rfl)) ?_
      have h31 : a.tmps.getD 31 undef = .agg #[.bool b0, .slice A0 n0 c0, .slice D0 m0 e0] := (hp.fact 17 31 (by kernel_rfl) rfl)
      unfold Does
      go_simp
      refine (negr_any _ _ _ 12 (F0.on hp.on) (by decide)).mono ?_
      rintro e w' ⟨u, rfl, I8, P8⟩
      exact ⟨_, rfl, P8, I8⟩
    · exact .inr fun a w hp => ob_yes (wanted_yes (P := Tryz.prog) (j := 16) (d := 30) (b := true) rfl rfl (hp.fact 16 30 (by kernel_rfl) rfl)) (ob_loadR (hp.box (k := 0) rfl (Nat.le_refl _) (.inl (Nat.le_refl _)) (by kernel_rfl) rfl).1 (hp.box (k := 0) rfl (Nat.le_refl _) (.inl (Nat.le_refl _)) (by kernel_rfl) rfl).2 rfl)
    · refine .inr fun a w hp => ob_yes (wanted_yes (P := Tryz.prog) (j := 16) (d := 30) (b := true) rfl rfl (hp.fact 16 30 (by kernel_rfl) rfl)) ?_
      have h33 : a.tmps.getD 33 undef = .agg #[.bool b0, .slice A0 n0 c0, .slice D0 m0 e0] := (hp.fact 19 33 (by kernel_rfl) rfl)
      unfold Does
      go_simp
      refine (sneg_any _ _ _ 12 (F0.on hp.on) (by decide) (by decide)).mono ?_
      rintro e w' ⟨u, rfl, I8, P8⟩
      exact ⟨_, rfl, P8, I8⟩
    · refine .inr fun a w hp => ob_yes (wanted_yes (P := Tryz.prog) (j := 16) (d := 30) (b := true) rfl rfl (hp.fact 16 30 (by kernel_rfl) rfl)) ?_
      have h32 : IsR w (a.tmps.getD 32 undef) (-r0) (12) := (hp.fact 18 32 (by kernel_rfl) rfl)
      obtain ⟨v32, e32⟩ : ∃ v, a.tmps.getD 32 undef = v := ⟨_, rfl⟩
      rw [e32] at h32
      have h34 : IsR w (a.tmps.getD 34 undef) (-r0) (12) := (hp.fact 20 34 (by kernel_rfl) rfl)
      obtain ⟨v34, e34⟩ : ∃ v, a.tmps.getD 34 undef = v := ⟨_, rfl⟩
      rw [e34] at h34
      unfold Does
      go_simp
      refine (rat_same _ _ _ _ _ _ h32 h34).mono ?_
      rintro e w' ⟨rfl, P8⟩
      exact ⟨_, rfl, P8, rfl⟩
    · refine .inr fun a w hp => ob_yes rfl ?_
      have h30 : a.tmps.getD 30 undef = .bool true := (hp.fact 16 30 (by kernel_rfl) rfl)
      have h35 : a.tmps.getD 35 undef = .bool true := (hp.fact 21 35 (by kernel_rfl) rfl)
      unfold Does
      go_simp
      exact ⟨_, rfl, On.refl _, rfl⟩
    · exact .inr fun a w hp => ob_yes rfl (ob_move (hp.fact 22 36 (by kernel_rfl) rfl))
    · exact .inr fun a w hp => ob_yes (wanted_yes (P := Tryz.prog) (j := 23) (d := 37) (b := true) rfl rfl (hp.fact 23 37 (by kernel_rfl) rfl)) (ob_loadR (hp.box (k := 0) rfl (Nat.le_refl _) (.inl (Nat.le_refl _)) (by kernel_rfl) rfl).1 (hp.box (k := 0) rfl (Nat.le_refl _) (.inl (Nat.le_refl _)) (by kernel_rfl) rfl).2 rfl)
    · refine .inr fun a w hp => ob_yes (wanted_yes (P := Tryz.prog) (j := 23) (d := 37) (b := true) rfl rfl (hp.fact 23 37 (by kernel_rfl) rfl)) ?_
      have h38 : a.tmps.getD 38 undef = .agg #[.bool b0, .slice A0 n0 c0, .slice D0 m0 e0] := (hp.fact 24 38 (by kernel_rfl) rfl)
      unfold Does
      go_simp
      refine (absr_any _ _ _ 12 (F0.on hp.on) (by decide)).mono ?_
      rintro e w' ⟨u, rfl, I8, P8⟩
      exact ⟨_, rfl, P8, I8⟩
    · exact .inr fun a w hp => ob_yes (wanted_yes (P := Tryz.prog) (j := 23) (d := 37) (b := true) rfl rfl (hp.fact 23 37 (by kernel_rfl) rfl)) (ob_loadR (hp.box (k := 0) rfl (Nat.le_refl _) (.inl (Nat.le_refl _)) (by kernel_rfl) rfl).1 (hp.box (k := 0) rfl (Nat.le_refl _) (.inl (Nat.le_refl _)) (by kernel_rfl) rfl).2 rfl)
    · refine .inr fun a w hp => ob_yes (wanted_yes (P := Tryz.prog) (j := 23) (d := 37) (b := true) rfl rfl (hp.fact 23 37 (by kernel_rfl) rfl)) ?_
      have h40 : a.tmps.getD 40 undef = .agg #[.bool b0, .slice A0 n0 c0, .slice D0 m0 e0] := (hp.fact 26 40 (by kernel_rfl) rfl)
      unfold Does
      go_simp
      refine (sabs_any _ _ _ 12 (F0.on hp.on) (by decide) (by decide)).mono ?_
      rintro e w' ⟨u, rfl, I8, P8⟩
      exact ⟨_, rfl, P8, I8⟩
    · refine .inr fun a w hp => ob_yes (wanted_yes (P := Tryz.prog) (j := 23) (d := 37) (b := true) rfl rfl (hp.fact 23 37 (by kernel_rfl) rfl)) ?_
      have h39 : IsR w (a.tmps.getD 39 undef) (rabs r0) (12) := (hp.fact 25 39 (by kernel_rfl) rfl)
      obtain ⟨v39, e39⟩ : ∃ v, a.tmps.getD 39 undef = v := ⟨_, rfl⟩
      rw [e39] at h39
      have h41 : IsR w (a.tmps.getD 41 undef) (rabs r0) (12) := (hp.fact 27 41 (by kernel_rfl) rfl)
      obtain ⟨v41, e41⟩ : ∃ v, a.tmps.getD 41 undef = v := ⟨_, rfl⟩
      rw [e41] at h41
      unfold Does
      go_simp
      refine (rat_same _ _ _ _ _ _ h39 h41).mono ?_
      rintro e w' ⟨rfl, P8⟩
      exact ⟨_, rfl, P8, rfl⟩
    · refine .inr fun a w hp => ob_yes rfl ?_
      have h37 : a.tmps.getD 37 undef = .bool true := (hp.fact 23 37 (by kernel_rfl) rfl)
      have h42 : a.tmps.getD 42 undef = .bool true := (hp.fact 28 42 (by kernel_rfl) rfl)
      unfold Does
      go_simp
      exact ⟨_, rfl, On.refl _, rfl⟩
    · exact .inr fun a w hp => ob_yes rfl (ob_assign (hp.fact 29 43 (by kernel_rfl) rfl))
  · intro f wr hon hk hf hb hap
    obtain ⟨q0, q1, qz⟩ := hb
    clear qz
    have O2 : Own wr (w.heap.size) 24 #[.bool b0, .slice A0 n0 c0, .slice D0 m0 e0] := q0
    have c2_0 : wr.cell? ⟨w.heap.size, 0, none⟩ = some (.bool b0) := O2.cell 0
    have z2_0 := O2.frozen 0
    have c2_1 : wr.cell? ⟨w.heap.size, 1, none⟩ = some (.slice A0 n0 c0) := O2.cell 1
    have z2_1 := O2.frozen 1
    have c2_2 : wr.cell? ⟨w.heap.size, 2, none⟩ = some (.slice D0 m0 e0) := O2.cell 2
    have z2_2 := O2.frozen 2
    clear q0
    have O3 : Own wr (w.heap.size + 1) 24 #[.bool b1, .slice A1 n1 c1, .slice D1 m1 e1] := q1
    have c3_0 : wr.cell? ⟨w.heap.size + 1, 0, none⟩ = some (.bool b1) := O3.cell 0
    have z3_0 := O3.frozen 0
    have c3_1 : wr.cell? ⟨w.heap.size + 1, 1, none⟩ = some (.slice A1 n1 c1) := O3.cell 1
    have z3_1 := O3.frozen 1
    have c3_2 : wr.cell? ⟨w.heap.size + 1, 2, none⟩ = some (.slice D1 m1 e1) := O3.cell 2
    have z3_2 := O3.frozen 2
    clear q1
    have e4 : f 4 = .bool true := hf 30 4 rfl
    clear hf hap
    simp only [fillL, e4]
    clear e4
    go_wp2
    go_ret
    exact ⟨rfl, hon⟩
theorem sums_any (w : World) (hx : MX w) (b0 : Bool) (A0 D0 : Option Addr) (n0 c0 m0 e0 : Nat) (x0 y0 : List Nat) (R0 : Rd w A0 n0 c0 x0) (S0 : Rd w D0 m0 e0 y0) (b1 : Bool) (A1 D1 : Option Addr) (n1 c1 m1 e1 : Nat) (x1 y1 : List Nat) (R1 : Rd w A1 n1 c1 x1) (S1 : Rd w D1 m1 e1 y1)  :
    Calls Tryz.prog 3 #[.agg #[.bool b0, .slice A0 n0 c0, .slice D0 m0 e0], .agg #[.bool b1, .slice A1 n1 c1, .slice D1 m1 e1]] w fun e w' => e = .returned (.bool true) ∧ On w w' := by
  by_cases hs : n0 ≤ 12 ∧ m0 ≤ 12 ∧ n1 ≤ 12 ∧ m1 ≤ 12
  · exact sums_small w hx b0 A0 D0 n0 c0 m0 e0 x0 y0 R0 S0 b1 A1 D1 n1 c1 m1 e1 x1 y1 R1 S1  hs
  · have : ∃ (mi : Nat) (qi : Nat × Nat), [(n0, m0), (n1, m1)][mi]? = some qi ∧ (12 < qi.1 ∨ 12 < qi.2) := by
      by_cases h0 : 12 < n0 ∨ 12 < m0
      · exact ⟨0, _, rfl, h0⟩
      by_cases h1 : 12 < n1 ∨ 12 < m1
      · exact ⟨1, _, rfl, h1⟩
      omega
    obtain ⟨mi, qi, h1, h2⟩ := this
    exact sums_large w hx b0 A0 D0 n0 c0 m0 e0 x0 y0 R0 S0 b1 A1 D1 n1 c1 m1 e1 x1 y1 R1 S1  mi qi h1 h2
end Num
end Go.Proofs.YtikmjlaeadockaaGreat
