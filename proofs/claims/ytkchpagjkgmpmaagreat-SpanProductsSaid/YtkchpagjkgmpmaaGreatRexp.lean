/-
  The exported functions over any fields: Add, Sub, Mul, Cmp, Sign, Div.
-/
import Derived.Test.YtkchpagjkgmpmaaGreatRsum
namespace Go.Proofs.YtkchpagjkgmpmaaGreat
open Go.RowKit
set_option linter.unusedVariables false
namespace Num
/-- a struct whose number is r: whatever its fields are, each list at most L words -/
def Fld (w : World) (v : Value) (r : Rat) (L : Nat) : Prop := ∃ (s : Bool) (A : Option Addr) (n c : Nat) (A' : Option Addr) (n' c' : Nat) (xs ys : List Nat), v = .agg #[.bool s, .slice A n c, .slice A' n' c'] ∧ Rd w A n c xs ∧ Rd w A' n' c' ys ∧ n ≤ L ∧ n' ≤ L ∧ raw s xs ys = r
theorem Fld.on {w w' : World} {v : Value} {r : Rat} {L : Nat} (h : Fld w v r L) (hb : On w w') : Fld w' v r L := by
  obtain ⟨s, A, n, c, A', n', c', xs, ys, h1, h2, h3, h4⟩ := h
  exact ⟨s, A, n, c, A', n', c', xs, ys, h1, h2.on hb, h3.on hb, h4⟩
theorem Fld.kept {w w' : World} {v : Value} {r : Rat} {L : Nat} (h : Fld w v r L) (hb : Kept w w') : Fld w' v r L := by
  obtain ⟨s, A, n, c, A', n', c', xs, ys, h1, h2, h3, h4⟩ := h
  exact ⟨s, A, n, c, A', n', c', xs, ys, h1, h2.kept hb, h3.kept hb, h4⟩
theorem Fld.wide {w : World} {v : Value} {r : Rat} {L M : Nat} (h : Fld w v r L) (k : L ≤ M) : Fld w v r M := by
  obtain ⟨s, A, n, c, A', n', c', xs, ys, h1, h2, h3, h4, h5, h6⟩ := h
  exact ⟨s, A, n, c, A', n', c', xs, ys, h1, h2, h3, by omega, by omega, h6⟩
theorem raw_isR {r : Rat} {xs ys : List Nat} (C : Clean xs) (C' : Clean ys) (h1 : val xs = r.num.natAbs) (h2 : val ys = dn r) : raw (decide (r < 0)) xs ys = r := by
  by_cases h0 : r = 0
  · subst h0
    have : xs = [] := (nil_iff C).2 (by rw [h1]; rfl)
    subst this
    exact raw_nil _ _
  · rw [dn_ne h0] at h2
    have hx : 0 < val xs := by rw [h1]; exact num_pos_of_ne h0
    have hy : 0 < val ys := by rw [h2]; exact r.den_pos
    have lx : 0 < xs.length := by
      rcases Nat.eq_zero_or_pos xs.length with h | h
      · rw [List.eq_nil_of_length_eq_zero h] at hx; cases hx
      · exact h
    have ly : 0 < ys.length := by
      rcases Nat.eq_zero_or_pos ys.length with h | h
      · rw [List.eq_nil_of_length_eq_zero h] at hy; cases hy
      · exact h
    rw [raw_fit (fitB_yes _ ⟨lx, C⟩ ⟨ly, C'⟩ (by rw [h1, h2]; exact r.reduced)) lx, h1, h2, fr_self]
theorem IsR.fld {w : World} {v : Value} {r : Rat} {L : Nat} (h : IsR w v r L) : Fld w v r L := by
  obtain ⟨A, n, c, xs, A', n', c', ys, h1, h2, h3, C, C', h5, h6, h7, h8⟩ := h
  exact ⟨_, A, n, c, A', n', c', xs, ys, h1, h2, h3, h5, h6, raw_isR C C' h7 h8⟩
def Fact.fld (r : Rat) (L : Nat) : Fact := ⟨fun v w => Fld w v r L, fun _ _ _ k h => h.kept k⟩
theorem value_fld (w : World) (v : Value) (r : Rat) (L : Nat) (h : Fld w v r L) (hL : L ≤ 5000) : Calls Tryz.prog 74 #[v] w (RatPost w r L) := by
  obtain ⟨s, A, n, c, A', n', c', xs, ys, rfl, h2, h3, h4, h5, rfl⟩ := h
  exact value_any w s A A' n c n' c' L xs ys h2 h3 h4 h5 hL
theorem RatPost.wide {w : World} {r : Rat} {L M : Nat} {e : Ending} {w' : World} (h : RatPost w r L e w') (k : L ≤ M) : RatPost w r M e w' := by
  obtain ⟨u, e1, I, o⟩ := h
  exact ⟨u, e1, I.wide k, o⟩
theorem sub_add (r q : Rat) : r + -q = r - q := by grind
set_option maxRecDepth 100000 in
set_option maxHeartbeats 1600000 in
theorem addr_any (w : World) (v v' : Value) (r q : Rat) (L : Nat) (h : Fld w v r L) (k : Fld w v' q L) (hL2 : 2 ≤ L) (hL : L ≤ 4000) :
    Calls Tryz.prog 59 #[v, v'] w (RatPost w (r + q) (L + L + 1)) := by
  obtain ⟨b, A, n, c, A', n', c', xs, ys, rfl, R, R', h1, h2, h3⟩ := id h
  obtain ⟨d, E, m, o, E', m', o', us, vs, rfl, U, U', k1, k2, k3⟩ := id k
  clear h3 k3
  have B : On w (((w.alloc (.cells #[.bool b, .slice A n c, .slice A' n' c'] 24)).alloc (.cells #[.bool d, .slice E m o, .slice E' m' o'] 24)).alloc (.cells #[.bool false, .slice none 0 0, .slice none 0 0] 24)) := On.alloc (On.alloc (On.alloc (On.refl w) _) _) _
  have OB2 : w.heap.size ≤ w.heap.size ∧ Own (((w.alloc (.cells #[.bool b, .slice A n c, .slice A' n' c'] 24)).alloc (.cells #[.bool d, .slice E m o, .slice E' m' o'] 24)).alloc (.cells #[.bool false, .slice none 0 0, .slice none 0 0] 24)) (w.heap.size) 24 #[.bool b, .slice A n c, .slice A' n' c'] := ⟨by omega, (((Own.at_ w (w.heap.size) (by simp) 24 #[.bool b, .slice A n c, .slice A' n' c']).alloc (.cells #[.bool d, .slice E m o, .slice E' m' o'] 24)).alloc (.cells #[.bool false, .slice none 0 0, .slice none 0 0] 24))⟩
  have OB3 : w.heap.size ≤ w.heap.size + 1 ∧ Own (((w.alloc (.cells #[.bool b, .slice A n c, .slice A' n' c'] 24)).alloc (.cells #[.bool d, .slice E m o, .slice E' m' o'] 24)).alloc (.cells #[.bool false, .slice none 0 0, .slice none 0 0] 24)) (w.heap.size + 1) 24 #[.bool d, .slice E m o, .slice E' m' o'] := ⟨by omega, ((Own.at_ (w.alloc (.cells #[.bool b, .slice A n c, .slice A' n' c'] 24)) (w.heap.size + 1) (by simp) 24 #[.bool d, .slice E m o, .slice E' m' o']).alloc (.cells #[.bool false, .slice none 0 0, .slice none 0 0] 24))⟩
  have OB4 : w.heap.size ≤ w.heap.size + 2 ∧ Own (((w.alloc (.cells #[.bool b, .slice A n c, .slice A' n' c'] 24)).alloc (.cells #[.bool d, .slice E m o, .slice E' m' o'] 24)).alloc (.cells #[.bool false, .slice none 0 0, .slice none 0 0] 24)) (w.heap.size + 2) 24 #[.bool false, .slice none 0 0, .slice none 0 0] := ⟨by omega, (Own.at_ ((w.alloc (.cells #[.bool b, .slice A n c, .slice A' n' c'] 24)).alloc (.cells #[.bool d, .slice E m o, .slice E' m' o'] 24)) (w.heap.size + 2) (by simp) 24 #[.bool false, .slice none 0 0, .slice none 0 0])⟩
  go_enter Tryz.func59, Tryz.ntmps59
  go_wp2
  refine wp_region_facts (by kernel_rfl) w [Fact.eq (.agg #[.bool b, .slice A n c, .slice A' n' c']), Fact.rat (r) (L), Fact.eq (.agg #[.bool d, .slice E m o, .slice E' m' o']), Fact.rat (q) (L), Fact.rat (r + q) (L + L + 1), Fact.any] [Fact.any, Fact.any, Fact.rat (r + q) (L + L + 1)] [⟨6, 2, 24, 6, #[.bool b, .slice A n c, .slice A' n' c']⟩, ⟨6, 3, 24, 6, #[.bool d, .slice E m o, .slice E' m' o']⟩, ⟨6, 4, 24, 5, #[.bool false, .slice none 0 0, .slice none 0 0]⟩] [w.heap.size, w.heap.size + 1, w.heap.size + 2] [none, none, none, none, none, some 5, some 6, some 7, some 8, some 9] (by kernel_rfl) (by kernel_rfl) (by kernel_rfl) rfl B ?_ ?_ ?_ ?_ ?_
  · exact ⟨fun _ => ⟨by simp, rfl, OB2⟩, fun _ => ⟨by simp, rfl, OB3⟩, fun _ => ⟨by simp, rfl, OB4⟩, trivial⟩
  · exact .inr (by simp <;> omega)
  · exact ⟨⟨noWords_R _ _ _ _ _ _ _, (.inl (Nat.le_refl _)), (.inl (Nat.le_refl _))⟩, ⟨noWords_R _ _ _ _ _ _ _, (.inl (Nat.le_refl _)), (.inl (Nat.le_refl _))⟩, ⟨noWords_R _ _ _ _ _ _ _, (.inl (Nat.le_refl _)), (.inr (store_ob (j := 4) (noWords_R _ _ _ _ _ _ _) rfl rfl rfl (by kernel_rfl) rfl rfl rfl))⟩, trivial⟩
  · refine ⟨?_, ?_, ?_, ?_, ?_, ?_, trivial⟩
    · exact .inr fun a w hp => ob_yes rfl (ob_loadR (hp.box (k := 0) rfl (Nat.le_refl _) (.inl (Nat.le_refl _)) (by kernel_rfl) rfl).1 (hp.box (k := 0) rfl (Nat.le_refl _) (.inl (Nat.le_refl _)) (by kernel_rfl) rfl).2 rfl)
    · refine .inr fun a w hp => ob_yes rfl ?_
      have h5 : a.tmps.getD 5 undef = .agg #[.bool b, .slice A n c, .slice A' n' c'] := (hp.fact 0 5 (by kernel_rfl) rfl)
      unfold Does
      go_simp
      refine (value_fld _ _ _ L (h.on hp.on) (by omega)).mono ?_
      rintro e w' ⟨u, rfl, I8, P8⟩
      exact ⟨_, rfl, P8, I8⟩
    · exact .inr fun a w hp => ob_yes rfl (ob_loadR (hp.box (k := 1) rfl (Nat.le_refl _) (.inl (Nat.le_refl _)) (by kernel_rfl) rfl).1 (hp.box (k := 1) rfl (Nat.le_refl _) (.inl (Nat.le_refl _)) (by kernel_rfl) rfl).2 rfl)
    · refine .inr fun a w hp => ob_yes rfl ?_
      have h7 : a.tmps.getD 7 undef = .agg #[.bool d, .slice E m o, .slice E' m' o'] := (hp.fact 2 7 (by kernel_rfl) rfl)
      unfold Does
      go_simp
      refine (value_fld _ _ _ L (k.on hp.on) (by omega)).mono ?_
      rintro e w' ⟨u, rfl, I8, P8⟩
      exact ⟨_, rfl, P8, I8⟩
    · refine .inr fun a w hp => ob_yes rfl ?_
      have h6 : IsR w (a.tmps.getD 6 undef) (r) (L) := (hp.fact 1 6 (by kernel_rfl) rfl)
      obtain ⟨v6, e6⟩ : ∃ v, a.tmps.getD 6 undef = v := ⟨_, rfl⟩
      rw [e6] at h6
      have h8 : IsR w (a.tmps.getD 8 undef) (q) (L) := (hp.fact 3 8 (by kernel_rfl) rfl)
      obtain ⟨v8, e8⟩ : ∃ v, a.tmps.getD 8 undef = v := ⟨_, rfl⟩
      rw [e8] at h8
      unfold Does
      go_simp
      refine (sum_any _ _ _ _ _ L h6 h8 hL2 hL).mono ?_
      rintro e w' ⟨u, rfl, I8, P8⟩
      exact ⟨_, rfl, P8, I8⟩
    · exact .inl rfl
  · intro f wr hon hk hf hb hap
    obtain ⟨q0, q1, q2, qz⟩ := hb
    clear qz
    have O2 : Own wr (w.heap.size) 24 #[.bool b, .slice A n c, .slice A' n' c'] := q0
    have c2_0 : wr.cell? ⟨w.heap.size, 0, none⟩ = some (.bool b) := O2.cell 0
    have z2_0 := O2.frozen 0
    have c2_1 : wr.cell? ⟨w.heap.size, 1, none⟩ = some (.slice A n c) := O2.cell 1
    have z2_1 := O2.frozen 1
    have c2_2 : wr.cell? ⟨w.heap.size, 2, none⟩ = some (.slice A' n' c') := O2.cell 2
    have z2_2 := O2.frozen 2
    clear q0
    have O3 : Own wr (w.heap.size + 1) 24 #[.bool d, .slice E m o, .slice E' m' o'] := q1
    have c3_0 : wr.cell? ⟨w.heap.size + 1, 0, none⟩ = some (.bool d) := O3.cell 0
    have z3_0 := O3.frozen 0
    have c3_1 : wr.cell? ⟨w.heap.size + 1, 1, none⟩ = some (.slice E m o) := O3.cell 1
    have z3_1 := O3.frozen 1
    have c3_2 : wr.cell? ⟨w.heap.size + 1, 2, none⟩ = some (.slice E' m' o') := O3.cell 2
    have z3_2 := O3.frozen 2
    clear q1
    obtain ⟨cur4, O4, I4⟩ : ∃ cur, Own wr (w.heap.size + 2) 24 cur ∧ IsR wr (.agg cur) (r + q) (L + L + 1) := q2
    obtain ⟨P4, Pn4, Pc4, _, R4, Rn4, Rc4, _, hz4, _⟩ := id I4
    injection hz4 with hz4
    subst hz4
    have c4_0 : wr.cell? ⟨w.heap.size + 2, 0, none⟩ = some (.bool (decide (r + q < 0))) := O4.cell 0
    have z4_0 := O4.frozen 0
    have c4_1 : wr.cell? ⟨w.heap.size + 2, 1, none⟩ = some (.slice P4 Pn4 Pc4) := O4.cell 1
    have z4_1 := O4.frozen 1
    have c4_2 : wr.cell? ⟨w.heap.size + 2, 2, none⟩ = some (.slice R4 Rn4 Rc4) := O4.cell 2
    have z4_2 := O4.frozen 2
    clear hf hap
    simp only [fillL]
    go_wp2
    exact bodyPost_ret (v := .agg #[.bool (decide (r + q < 0)), .slice P4 Pn4 Pc4, .slice R4 Rn4 Rc4]) (by simp [results, Tryz.results59, go_sem, c4_0, c4_1, c4_2]) rfl ⟨_, rfl, I4, hon⟩
set_option maxRecDepth 100000 in
set_option maxHeartbeats 1600000 in
theorem subr_any (w : World) (v v' : Value) (r q : Rat) (L : Nat) (h : Fld w v r L) (k : Fld w v' q L) (hL2 : 2 ≤ L) (hL : L ≤ 4000) :
    Calls Tryz.prog 54 #[v, v'] w (RatPost w (r - q) (L + L + 1)) := by
  obtain ⟨b, A, n, c, A', n', c', xs, ys, rfl, R, R', h1, h2, h3⟩ := id h
  obtain ⟨d, E, m, o, E', m', o', us, vs, rfl, U, U', k1, k2, k3⟩ := id k
  clear h3 k3
  have B : On w (((w.alloc (.cells #[.bool b, .slice A n c, .slice A' n' c'] 24)).alloc (.cells #[.bool d, .slice E m o, .slice E' m' o'] 24)).alloc (.cells #[.bool false, .slice none 0 0, .slice none 0 0] 24)) := On.alloc (On.alloc (On.alloc (On.refl w) _) _) _
  have OB2 : w.heap.size ≤ w.heap.size ∧ Own (((w.alloc (.cells #[.bool b, .slice A n c, .slice A' n' c'] 24)).alloc (.cells #[.bool d, .slice E m o, .slice E' m' o'] 24)).alloc (.cells #[.bool false, .slice none 0 0, .slice none 0 0] 24)) (w.heap.size) 24 #[.bool b, .slice A n c, .slice A' n' c'] := ⟨by omega, (((Own.at_ w (w.heap.size) (by simp) 24 #[.bool b, .slice A n c, .slice A' n' c']).alloc (.cells #[.bool d, .slice E m o, .slice E' m' o'] 24)).alloc (.cells #[.bool false, .slice none 0 0, .slice none 0 0] 24))⟩
  have OB3 : w.heap.size ≤ w.heap.size + 1 ∧ Own (((w.alloc (.cells #[.bool b, .slice A n c, .slice A' n' c'] 24)).alloc (.cells #[.bool d, .slice E m o, .slice E' m' o'] 24)).alloc (.cells #[.bool false, .slice none 0 0, .slice none 0 0] 24)) (w.heap.size + 1) 24 #[.bool d, .slice E m o, .slice E' m' o'] := ⟨by omega, ((Own.at_ (w.alloc (.cells #[.bool b, .slice A n c, .slice A' n' c'] 24)) (w.heap.size + 1) (by simp) 24 #[.bool d, .slice E m o, .slice E' m' o']).alloc (.cells #[.bool false, .slice none 0 0, .slice none 0 0] 24))⟩
  have OB4 : w.heap.size ≤ w.heap.size + 2 ∧ Own (((w.alloc (.cells #[.bool b, .slice A n c, .slice A' n' c'] 24)).alloc (.cells #[.bool d, .slice E m o, .slice E' m' o'] 24)).alloc (.cells #[.bool false, .slice none 0 0, .slice none 0 0] 24)) (w.heap.size + 2) 24 #[.bool false, .slice none 0 0, .slice none 0 0] := ⟨by omega, (Own.at_ ((w.alloc (.cells #[.bool b, .slice A n c, .slice A' n' c'] 24)).alloc (.cells #[.bool d, .slice E m o, .slice E' m' o'] 24)) (w.heap.size + 2) (by simp) 24 #[.bool false, .slice none 0 0, .slice none 0 0])⟩
  go_enter Tryz.func54, Tryz.ntmps54
  go_wp2
  refine wp_region_facts (by kernel_rfl) w [Fact.eq (.agg #[.bool b, .slice A n c, .slice A' n' c']), Fact.rat (r) (L), Fact.eq (.agg #[.bool d, .slice E m o, .slice E' m' o']), Fact.rat (q) (L), Fact.rat (-q) (L), Fact.rat (r - q) (L + L + 1), Fact.any] [Fact.any, Fact.any, Fact.rat (r - q) (L + L + 1)] [⟨7, 2, 24, 7, #[.bool b, .slice A n c, .slice A' n' c']⟩, ⟨7, 3, 24, 7, #[.bool d, .slice E m o, .slice E' m' o']⟩, ⟨7, 4, 24, 6, #[.bool false, .slice none 0 0, .slice none 0 0]⟩] [w.heap.size, w.heap.size + 1, w.heap.size + 2] [none, none, none, none, none, some 5, some 6, some 7, some 8, some 9, some 10] (by kernel_rfl) (by kernel_rfl) (by kernel_rfl) rfl B ?_ ?_ ?_ ?_ ?_
  · exact ⟨fun _ => ⟨by simp, rfl, OB2⟩, fun _ => ⟨by simp, rfl, OB3⟩, fun _ => ⟨by simp, rfl, OB4⟩, trivial⟩
  · exact .inr (by simp <;> omega)
  · exact ⟨⟨noWords_R _ _ _ _ _ _ _, (.inl (Nat.le_refl _)), (.inl (Nat.le_refl _))⟩, ⟨noWords_R _ _ _ _ _ _ _, (.inl (Nat.le_refl _)), (.inl (Nat.le_refl _))⟩, ⟨noWords_R _ _ _ _ _ _ _, (.inl (Nat.le_refl _)), (.inr (store_ob (j := 5) (noWords_R _ _ _ _ _ _ _) rfl rfl rfl (by kernel_rfl) rfl rfl rfl))⟩, trivial⟩
  · refine ⟨?_, ?_, ?_, ?_, ?_, ?_, ?_, trivial⟩
    · exact .inr fun a w hp => ob_yes rfl (ob_loadR (hp.box (k := 0) rfl (Nat.le_refl _) (.inl (Nat.le_refl _)) (by kernel_rfl) rfl).1 (hp.box (k := 0) rfl (Nat.le_refl _) (.inl (Nat.le_refl _)) (by kernel_rfl) rfl).2 rfl)
    · refine .inr fun a w hp => ob_yes rfl ?_
      have h5 : a.tmps.getD 5 undef = .agg #[.bool b, .slice A n c, .slice A' n' c'] := (hp.fact 0 5 (by kernel_rfl) rfl)
      unfold Does
      go_simp
      refine (value_fld _ _ _ L (h.on hp.on) (by omega)).mono ?_
      rintro e w' ⟨u, rfl, I8, P8⟩
      exact ⟨_, rfl, P8, I8⟩
    · exact .inr fun a w hp => ob_yes rfl (ob_loadR (hp.box (k := 1) rfl (Nat.le_refl _) (.inl (Nat.le_refl _)) (by kernel_rfl) rfl).1 (hp.box (k := 1) rfl (Nat.le_refl _) (.inl (Nat.le_refl _)) (by kernel_rfl) rfl).2 rfl)
    · refine .inr fun a w hp => ob_yes rfl ?_
      have h7 : a.tmps.getD 7 undef = .agg #[.bool d, .slice E m o, .slice E' m' o'] := (hp.fact 2 7 (by kernel_rfl) rfl)
      unfold Does
      go_simp
      refine (value_fld _ _ _ L (k.on hp.on) (by omega)).mono ?_
      rintro e w' ⟨u, rfl, I8, P8⟩
      exact ⟨_, rfl, P8, I8⟩
    · refine .inr fun a w hp => ob_yes rfl ?_
      have h8 : IsR w (a.tmps.getD 8 undef) (q) (L) := (hp.fact 3 8 (by kernel_rfl) rfl)
      obtain ⟨v8, e8⟩ : ∃ v, a.tmps.getD 8 undef = v := ⟨_, rfl⟩
      rw [e8] at h8
      unfold Does
      go_simp
      refine (negative_any _ _ _ L h8).mono ?_
      rintro e w' ⟨u, rfl, I8, P8⟩
      exact ⟨_, rfl, P8, I8⟩
    · refine .inr fun a w hp => ob_yes rfl ?_
      have h6 : IsR w (a.tmps.getD 6 undef) (r) (L) := (hp.fact 1 6 (by kernel_rfl) rfl)
      obtain ⟨v6, e6⟩ : ∃ v, a.tmps.getD 6 undef = v := ⟨_, rfl⟩
      rw [e6] at h6
      have h9 : IsR w (a.tmps.getD 9 undef) (-q) (L) := (hp.fact 4 9 (by kernel_rfl) rfl)
      obtain ⟨v9, e9⟩ : ∃ v, a.tmps.getD 9 undef = v := ⟨_, rfl⟩
      rw [e9] at h9
      unfold Does
      go_simp
      refine (sum_any _ _ _ _ _ L h6 h9 hL2 hL).mono ?_
      rintro e w' ⟨u, rfl, I8, P8⟩
      rw [sub_add] at I8
      exact ⟨_, rfl, P8, I8⟩
    · exact .inl rfl
  · intro f wr hon hk hf hb hap
    obtain ⟨q0, q1, q2, qz⟩ := hb
    clear qz
    have O2 : Own wr (w.heap.size) 24 #[.bool b, .slice A n c, .slice A' n' c'] := q0
    have c2_0 : wr.cell? ⟨w.heap.size, 0, none⟩ = some (.bool b) := O2.cell 0
    have z2_0 := O2.frozen 0
    have c2_1 : wr.cell? ⟨w.heap.size, 1, none⟩ = some (.slice A n c) := O2.cell 1
    have z2_1 := O2.frozen 1
    have c2_2 : wr.cell? ⟨w.heap.size, 2, none⟩ = some (.slice A' n' c') := O2.cell 2
    have z2_2 := O2.frozen 2
    clear q0
    have O3 : Own wr (w.heap.size + 1) 24 #[.bool d, .slice E m o, .slice E' m' o'] := q1
    have c3_0 : wr.cell? ⟨w.heap.size + 1, 0, none⟩ = some (.bool d) := O3.cell 0
    have z3_0 := O3.frozen 0
    have c3_1 : wr.cell? ⟨w.heap.size + 1, 1, none⟩ = some (.slice E m o) := O3.cell 1
    have z3_1 := O3.frozen 1
    have c3_2 : wr.cell? ⟨w.heap.size + 1, 2, none⟩ = some (.slice E' m' o') := O3.cell 2
    have z3_2 := O3.frozen 2
    clear q1
    obtain ⟨cur4, O4, I4⟩ : ∃ cur, Own wr (w.heap.size + 2) 24 cur ∧ IsR wr (.agg cur) (r - q) (L + L + 1) := q2
    obtain ⟨P4, Pn4, Pc4, _, R4, Rn4, Rc4, _, hz4, _⟩ := id I4
    injection hz4 with hz4
    subst hz4
    have c4_0 : wr.cell? ⟨w.heap.size + 2, 0, none⟩ = some (.bool (decide (r - q < 0))) := O4.cell 0
    have z4_0 := O4.frozen 0
    have c4_1 : wr.cell? ⟨w.heap.size + 2, 1, none⟩ = some (.slice P4 Pn4 Pc4) := O4.cell 1
    have z4_1 := O4.frozen 1
    have c4_2 : wr.cell? ⟨w.heap.size + 2, 2, none⟩ = some (.slice R4 Rn4 Rc4) := O4.cell 2
    have z4_2 := O4.frozen 2
    clear hf hap
    simp only [fillL]
    go_wp2
    exact bodyPost_ret (v := .agg #[.bool (decide (r - q < 0)), .slice P4 Pn4 Pc4, .slice R4 Rn4 Rc4]) (by simp [results, Tryz.results54, go_sem, c4_0, c4_1, c4_2]) rfl ⟨_, rfl, I4, hon⟩
set_option maxRecDepth 100000 in
set_option maxHeartbeats 1600000 in
theorem mulr_any (w : World) (v v' : Value) (r q : Rat) (L : Nat) (h : Fld w v r L) (k : Fld w v' q L) (hL2 : 2 ≤ L) (hL : L ≤ 4000) :
    Calls Tryz.prog 98 #[v, v'] w (RatPost w (r * q) (L + L)) := by
  obtain ⟨b, A, n, c, A', n', c', xs, ys, rfl, R, R', h1, h2, h3⟩ := id h
  obtain ⟨d, E, m, o, E', m', o', us, vs, rfl, U, U', k1, k2, k3⟩ := id k
  clear h3 k3
  have B : On w (((w.alloc (.cells #[.bool b, .slice A n c, .slice A' n' c'] 24)).alloc (.cells #[.bool d, .slice E m o, .slice E' m' o'] 24)).alloc (.cells #[.bool false, .slice none 0 0, .slice none 0 0] 24)) := On.alloc (On.alloc (On.alloc (On.refl w) _) _) _
  have OB2 : w.heap.size ≤ w.heap.size ∧ Own (((w.alloc (.cells #[.bool b, .slice A n c, .slice A' n' c'] 24)).alloc (.cells #[.bool d, .slice E m o, .slice E' m' o'] 24)).alloc (.cells #[.bool false, .slice none 0 0, .slice none 0 0] 24)) (w.heap.size) 24 #[.bool b, .slice A n c, .slice A' n' c'] := ⟨by omega, (((Own.at_ w (w.heap.size) (by simp) 24 #[.bool b, .slice A n c, .slice A' n' c']).alloc (.cells #[.bool d, .slice E m o, .slice E' m' o'] 24)).alloc (.cells #[.bool false, .slice none 0 0, .slice none 0 0] 24))⟩
  have OB3 : w.heap.size ≤ w.heap.size + 1 ∧ Own (((w.alloc (.cells #[.bool b, .slice A n c, .slice A' n' c'] 24)).alloc (.cells #[.bool d, .slice E m o, .slice E' m' o'] 24)).alloc (.cells #[.bool false, .slice none 0 0, .slice none 0 0] 24)) (w.heap.size + 1) 24 #[.bool d, .slice E m o, .slice E' m' o'] := ⟨by omega, ((Own.at_ (w.alloc (.cells #[.bool b, .slice A n c, .slice A' n' c'] 24)) (w.heap.size + 1) (by simp) 24 #[.bool d, .slice E m o, .slice E' m' o']).alloc (.cells #[.bool false, .slice none 0 0, .slice none 0 0] 24))⟩
  have OB4 : w.heap.size ≤ w.heap.size + 2 ∧ Own (((w.alloc (.cells #[.bool b, .slice A n c, .slice A' n' c'] 24)).alloc (.cells #[.bool d, .slice E m o, .slice E' m' o'] 24)).alloc (.cells #[.bool false, .slice none 0 0, .slice none 0 0] 24)) (w.heap.size + 2) 24 #[.bool false, .slice none 0 0, .slice none 0 0] := ⟨by omega, (Own.at_ ((w.alloc (.cells #[.bool b, .slice A n c, .slice A' n' c'] 24)).alloc (.cells #[.bool d, .slice E m o, .slice E' m' o'] 24)) (w.heap.size + 2) (by simp) 24 #[.bool false, .slice none 0 0, .slice none 0 0])⟩
  go_enter Tryz.func98, Tryz.ntmps98
  go_wp2
  refine wp_region_facts (by kernel_rfl) w [Fact.eq (.agg #[.bool b, .slice A n c, .slice A' n' c']), Fact.rat (r) (L), Fact.eq (.agg #[.bool d, .slice E m o, .slice E' m' o']), Fact.rat (q) (L), Fact.rat (r * q) (L + L), Fact.any] [Fact.any, Fact.any, Fact.rat (r * q) (L + L)] [⟨6, 2, 24, 6, #[.bool b, .slice A n c, .slice A' n' c']⟩, ⟨6, 3, 24, 6, #[.bool d, .slice E m o, .slice E' m' o']⟩, ⟨6, 4, 24, 5, #[.bool false, .slice none 0 0, .slice none 0 0]⟩] [w.heap.size, w.heap.size + 1, w.heap.size + 2] [none, none, none, none, none, some 5, some 6, some 7, some 8, some 9] (by kernel_rfl) (by kernel_rfl) (by kernel_rfl) rfl B ?_ ?_ ?_ ?_ ?_
  · exact ⟨fun _ => ⟨by simp, rfl, OB2⟩, fun _ => ⟨by simp, rfl, OB3⟩, fun _ => ⟨by simp, rfl, OB4⟩, trivial⟩
  · exact .inr (by simp <;> omega)
  · exact ⟨⟨noWords_R _ _ _ _ _ _ _, (.inl (Nat.le_refl _)), (.inl (Nat.le_refl _))⟩, ⟨noWords_R _ _ _ _ _ _ _, (.inl (Nat.le_refl _)), (.inl (Nat.le_refl _))⟩, ⟨noWords_R _ _ _ _ _ _ _, (.inl (Nat.le_refl _)), (.inr (store_ob (j := 4) (noWords_R _ _ _ _ _ _ _) rfl rfl rfl (by kernel_rfl) rfl rfl rfl))⟩, trivial⟩
  · refine ⟨?_, ?_, ?_, ?_, ?_, ?_, trivial⟩
    · exact .inr fun a w hp => ob_yes rfl (ob_loadR (hp.box (k := 0) rfl (Nat.le_refl _) (.inl (Nat.le_refl _)) (by kernel_rfl) rfl).1 (hp.box (k := 0) rfl (Nat.le_refl _) (.inl (Nat.le_refl _)) (by kernel_rfl) rfl).2 rfl)
    · refine .inr fun a w hp => ob_yes rfl ?_
      have h5 : a.tmps.getD 5 undef = .agg #[.bool b, .slice A n c, .slice A' n' c'] := (hp.fact 0 5 (by kernel_rfl) rfl)
      unfold Does
      go_simp
      refine (value_fld _ _ _ L (h.on hp.on) (by omega)).mono ?_
      rintro e w' ⟨u, rfl, I8, P8⟩
      exact ⟨_, rfl, P8, I8⟩
    · exact .inr fun a w hp => ob_yes rfl (ob_loadR (hp.box (k := 1) rfl (Nat.le_refl _) (.inl (Nat.le_refl _)) (by kernel_rfl) rfl).1 (hp.box (k := 1) rfl (Nat.le_refl _) (.inl (Nat.le_refl _)) (by kernel_rfl) rfl).2 rfl)
    · refine .inr fun a w hp => ob_yes rfl ?_
      have h7 : a.tmps.getD 7 undef = .agg #[.bool d, .slice E m o, .slice E' m' o'] := (hp.fact 2 7 (by kernel_rfl) rfl)
      unfold Does
      go_simp
      refine (value_fld _ _ _ L (k.on hp.on) (by omega)).mono ?_
      rintro e w' ⟨u, rfl, I8, P8⟩
      exact ⟨_, rfl, P8, I8⟩
    · refine .inr fun a w hp => ob_yes rfl ?_
      have h6 : IsR w (a.tmps.getD 6 undef) (r) (L) := (hp.fact 1 6 (by kernel_rfl) rfl)
      obtain ⟨v6, e6⟩ : ∃ v, a.tmps.getD 6 undef = v := ⟨_, rfl⟩
      rw [e6] at h6
      have h8 : IsR w (a.tmps.getD 8 undef) (q) (L) := (hp.fact 3 8 (by kernel_rfl) rfl)
      obtain ⟨v8, e8⟩ : ∃ v, a.tmps.getD 8 undef = v := ⟨_, rfl⟩
      rw [e8] at h8
      unfold Does
      go_simp
      refine (product_any _ _ _ _ _ L h6 h8 hL2 (by omega)).mono ?_
      rintro e w' ⟨u, rfl, I8, P8⟩
      exact ⟨_, rfl, P8, I8⟩
    · exact .inl rfl
  · intro f wr hon hk hf hb hap
    obtain ⟨q0, q1, q2, qz⟩ := hb
    clear qz
    have O2 : Own wr (w.heap.size) 24 #[.bool b, .slice A n c, .slice A' n' c'] := q0
    have c2_0 : wr.cell? ⟨w.heap.size, 0, none⟩ = some (.bool b) := O2.cell 0
    have z2_0 := O2.frozen 0
    have c2_1 : wr.cell? ⟨w.heap.size, 1, none⟩ = some (.slice A n c) := O2.cell 1
    have z2_1 := O2.frozen 1
    have c2_2 : wr.cell? ⟨w.heap.size, 2, none⟩ = some (.slice A' n' c') := O2.cell 2
    have z2_2 := O2.frozen 2
    clear q0
    have O3 : Own wr (w.heap.size + 1) 24 #[.bool d, .slice E m o, .slice E' m' o'] := q1
    have c3_0 : wr.cell? ⟨w.heap.size + 1, 0, none⟩ = some (.bool d) := O3.cell 0
    have z3_0 := O3.frozen 0
    have c3_1 : wr.cell? ⟨w.heap.size + 1, 1, none⟩ = some (.slice E m o) := O3.cell 1
    have z3_1 := O3.frozen 1
    have c3_2 : wr.cell? ⟨w.heap.size + 1, 2, none⟩ = some (.slice E' m' o') := O3.cell 2
    have z3_2 := O3.frozen 2
    clear q1
    obtain ⟨cur4, O4, I4⟩ : ∃ cur, Own wr (w.heap.size + 2) 24 cur ∧ IsR wr (.agg cur) (r * q) (L + L) := q2
    obtain ⟨P4, Pn4, Pc4, _, R4, Rn4, Rc4, _, hz4, _⟩ := id I4
    injection hz4 with hz4
    subst hz4
    have c4_0 : wr.cell? ⟨w.heap.size + 2, 0, none⟩ = some (.bool (decide (r * q < 0))) := O4.cell 0
    have z4_0 := O4.frozen 0
    have c4_1 : wr.cell? ⟨w.heap.size + 2, 1, none⟩ = some (.slice P4 Pn4 Pc4) := O4.cell 1
    have z4_1 := O4.frozen 1
    have c4_2 : wr.cell? ⟨w.heap.size + 2, 2, none⟩ = some (.slice R4 Rn4 Rc4) := O4.cell 2
    have z4_2 := O4.frozen 2
    clear hf hap
    simp only [fillL]
    go_wp2
    exact bodyPost_ret (v := .agg #[.bool (decide (r * q < 0)), .slice P4 Pn4 Pc4, .slice R4 Rn4 Rc4]) (by simp [results, Tryz.results98, go_sem, c4_0, c4_1, c4_2]) rfl ⟨_, rfl, I4, hon⟩
theorem compare_any (w : World) (v v' : Value) (r q : Rat) (L : Nat) (h : IsR w v r L) (k : IsR w v' q L) (hL : L ≤ 100000000) :
    Calls Tryz.prog 73 #[v, v'] w fun e w' => e = .returned (.int .i64 (rsg (r - q))) ∧ On w w' := by
  by_cases hs : rsg r = rsg q
  · exact compare_eq w v v' r q L h k hL hs
  · exact compare_ne w v v' r q L h k hL hs
set_option maxRecDepth 100000 in
set_option maxHeartbeats 1600000 in
theorem cmpr_any (w : World) (v v' : Value) (r q : Rat) (L : Nat) (h : Fld w v r L) (k : Fld w v' q L) (hL : L ≤ 4000) :
    Calls Tryz.prog 45 #[v, v'] w fun e w' => e = .returned (.int .i64 (rsg (r - q))) ∧ On w w' := by
  obtain ⟨z, ez⟩ : ∃ x, rsg (r - q) = x := ⟨_, rfl⟩
  rw [ez]
  have HZ := Lib.hid ez
  clear ez
  obtain ⟨b, A, n, c, A', n', c', xs, ys, rfl, R, R', h1, h2, h3⟩ := id h
  obtain ⟨d, E, m, o, E', m', o', us, vs, rfl, U, U', k1, k2, k3⟩ := id k
  clear h3 k3
  have B : On w ((w.alloc (.cells #[.bool b, .slice A n c, .slice A' n' c'] 24)).alloc (.cells #[.bool d, .slice E m o, .slice E' m' o'] 24)) := On.alloc (On.alloc (On.refl w) _) _
  have OB2 : w.heap.size ≤ w.heap.size ∧ Own ((w.alloc (.cells #[.bool b, .slice A n c, .slice A' n' c'] 24)).alloc (.cells #[.bool d, .slice E m o, .slice E' m' o'] 24)) (w.heap.size) 24 #[.bool b, .slice A n c, .slice A' n' c'] := ⟨by omega, ((Own.at_ w (w.heap.size) (by simp) 24 #[.bool b, .slice A n c, .slice A' n' c']).alloc (.cells #[.bool d, .slice E m o, .slice E' m' o'] 24))⟩
  have OB3 : w.heap.size ≤ w.heap.size + 1 ∧ Own ((w.alloc (.cells #[.bool b, .slice A n c, .slice A' n' c'] 24)).alloc (.cells #[.bool d, .slice E m o, .slice E' m' o'] 24)) (w.heap.size + 1) 24 #[.bool d, .slice E m o, .slice E' m' o'] := ⟨by omega, (Own.at_ (w.alloc (.cells #[.bool b, .slice A n c, .slice A' n' c'] 24)) (w.heap.size + 1) (by simp) 24 #[.bool d, .slice E m o, .slice E' m' o'])⟩
  go_enter Tryz.func45, Tryz.ntmps45
  go_wp2
  refine wp_region_facts (by kernel_rfl) w [Fact.eq (.agg #[.bool b, .slice A n c, .slice A' n' c']), Fact.rat (r) (L), Fact.eq (.agg #[.bool d, .slice E m o, .slice E' m' o']), Fact.rat (q) (L), Fact.eq (.int .i64 z), Fact.eq (.int .i64 z)] [Fact.any, Fact.any] [⟨6, 2, 24, 6, #[.bool b, .slice A n c, .slice A' n' c']⟩, ⟨6, 3, 24, 6, #[.bool d, .slice E m o, .slice E' m' o']⟩] [w.heap.size, w.heap.size + 1] [none, none, none, none, some 4, some 5, some 6, some 7, some 8, some 9] (by kernel_rfl) (by kernel_rfl) (by kernel_rfl) rfl B ?_ ?_ ?_ ?_ ?_
  · exact ⟨fun _ => ⟨by simp, rfl, OB2⟩, fun _ => ⟨by simp, rfl, OB3⟩, trivial⟩
  · exact .inl ⟨Nat.le_refl _, Nat.le_refl _, trivial⟩
  · exact ⟨⟨noWords_R _ _ _ _ _ _ _, (.inl (Nat.le_refl _)), (.inl (Nat.le_refl _))⟩, ⟨noWords_R _ _ _ _ _ _ _, (.inl (Nat.le_refl _)), (.inl (Nat.le_refl _))⟩, trivial⟩
  · refine ⟨?_, ?_, ?_, ?_, ?_, ?_, trivial⟩
    · exact .inr fun a w hp => ob_yes rfl (ob_loadR (hp.box (k := 0) rfl (Nat.le_refl _) (.inl (Nat.le_refl _)) (by kernel_rfl) rfl).1 (hp.box (k := 0) rfl (Nat.le_refl _) (.inl (Nat.le_refl _)) (by kernel_rfl) rfl).2 rfl)
    · refine .inr fun a w hp => ob_yes rfl ?_
      have h5 : a.tmps.getD 5 undef = .agg #[.bool b, .slice A n c, .slice A' n' c'] := (hp.fact 0 5 (by kernel_rfl) rfl)
      unfold Does
      go_simp
      refine (value_fld _ _ _ L (h.on hp.on) (by omega)).mono ?_
      rintro e w' ⟨u, rfl, I8, P8⟩
      exact ⟨_, rfl, P8, I8⟩
    · exact .inr fun a w hp => ob_yes rfl (ob_loadR (hp.box (k := 1) rfl (Nat.le_refl _) (.inl (Nat.le_refl _)) (by kernel_rfl) rfl).1 (hp.box (k := 1) rfl (Nat.le_refl _) (.inl (Nat.le_refl _)) (by kernel_rfl) rfl).2 rfl)
    · refine .inr fun a w hp => ob_yes rfl ?_
      have h7 : a.tmps.getD 7 undef = .agg #[.bool d, .slice E m o, .slice E' m' o'] := (hp.fact 2 7 (by kernel_rfl) rfl)
      unfold Does
      go_simp
      refine (value_fld _ _ _ L (k.on hp.on) (by omega)).mono ?_
      rintro e w' ⟨u, rfl, I8, P8⟩
      exact ⟨_, rfl, P8, I8⟩
    · refine .inr fun a w hp => ob_yes rfl ?_
      have h6 : IsR w (a.tmps.getD 6 undef) (r) (L) := (hp.fact 1 6 (by kernel_rfl) rfl)
      obtain ⟨v6, e6⟩ : ∃ v, a.tmps.getD 6 undef = v := ⟨_, rfl⟩
      rw [e6] at h6
      have h8 : IsR w (a.tmps.getD 8 undef) (q) (L) := (hp.fact 3 8 (by kernel_rfl) rfl)
      obtain ⟨v8, e8⟩ : ∃ v, a.tmps.getD 8 undef = v := ⟨_, rfl⟩
      rw [e8] at h8
      unfold Does
      go_simp
      refine (compare_any _ _ _ _ _ L h6 h8 (by omega)).mono ?_
      rintro e w' ⟨rfl, P8⟩
      rw [HZ.out]
      exact ⟨_, rfl, P8, rfl⟩
    · exact .inr fun a w hp => ob_yes rfl (ob_assign (hp.fact 4 9 (by kernel_rfl) rfl))
  · intro f wr hon hk hf hb hap
    obtain ⟨q0, q1, qz⟩ := hb
    clear qz
    have O2 : Own wr (w.heap.size) 24 #[.bool b, .slice A n c, .slice A' n' c'] := q0
    have c2_0 : wr.cell? ⟨w.heap.size, 0, none⟩ = some (.bool b) := O2.cell 0
    have z2_0 := O2.frozen 0
    have c2_1 : wr.cell? ⟨w.heap.size, 1, none⟩ = some (.slice A n c) := O2.cell 1
    have z2_1 := O2.frozen 1
    have c2_2 : wr.cell? ⟨w.heap.size, 2, none⟩ = some (.slice A' n' c') := O2.cell 2
    have z2_2 := O2.frozen 2
    clear q0
    have O3 : Own wr (w.heap.size + 1) 24 #[.bool d, .slice E m o, .slice E' m' o'] := q1
    have c3_0 : wr.cell? ⟨w.heap.size + 1, 0, none⟩ = some (.bool d) := O3.cell 0
    have z3_0 := O3.frozen 0
    have c3_1 : wr.cell? ⟨w.heap.size + 1, 1, none⟩ = some (.slice E m o) := O3.cell 1
    have z3_1 := O3.frozen 1
    have c3_2 : wr.cell? ⟨w.heap.size + 1, 2, none⟩ = some (.slice E' m' o') := O3.cell 2
    have z3_2 := O3.frozen 2
    clear q1
    have e4 : f 4 = .int .i64 z := hf 5 4 rfl
    clear hf hap
    simp only [fillL, e4]
    clear e4
    go_wp2
    go_ret
    exact ⟨rfl, hon⟩
set_option maxRecDepth 100000 in
set_option maxHeartbeats 1600000 in
theorem divr_zero (w : World) (v v' : Value) (r q : Rat) (L : Nat) (h : Fld w v r L) (k : Fld w v' q L) (hL2 : 2 ≤ L) (hL : L ≤ 4000) (hq : q = 0) :
    Calls Tryz.prog 99 #[v, v'] w (RatPost2 w 0 (L + L) (.iface 51 (.int .i64 8))) := by
  have HQ := Lib.hid hq
  have HD := Lib.hid (decide_eq_true hq)
  clear hq
  obtain ⟨b, A, n, c, A', n', c', xs, ys, rfl, R, R', h1, h2, h3⟩ := id h
  obtain ⟨d, E, m, o, E', m', o', us, vs, rfl, U, U', k1, k2, k3⟩ := id k
  clear h3 k3
  have B : On w (((w.alloc (.cells #[.bool b, .slice A n c, .slice A' n' c'] 24)).alloc (.cells #[.bool d, .slice E m o, .slice E' m' o'] 24)).alloc (.cells #[.bool false, .slice none 0 0, .slice none 0 0] 24)) := On.alloc (On.alloc (On.alloc (On.refl w) _) _) _
  have OB2 : w.heap.size ≤ w.heap.size ∧ Own (((w.alloc (.cells #[.bool b, .slice A n c, .slice A' n' c'] 24)).alloc (.cells #[.bool d, .slice E m o, .slice E' m' o'] 24)).alloc (.cells #[.bool false, .slice none 0 0, .slice none 0 0] 24)) (w.heap.size) 24 #[.bool b, .slice A n c, .slice A' n' c'] := ⟨by omega, (((Own.at_ w (w.heap.size) (by simp) 24 #[.bool b, .slice A n c, .slice A' n' c']).alloc (.cells #[.bool d, .slice E m o, .slice E' m' o'] 24)).alloc (.cells #[.bool false, .slice none 0 0, .slice none 0 0] 24))⟩
  have OB3 : w.heap.size ≤ w.heap.size + 1 ∧ Own (((w.alloc (.cells #[.bool b, .slice A n c, .slice A' n' c'] 24)).alloc (.cells #[.bool d, .slice E m o, .slice E' m' o'] 24)).alloc (.cells #[.bool false, .slice none 0 0, .slice none 0 0] 24)) (w.heap.size + 1) 24 #[.bool d, .slice E m o, .slice E' m' o'] := ⟨by omega, ((Own.at_ (w.alloc (.cells #[.bool b, .slice A n c, .slice A' n' c'] 24)) (w.heap.size + 1) (by simp) 24 #[.bool d, .slice E m o, .slice E' m' o']).alloc (.cells #[.bool false, .slice none 0 0, .slice none 0 0] 24))⟩
  have OB4 : w.heap.size ≤ w.heap.size + 2 ∧ Own (((w.alloc (.cells #[.bool b, .slice A n c, .slice A' n' c'] 24)).alloc (.cells #[.bool d, .slice E m o, .slice E' m' o'] 24)).alloc (.cells #[.bool false, .slice none 0 0, .slice none 0 0] 24)) (w.heap.size + 2) 24 #[.bool false, .slice none 0 0, .slice none 0 0] := ⟨by omega, (Own.at_ ((w.alloc (.cells #[.bool b, .slice A n c, .slice A' n' c'] 24)).alloc (.cells #[.bool d, .slice E m o, .slice E' m' o'] 24)) (w.heap.size + 2) (by simp) 24 #[.bool false, .slice none 0 0, .slice none 0 0])⟩
  go_enter Tryz.func99, Tryz.ntmps99
  go_wp2
  refine wp_region_facts (by kernel_rfl) w [Fact.eq (.agg #[.bool b, .slice A n c, .slice A' n' c']), Fact.rat (r) (L), Fact.eq (.agg #[.bool d, .slice E m o, .slice E' m' o']), Fact.rat (q) (L), Fact.any, Fact.any] [Fact.rat (r) (L), Fact.rat (q) (L), Fact.any] [⟨6, 2, 24, 4, #[.bool b, .slice A n c, .slice A' n' c']⟩, ⟨6, 3, 24, 5, #[.bool d, .slice E m o, .slice E' m' o']⟩, ⟨6, 4, 24, 6, #[.bool false, .slice none 0 0, .slice none 0 0]⟩] [w.heap.size, w.heap.size + 1, w.heap.size + 2] [none, none, none, none, none, none, some 6, some 7, some 8, some 9, none, none, none, none, none, none, none, none] (by kernel_rfl) (by kernel_rfl) (by kernel_rfl) rfl B ?_ ?_ ?_ ?_ ?_
  · exact ⟨fun _ => ⟨by simp, rfl, OB2⟩, fun _ => ⟨by simp, rfl, OB3⟩, fun _ => ⟨by simp, rfl, OB4⟩, trivial⟩
  · exact .inr (by simp <;> omega)
  · exact ⟨⟨noWords_R _ _ _ _ _ _ _, (.inl (Nat.le_refl _)), (.inr (store_ob (j := 1) (noWords_R _ _ _ _ _ _ _) rfl rfl rfl (by kernel_rfl) rfl rfl rfl))⟩, ⟨noWords_R _ _ _ _ _ _ _, (.inl (Nat.le_refl _)), (.inr (store_ob (j := 3) (noWords_R _ _ _ _ _ _ _) rfl rfl rfl (by kernel_rfl) rfl rfl rfl))⟩, ⟨noWords_R _ _ _ _ _ _ _, (.inl (Nat.le_refl _)), (.inl (Nat.le_refl _))⟩, trivial⟩
  · refine ⟨?_, ?_, ?_, ?_, ?_, ?_, trivial⟩
    · exact .inr fun a w hp => ob_yes rfl (ob_loadR (hp.box (k := 0) rfl (Nat.le_refl _) (.inr (.inl (by kernel_rfl))) (by kernel_rfl) rfl).1 (hp.box (k := 0) rfl (Nat.le_refl _) (.inr (.inl (by kernel_rfl))) (by kernel_rfl) rfl).2 rfl)
    · refine .inr fun a w hp => ob_yes rfl ?_
      have h6 : a.tmps.getD 6 undef = .agg #[.bool b, .slice A n c, .slice A' n' c'] := (hp.fact 0 6 (by kernel_rfl) rfl)
      unfold Does
      go_simp
      refine (value_fld _ _ _ L (h.on hp.on) (by omega)).mono ?_
      rintro e w' ⟨u, rfl, I8, P8⟩
      exact ⟨_, rfl, P8, I8⟩
    · exact .inr fun a w hp => ob_yes rfl (ob_loadR (hp.box (k := 1) rfl (Nat.le_refl _) (.inr (.inl (by kernel_rfl))) (by kernel_rfl) rfl).1 (hp.box (k := 1) rfl (Nat.le_refl _) (.inr (.inl (by kernel_rfl))) (by kernel_rfl) rfl).2 rfl)
    · refine .inr fun a w hp => ob_yes rfl ?_
      have h8 : a.tmps.getD 8 undef = .agg #[.bool d, .slice E m o, .slice E' m' o'] := (hp.fact 2 8 (by kernel_rfl) rfl)
      unfold Does
      go_simp
      refine (value_fld _ _ _ L (k.on hp.on) (by omega)).mono ?_
      rintro e w' ⟨u, rfl, I8, P8⟩
      exact ⟨_, rfl, P8, I8⟩
    · exact .inl rfl
    · exact .inl rfl
  · intro f wr hon hk hf hb hap
    obtain ⟨q0, q1, q2, qz⟩ := hb
    clear qz
    obtain ⟨cur2, O2, I2⟩ : ∃ cur, Own wr (w.heap.size) 24 cur ∧ IsR wr (.agg cur) (r) (L) := q0
    obtain ⟨P2, Pn2, Pc2, _, R2, Rn2, Rc2, _, hz2, _⟩ := id I2
    injection hz2 with hz2
    subst hz2
    have c2_0 : wr.cell? ⟨w.heap.size, 0, none⟩ = some (.bool (decide (r < 0))) := O2.cell 0
    have z2_0 := O2.frozen 0
    have c2_1 : wr.cell? ⟨w.heap.size, 1, none⟩ = some (.slice P2 Pn2 Pc2) := O2.cell 1
    have z2_1 := O2.frozen 1
    have c2_2 : wr.cell? ⟨w.heap.size, 2, none⟩ = some (.slice R2 Rn2 Rc2) := O2.cell 2
    have z2_2 := O2.frozen 2
    obtain ⟨cur3, O3, I3⟩ : ∃ cur, Own wr (w.heap.size + 1) 24 cur ∧ IsR wr (.agg cur) (q) (L) := q1
    obtain ⟨P3, Pn3, Pc3, _, R3, Rn3, Rc3, _, hz3, _⟩ := id I3
    injection hz3 with hz3
    subst hz3
    have c3_0 : wr.cell? ⟨w.heap.size + 1, 0, none⟩ = some (.bool (decide (q < 0))) := O3.cell 0
    have z3_0 := O3.frozen 0
    have c3_1 : wr.cell? ⟨w.heap.size + 1, 1, none⟩ = some (.slice P3 Pn3 Pc3) := O3.cell 1
    have z3_1 := O3.frozen 1
    have c3_2 : wr.cell? ⟨w.heap.size + 1, 2, none⟩ = some (.slice R3 Rn3 Rc3) := O3.cell 2
    have z3_2 := O3.frozen 2
    have O4 : Own wr (w.heap.size + 2) 24 #[.bool false, .slice none 0 0, .slice none 0 0] := q2
    have c4_0 : wr.cell? ⟨w.heap.size + 2, 0, none⟩ = some (.bool false) := O4.cell 0
    have z4_0 := O4.frozen 0
    have c4_1 : wr.cell? ⟨w.heap.size + 2, 1, none⟩ = some (.slice none 0 0) := O4.cell 1
    have z4_1 := O4.frozen 1
    have c4_2 : wr.cell? ⟨w.heap.size + 2, 2, none⟩ = some (.slice none 0 0) := O4.cell 2
    have z4_2 := O4.frozen 2
    clear q2
    clear hf hap
    simp only [fillL]
    clear B
    have B := hon
    clear hon hk
    go_wp2_with fail
    refine (iszero_any _ _ _ _ I3).mono ?_
    rintro e wz ⟨rfl, PZ⟩
    rw [HD.out]
    have OZ := O4.on PZ
    have z0 : wz.cell? ⟨w.heap.size + 2, 0, none⟩ = some (.bool false) := OZ.cell 0
    have z1 : wz.cell? ⟨w.heap.size + 2, 1, none⟩ = some (.slice none 0 0) := OZ.cell 1
    have z2 : wz.cell? ⟨w.heap.size + 2, 2, none⟩ = some (.slice none 0 0) := OZ.cell 2
    have zf0 := OZ.frozen 0
    have zf1 := OZ.frozen 1
    have zf2 := OZ.frozen 2
    go_wp2
    have hon := on3 (g := w.heap.size + 2) (B.trans PZ) (by omega) (.bool false) (.slice none 0 0) (.slice none 0 0)
    exact bodyPost_ret (v := .tuple #[.agg #[.bool false, .slice none 0 0, .slice none 0 0], .iface 51 (.int .i64 8)]) (by simp [results, Tryz.results99, go_sem, z0, z1, z2]) rfl ⟨_, rfl, isR_zero _ _, hon⟩
set_option maxRecDepth 100000 in
set_option maxHeartbeats 1600000 in
theorem divr_ok (w : World) (v v' : Value) (r q : Rat) (L : Nat) (h : Fld w v r L) (k : Fld w v' q L) (hL2 : 2 ≤ L) (hL : L ≤ 4000) (hq : q ≠ 0) :
    Calls Tryz.prog 99 #[v, v'] w (RatPost2 w (r * q⁻¹) (L + L) .nilIface) := by
  have HQ := Lib.hid hq
  have HD := Lib.hid (decide_eq_false hq)
  clear hq
  obtain ⟨b, A, n, c, A', n', c', xs, ys, rfl, R, R', h1, h2, h3⟩ := id h
  obtain ⟨d, E, m, o, E', m', o', us, vs, rfl, U, U', k1, k2, k3⟩ := id k
  clear h3 k3
  have B : On w (((w.alloc (.cells #[.bool b, .slice A n c, .slice A' n' c'] 24)).alloc (.cells #[.bool d, .slice E m o, .slice E' m' o'] 24)).alloc (.cells #[.bool false, .slice none 0 0, .slice none 0 0] 24)) := On.alloc (On.alloc (On.alloc (On.refl w) _) _) _
  have OB2 : w.heap.size ≤ w.heap.size ∧ Own (((w.alloc (.cells #[.bool b, .slice A n c, .slice A' n' c'] 24)).alloc (.cells #[.bool d, .slice E m o, .slice E' m' o'] 24)).alloc (.cells #[.bool false, .slice none 0 0, .slice none 0 0] 24)) (w.heap.size) 24 #[.bool b, .slice A n c, .slice A' n' c'] := ⟨by omega, (((Own.at_ w (w.heap.size) (by simp) 24 #[.bool b, .slice A n c, .slice A' n' c']).alloc (.cells #[.bool d, .slice E m o, .slice E' m' o'] 24)).alloc (.cells #[.bool false, .slice none 0 0, .slice none 0 0] 24))⟩
  have OB3 : w.heap.size ≤ w.heap.size + 1 ∧ Own (((w.alloc (.cells #[.bool b, .slice A n c, .slice A' n' c'] 24)).alloc (.cells #[.bool d, .slice E m o, .slice E' m' o'] 24)).alloc (.cells #[.bool false, .slice none 0 0, .slice none 0 0] 24)) (w.heap.size + 1) 24 #[.bool d, .slice E m o, .slice E' m' o'] := ⟨by omega, ((Own.at_ (w.alloc (.cells #[.bool b, .slice A n c, .slice A' n' c'] 24)) (w.heap.size + 1) (by simp) 24 #[.bool d, .slice E m o, .slice E' m' o']).alloc (.cells #[.bool false, .slice none 0 0, .slice none 0 0] 24))⟩
  have OB4 : w.heap.size ≤ w.heap.size + 2 ∧ Own (((w.alloc (.cells #[.bool b, .slice A n c, .slice A' n' c'] 24)).alloc (.cells #[.bool d, .slice E m o, .slice E' m' o'] 24)).alloc (.cells #[.bool false, .slice none 0 0, .slice none 0 0] 24)) (w.heap.size + 2) 24 #[.bool false, .slice none 0 0, .slice none 0 0] := ⟨by omega, (Own.at_ ((w.alloc (.cells #[.bool b, .slice A n c, .slice A' n' c'] 24)).alloc (.cells #[.bool d, .slice E m o, .slice E' m' o'] 24)) (w.heap.size + 2) (by simp) 24 #[.bool false, .slice none 0 0, .slice none 0 0])⟩
  go_enter Tryz.func99, Tryz.ntmps99
  go_wp2
  refine wp_region_facts (by kernel_rfl) w [Fact.eq (.agg #[.bool b, .slice A n c, .slice A' n' c']), Fact.rat (r) (L), Fact.eq (.agg #[.bool d, .slice E m o, .slice E' m' o']), Fact.rat (q) (L), Fact.any, Fact.any] [Fact.rat (r) (L), Fact.rat (q) (L), Fact.any] [⟨6, 2, 24, 4, #[.bool b, .slice A n c, .slice A' n' c']⟩, ⟨6, 3, 24, 5, #[.bool d, .slice E m o, .slice E' m' o']⟩, ⟨6, 4, 24, 6, #[.bool false, .slice none 0 0, .slice none 0 0]⟩] [w.heap.size, w.heap.size + 1, w.heap.size + 2] [none, none, none, none, none, none, some 6, some 7, some 8, some 9, none, none, none, none, none, none, none, none] (by kernel_rfl) (by kernel_rfl) (by kernel_rfl) rfl B ?_ ?_ ?_ ?_ ?_
  · exact ⟨fun _ => ⟨by simp, rfl, OB2⟩, fun _ => ⟨by simp, rfl, OB3⟩, fun _ => ⟨by simp, rfl, OB4⟩, trivial⟩
  · exact .inr (by simp <;> omega)
  · exact ⟨⟨noWords_R _ _ _ _ _ _ _, (.inl (Nat.le_refl _)), (.inr (store_ob (j := 1) (noWords_R _ _ _ _ _ _ _) rfl rfl rfl (by kernel_rfl) rfl rfl rfl))⟩, ⟨noWords_R _ _ _ _ _ _ _, (.inl (Nat.le_refl _)), (.inr (store_ob (j := 3) (noWords_R _ _ _ _ _ _ _) rfl rfl rfl (by kernel_rfl) rfl rfl rfl))⟩, ⟨noWords_R _ _ _ _ _ _ _, (.inl (Nat.le_refl _)), (.inl (Nat.le_refl _))⟩, trivial⟩
  · refine ⟨?_, ?_, ?_, ?_, ?_, ?_, trivial⟩
    · exact .inr fun a w hp => ob_yes rfl (ob_loadR (hp.box (k := 0) rfl (Nat.le_refl _) (.inr (.inl (by kernel_rfl))) (by kernel_rfl) rfl).1 (hp.box (k := 0) rfl (Nat.le_refl _) (.inr (.inl (by kernel_rfl))) (by kernel_rfl) rfl).2 rfl)
    · refine .inr fun a w hp => ob_yes rfl ?_
      have h6 : a.tmps.getD 6 undef = .agg #[.bool b, .slice A n c, .slice A' n' c'] := (hp.fact 0 6 (by kernel_rfl) rfl)
      unfold Does
      go_simp
      refine (value_fld _ _ _ L (h.on hp.on) (by omega)).mono ?_
      rintro e w' ⟨u, rfl, I8, P8⟩
      exact ⟨_, rfl, P8, I8⟩
    · exact .inr fun a w hp => ob_yes rfl (ob_loadR (hp.box (k := 1) rfl (Nat.le_refl _) (.inr (.inl (by kernel_rfl))) (by kernel_rfl) rfl).1 (hp.box (k := 1) rfl (Nat.le_refl _) (.inr (.inl (by kernel_rfl))) (by kernel_rfl) rfl).2 rfl)
    · refine .inr fun a w hp => ob_yes rfl ?_
      have h8 : a.tmps.getD 8 undef = .agg #[.bool d, .slice E m o, .slice E' m' o'] := (hp.fact 2 8 (by kernel_rfl) rfl)
      unfold Does
      go_simp
      refine (value_fld _ _ _ L (k.on hp.on) (by omega)).mono ?_
      rintro e w' ⟨u, rfl, I8, P8⟩
      exact ⟨_, rfl, P8, I8⟩
    · exact .inl rfl
    · exact .inl rfl
  · intro f wr hon hk hf hb hap
    obtain ⟨q0, q1, q2, qz⟩ := hb
    clear qz
    obtain ⟨cur2, O2, I2⟩ : ∃ cur, Own wr (w.heap.size) 24 cur ∧ IsR wr (.agg cur) (r) (L) := q0
    obtain ⟨P2, Pn2, Pc2, _, R2, Rn2, Rc2, _, hz2, _⟩ := id I2
    injection hz2 with hz2
    subst hz2
    have c2_0 : wr.cell? ⟨w.heap.size, 0, none⟩ = some (.bool (decide (r < 0))) := O2.cell 0
    have z2_0 := O2.frozen 0
    have c2_1 : wr.cell? ⟨w.heap.size, 1, none⟩ = some (.slice P2 Pn2 Pc2) := O2.cell 1
    have z2_1 := O2.frozen 1
    have c2_2 : wr.cell? ⟨w.heap.size, 2, none⟩ = some (.slice R2 Rn2 Rc2) := O2.cell 2
    have z2_2 := O2.frozen 2
    obtain ⟨cur3, O3, I3⟩ : ∃ cur, Own wr (w.heap.size + 1) 24 cur ∧ IsR wr (.agg cur) (q) (L) := q1
    obtain ⟨P3, Pn3, Pc3, _, R3, Rn3, Rc3, _, hz3, _⟩ := id I3
    injection hz3 with hz3
    subst hz3
    have c3_0 : wr.cell? ⟨w.heap.size + 1, 0, none⟩ = some (.bool (decide (q < 0))) := O3.cell 0
    have z3_0 := O3.frozen 0
    have c3_1 : wr.cell? ⟨w.heap.size + 1, 1, none⟩ = some (.slice P3 Pn3 Pc3) := O3.cell 1
    have z3_1 := O3.frozen 1
    have c3_2 : wr.cell? ⟨w.heap.size + 1, 2, none⟩ = some (.slice R3 Rn3 Rc3) := O3.cell 2
    have z3_2 := O3.frozen 2
    have O4 : Own wr (w.heap.size + 2) 24 #[.bool false, .slice none 0 0, .slice none 0 0] := q2
    have c4_0 : wr.cell? ⟨w.heap.size + 2, 0, none⟩ = some (.bool false) := O4.cell 0
    have z4_0 := O4.frozen 0
    have c4_1 : wr.cell? ⟨w.heap.size + 2, 1, none⟩ = some (.slice none 0 0) := O4.cell 1
    have z4_1 := O4.frozen 1
    have c4_2 : wr.cell? ⟨w.heap.size + 2, 2, none⟩ = some (.slice none 0 0) := O4.cell 2
    have z4_2 := O4.frozen 2
    clear q2
    clear hf hap
    simp only [fillL]
    clear B
    have B := hon
    clear hon hk
    go_wp2_with fail
    refine (iszero_any _ _ _ _ I3).mono ?_
    rintro e wz ⟨rfl, PZ⟩
    rw [HD.out]
    have OB2 : w.heap.size ≤ w.heap.size ∧ _ := ⟨Nat.le_refl _, O2.on PZ⟩
    have OB3 : w.heap.size ≤ w.heap.size + 1 ∧ _ := ⟨by omega, O3.on PZ⟩
    have OB4 : w.heap.size ≤ w.heap.size + 2 ∧ _ := ⟨by omega, O4.on PZ⟩
    replace I2 := I2.on PZ
    replace I3 := I3.on PZ
    replace B := B.trans PZ
    clear c2_0 z2_0 c2_1 z2_1 c2_2 z2_2 O2
    clear c3_0 z3_0 c3_1 z3_1 c3_2 z3_2 O3
    clear c4_0 z4_0 c4_1 z4_1 c4_2 z4_2 O4
    clear PZ
    generalize hsr : decide (r < 0) = sr at *
    generalize hsq : decide (q < 0) = sq at *
    have HSR := Lib.hid hsr
    have HSQ := Lib.hid hsq
    clear hsr hsq
    go_wp2
    refine wp_region_facts (by kernel_rfl) w [Fact.eq (.agg #[.bool sr, .slice P2 Pn2 Pc2, .slice R2 Rn2 Rc2]), Fact.eq (.agg #[.bool sq, .slice P3 Pn3 Pc3, .slice R3 Rn3 Rc3]), Fact.rat (q⁻¹) (L), Fact.rat (r * q⁻¹) (L + L), Fact.any, Fact.eq (.nilIface)] [Fact.any, Fact.any, Fact.rat (r * q⁻¹) (L + L)] [⟨6, 2, 24, 6, #[.bool sr, .slice P2 Pn2 Pc2, .slice R2 Rn2 Rc2]⟩, ⟨6, 3, 24, 6, #[.bool sq, .slice P3 Pn3 Pc3, .slice R3 Rn3 Rc3]⟩, ⟨6, 4, 24, 4, #[.bool false, .slice none 0 0, .slice none 0 0]⟩] [w.heap.size, w.heap.size + 1, w.heap.size + 2] [none, none, none, none, none, some 5, none, none, none, none, none, none, none, none, some 14, some 15, some 16, some 17] (by kernel_rfl) (by kernel_rfl) (by kernel_rfl) rfl B ?_ ?_ ?_ ?_ ?_
    · exact ⟨fun _ => ⟨by simp, rfl, OB2⟩, fun _ => ⟨by simp, rfl, OB3⟩, fun _ => ⟨by simp, rfl, OB4⟩, trivial⟩
    · exact .inr (by simp <;> omega)
    · exact ⟨⟨noWords_R _ _ _ _ _ _ _, (.inl (Nat.le_refl _)), (.inl (Nat.le_refl _))⟩, ⟨noWords_R _ _ _ _ _ _ _, (.inl (Nat.le_refl _)), (.inl (Nat.le_refl _))⟩, ⟨noWords_R _ _ _ _ _ _ _, (.inl (Nat.le_refl _)), (.inr (store_ob (j := 3) (noWords_R _ _ _ _ _ _ _) rfl rfl rfl (by kernel_rfl) rfl rfl rfl))⟩, trivial⟩
    · refine ⟨?_, ?_, ?_, ?_, ?_, ?_, trivial⟩
      · exact .inr fun a w hp => ob_yes rfl (ob_loadR (hp.box (k := 0) rfl (Nat.le_refl _) (.inl (Nat.le_refl _)) (by kernel_rfl) rfl).1 (hp.box (k := 0) rfl (Nat.le_refl _) (.inl (Nat.le_refl _)) (by kernel_rfl) rfl).2 rfl)
      · exact .inr fun a w hp => ob_yes rfl (ob_loadR (hp.box (k := 1) rfl (Nat.le_refl _) (.inl (Nat.le_refl _)) (by kernel_rfl) rfl).1 (hp.box (k := 1) rfl (Nat.le_refl _) (.inl (Nat.le_refl _)) (by kernel_rfl) rfl).2 rfl)
      · refine .inr fun a w hp => ob_yes rfl ?_
        have h15 : a.tmps.getD 15 undef = .agg #[.bool sq, .slice P3 Pn3 Pc3, .slice R3 Rn3 Rc3] := (hp.fact 1 15 (by kernel_rfl) rfl)
        unfold Does
        go_simp
        refine (inverse_any _ _ _ L (I3.kept hp.kept) HQ.out).mono ?_
        rintro e w' ⟨u, rfl, I8, P8⟩
        exact ⟨_, rfl, P8, I8⟩
      · refine .inr fun a w hp => ob_yes rfl ?_
        have h14 : a.tmps.getD 14 undef = .agg #[.bool sr, .slice P2 Pn2 Pc2, .slice R2 Rn2 Rc2] := (hp.fact 0 14 (by kernel_rfl) rfl)
        have h16 : IsR w (a.tmps.getD 16 undef) (q⁻¹) (L) := (hp.fact 2 16 (by kernel_rfl) rfl)
        obtain ⟨v16, e16⟩ : ∃ v, a.tmps.getD 16 undef = v := ⟨_, rfl⟩
        rw [e16] at h16
        unfold Does
        go_simp
        refine (product_any _ _ _ _ _ L (I2.kept hp.kept) h16 hL2 (by omega)).mono ?_
        rintro e w' ⟨u, rfl, I8, P8⟩
        exact ⟨_, rfl, P8, I8⟩
      · exact .inl rfl
      · exact .inr fun a w hp => ob_yes rfl (does_value rfl rfl)
    · intro f wd hon hk hf hb hap
      obtain ⟨q0, q1, q2, qz⟩ := hb
      clear qz
      have O2 : Own wd (w.heap.size) 24 #[.bool sr, .slice P2 Pn2 Pc2, .slice R2 Rn2 Rc2] := q0
      have c2_0 : wd.cell? ⟨w.heap.size, 0, none⟩ = some (.bool sr) := O2.cell 0
      have z2_0 := O2.frozen 0
      have c2_1 : wd.cell? ⟨w.heap.size, 1, none⟩ = some (.slice P2 Pn2 Pc2) := O2.cell 1
      have z2_1 := O2.frozen 1
      have c2_2 : wd.cell? ⟨w.heap.size, 2, none⟩ = some (.slice R2 Rn2 Rc2) := O2.cell 2
      have z2_2 := O2.frozen 2
      clear q0
      have O3 : Own wd (w.heap.size + 1) 24 #[.bool sq, .slice P3 Pn3 Pc3, .slice R3 Rn3 Rc3] := q1
      have c3_0 : wd.cell? ⟨w.heap.size + 1, 0, none⟩ = some (.bool sq) := O3.cell 0
      have z3_0 := O3.frozen 0
      have c3_1 : wd.cell? ⟨w.heap.size + 1, 1, none⟩ = some (.slice P3 Pn3 Pc3) := O3.cell 1
      have z3_1 := O3.frozen 1
      have c3_2 : wd.cell? ⟨w.heap.size + 1, 2, none⟩ = some (.slice R3 Rn3 Rc3) := O3.cell 2
      have z3_2 := O3.frozen 2
      clear q1
      obtain ⟨cur4, O4, I4⟩ : ∃ cur, Own wd (w.heap.size + 2) 24 cur ∧ IsR wd (.agg cur) (r * q⁻¹) (L + L) := q2
      obtain ⟨P4, Pn4, Pc4, _, R4, Rn4, Rc4, _, hz4, _⟩ := id I4
      injection hz4 with hz4
      subst hz4
      have c4_0 : wd.cell? ⟨w.heap.size + 2, 0, none⟩ = some (.bool (decide (r * q⁻¹ < 0))) := O4.cell 0
      have z4_0 := O4.frozen 0
      have c4_1 : wd.cell? ⟨w.heap.size + 2, 1, none⟩ = some (.slice P4 Pn4 Pc4) := O4.cell 1
      have z4_1 := O4.frozen 1
      have c4_2 : wd.cell? ⟨w.heap.size + 2, 2, none⟩ = some (.slice R4 Rn4 Rc4) := O4.cell 2
      have z4_2 := O4.frozen 2
      have e5 : f 5 = .nilIface := hf 5 5 rfl
      clear hf hap
      simp only [fillL, e5]
      clear e5
      go_wp2
      exact bodyPost_ret (v := .tuple #[.agg #[.bool (decide (r * q⁻¹ < 0)), .slice P4 Pn4 Pc4, .slice R4 Rn4 Rc4], .nilIface]) (by simp [results, Tryz.results99, go_sem, c4_0, c4_1, c4_2]) rfl ⟨_, rfl, I4, hon⟩
end Num
end Go.Proofs.YtkchpagjkgmpmaaGreat
