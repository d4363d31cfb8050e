/-
  Spans: structs of two fractions; what the operations on them do.
-/
import Derived.Test.YtkchpagjkgmpmaaGreatRcom
namespace Go.Proofs.YtkchpagjkgmpmaaGreat
open Go.RowKit
set_option linter.unusedVariables false
namespace Num
/-- the struct of two fractions lo and hi, each of its lists at most L words -/
def IsS (w : World) (v : Value) (lo hi : Rat) (L : Nat) : Prop := ∃ (s : Bool) (A : Option Addr) (n c : Nat) (A' : Option Addr) (n' c' : Nat) (d : Bool) (E : Option Addr) (m o : Nat) (E' : Option Addr) (m' o' : Nat), v = .agg #[.bool s, .slice A n c, .slice A' n' c', .bool d, .slice E m o, .slice E' m' o'] ∧ IsR w (.agg #[.bool s, .slice A n c, .slice A' n' c']) lo L ∧ IsR w (.agg #[.bool d, .slice E m o, .slice E' m' o']) hi L
theorem IsS.on {w w' : World} {v : Value} {lo hi : Rat} {L : Nat} (h : IsS w v lo hi L) (b : On w w') : IsS w' v lo hi L := by
  obtain ⟨s, A, n, c, A', n', c', d, E, m, o, E', m', o', e, h1, h2⟩ := h
  exact ⟨s, A, n, c, A', n', c', d, E, m, o, E', m', o', e, h1.on b, h2.on b⟩
theorem IsS.kept {w w' : World} {v : Value} {lo hi : Rat} {L : Nat} (h : IsS w v lo hi L) (b : Kept w w') : IsS w' v lo hi L := by
  obtain ⟨s, A, n, c, A', n', c', d, E, m, o, E', m', o', e, h1, h2⟩ := h
  exact ⟨s, A, n, c, A', n', c', d, E, m, o, E', m', o', e, h1.kept b, h2.kept b⟩
theorem IsS.wide {w : World} {v : Value} {lo hi : Rat} {L M : Nat} (h : IsS w v lo hi L) (b : L ≤ M) : IsS w v lo hi M := by
  obtain ⟨s, A, n, c, A', n', c', d, E, m, o, E', m', o', e, h1, h2⟩ := h
  exact ⟨s, A, n, c, A', n', c', d, E, m, o, E', m', o', e, h1.wide b, h2.wide b⟩
theorem isS_zero (w : World) (L : Nat) : IsS w (.agg #[.bool false, .slice none 0 0, .slice none 0 0, .bool false, .slice none 0 0, .slice none 0 0]) 0 0 L :=
  ⟨_, _, _, _, _, _, _, _, _, _, _, _, _, _, rfl, isR_zero _ _, isR_zero _ _⟩
theorem isR_form {w : World} {v : Value} {r : Rat} {L : Nat} (h : IsR w v r L) : ∃ (s : Bool) (A : Option Addr) (n c : Nat) (A' : Option Addr) (n' c' : Nat), v = .agg #[.bool s, .slice A n c, .slice A' n' c'] := by
  obtain ⟨A, n, c, xs, A', n', c', ys, e, _⟩ := h
  exact ⟨_, A, n, c, A', n', c', e⟩
theorem isS_mk {w : World} {v v' : Value} {lo hi : Rat} {L : Nat} (h : IsR w v lo L) (k : IsR w v' hi L) : ∃ (s : Bool) (A : Option Addr) (n c : Nat) (A' : Option Addr) (n' c' : Nat) (d : Bool) (E : Option Addr) (m o : Nat) (E' : Option Addr) (m' o' : Nat), v = .agg #[.bool s, .slice A n c, .slice A' n' c'] ∧ v' = .agg #[.bool d, .slice E m o, .slice E' m' o'] ∧ IsR w (.agg #[.bool s, .slice A n c, .slice A' n' c']) lo L ∧ IsR w (.agg #[.bool d, .slice E m o, .slice E' m' o']) hi L := by
  obtain ⟨s, A, n, c, A', n', c', rfl⟩ := isR_form h
  obtain ⟨d, E, m, o, E', m', o', rfl⟩ := isR_form k
  exact ⟨s, A, n, c, A', n', c', d, E, m, o, E', m', o', rfl, rfl, h, k⟩
def SpPost (w : World) (lo hi : Rat) (L : Nat) (e : Ending) (w' : World) : Prop := ∃ v, e = .returned v ∧ IsS w' v lo hi L ∧ On w w'
def SpPost2 (w : World) (lo hi : Rat) (L : Nat) (er : Value) (e : Ending) (w' : World) : Prop := ∃ v, e = .returned (.tuple #[v, er]) ∧ IsS w' v lo hi L ∧ On w w'
theorem SpPost.wide {w : World} {lo hi : Rat} {L M : Nat} {e : Ending} {w' : World} (h : SpPost w lo hi L e w') (k : L ≤ M) : SpPost w lo hi M e w' := by
  obtain ⟨u, e1, I, o⟩ := h
  exact ⟨u, e1, I.wide k, o⟩
theorem noWords_S (s : Bool) (A : Option Addr) (n c : Nat) (A' : Option Addr) (n' c' : Nat) (d : Bool) (E : Option Addr) (m o : Nat) (E' : Option Addr) (m' o' : Nat) : NoWords 26 #[.bool s, .slice A n c, .slice A' n' c', .bool d, .slice E m o, .slice E' m' o'] := by
  refine ⟨fun e => absurd e (by decide), fun k x e => ?_⟩
  match k with
  | 0 => cases e
  | 1 => cases e
  | 2 => cases e
  | 3 => cases e
  | 4 => cases e
  | 5 => cases e
  | k + 6 => simp at e
/-- any struct of two structs; f: whether it is a span -/
def SRaw (w : World) (v : Value) (lo hi : Rat) (f : Bool) (L : Nat) : Prop := ∃ (s : Bool) (A : Option Addr) (n c : Nat) (A' : Option Addr) (n' c' : Nat) (d : Bool) (E : Option Addr) (m o : Nat) (E' : Option Addr) (m' o' : Nat) (xs ys us vs : List Nat), v = .agg #[.bool s, .slice A n c, .slice A' n' c', .bool d, .slice E m o, .slice E' m' o'] ∧ Rd w A n c xs ∧ Rd w A' n' c' ys ∧ Rd w E m o us ∧ Rd w E' m' o' vs ∧ n ≤ L ∧ n' ≤ L ∧ m ≤ L ∧ m' ≤ L ∧ raw s xs ys = lo ∧ raw d us vs = hi ∧ f = (fitB s xs ys && fitB d us vs && decide (lo ≤ hi))
/-- any struct that counts as the span lo .. hi -/
def Sp (w : World) (v : Value) (lo hi : Rat) (L : Nat) : Prop := ∃ (p q : Rat) (f : Bool), SRaw w v p q f L ∧ lo = (if f = true then p else 0) ∧ hi = (if f = true then q else 0)
theorem SRaw.on {w w' : World} {v : Value} {lo hi : Rat} {f : Bool} {L : Nat} (h : SRaw w v lo hi f L) (b : On w w') : SRaw w' v lo hi f L := by
  obtain ⟨s, A, n, c, A', n', c', d, E, m, o, E', m', o', xs, ys, us, vs, e, h1, h2, h3, h4, h5⟩ := h
  exact ⟨s, A, n, c, A', n', c', d, E, m, o, E', m', o', xs, ys, us, vs, e, h1.on b, h2.on b, h3.on b, h4.on b, h5⟩
theorem SRaw.kept {w w' : World} {v : Value} {lo hi : Rat} {f : Bool} {L : Nat} (h : SRaw w v lo hi f L) (b : Kept w w') : SRaw w' v lo hi f L := by
  obtain ⟨s, A, n, c, A', n', c', d, E, m, o, E', m', o', xs, ys, us, vs, e, h1, h2, h3, h4, h5⟩ := h
  exact ⟨s, A, n, c, A', n', c', d, E, m, o, E', m', o', xs, ys, us, vs, e, h1.kept b, h2.kept b, h3.kept b, h4.kept b, h5⟩
theorem SRaw.form {w : World} {v : Value} {lo hi : Rat} {f : Bool} {L : Nat} (h : SRaw w v lo hi f L) : ∃ (s : Bool) (A : Option Addr) (n c : Nat) (A' : Option Addr) (n' c' : Nat) (d : Bool) (E : Option Addr) (m o : Nat) (E' : Option Addr) (m' o' : Nat), v = .agg #[.bool s, .slice A n c, .slice A' n' c', .bool d, .slice E m o, .slice E' m' o'] := by
  obtain ⟨s, A, n, c, A', n', c', d, E, m, o, E', m', o', xs, ys, us, vs, e, _⟩ := h
  exact ⟨s, A, n, c, A', n', c', d, E, m, o, E', m', o', e⟩
theorem Sp.on {w w' : World} {v : Value} {lo hi : Rat} {L : Nat} (h : Sp w v lo hi L) (b : On w w') : Sp w' v lo hi L := by
  obtain ⟨p, q, f, h1, h2⟩ := h
  exact ⟨p, q, f, h1.on b, h2⟩
theorem Sp.kept {w w' : World} {v : Value} {lo hi : Rat} {L : Nat} (h : Sp w v lo hi L) (b : Kept w w') : Sp w' v lo hi L := by
  obtain ⟨p, q, f, h1, h2⟩ := h
  exact ⟨p, q, f, h1.kept b, h2⟩
theorem Sp.form {w : World} {v : Value} {lo hi : Rat} {L : Nat} (h : Sp w v lo hi L) : ∃ (s : Bool) (A : Option Addr) (n c : Nat) (A' : Option Addr) (n' c' : Nat) (d : Bool) (E : Option Addr) (m o : Nat) (E' : Option Addr) (m' o' : Nat), v = .agg #[.bool s, .slice A n c, .slice A' n' c', .bool d, .slice E m o, .slice E' m' o'] := by
  obtain ⟨p, q, f, h1, h2⟩ := h
  exact h1.form
theorem Sp.le {w : World} {v : Value} {lo hi : Rat} {L : Nat} (h : Sp w v lo hi L) : lo ≤ hi := by
  obtain ⟨p, q, f, ⟨s, A, n, c, A', n', c', d, E, m, o, E', m', o', xs, ys, us, vs, e, h1, h2, h3, h4, h5, h6, h7, h8, h9, h10, h11⟩, rfl, rfl⟩ := h
  cases f
  · exact Rat.le_refl
  · simp at h11
    exact h11.2
theorem isR_rawf {w : World} {s : Bool} {A A' : Option Addr} {n c n' c' L : Nat} {r : Rat} (h : IsR w (.agg #[.bool s, .slice A n c, .slice A' n' c']) r L) : ∃ xs ys, Rd w A n c xs ∧ Rd w A' n' c' ys ∧ n ≤ L ∧ n' ≤ L ∧ raw s xs ys = r ∧ fitB s xs ys = true := by
  obtain ⟨B, m, o, xs, B', m', o', ys, e, R, R', C, C', l1, l2, v1, v2⟩ := h
  injection e with e
  simp at e
  obtain ⟨rfl, ⟨rfl, rfl, rfl⟩, rfl, rfl, rfl⟩ := e
  refine ⟨xs, ys, R, R', l1, l2, raw_isR C C' v1 v2, ?_⟩
  by_cases h0 : r = 0
  · subst h0
    have e1 : xs = [] := (nil_iff C).2 (by rw [v1]; rfl)
    have e2 : ys = [] := (nil_iff C').2 (by rw [v2]; simp [dn])
    subst e1; subst e2
    rfl
  · rw [dn_ne h0] at v2
    have hx : 0 < val xs := by rw [v1]; exact num_pos_of_ne h0
    have hy : 0 < val ys := by rw [v2]; exact r.den_pos
    have lx : 0 < xs.length := by
      rcases Nat.eq_zero_or_pos xs.length with h | h
      · rw [List.eq_nil_of_length_eq_zero h] at hx; cases hx
      · exact h
    have ly : 0 < ys.length := by
      rcases Nat.eq_zero_or_pos ys.length with h | h
      · rw [List.eq_nil_of_length_eq_zero h] at hy; cases hy
      · exact h
    exact fitB_yes _ ⟨lx, C⟩ ⟨ly, C'⟩ (by rw [v1, v2]; exact r.reduced)
theorem IsS.raw_ {w : World} {v : Value} {lo hi : Rat} {L : Nat} (h : IsS w v lo hi L) : SRaw w v lo hi (decide (lo ≤ hi)) L := by
  obtain ⟨s, A, n, c, A', n', c', d, E, m, o, E', m', o', e, h1, h2⟩ := h
  obtain ⟨xs, ys, R, R', l1, l2, e1, f1⟩ := isR_rawf h1
  obtain ⟨us, vs, U, U', k1, k2, e2, f2⟩ := isR_rawf h2
  exact ⟨s, A, n, c, A', n', c', d, E, m, o, E', m', o', xs, ys, us, vs, e, R, R', U, U', l1, l2, k1, k2, e1, e2, by rw [f1, f2]; simp⟩
theorem IsS.sp {w : World} {v : Value} {lo hi : Rat} {L : Nat} (h : IsS w v lo hi L) (hl : lo ≤ hi) : Sp w v lo hi L :=
  ⟨lo, hi, true, by have := h.raw_; rwa [decide_eq_true hl] at this, by simp, by simp⟩
theorem Sp.wide {w : World} {v : Value} {lo hi : Rat} {L M : Nat} (h : Sp w v lo hi L) (hm : L ≤ M) : Sp w v lo hi M := by
  obtain ⟨p, q, f, ⟨s, A, n, c, A', n', c', d, E, m, o, E', m', o', xs, ys, us, vs, e, h1, h2, h3, h4, h5, h6, h7, h8, h9⟩, h10⟩ := h
  exact ⟨p, q, f, ⟨s, A, n, c, A', n', c', d, E, m, o, E', m', o', xs, ys, us, vs, e, h1, h2, h3, h4, by omega, by omega, by omega, by omega, h9⟩, h10⟩
theorem fit_isR {w : World} {s : Bool} {A A' : Option Addr} {n c n' c' L : Nat} {xs ys : List Nat} {r : Rat} (R : Rd w A n c xs) (R' : Rd w A' n' c' ys) (l1 : n ≤ L) (l2 : n' ≤ L) (hf : fitB s xs ys = true) (hr : raw s xs ys = r) : IsR w (.agg #[.bool s, .slice A n c, .slice A' n' c']) r L := by
  by_cases hx : 0 < xs.length
  · obtain ⟨C, C', p1, p2, p3⟩ := fit_parts hf hx
    have hr' : r = fr s (val xs) (val ys) := by rw [← hr]; exact raw_fit hf hx
    have hs : decide (r < 0) = s := by rw [hr']; exact fr_sign s _ _ p2 p1
    have hv1 : val xs = r.num.natAbs := by rw [hr', fr_abs s _ _ p2, p3, Nat.div_one]
    have hv2 : val ys = r.den := by rw [hr', fr_den s _ _ p2, p3, Nat.div_one]
    have h0 : r ≠ 0 := fun e => by rw [e] at hv1; have : val xs = 0 := hv1; omega
    exact ⟨A, n, c, xs, A', n', c', ys, by rw [hs], R, R', C, C', l1, l2, hv1, by rw [dn_ne h0]; exact hv2⟩
  · have hx0 : xs = [] := List.eq_nil_of_length_eq_zero (by omega)
    have hp : FitP s xs ys := of_decide_eq_true hf
    rcases hp with ⟨h1, h2, h3⟩ | ⟨⟨h1, _⟩, _⟩
    · subst h1; subst h2; subst h3
      have hr0 : r = 0 := by rw [← hr]; exact raw_nil _ _
      subst hr0
      exact ⟨A, n, c, [], A', n', c', [], by simp, R, R', clean_nil, clean_nil, l1, l2, rfl, by simp [dn, val]⟩
    · omega
/-- a span that is one, its ends as fractions -/
theorem raw_isS {w : World} {v : Value} {lo hi : Rat} {L : Nat} (h : SRaw w v lo hi true L) : IsS w v lo hi L ∧ lo ≤ hi := by
  obtain ⟨s, A, n, c, A', n', c', d, E, m, o, E', m', o', xs, ys, us, vs, e, R, R', U, U', l1, l2, k1, k2, e1, e2, f⟩ := h
  have f' := f.symm
  simp at f'
  obtain ⟨⟨f1, f2⟩, hl⟩ := f'
  refine ⟨⟨s, A, n, c, A', n', c', d, E, m, o, E', m', o', e, ?_, ?_⟩, hl⟩
  · exact fit_isR R R' l1 l2 f1 e1
  · exact fit_isR U U' k1 k2 f2 e2
theorem run_loadSp {w : World} {g : Nat} {x0 x1 x2 x3 x4 x5 : Value} (h : Own w g 26 #[x0, x1, x2, x3, x4, x5]) :
    (Instr.loadAt 26 (.pointer (some ⟨g, 0, none⟩))).run Tryz.prog w = .ok (.agg #[x0, x1, x2, x3, x4, x5]) w := by
  have a0 : w.cell? ⟨g, 0, none⟩ = some x0 := h.cell 0
  have a1 : w.cell? ⟨g, 1, none⟩ = some x1 := h.cell 1
  have a2 : w.cell? ⟨g, 2, none⟩ = some x2 := h.cell 2
  have a3 : w.cell? ⟨g, 3, none⟩ = some x3 := h.cell 3
  have a4 : w.cell? ⟨g, 4, none⟩ = some x4 := h.cell 4
  have a5 : w.cell? ⟨g, 5, none⟩ = some x5 := h.cell 5
  go_simp
theorem run_loadLo {w : World} {g t : Nat} {x0 x1 x2 x3 x4 x5 : Value} (h : Own w g t #[x0, x1, x2, x3, x4, x5]) :
    (Instr.loadAt 24 (.pointer (some ⟨g, 0, none⟩))).run Tryz.prog w = .ok (.agg #[x0, x1, x2]) w := by
  have a0 : w.cell? ⟨g, 0, none⟩ = some x0 := h.cell 0
  have a1 : w.cell? ⟨g, 1, none⟩ = some x1 := h.cell 1
  have a2 : w.cell? ⟨g, 2, none⟩ = some x2 := h.cell 2
  have a3 : w.cell? ⟨g, 3, none⟩ = some x3 := h.cell 3
  have a4 : w.cell? ⟨g, 4, none⟩ = some x4 := h.cell 4
  have a5 : w.cell? ⟨g, 5, none⟩ = some x5 := h.cell 5
  go_simp
theorem run_loadHi {w : World} {g t : Nat} {x0 x1 x2 x3 x4 x5 : Value} (h : Own w g t #[x0, x1, x2, x3, x4, x5]) :
    (Instr.loadAt 24 (.pointer (some ⟨g, 3, none⟩))).run Tryz.prog w = .ok (.agg #[x3, x4, x5]) w := by
  have a0 : w.cell? ⟨g, 0, none⟩ = some x0 := h.cell 0
  have a1 : w.cell? ⟨g, 1, none⟩ = some x1 := h.cell 1
  have a2 : w.cell? ⟨g, 2, none⟩ = some x2 := h.cell 2
  have a3 : w.cell? ⟨g, 3, none⟩ = some x3 := h.cell 3
  have a4 : w.cell? ⟨g, 4, none⟩ = some x4 := h.cell 4
  have a5 : w.cell? ⟨g, 5, none⟩ = some x5 := h.cell 5
  go_simp
theorem run_fieldS0 {w : World} {g : Nat} : (Instr.fieldAt 26 (.pointer (some ⟨g, 0, none⟩)) 0).run Tryz.prog w = .ok (.pointer (some ⟨g, 0, none⟩)) w := by
  go_simp
theorem run_fieldS1 {w : World} {g : Nat} : (Instr.fieldAt 26 (.pointer (some ⟨g, 0, none⟩)) 1).run Tryz.prog w = .ok (.pointer (some ⟨g, 3, none⟩)) w := by
  go_simp
theorem run_zeroS {w : World} : (Instr.build 26 #[]).run Tryz.prog w = .ok (.agg #[.bool false, .slice none 0 0, .slice none 0 0, .bool false, .slice none 0 0, .slice none 0 0]) w := by
  go_simp
theorem run_buildS {w : World} {s : Bool} {A : Option Addr} {n c : Nat} {A' : Option Addr} {n' c' : Nat} {d : Bool} {E : Option Addr} {m o : Nat} {E' : Option Addr} {m' o' : Nat} : (Instr.build 26 #[(0, .agg #[.bool s, .slice A n c, .slice A' n' c']), (1, .agg #[.bool d, .slice E m o, .slice E' m' o'])]).run Tryz.prog w = .ok (.agg #[.bool s, .slice A n c, .slice A' n' c', .bool d, .slice E m o, .slice E' m' o']) w := by
  go_simp
theorem run_allocS {w : World} : (Instr.alloc 26 true (.tuple #[])).run Tryz.prog w = .ok (.pointer (some ⟨w.heap.size, 0, none⟩)) (w.alloc (.cells #[.bool false, .slice none 0 0, .slice none 0 0, .bool false, .slice none 0 0, .slice none 0 0] 26)) := by
  go_simp
theorem run_storeS {w : World} {g : Nat} {x0 x1 x2 x3 x4 x5 : Value} {s : Bool} {A : Option Addr} {n c : Nat} {A' : Option Addr} {n' c' : Nat} {d : Bool} {E : Option Addr} {m o : Nat} {E' : Option Addr} {m' o' : Nat} (h : Own w g 26 #[x0, x1, x2, x3, x4, x5]) :
    (Instr.storeAt 26 (.pointer (some ⟨g, 0, none⟩)) (.agg #[.bool s, .slice A n c, .slice A' n' c', .bool d, .slice E m o, .slice E' m' o'])).run Tryz.prog w = .ok () ((((((w.setCell ⟨g, 0, none⟩ (.bool s)).setCell ⟨g, 1, none⟩ (.slice A n c)).setCell ⟨g, 2, none⟩ (.slice A' n' c')).setCell ⟨g, 3, none⟩ (.bool d)).setCell ⟨g, 4, none⟩ (.slice E m o)).setCell ⟨g, 5, none⟩ (.slice E' m' o')) := by
  have a0 : w.cell? ⟨g, 0, none⟩ = some x0 := h.cell 0
  have a1 : w.cell? ⟨g, 1, none⟩ = some x1 := h.cell 1
  have a2 : w.cell? ⟨g, 2, none⟩ = some x2 := h.cell 2
  have a3 : w.cell? ⟨g, 3, none⟩ = some x3 := h.cell 3
  have a4 : w.cell? ⟨g, 4, none⟩ = some x4 := h.cell 4
  have a5 : w.cell? ⟨g, 5, none⟩ = some x5 := h.cell 5
  have f0 := h.frozen 0
  have f1 := h.frozen 1
  have f2 := h.frozen 2
  have f3 := h.frozen 3
  have f4 := h.frozen 4
  have f5 := h.frozen 5
  go_simp
theorem only6 {w : World} {g : Nat} (u0 u1 u2 u3 u4 u5 : Value) : Only g w ((((((w.setCell ⟨g, 0, none⟩ (u0)).setCell ⟨g, 1, none⟩ (u1)).setCell ⟨g, 2, none⟩ (u2)).setCell ⟨g, 3, none⟩ (u3)).setCell ⟨g, 4, none⟩ (u4)).setCell ⟨g, 5, none⟩ (u5)) := (((((((Only.refl g w).set_ 0 u0).set_ 1 u1).set_ 2 u2).set_ 3 u3).set_ 4 u4).set_ 5 u5)
theorem on6 {w w' : World} {g : Nat} (h : On w w') (hg : w.heap.size ≤ g) (u0 u1 u2 u3 u4 u5 : Value) : On w ((((((w'.setCell ⟨g, 0, none⟩ (u0)).setCell ⟨g, 1, none⟩ (u1)).setCell ⟨g, 2, none⟩ (u2)).setCell ⟨g, 3, none⟩ (u3)).setCell ⟨g, 4, none⟩ (u4)).setCell ⟨g, 5, none⟩ (u5)) :=
  (((((h.setCell (p := ⟨g, 0, none⟩) hg u0).setCell (p := ⟨g, 1, none⟩) hg u1).setCell (p := ⟨g, 2, none⟩) hg u2).setCell (p := ⟨g, 3, none⟩) hg u3).setCell (p := ⟨g, 4, none⟩) hg u4).setCell (p := ⟨g, 5, none⟩) hg u5
def Fact.sp (lo hi : Rat) (L : Nat) : Fact := ⟨fun v w => IsS w v lo hi L, fun _ _ _ k h => h.kept k⟩
def Fact.strP (p : List Nat → Prop) : Fact := ⟨fun v _ => ∃ bs, v = .string (str bs) ∧ p bs, fun _ _ _ _ h => h⟩
def Fact.spE (lo hi : Rat) (L : Nat) (er : Value) : Fact := ⟨fun v w => ∃ u, v = .tuple #[u, er] ∧ IsS w u lo hi L, fun _ _ _ k ⟨u, e, h⟩ => ⟨u, e, h.kept k⟩⟩
section
variable {P : Program} {ops : Array Oper} {Q : Exit → Act → World → Prop} {W0 Wi : World} {a0 a : Act} {F : Nat → Value → World → Prop} {ts : List Tg} {w : World} {i : Nat}
set_option maxRecDepth 100000 in
theorem ob_loadSp {d : Option Tmp} {s ty : Nat} {pos : String} {after : Array Edge} {gu : Option (Nat × Bool)} {g : Nat} {x0 x1 x2 x3 x4 x5 : Value} (hs : a.tmps.getD s undef = .pointer (some ⟨g, 0, none⟩)) (ho : Own w g 26 #[x0, x1, x2, x3, x4, x5]) (hf : F i (.agg #[x0, x1, x2, x3, x4, x5]) w) :
    Does Tryz.prog Q F i ⟨d, .load 26 (.tmp s), ty, pos, after, gu⟩ a w :=
  does_value (do_value (by rw [show a.eval (.tmp s) = _ from hs]; exact run_loadSp ho)) hf
set_option maxRecDepth 100000 in
theorem ob_loadLo {d : Option Tmp} {s ty : Nat} {pos : String} {after : Array Edge} {gu : Option (Nat × Bool)} {g t : Nat} {x0 x1 x2 x3 x4 x5 : Value} (hs : a.tmps.getD s undef = .pointer (some ⟨g, 0, none⟩)) (ho : Own w g t #[x0, x1, x2, x3, x4, x5]) (hf : F i (.agg #[x0, x1, x2]) w) :
    Does Tryz.prog Q F i ⟨d, .load 24 (.tmp s), ty, pos, after, gu⟩ a w :=
  does_value (do_value (by rw [show a.eval (.tmp s) = _ from hs]; exact run_loadLo ho)) hf
set_option maxRecDepth 100000 in
theorem ob_loadHi {d : Option Tmp} {s ty : Nat} {pos : String} {after : Array Edge} {gu : Option (Nat × Bool)} {g t : Nat} {x0 x1 x2 x3 x4 x5 : Value} (hs : a.tmps.getD s undef = .pointer (some ⟨g, 3, none⟩)) (ho : Own w g t #[x0, x1, x2, x3, x4, x5]) (hf : F i (.agg #[x3, x4, x5]) w) :
    Does Tryz.prog Q F i ⟨d, .load 24 (.tmp s), ty, pos, after, gu⟩ a w :=
  does_value (do_value (by rw [show a.eval (.tmp s) = _ from hs]; exact run_loadHi ho)) hf
set_option maxRecDepth 100000 in
theorem ob_fieldS0 {d : Option Tmp} {s ty : Nat} {pos : String} {after : Array Edge} {gu : Option (Nat × Bool)} {g : Nat} (hs : a.tmps.getD s undef = .pointer (some ⟨g, 0, none⟩)) (hf : F i (.pointer (some ⟨g, 0, none⟩)) w) :
    Does Tryz.prog Q F i ⟨d, .fieldAddr 26 (.tmp s) 0, ty, pos, after, gu⟩ a w := by
  refine does_value (do_value (v := .pointer (some ⟨g, 0, none⟩)) ?_) hf
  rw [show a.eval (.tmp s) = _ from hs]
  exact run_fieldS0
set_option maxRecDepth 100000 in
theorem ob_fieldS1 {d : Option Tmp} {s ty : Nat} {pos : String} {after : Array Edge} {gu : Option (Nat × Bool)} {g : Nat} (hs : a.tmps.getD s undef = .pointer (some ⟨g, 0, none⟩)) (hf : F i (.pointer (some ⟨g, 3, none⟩)) w) :
    Does Tryz.prog Q F i ⟨d, .fieldAddr 26 (.tmp s) 1, ty, pos, after, gu⟩ a w := by
  refine does_value (do_value (v := .pointer (some ⟨g, 3, none⟩)) ?_) hf
  rw [show a.eval (.tmp s) = _ from hs]
  exact run_fieldS1
set_option maxRecDepth 100000 in
theorem ob_zeroS {d : Option Tmp} {ty : Nat} {pos : String} {after : Array Edge} {gu : Option (Nat × Bool)} (hf : F i (.agg #[.bool false, .slice none 0 0, .slice none 0 0, .bool false, .slice none 0 0, .slice none 0 0]) w) : Does Tryz.prog Q F i ⟨d, .build 26 #[], ty, pos, after, gu⟩ a w :=
  does_value (do_value (by simp only [List.map_toArray, List.map_nil]; exact run_zeroS)) hf
set_option maxRecDepth 100000 in
theorem ob_buildS {dd : Option Tmp} {ty s0 s1 : Nat} {pos : String} {after : Array Edge} {gu : Option (Nat × Bool)} {u v : Value} {lo hi : Rat} {L : Nat} (h0 : a.tmps.getD s0 undef = u) (h1 : a.tmps.getD s1 undef = v) (I0 : IsR w u lo L) (I1 : IsR w v hi L) (hf : ∀ x, IsS w x lo hi L → F i x w) : Does Tryz.prog Q F i ⟨dd, .build 26 #[(0, .tmp s0), (1, .tmp s1)], ty, pos, after, gu⟩ a w := by
  obtain ⟨s, A, n, c, A', n', c', d, E, m, o, E', m', o', e1, e2, J0, J1⟩ := isS_mk I0 I1
  rw [e1] at h0
  rw [e2] at h1
  refine does_value (do_value ?_) (hf _ ⟨s, A, n, c, A', n', c', d, E, m, o, E', m', o', rfl, J0, J1⟩)
  simp only [List.map_toArray, List.map_cons, List.map_nil]
  rw [show a.eval (.tmp s0) = _ from h0, show a.eval (.tmp s1) = _ from h1]
  exact run_buildS
end
set_option maxRecDepth 100000 in
theorem store_obS {ops : Array Oper} {W0 Wi : World} {a0 : Act} {fs : List Fact} {ts : List Tg} {gs : List Fact} {k : Nat} {tg : Tg} {s j ty : Nat} {pos : String} {after : Array Edge} {x0 x1 x2 x3 x4 x5 : Value} {lo hi : Rat} {L : Nat}
    (hn : NoWords 26 #[x0, x1, x2, x3, x4, x5]) (ho : ops[tg.st]? = some ⟨none, .store 26 (.tmp tg.slot) (.tmp s), ty, pos, after, none⟩) (ht : tg.t = 26) (hi' : tg.init = #[x0, x1, x2, x3, x4, x5]) (hw : waits ops 3 tg.st j = true) (hd : dstOf ops j = some s) (hf : fs[j]? = some (Fact.sp lo hi L)) (hg : gs[k]? = some (Fact.sp lo hi L)) :
    ∃ o, ops[tg.st]? = some o ∧ ∀ (a : Act) (w : World) (g : Nat), Pre ops W0 Wi a0 (factsF fs) ts tg.st a w → a.tmps.getD tg.slot undef = .pointer (some ⟨g, 0, none⟩) → Own w g tg.t tg.init → Region.wanted o (yielded ops a.tmps) = true ∧ ∃ w' cur, (execOp a.eval o).run Tryz.prog w = .ok .skip w' ∧ Only g w w' ∧ Own w' g tg.t cur ∧ NoWords tg.t cur ∧ factsF gs k (.agg cur) w' := by
  refine ⟨_, ho, fun a w g hp hs hown => ⟨rfl, ?_⟩⟩
  have I : IsS w (a.tmps.getD s undef) lo hi L := by
    have := hp.fact j s hw hd
    unfold factsF at this
    rw [hf] at this
    exact this
  obtain ⟨b, A, n, c, A', n', c', d, E, m, o, E', m', o', hv, J0, J1⟩ := id I
  rw [ht, hi'] at hown
  rw [hv] at I
  have hon := only6 (w := w) (g := g) (.bool b) (.slice A n c) (.slice A' n' c') (.bool d) (.slice E m o) (.slice E' m' o')
  refine ⟨_, #[.bool b, .slice A n c, .slice A' n' c', .bool d, .slice E m o, .slice E' m' o'], do_unit (by rw [show a.eval (.tmp tg.slot) = _ from hs, show a.eval (.tmp s) = _ from hv]; exact run_storeS hown), hon, ?_, by rw [ht]; exact noWords_S _ _ _ _ _ _ _ _ _ _ _ _ _ _, ?_⟩
  · rw [ht]
    exact (((((hown.set_ 0 _).set_ 1 _).set_ 2 _).set_ 3 _).set_ 4 _).set_ 5 _
  · unfold factsF
    rw [hg]
    show IsS _ _ lo hi L
    exact I.kept (Kept.only hon hown hn)
end Num
end Go.Proofs.YtkchpagjkgmpmaaGreat
