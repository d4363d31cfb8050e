/-
  For any two structs of four lists each, the program's Mul and Div of spans return what the specification returns.
  Conditions: none beyond those that every row bears (arguments that can be read as data, each of at most 2^47 - 4096 bytes).
-/
import Derived.Test.YtkchpagjkgmpmaaGreatRows
import Derived.WalkKit
import Derived.ProofKit
import Derived.OpenShut
import Derived.ChangeOld
import Derived.Below
import Derived.HandedShaped
import Derived.Lib.SmallJoins
import Derived.Deep.Strs
import Derived.Test.YtkchpagjkgmpmaaGreatTprods
namespace Go.Proofs.YtkchpagjkgmpmaaGreat.spanProducts
open Go.ChangeShapes Go.WideShapes Go.ChangeAt Go.RowKit Go.Joins Go.Deep
set_option linter.unusedVariables false

theorem own : ownKnob Tryz.prog.godebug = none := by kernel_rfl
theorem laidOut : laidOutB Tryz.prog = true := by kernel_rfl

theorem row_of {H : Type} {enc : TypeId × Value → H} {W : World} {fuel : Nat} {u : Value} {y : DataW H × List MemPlace} (h : DataW.trod enc Tryz.prog W 0 (fun _ => true) true fuel 22 [u] = some y) : ∃ (a : Option Addr) (len cap : Nat) (xs : List Nat), u = .slice a len cap ∧ Num.Rd W a len cap xs := by
  rcases open_ints Tryz.underlying22 Tryz.underlying66 (by kernel_rfl) h with ⟨hcs, _⟩ | ⟨x, l, c, zs, hcs, _, hl, hm, hz, _, hcell, hwz⟩
  · simp at hcs
    subst hcs
    obtain ⟨xs, R⟩ := Num.rd_of_cells (w := W) (a := none) (len := 0) (cap := 0) (zs := []) (.inl ⟨rfl, rfl, rfl, rfl⟩)
    exact ⟨_, _, _, xs, rfl, R⟩
  · simp at hcs
    subst hcs
    obtain ⟨xs, R⟩ := Num.rd_of_cells (w := W) (a := some x) (len := l) (cap := c) (zs := zs) (.inr ⟨_, rfl, hl, hm, by simpa using hz, hcell, hwz⟩)
    exact ⟨_, _, _, xs, rfl, R⟩
theorem cells4 : Tryz.prog.cellsOf 4 = 1 := by kernel_rfl
theorem cellsW : Tryz.prog.cellsOf 22 = 1 := by kernel_rfl
theorem cellsR : Tryz.prog.cellsOf 24 = 3 := by kernel_rfl
theorem cellsS : Tryz.prog.cellsOf 26 = 6 := by kernel_rfl
theorem rat_of {H : Type} {enc : TypeId × Value → H} {W : World} {fuel : Nat} {u0 u1 u2 : Value} {y : DataW H × List MemPlace} (h : DataW.trod enc Tryz.prog W 0 (fun _ => true) true fuel 24 [u0, u1, u2] = some y) : ∃ (b : Bool) (A : Option Addr) (n c : Nat) (D : Option Addr) (m e : Nat) (xs ys : List Nat), u0 = .bool b ∧ u1 = .slice A n c ∧ u2 = .slice D m e ∧ Num.Rd W A n c xs ∧ Num.Rd W D m e ys := by
  obtain ⟨y0, y1, y2, n, _, _, h0, h1, h2⟩ := trod_struct3 Tryz.underlying24 h
  have h0' : DataW.trod enc Tryz.prog W 0 (fun _ => true) true n 4 [u0] = some y0 := by simpa [cells4] using h0
  have h1' : DataW.trod enc Tryz.prog W 0 (fun _ => true) true n 22 [u1] = some y1 := by simpa [cellsW] using h1
  have h2' : DataW.trod enc Tryz.prog W 0 (fun _ => true) true n 22 [u2] = some y2 := by simpa [cellsW] using h2
  obtain ⟨b, hb, _⟩ := DataW.trod_bool Tryz.underlying4 h0'
  simp at hb
  subst hb
  obtain ⟨A, k, c, xs, rfl, R⟩ := row_of h1'
  obtain ⟨D, m, e, ys, rfl, S⟩ := row_of h2'
  exact ⟨b, A, k, c, D, m, e, xs, ys, rfl, rfl, rfl, R, S⟩
theorem array6 {cs : Array Value} (h : cs.size = 6) : ∃ u0 u1 u2 u3 u4 u5 : Value, cs = #[u0, u1, u2, u3, u4, u5] := by
  obtain ⟨l⟩ := cs
  match l, h with
  | [u0, u1, u2, u3, u4, u5], _ => exact ⟨u0, u1, u2, u3, u4, u5, rfl⟩
theorem span_of {H : Type} {enc : TypeId × Value → H} {W : World} {u0 u1 u2 u3 u4 u5 : Value} {d : DataW H} {p : List MemPlace} (h : DataW.Trod enc Tryz.prog W 0 (fun _ => true) true 26 (.agg #[u0, u1, u2, u3, u4, u5]) d p) : ∃ (b : Bool) (A : Option Addr) (n c : Nat) (D : Option Addr) (m e : Nat) (b' : Bool) (A' : Option Addr) (n' c' : Nat) (D' : Option Addr) (m' e' : Nat) (xs ys us vs : List Nat), u0 = .bool b ∧ u1 = .slice A n c ∧ u2 = .slice D m e ∧ u3 = .bool b' ∧ u4 = .slice A' n' c' ∧ u5 = .slice D' m' e' ∧ Num.Rd W A n c xs ∧ Num.Rd W D m e ys ∧ Num.Rd W A' n' c' us ∧ Num.Rd W D' m' e' vs := by
  obtain ⟨fuel, hf⟩ := h
  obtain ⟨y0, y1, n, _, _, h0, h1⟩ := trod_struct2 Tryz.underlying26 hf
  have h0' : DataW.trod enc Tryz.prog W 0 (fun _ => true) true n 24 [u0, u1, u2] = some y0 := by simpa [Value.cells, cellsR] using h0
  have h1' : DataW.trod enc Tryz.prog W 0 (fun _ => true) true n 24 [u3, u4, u5] = some y1 := by simpa [Value.cells, cellsR] using h1
  obtain ⟨b, A, k, c, D, m, e, xs, ys, rfl, rfl, rfl, R, S⟩ := rat_of h0'
  obtain ⟨b', A', k', c', D', m', e', us, vs, rfl, rfl, rfl, U, V⟩ := rat_of h1'
  exact ⟨b, A, k, c, D, m, e, b', A', k', c', D', m', e', xs, ys, us, vs, rfl, rfl, rfl, rfl, rfl, rfl, R, S, U, V⟩

set_option maxRecDepth 100000 in
theorem lifted (os : Os) (started : os.Started) (H : Type) (enc : TypeId × Value → H) :
    ReturnsInHanded {} Tryz.checked os 5 .any (Rows.spanProductsSpec.pre6 enc Tryz.prog Tryz.f5 Rows.spanProductsRow.domain false) (Rows.spanProductsSpec.post enc Tryz.prog Tryz.f5 false true false false) := by
  refine returnsInHanded_of_change_shaped (C := Tryz.checked) own started (by kernel_rfl) Tryz.func5
    (ChangeSpec.witness6 (enc := enc) (C := Tryz.checked) false ⟨#[], #[.agg #[.bool false, .slice none 0 0, .slice none 0 0, .bool false, .slice none 0 0, .slice none 0 0], .agg #[.bool false, .slice none 0 0, .slice none 0 0, .bool false, .slice none 0 0, .slice none 0 0]], []⟩ 8 (by kernel_rfl) (by kernel_rfl) (by kernel_rfl) (by kernel_rfl)) ?_
  intro W base args ds gs before hval0 hW hcnd _ hsh _
  have hval : ∀ (j : Nat) t v, Tryz.f5.params[j]? = some t → args[j]? = some v → Value.okWide Tryz.prog W .any base t v := hval0
  have hW' := hW
  obtain ⟨p, q, hA0, hV, rfl, hfz, hnd⟩ := hW
  have hA : DataW.TrodAll enc Tryz.prog W 0 (fun _ => true) true Tryz.f5.params.toList args.toList ds p := hA0
  rw [Tryz.params5] at hA hval
  obtain ⟨v0, vs0, d0, ds0, p0, q0, hargs, rfl, rfl, h0, r0⟩ := trodAll_cons hA
  obtain ⟨v1, vs1, d1, ds1, p1, q1, rfl, rfl, rfl, h1, r1⟩ := trodAll_cons r0
  obtain ⟨rfl, rfl, rfl⟩ := trodAll_nil r1
  obtain rfl : args = #[v0, v1] := by cases args; simp_all
  obtain ⟨rfl, rfl⟩ := trodVars_none hV
  have k0 := h0
  have lt0 : ∀ x ∈ p0, x.block < W.heap.size := by obtain ⟨m, hm⟩ := k0; exact DataW.trod_lt m _ _ _ hm
  have k1 := h1
  have lt1 : ∀ x ∈ p1, x.block < W.heap.size := by obtain ⟨m, hm⟩ := k1; exact DataW.trod_lt m _ _ _ hm
  obtain ⟨cs0, rfl, hz0⟩ := okWide_struct Tryz.underlying26 (hval 0 26 v0 rfl rfl)
  obtain ⟨u00, u01, u02, u03, u04, u05, rfl⟩ := array6 (hz0.trans cellsS)
  obtain ⟨ba0, Aa0, na0, ca0, Ba0, ma0, oa0, bb0, Ab0, nb0, cb0, Bb0, mb0, ob0, xs0, ys0, us0, vs0, rfl, rfl, rfl, rfl, rfl, rfl, R0, S0, U0, V0⟩ := span_of h0
  obtain ⟨cs1, rfl, hz1⟩ := okWide_struct Tryz.underlying26 (hval 1 26 v1 rfl rfl)
  obtain ⟨u10, u11, u12, u13, u14, u15, rfl⟩ := array6 (hz1.trans cellsS)
  obtain ⟨ba1, Aa1, na1, ca1, Ba1, ma1, oa1, bb1, Ab1, nb1, cb1, Bb1, mb1, ob1, xs1, ys1, us1, vs1, rfl, rfl, rfl, rfl, rfl, rfl, R1, S1, U1, V1⟩ := span_of h1
  clear hA0 hval0
  refine (Num.sprods_any W ba0 Aa0 na0 ca0 Ba0 ma0 oa0 bb0 Ab0 nb0 cb0 Bb0 mb0 ob0 xs0 ys0 us0 vs0 R0 S0 U0 V0 ba1 Aa1 na1 ca1 Ba1 ma1 oa1 bb1 Ab1 nb1 cb1 Bb1 mb1 ob1 xs1 ys1 us1 vs1 R1 S1 U1 V1).mono fun e W' ⟨he, bel⟩ => ?_
  subst he
  exact ⟨_, rfl, _, _, _, [], _, [], hW', trodAll_mk1 (shut_bool Tryz.underlying4 _), (trodAll_cons_mk (Below.trod laidOut (by kernel_rfl) (of_decide_eq_true (by kernel_rfl)) k0 bel lt0) (trodAll_cons_mk (Below.trod laidOut (by kernel_rfl) (of_decide_eq_true (by kernel_rfl)) k1 bel lt1) trodAll_mk0)), rfl, bel.frame _, fun h => by cases h⟩

theorem over : Rows.spanProductsRow.holds Tryz.pinned (OpenSpec.ofChange Rows.spanProductsSpec) :=
  OpenClaim.holds_of_wide 5 Tryz.f5 rfl rfl rfl rfl rfl rfl rfl ⟨rfl, rfl, rfl, rfl, rfl⟩ rfl rfl rfl rfl rfl (by kernel_rfl) Tryz.func5 (by kernel_rfl)
    (of_decide_eq_true (by kernel_rfl)) (by unfold Func.isWrapper; first | (rw [if_pos (by decide +kernel)]; kernel_rfl) | (rw [if_neg (by decide +kernel)]; exact ⟨rfl, rfl⟩))
    (fun os started H enc _ => lifted os started H enc)

/-- the statement -/
theorem proved : Rows.SpanProductsSaid := over
#print axioms proved
end Go.Proofs.YtkchpagjkgmpmaaGreat.spanProducts
