/-
  RationalSums, walked; the program's Neg, Abs; the specification's Sub.
-/
import Derived.Test.YtkchpagjkgmpmaaZadd
namespace Go.Proofs.Ytkchpagjkgmpmaa
open Go.RowKit
set_option linter.unusedVariables false
namespace Num
theorem rlens2 {w : World} {g t : Nat} (b0 : Bool) (A0 D0 : Option Addr) (n0 c0 m0 e0 : Nat) (x0 y0 : List Nat) (R0 : Rd w A0 n0 c0 x0) (S0 : Rd w D0 m0 e0 y0) (b1 : Bool) (A1 D1 : Option Addr) (n1 c1 m1 e1 : Nat) (x1 y1 : List Nat) (R1 : Rd w A1 n1 c1 x1) (S1 : Rd w D1 m1 e1 y1) (h : Own w g t #[.bool b0, .slice A0 n0 c0, .slice D0 m0 e0, .bool b1, .slice A1 n1 c1, .slice D1 m1 e1]) : RLens w g [(n0, m0), (n1, m1)] := by
  refine ⟨h.lt, fun i p hp => ?_⟩
  rcases i with _ | i
  · simp at hp; subst hp
    exact ⟨b0, A0, c0, D0, e0, h.cell 0, h.cell 1, h.cell 2, R0.max, R0.cap, S0.max, S0.cap⟩
  rcases i with _ | i
  · simp at hp; subst hp
    exact ⟨b1, A1, c1, D1, e1, h.cell 3, h.cell 4, h.cell 5, R1.max, R1.cap, S1.max, S1.cap⟩
  · simp at hp
set_option maxRecDepth 100000 in
set_option maxHeartbeats 1600000 in
theorem negr_any (w : World) (v : Value) (r : Rat) (L : Nat) (h : Fld w v r L) (hL : L ≤ 4000) :
    Calls Try.prog 78 #[v] w (RatPost w (-r) L) := by
  obtain ⟨b, A, n, c, A', n', c', xs, ys, rfl, R, R', h1, h2, h3⟩ := id h
  clear h3
  have B : On w ((w.alloc (.cells #[.bool b, .slice A n c, .slice A' n' c'] 24)).alloc (.cells #[.bool false, .slice none 0 0, .slice none 0 0] 24)) := On.alloc (On.alloc (On.refl w) _) _
  have OB1 : w.heap.size ≤ w.heap.size ∧ Own ((w.alloc (.cells #[.bool b, .slice A n c, .slice A' n' c'] 24)).alloc (.cells #[.bool false, .slice none 0 0, .slice none 0 0] 24)) (w.heap.size) 24 #[.bool b, .slice A n c, .slice A' n' c'] := ⟨by omega, ((Own.at_ w (w.heap.size) (by simp) 24 #[.bool b, .slice A n c, .slice A' n' c']).alloc (.cells #[.bool false, .slice none 0 0, .slice none 0 0] 24))⟩
  have OB2 : w.heap.size ≤ w.heap.size + 1 ∧ Own ((w.alloc (.cells #[.bool b, .slice A n c, .slice A' n' c'] 24)).alloc (.cells #[.bool false, .slice none 0 0, .slice none 0 0] 24)) (w.heap.size + 1) 24 #[.bool false, .slice none 0 0, .slice none 0 0] := ⟨by omega, (Own.at_ (w.alloc (.cells #[.bool b, .slice A n c, .slice A' n' c'] 24)) (w.heap.size + 1) (by simp) 24 #[.bool false, .slice none 0 0, .slice none 0 0])⟩
  go_enter Try.func78, Try.ntmps78
  go_wp2_with fail
  refine (value_fld _ _ r L (h.on B) (by omega)).mono ?_
  rintro e w1 ⟨v1, rfl, I1, P1⟩
  go_wp2_with fail
  refine (negative_any _ _ _ L I1).mono ?_
  rintro e w2 ⟨v2, rfl, I2, P2⟩
  go_wp2_with fail
  refine (own_any _ _ _ L I2 (by omega)).mono ?_
  rintro e w3 ⟨v3, rfl, I3, P3⟩
  obtain ⟨Q1, Qn, Qc, _, Q2, Qm, Qd, _, rfl, _⟩ := id I3
  replace OB2 := And.intro OB2.1 (OB2.2.on P1)
  replace B := B.trans P1
  replace OB2 := And.intro OB2.1 (OB2.2.on P2)
  replace B := B.trans P2
  replace OB2 := And.intro OB2.1 (OB2.2.on P3)
  replace B := B.trans P3
  have y2_0 : w3.cell? ⟨w.heap.size + 1, 0, none⟩ = some (.bool false) := OB2.2.cell 0
  have y2_1 : w3.cell? ⟨w.heap.size + 1, 1, none⟩ = some (.slice none 0 0) := OB2.2.cell 1
  have y2_2 : w3.cell? ⟨w.heap.size + 1, 2, none⟩ = some (.slice none 0 0) := OB2.2.cell 2
  have y2_f0 := OB2.2.frozen 0
  have y2_f1 := OB2.2.frozen 1
  have y2_f2 := OB2.2.frozen 2
  go_wp2
  have hon := on3 (g := w.heap.size + 1) B (by omega) (.bool (decide (-r < 0))) (.slice Q1 Qn Qc) (.slice Q2 Qm Qd)
  exact bodyPost_ret (v := .agg #[.bool (decide (-r < 0)), .slice Q1 Qn Qc, .slice Q2 Qm Qd]) (by simp [results, Try.results78, go_sem, y2_0, y2_1, y2_2]) rfl ⟨_, rfl, isR_put I3 OB2.2 _ _ _, hon⟩
theorem rabs_num (r : Rat) : (rabs r).num.natAbs = r.num.natAbs ∧ dn (rabs r) = dn r ∧ decide (rabs r < 0) = false := by
  unfold rabs
  by_cases h : r < 0
  · rw [if_pos h, Rat.neg_num, Int.natAbs_neg, dn_neg]
    exact ⟨rfl, rfl, decide_eq_false (by grind)⟩
  · rw [if_neg h]
    exact ⟨rfl, rfl, decide_eq_false h⟩
theorem isR_abs {w : World} {b : Bool} {A A' : Option Addr} {n c n' c' L : Nat} {r : Rat} (h : IsR w (.agg #[.bool b, .slice A n c, .slice A' n' c']) r L) : IsR w (.agg #[.bool false, .slice A n c, .slice A' n' c']) (rabs r) L := by
  obtain ⟨B, m, d, xs, B', m', d', ys, e, R, R', C, C', h1, h2, h3, h4⟩ := h
  injection e with e
  have e1 : Value.slice A n c = .slice B m d := by have := congrArg (fun x : Array Value => x[1]?) e; simpa using this
  have e2 : Value.slice A' n' c' = .slice B' m' d' := by have := congrArg (fun x : Array Value => x[2]?) e; simpa using this
  injection e1 with p1 p2 p3
  injection e2 with p4 p5 p6
  subst p1 p2 p3 p4 p5 p6
  have ha := rabs_num r
  exact ⟨A, n, c, xs, A', n', c', ys, by rw [ha.2.2], R, R', C, C', h1, h2, by rw [ha.1]; exact h3, by rw [ha.2.1]; exact h4⟩
end Num
end Go.Proofs.Ytkchpagjkgmpmaa
