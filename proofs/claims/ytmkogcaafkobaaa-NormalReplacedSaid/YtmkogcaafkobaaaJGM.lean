/-
  Normal: what the program's functions owe, proved for the landed program (in the texts named).
-/
import Derived.Test.YtmkogcaafkobaaaJGF
import Derived.Test.YtmkogcaafkobaaaJtM
import Derived.Test.YtmkogcaafkobaaaQGD
import Derived.Test.YtmkogcaafkobaaaQGE
import Derived.Test.YtmkogcaafkobaaaQGF
namespace Go.Proofs.Ytmkogcaafkobaaa.Fm
end Go.Proofs.Ytmkogcaafkobaaa.Fm
/-
  Normal: the document's example; a result against the wanted one.
-/
namespace Go.Proofs.Ytmkogcaafkobaaa.Fm
open Go.RowKit Go.Proofs.Ytmkogcaafkobaaa.Sb
set_option linter.unusedVariables false
set_option maxRecDepth 100000
def exN : Fn := ⟨2, [⟨2, 0, [0, 1]⟩, ⟨1, 0, [2]⟩], 3⟩
theorem exN_wf : WF exN := by
  refine ⟨by decide, by decide, fun i hi => ?_, by decide⟩
  have h2 : i = 0 ∨ i = 1 := by have : i < 2 := hi; omega
  rcases h2 with rfl | rfl
  · exact ⟨by decide, by decide, by decide, by decide, by decide, by decide, by decide⟩
  · exact ⟨by decide, by decide, by decide, by decide, by decide, by decide, by decide⟩
theorem exN_len : (push exN).nodes.length = 4 := by decide +kernel
theorem exN_top : (push exN).top = 5 := by decide +kernel
theorem exN_k0 : ((push exN).nd 0).kind = 1 := by decide +kernel
theorem exN_k2 : ((push exN).nd 2).kind = 3 := by decide +kernel
theorem exN_k3 : ((push exN).nd 3).kind = 3 := by decide +kernel
theorem rdN_twoT {w : World} {g : Nat} {a b : Nn} {P P' : Option Addr} {m k m' k' : Nat} (h : Own w g 41 #[.int .i64 (a.kind : Int), .int .i64 (a.k : Int), .slice P m k, .int .i64 (b.kind : Int), .int .i64 (b.k : Int), .slice P' m' k']) (h1 : Rd w P m k (VI (ints a.args))) (h2 : Rd w P' m' k' (VI (ints b.args))) : RdN w (some ⟨g, 0, none⟩) 2 2 (rawL [a, b]) := by
  refine ⟨rfl, by omega, by omega, fun e => (by cases e), fun h0 => ⟨_, rfl, h.lt, fun j hj => ?_⟩⟩
  have h3 : j = 0 ∨ j = 1 := by omega
  rcases h3 with rfl | rfl
  · exact ⟨P, m, k, h.cell 0, h.cell 1, h.cell 2, h1⟩
  · exact ⟨P', m', k', h.cell 3, h.cell 4, h.cell 5, h2⟩
theorem rd_ownN {w : World} {g : Nat} {t : TypeId} {cur : Array Value} {vs : List Value} {n : Nat} (h : Own w g t cur) (hv : cur.toList = vs) (hn : vs.length = n) (hs : n ≤ 1000000) : Rd w (some ⟨g, 0, none⟩) n n vs := by
  refine ⟨hn, by omega, by omega, fun e => (by cases e), fun _ => ⟨_, rfl, h.lt, fun j u hj => ?_⟩⟩
  rw [add_plain, h.cell, Nat.zero_add, ← Array.getElem?_toList, hv]
  exact hj
set_option maxHeartbeats 8000000 in
theorem awakeN_any (w : World) : Calls Try.prog 7 #[] w fun e w' => e = .returned (.bool true) ∧ On w w' := by
  obtain ⟨q, hq⟩ : ∃ q, w.heap.size = q := ⟨_, rfl⟩
  go_enter Try.func7, Try.ntmps7
  go_upto_region 2 with fail
  obtain ⟨w1, hw1⟩ : ∃ w1, (((w.alloc (.cells #[.int .i64 0, .int .i64 1] 3)).alloc (.cells #[.int .i64 2] 3)).alloc (.cells #[.int .i64 2, .int .i64 0, .slice (some ⟨q, 0, none⟩) 2 2, .int .i64 1, .int .i64 0, .slice (some ⟨q + 1, 0, none⟩) 1 1] 41)).alloc (.cells #[.int .i64 2, .slice (some ⟨q + 1 + 1, 0, none⟩) 2 2, .int .i64 3] 24) = w1 := ⟨_, rfl⟩
  have z1 : ∀ o : Obj, (w.alloc o).heap.size = q + 1 := fun o => by simp [hq]
  have z2 : ∀ o o' : Obj, ((w.alloc o).alloc o').heap.size = q + 1 + 1 := fun o o' => by simp [hq]
  have z3 : ∀ o o' o'' : Obj, (((w.alloc o).alloc o').alloc o'').heap.size = q + 1 + 1 + 1 := fun o o' o'' => by simp [hq]
  have O1 : Own w1 q 3 #[.int .i64 0, .int .i64 1] := by rw [← hw1, ← hq]; exact (((Own.new _ _ _).alloc _).alloc _).alloc _
  have O2 : Own w1 (q + 1) 3 #[.int .i64 2] := by
    rw [← hw1, ← z1 (.cells #[.int .i64 0, .int .i64 1] 3)]
    exact ((Own.new _ _ _).alloc _).alloc _
  have N1 : Own w1 (q + 1 + 1) 41 #[.int .i64 2, .int .i64 0, .slice (some ⟨q, 0, none⟩) 2 2, .int .i64 1, .int .i64 0, .slice (some ⟨q + 1, 0, none⟩) 1 1] := by
    rw [← hw1]
    have := (Own.new ((w.alloc (.cells #[.int .i64 0, .int .i64 1] 3)).alloc (.cells #[.int .i64 2] 3)) 41 #[.int .i64 2, .int .i64 0, .slice (some ⟨q, 0, none⟩) 2 2, .int .i64 1, .int .i64 0, .slice (some ⟨q + 1, 0, none⟩) 1 1]).alloc (.cells #[.int .i64 2, .slice (some ⟨q + 1 + 1, 0, none⟩) 2 2, .int .i64 3] 24)
    rw [z2] at this
    exact this
  have F1 : Own w1 (q + 1 + 1 + 1) 24 #[.int .i64 2, .slice (some ⟨q + 1 + 1, 0, none⟩) 2 2, .int .i64 3] := by
    rw [← hw1]
    have := Own.new (((w.alloc (.cells #[.int .i64 0, .int .i64 1] 3)).alloc (.cells #[.int .i64 2] 3)).alloc (.cells #[.int .i64 2, .int .i64 0, .slice (some ⟨q, 0, none⟩) 2 2, .int .i64 1, .int .i64 0, .slice (some ⟨q + 1, 0, none⟩) 1 1] 41)) 24 #[.int .i64 2, .slice (some ⟨q + 1 + 1, 0, none⟩) 2 2, .int .i64 3]
    rw [z3] at this
    exact this
  have P1 : On w w1 := by rw [← hw1]; exact ((((On.refl w).alloc _).alloc _).alloc _).alloc _
  have R1 : RdN w1 (some ⟨q + 1 + 1, 0, none⟩) 2 2 (rawL exN.nodes) := rdN_twoT (a := ⟨2, 0, [0, 1]⟩) (b := ⟨1, 0, [2]⟩) N1 (rd_ownN O1 rfl rfl (by omega)) (rd_ownN O2 rfl rfl (by omega))
  rw [hw1]
  clear hw1 z1 z2 z3 O1 O2 N1
  have hP := npush_ok w1 exN exN_wf _ 2 2 R1
  have v3 : (exN.vars : Int) = 2 := rfl
  have t3 : (exN.top : Int) = 3 := rfl
  have v4 : (push exN).vars = 2 := rfl
  unfold MadeP at hP
  rw [v3, t3, v4, exN_len, exN_top] at hP
  obtain ⟨r0, r1, r2⟩ := own3 F1
  go_wp2_with fail
  refine hP.mono ?_
  rintro e w2 ⟨hM, P2⟩
  clear hP r0 r1 r2 v3 t3 v4 F1 R1
  rcases hM with ⟨_, A', c', rfl, hR⟩ | ⟨hgt, _⟩
  · obtain ⟨ad, hA, hb0, Q0, m0, k0, hc0, _, _, _⟩ := hR.at_ 0 (by omega)
    subst hA
    obtain ⟨ad2, hA2, hb2, Q2, m2, k2, hc2, _, _, _⟩ := hR.at_ 2 (by omega)
    injection hA2 with hA2
    subst hA2
    obtain ⟨ad3, hA3, hb3, Q3, m3, k3, hc3, _, _, _⟩ := hR.at_ 3 (by omega)
    injection hA3 with hA3
    subst hA3
    rw [raw_get] at hc0 hc2 hc3
    have d0 : w2.cell? (ad.add (0 * 3)) = some (.int .i64 1) := by rw [hc0]; show some (Value.int .i64 (((push exN).nd 0).kind : Int)) = _; rw [exN_k0]; rfl
    have d2 : w2.cell? (ad.add (2 * 3)) = some (.int .i64 3) := by rw [hc2]; show some (Value.int .i64 (((push exN).nd 2).kind : Int)) = _; rw [exN_k2]; rfl
    have d3 : w2.cell? (ad.add (3 * 3)) = some (.int .i64 3) := by rw [hc3]; show some (Value.int .i64 (((push exN).nd 3).kind : Int)) = _; rw [exN_k3]; rfl
    have d0' : w2.cell? ad = some (.int .i64 1) := by rw [Nat.zero_mul, add_nil] at d0; exact d0
    have d2' : w2.cell? ⟨ad.block, ad.off + 6, none⟩ = some (.int .i64 3) := d2
    have d3' : w2.cell? ⟨ad.block, ad.off + 9, none⟩ = some (.int .i64 3) := d3
    have hcap := hR.cap
    have hmax := hR.max
    have HP := Lib.hid (P1.trans P2)
    clear hc0 hc2 hc3 hR P1 P2
    go_wp2
    go_ret
    exact ⟨rfl, HP.out.alloc _⟩
  · omega
end Go.Proofs.Ytmkogcaafkobaaa.Fm
/-
  Normal: outcomes as four values; a result against the wanted one.
-/
namespace Go.Proofs.Ytmkogcaafkobaaa.Fm
open Go.RowKit Go.Proofs.Ytmkogcaafkobaaa.Sb
set_option linter.unusedVariables false
set_option maxRecDepth 100000
theorem light_lenN {xs : List Nd} (h : lightB xs = true) : xs.length ≤ 200 := by
  unfold lightB at h
  simp only [Bool.and_eq_true, decide_eq_true_iff] at h
  exact h.1
theorem numN_any (w : World) (c : Nat) :
    Calls Try.prog 28 #[errV c] w fun e w' => e = .returned (.int .i64 (c : Int)) ∧ w = w' := by
  by_cases h : c = 0
  · subst h
    rw [errV_zero]
    go_enter Try.func28, Try.ntmps28
    go_wp2
    go_ret
    exact ⟨rfl, rfl⟩
  · rw [errV_pos c h]
    have hta : ∀ W, (Instr.typeAssert (.iface 43 (.int .i64 (c : Int))) 28 43 true).run Try.prog W = .ok (.tuple #[.int .i64 (c : Int), .bool true]) W := fun _ => by kernel_rfl
    go_enter Try.func28, Try.ntmps28
    go_wp2
    go_ret
    exact ⟨rfl, rfl⟩
/-- what is returned for the formula g: its fields and the error's number -/
def oV (g : Fn) : Int := if g.nodes.length ≤ 128 then (g.vars : Int) else 0
def oT (g : Fn) : Int := if g.nodes.length ≤ 128 then (g.top : Int) else 0
def oX (g : Fn) : List Nd := if g.nodes.length ≤ 128 then rawL g.nodes else []
def oE (g : Fn) : Nat := if g.nodes.length ≤ 128 then 0 else 4
theorem MadeP.out {g : Fn} {e : Ending} {w' : World} (h : MadeP g e w') : ∃ A n c, e = .returned (.tuple #[.agg #[.int .i64 (oV g), .slice A n c, .int .i64 (oT g)], errV (oE g)]) ∧ RdN w' A n c (oX g) := by
  rcases h with ⟨hl, A', c', rfl, hR⟩ | ⟨hl, rfl⟩
  · unfold oV oT oX oE
    rw [if_pos hl, if_pos hl, if_pos hl, if_pos hl]
    exact ⟨A', _, c', rfl, hR⟩
  · have hn : ¬ g.nodes.length ≤ 128 := by omega
    unfold oV oT oX oE
    rw [if_neg hn, if_neg hn, if_neg hn, if_neg hn]
    exact ⟨none, 0, 0, rfl, RdN.nil_ _⟩
theorem MadeR.out {b : Nat} {g : Fn} {e : Ending} {w' : World} (h : MadeR b g e w') : ∃ A n c, e = .returned (.tuple #[.agg #[.int .i64 (oV g), .slice A n c, .int .i64 (oT g)], .int .i64 (oE g : Nat)]) ∧ RdN w' A n c (oX g) := by
  rcases h with ⟨hl, A', c', rfl, hO⟩ | ⟨hl, rfl⟩
  · unfold oV oT oX oE
    rw [if_pos hl, if_pos hl, if_pos hl, if_pos hl]
    exact ⟨A', _, c', rfl, hO.rd.2⟩
  · have hn : ¬ g.nodes.length ≤ 128 := by omega
    unfold oV oT oX oE
    rw [if_neg hn, if_neg hn, if_neg hn, if_neg hn]
    exact ⟨none, 0, 0, rfl, RdN.nil_ _⟩
set_option maxHeartbeats 4000000 in
theorem same_any (w : World) (v t : Int) (A : Option Addr) (n c : Nat) (A' : Option Addr) (n' c' : Nat) (xs : List Nd) (h : RdN w A n c xs) (h' : RdN w A' n' c' xs) (er : Nat) :
    Calls Try.prog 11 #[.agg #[.int .i64 v, .slice A n c, .int .i64 t], errV er, .agg #[.int .i64 v, .slice A' n' c', .int .i64 t], .int .i64 (er : Int)] w fun e w' => e = .returned (.bool true) ∧ On w w' := by
  obtain ⟨q, hq⟩ : ∃ q, w.heap.size = q := ⟨_, rfl⟩
  obtain ⟨w0, hw0⟩ : ∃ w0, (w.alloc (.cells #[.int .i64 v, .slice A n c, .int .i64 t] 24)).alloc (.cells #[.int .i64 v, .slice A' n' c', .int .i64 t] 24) = w0 := ⟨_, rfl⟩
  have O1 : Own w0 q 24 #[.int .i64 v, .slice A n c, .int .i64 t] := by rw [← hw0, ← hq]; exact (Own.new _ _ _).alloc _
  have O2 : Own w0 (q + 1) 24 #[.int .i64 v, .slice A' n' c', .int .i64 t] := by
    rw [← hw0, ← hq]
    have := Own.new (w.alloc (.cells #[.int .i64 v, .slice A n c, .int .i64 t] 24)) 24 #[.int .i64 v, .slice A' n' c', .int .i64 t]
    simpa using this
  have P0 : On w w0 := by rw [← hw0]; exact ((On.refl w).alloc _).alloc _
  have hN := fun W => numN_any W er
  have hF := formula_eq w0 v t A n c A' n' c' xs (h.on P0) (h'.on P0)
  obtain ⟨r0, r1, r2⟩ := own3 O1
  obtain ⟨s0, s1, s2⟩ := own3 O2
  have HP := Lib.hid (And.intro P0 hw0)
  rw [← hw0] at r0 r1 r2 s0 s1 s2 hF
  obtain ⟨ev, hev⟩ : ∃ ev, errV er = ev := ⟨_, rfl⟩
  rw [hev] at hN ⊢
  clear O1 O2 P0 hw0 h h' hev
  go_enter Try.func11, Try.ntmps11
  go_wp2_with fail
  refine (hN _).mono ?_
  rintro e w1 ⟨rfl, rfl⟩
  go_wp2_with fail
  refine hF.mono ?_
  rintro e w2 ⟨rfl, P2⟩
  rw [HP.out.2] at P2
  go_wp2
  go_ret
  exact ⟨rfl, HP.out.1.trans P2⟩
end Go.Proofs.Ytmkogcaafkobaaa.Fm
