/-
  Formulas that came in.
-/
import Derived.Test.YtmkogcaafkobaaaFm
import Derived.Deep.Slices
import Derived.Deep.Strs
import Derived.ProofKit
import Derived.OpenShut
import Derived.Lib.SmallJoins
namespace Go.Proofs.Ytmkogcaafkobaaa.Fm
open Go.ChangeShapes Go.WideShapes Go.ChangeAt Go.RowKit Go.Joins Go.Deep Go.Proofs.Ytmkogcaafkobaaa.Sb
set_option linter.unusedVariables false
set_option maxRecDepth 100000
theorem pick_lt {α : Type} (d : α) {l : Nat} {p : Nat → α → Prop} (h : ∀ i, i < l → ∃ x, p i x) : ∃ F : Nat → α, ∀ i, i < l → p i (F i) :=
  ⟨fun i => if h' : i < l then Classical.choose (h i h') else d, fun i hi => by simp only [dif_pos hi]; exact Classical.choose_spec (h i hi)⟩
theorem args_of {H : Type} {enc : TypeId × Value → H} {W : World} {fuel : Nat} {u : Value} {y : DataW H × List MemPlace} (h : DataW.trod enc Try.prog W 0 (fun _ => true) true fuel 39 [u] = some y) : ∃ (a : Option Addr) (n c : Nat) (l : List Int), u = .slice a n c ∧ Rd W a n c (VI l) := by
  rcases open_ints Try.underlying39 Try.underlying3 (by kernel_rfl) h with ⟨hcs, _⟩ | ⟨x, l, c, zs, hcs, _, hl, hm, hz, _, hcell, hwz⟩
  · simp at hcs
    subst hcs
    exact ⟨none, 0, 0, [], rfl, Rd.nil_ W⟩
  · simp at hcs
    subst hcs
    simp at hz
    refine ⟨some x, l, c, zs.take l, rfl, by rw [VI_length, List.length_take]; omega, hl, by unfold maxLen at hm; exact hm, fun e => (by cases e), fun h0 => ⟨x, rfl, ?_, ?_⟩⟩
    · have := World.block_lt_of_cell? _ _ (hcell 0 (by omega))
      rwa [block_of_add] at this
    · intro j u hu
      have hj : j < (zs.take l).length := by
        have := (List.getElem?_eq_some_iff.1 hu).1
        rwa [VI_length] at this
      rw [VI_get hj] at hu
      have hj2 : j < l := by rw [List.length_take] at hj; omega
      rw [hcell j (by omega), ← hu]
      simp [hj2]
theorem nodes_of {H : Type} {enc : TypeId × Value → H} {W : World} {fuel : Nat} {u : Value} {y : DataW H × List MemPlace} (h : DataW.trod enc Try.prog W 0 (fun _ => true) true fuel 22 [u] = some y) : ∃ (a : Option Addr) (n c : Nat) (xs : List Nd), u = .slice a n c ∧ RdN W a n c xs := by
  rcases open_slice Try.underlying22 h with ⟨hcs, _⟩ | ⟨x, l, c, m, nn, D, Pl, hcs, _, hl, hm, hmm, _, hx⟩
  · simp at hcs
    subst hcs
    exact ⟨none, 0, 0, [], rfl, RdN.nil_ W⟩
  · simp at hcs
    subst hcs
    simp at hmm
    have each : ∀ i, i < l → ∃ nd : Nd, ∃ (P : Option Addr) (k1 k2 : Nat), W.cell? (x.add (i * 3)) = some (.int .i64 nd.kind) ∧ W.cell? ⟨(x.add (i * 3)).block, (x.add (i * 3)).off + 1, none⟩ = some (.int .i64 nd.k) ∧ W.cell? ⟨(x.add (i * 3)).block, (x.add (i * 3)).off + 2, none⟩ = some (.slice P k1 k2) ∧ Rd W P k1 k2 (VI nd.args) := by
      intro i hi
      obtain ⟨cs', h1, h2⟩ := hx i (by omega)
      have ec : Try.prog.cellsOf 41 = 3 := by kernel_rfl
      rw [ec] at h1
      obtain ⟨_, hlen, hcell⟩ := World.cells?_some h1
      obtain ⟨y0, y1, y2, n3, _, _, t0, t1, t2⟩ := trod_struct3 Try.underlying41 h2
      match cs', hlen with
      | [v0, v1, v2], _ =>
        have g0 : DataW.trod enc Try.prog W 0 (fun _ => true) true n3 3 [v0] = some y0 := t0
        have g1 : DataW.trod enc Try.prog W 0 (fun _ => true) true n3 3 [v1] = some y1 := t1
        have g2 : DataW.trod enc Try.prog W 0 (fun _ => true) true n3 39 [v2] = some y2 := t2
        obtain ⟨a, ha, _, _⟩ := DataW.trod_int Try.underlying3 g0
        obtain ⟨b, hb, _, _⟩ := DataW.trod_int Try.underlying3 g1
        obtain ⟨P, k1, k2, la, hP, hR⟩ := args_of g2
        simp at ha hb
        subst ha; subst hb; subst hP
        have c0 := hcell 0 (by omega)
        have c1 := hcell 1 (by omega)
        have c2 := hcell 2 (by omega)
        simp at c0 c1 c2
        rw [add_nil] at c0
        exact ⟨⟨a, b, la⟩, P, k1, k2, c0, c1, c2, hR⟩
    obtain ⟨F, hF⟩ : ∃ F : Nat → Nd, ∀ i, i < l → ∃ (P : Option Addr) (k1 k2 : Nat), W.cell? (x.add (i * 3)) = some (.int .i64 (F i).kind) ∧ W.cell? ⟨(x.add (i * 3)).block, (x.add (i * 3)).off + 1, none⟩ = some (.int .i64 (F i).k) ∧ W.cell? ⟨(x.add (i * 3)).block, (x.add (i * 3)).off + 2, none⟩ = some (.slice P k1 k2) ∧ Rd W P k1 k2 (VI (F i).args) :=
      pick_lt Nd.z each
    refine ⟨some x, l, c, (List.range l).map F, rfl, by simp, hl, by unfold maxLen at hm; exact hm, fun e => (by cases e), fun h0 => ⟨x, rfl, ?_, fun j hj => ?_⟩⟩
    · obtain ⟨_, _, _, c0, _⟩ := hF 0 h0
      have := World.block_lt_of_cell? _ _ c0
      rwa [block_of_add] at this
    · have e : ((List.range l).map F).getD j Nd.z = F j := by simp [hj]
      rw [e]
      exact hF j hj
end Go.Proofs.Ytmkogcaafkobaaa.Fm
