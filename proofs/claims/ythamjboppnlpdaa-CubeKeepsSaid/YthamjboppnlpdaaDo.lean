/-
  Lists of cubes that came in.
-/
import Derived.Test.YthamjboppnlpdaaCm
import Derived.Deep.Slices
import Derived.Deep.Strs
import Derived.ProofKit
import Derived.OpenShut
import Derived.Lib.SmallJoins
namespace Go.Proofs.Ythamjboppnlpdaa.Cu
open Go.ChangeShapes Go.WideShapes Go.ChangeAt Go.RowKit Go.Joins Go.Deep Go.Proofs.Ythamjboppnlpdaa.Sb
set_option linter.unusedVariables false
set_option maxRecDepth 100000
theorem pick_lt {α : Type} (d : α) {l : Nat} {p : Nat → α → Prop} (h : ∀ i, i < l → ∃ x, p i x) : ∃ F : Nat → α, ∀ i, i < l → p i (F i) :=
  ⟨fun i => if h' : i < l then Classical.choose (h i h') else d, fun i hi => by simp only [dif_pos hi]; exact Classical.choose_spec (h i hi)⟩
/-- the cells of cubes, one by one -/
theorem cv_cells {w : World} {ad : Addr} {l : Nat} {F : Nat → Cz} (h : ∀ i, i < l → w.cell? (ad.add (i * 2)) = some (.int .i64 (F i).1) ∧ w.cell? ⟨(ad.add (i * 2)).block, (ad.add (i * 2)).off + 1, none⟩ = some (.int .i64 (F i).2)) :
    ∀ j u, (CV ((List.range l).map F))[j]? = some u → w.cell? (ad.add j) = some u := by
  intro j u hu
  have hl : j < l * 2 := by
    have h1 := (List.getElem?_eq_some_iff.1 hu).1
    rw [CV_len] at h1
    simpa using h1
  have hk : j / 2 < l := by omega
  obtain ⟨g1, g2⟩ := CV_get ((List.range l).map F) (j / 2) (by simpa using hk)
  have e : ((List.range l).map F).getD (j / 2) (0, 0) = F (j / 2) := by simp [hk]
  rw [e] at g1 g2
  obtain ⟨h1, h2⟩ := h (j / 2) hk
  rcases Nat.mod_two_eq_zero_or_one j with hm | hm
  · have ej : j / 2 * 2 = j := by omega
    rw [ej] at g1 h1
    rw [g1] at hu
    rw [h1]; exact hu
  · have ej : j / 2 * 2 + 1 = j := by omega
    rw [ej] at g2
    rw [← add_one, ej] at h2
    rw [g2] at hu
    rw [h2]; exact hu
theorem cubes_of {H : Type} {enc : TypeId × Value → H} {W : World} {fuel : Nat} {u : Value} {y : DataW H × List MemPlace} (h : DataW.trod enc Try.prog W 0 (fun _ => true) true fuel 37 [u] = some y) : ∃ (a : Option Addr) (n c : Nat) (xs : List Cz), u = .slice a n c ∧ RdC W a n c xs := by
  rcases open_slice Try.underlying37 h with ⟨hcs, _⟩ | ⟨x, l, c, m, nn, D, Pl, hcs, _, hl, hm, hmm, _, hx⟩
  · simp at hcs
    subst hcs
    exact ⟨none, 0, 0, [], rfl, RdC.nil_ W⟩
  · simp at hcs
    subst hcs
    simp at hmm
    have each : ∀ i, i < l → ∃ nd : Cz, W.cell? (x.add (i * 2)) = some (.int .i64 nd.1) ∧ W.cell? ⟨(x.add (i * 2)).block, (x.add (i * 2)).off + 1, none⟩ = some (.int .i64 nd.2) := by
      intro i hi
      obtain ⟨cs', h1, h2⟩ := hx i (by omega)
      have ec : Try.prog.cellsOf 23 = 2 := by kernel_rfl
      rw [ec] at h1
      obtain ⟨_, hlen, hcell⟩ := World.cells?_some h1
      obtain ⟨y0, y1, n3, _, _, t0, t1⟩ := trod_struct2 Try.underlying23 h2
      match cs', hlen with
      | [v0, v1], _ =>
        have g0 : DataW.trod enc Try.prog W 0 (fun _ => true) true n3 3 [v0] = some y0 := t0
        have g1 : DataW.trod enc Try.prog W 0 (fun _ => true) true n3 3 [v1] = some y1 := t1
        obtain ⟨a, ha, _, _⟩ := DataW.trod_int Try.underlying3 g0
        obtain ⟨b, hb, _, _⟩ := DataW.trod_int Try.underlying3 g1
        simp at ha hb
        subst ha; subst hb
        have c0 := hcell 0 (by omega)
        have c1 := hcell 1 (by omega)
        simp at c0 c1
        rw [add_nil] at c0
        exact ⟨(a, b), c0, c1⟩
    obtain ⟨F, hF⟩ := pick_lt ((0, 0) : Cz) each
    refine ⟨some x, l, c, (List.range l).map F, rfl, by simp, hl, by unfold maxLen at hm; exact hm, fun e => (by cases e), fun h0 => ⟨x, rfl, ?_, cv_cells hF⟩⟩
    obtain ⟨c0, _⟩ := hF 0 h0
    have := World.block_lt_of_cell? _ _ c0
    rwa [block_of_add] at this
end Go.Proofs.Ythamjboppnlpdaa.Cu
