/-
  Constants removed: truth, folded of the specification.
-/
import Derived.Test.YtmkogcaafkobaaaJGE
import Derived.Deep.RegionWith
namespace Go.Proofs.Ytmkogcaafkobaaa.Fm
open Go.RowKit Go.Proofs.Ytmkogcaafkobaaa.Sb
set_option linter.unusedVariables false
set_option maxRecDepth 100000
theorem VI_rd {w : World} {Z : Option Addr} {m d : Nat} {l : List Int} (h : Rd w Z m d (VI l)) {j : Nat} (hj : j < m) : ∃ ad, Z = some ad ∧ ad.block < w.heap.size ∧ w.cell? (ad.add j) = some (.int .i64 (l.getD j 0)) :=
  h.at_ j _ (VI_get (by have := VI_len h; omega))
theorem takeZ {l : List Int} {j : Nat} (h : j < l.length) : l.take (j + 1) = l.take j ++ [l.getD j 0] := by
  rw [List.take_add_one, List.getElem?_eq_getElem h]
  simp [h]
theorem foR_len (l : List Int) : foT l + (foR l).length ≤ l.length := by
  induction l with
  | nil => simp [foT, foR]
  | cons c l ih =>
    unfold foT foR at ih ⊢
    rw [List.count_cons, List.length_cons]
    by_cases hc : 0 ≤ c
    · have hne : (c == -2) = false := by simp; omega
      rw [List.filter_cons_of_pos (by simpa using hc), hne]
      simp at ih ⊢; omega
    · rw [List.filter_cons_of_neg (by simpa using hc)]
      simp at ih ⊢
      split <;> omega
/-- nodes stay when a formula's box turns -/
theorem OutN.ft {w w' : World} {g base : Nat} {cur : Array Value} {v : Value} {xs : List Nn} (h : OutN w base v xs) (ho : Only g w w') (hc : Own w g 24 cur) : OutN w' base v xs :=
  h.kn (p := fun _ t => t = 24) (Rg.Kn.only ho hc rfl) (fun _ => by decide) (fun _ => by decide)
/-- a code: a constant or an argument -/
def isCod (c : Int) : Prop := c = -1 ∨ c = -2 ∨ ∃ a : Nat, c = (a : Int) ∧ a < 100000
end Go.Proofs.Ytmkogcaafkobaaa.Fm
/-
  folded of the specification: nodes of kind 0.
-/
namespace Go.Proofs.Ytmkogcaafkobaaa.Fm
open Go.RowKit Go.Proofs.Ytmkogcaafkobaaa.Sb
set_option linter.unusedVariables false
set_option maxRecDepth 100000
end Go.Proofs.Ytmkogcaafkobaaa.Fm
/-
  folded of the specification: nodes of kind 1.
-/
namespace Go.Proofs.Ytmkogcaafkobaaa.Fm
open Go.RowKit Go.Proofs.Ytmkogcaafkobaaa.Sb
set_option linter.unusedVariables false
set_option maxRecDepth 100000
end Go.Proofs.Ytmkogcaafkobaaa.Fm
/-
  folded of the specification: nodes of kind 2.
-/
namespace Go.Proofs.Ytmkogcaafkobaaa.Fm
open Go.RowKit Go.Proofs.Ytmkogcaafkobaaa.Sb
set_option linter.unusedVariables false
set_option maxRecDepth 100000
end Go.Proofs.Ytmkogcaafkobaaa.Fm
/-
  folded of the specification: nodes of kind 3.
-/
namespace Go.Proofs.Ytmkogcaafkobaaa.Fm
open Go.RowKit Go.Proofs.Ytmkogcaafkobaaa.Sb
set_option linter.unusedVariables false
set_option maxRecDepth 100000
end Go.Proofs.Ytmkogcaafkobaaa.Fm
/-
  folded of the specification: nodes of kind 4.
-/
namespace Go.Proofs.Ytmkogcaafkobaaa.Fm
open Go.RowKit Go.Proofs.Ytmkogcaafkobaaa.Sb
set_option linter.unusedVariables false
set_option maxRecDepth 100000
end Go.Proofs.Ytmkogcaafkobaaa.Fm
/-
  folded of the specification: nodes of kind 5.
-/
namespace Go.Proofs.Ytmkogcaafkobaaa.Fm
open Go.RowKit Go.Proofs.Ytmkogcaafkobaaa.Sb
set_option linter.unusedVariables false
set_option maxRecDepth 100000
end Go.Proofs.Ytmkogcaafkobaaa.Fm
/-
  folded of the specification, for any node.
-/
namespace Go.Proofs.Ytmkogcaafkobaaa.Fm
open Go.RowKit Go.Proofs.Ytmkogcaafkobaaa.Sb
set_option linter.unusedVariables false
set_option maxRecDepth 100000
end Go.Proofs.Ytmkogcaafkobaaa.Fm
