/-
  Values of the specification; Value of both; Set; a set of failed events that is none.
-/
import Derived.Test.YtmkogcaafkobaaaFx
namespace Go.Proofs.Ytmkogcaafkobaaa.Fm
open Go.RowKit Go.Proofs.Ytmkogcaafkobaaa.Sb
set_option linter.unusedVariables false
set_option maxRecDepth 100000
theorem own_setB' {w : World} {g : Nat} {xs ys : List Bool} (h : Own w g 4 (VB xs).toArray) (i : Nat) {b b' : Bool} (hb : b = b') (he : xs.set i b' = ys) : Own (w.setCell ⟨g, i, none⟩ (.bool b)) g 4 (VB ys).toArray := by
  subst hb; subst he; exact own_setB h i b
end Go.Proofs.Ytmkogcaafkobaaa.Fm
