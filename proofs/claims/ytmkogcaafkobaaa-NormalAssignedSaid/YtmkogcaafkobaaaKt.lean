/-
  The specification of three values: Values.
-/
import Derived.Test.YtmkogcaafkobaaaKr
namespace Go.Proofs.Ytmkogcaafkobaaa.Fm
open Go.RowKit Go.Proofs.Ytmkogcaafkobaaa.Sb
set_option linter.unusedVariables false
set_option maxRecDepth 100000
end Go.Proofs.Ytmkogcaafkobaaa.Fm
