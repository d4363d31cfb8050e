/-
  The specification of three values: Values.
-/
import Derived.Test.YtooeppffacnmaaaKr
namespace Go.Proofs.Ytooeppffacnmaaa.Fm
open Go.RowKit Go.Proofs.Ytooeppffacnmaaa.Sb
set_option linter.unusedVariables false
set_option maxRecDepth 100000
end Go.Proofs.Ytooeppffacnmaaa.Fm
