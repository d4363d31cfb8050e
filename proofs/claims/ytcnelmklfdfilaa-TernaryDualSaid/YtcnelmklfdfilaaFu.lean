/-
  Trim of the specification.
-/
import Derived.Test.YtcnelmklfdfilaaFt
namespace Go.Proofs.Ytcnelmklfdfilaa.Fm
open Go.RowKit Go.Proofs.Ytcnelmklfdfilaa.Sb
set_option linter.unusedVariables false
set_option maxRecDepth 100000
end Go.Proofs.Ytcnelmklfdfilaa.Fm
