/-
  Trim of the specification.
-/
import Derived.Test.YtpllgpjplliadaaFt
namespace Go.Proofs.Ytpllgpjplliadaa.Fm
open Go.RowKit Go.Proofs.Ytpllgpjplliadaa.Sb
set_option linter.unusedVariables false
set_option maxRecDepth 100000
end Go.Proofs.Ytpllgpjplliadaa.Fm
