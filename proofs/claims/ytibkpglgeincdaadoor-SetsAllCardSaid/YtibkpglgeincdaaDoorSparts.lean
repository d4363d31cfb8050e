/-
  The statement SetsParts, walked: Parts lists every subset once, sorted.
-/
import Derived.Test.YtibkpglgeincdaaDoorSs9
import Derived.Test.YtibkpglgeincdaaDoorSb5
namespace Go.Proofs.YtibkpglgeincdaaDoor.Sb
open Go.RowKit
set_option linter.unusedVariables false
set_option maxRecDepth 100000
end Go.Proofs.YtibkpglgeincdaaDoor.Sb
