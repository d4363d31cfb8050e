/-
  The specification of families: Plus, Product, Same; the statement FamilyJoins, walked.
-/
import Derived.Test.YtibkpglgeincdaaGreatDoorSg3
import Derived.Test.YtibkpglgeincdaaGreatDoorSf9
namespace Go.Proofs.YtibkpglgeincdaaGreatDoor.Sb
open Go.RowKit
set_option linter.unusedVariables false
set_option maxRecDepth 100000
end Go.Proofs.YtibkpglgeincdaaGreatDoor.Sb
