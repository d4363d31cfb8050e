/-
  DERIVED. GIVEN WITH THE SEED: THE CARDS: each row of YtibkpglgeincdaaGreatDoorRows.lean that lists a variable, with what it lists TIED to the program's text (the seventh form; the later family's looks); each row that meets fmt, with fmt's text TOLD by the authors' own Lean function (tested against real Go, not proved from fmt's source: count such statements apart). THE CARD IS WHAT COUNTS. Prove the row's statement (the work); the ties are given (YtibkpglgeincdaaGreatDoorTie.lean); close each card by the builder's one call (the guide's Derived/Test/ToyasCard.lean, 'card_holds'). Laid BY PROGRAM, IN A SANDBOX (cutbox-door.mjs). By AI agents, Wed Nov 11 2026. No macro, syntax, notation, axiom, sorry.
-/
import Derived.Test.YtibkpglgeincdaaGreatDoorRows
import GoSem.ClaimSeven
namespace Go.Proofs.YtibkpglgeincdaaGreatDoor
namespace Rows

/-- THE TIED CARD OF 'faultlinelaw06.FamilyLists'. -/
def familyListsCard : Claim7 := { stood := { row := familyListsRow, standIns := [], harness := (true, "5ca7866a88255e57979c1417ef3b4b50120d7dbf3f7c3f4162a8e51df11df2ce"), looks := true }, kinds := [], alts := [], laidByText := true, laidKinds := [.data, .data, .data], laidTests := true, laidLooks := .later }
def FamilyListsCardSaid : Prop := Claim7.holds Tryz.pinned (.plain (OpenSpec.ofChange familyListsSpec)) familyListsCard

/-- THE SECOND FORM's CARD OF 'faultlinelaw06.FamilyLists'. -/
def familyListsUptoCard : Claim7 := { stood := { row := familyListsUptoRow, standIns := [], harness := (true, "5ca7866a88255e57979c1417ef3b4b50120d7dbf3f7c3f4162a8e51df11df2ce"), looks := true }, kinds := [], alts := [], laidByText := true, laidKinds := [.data, .data, .data], laidTests := true, laidLooks := .later }
def FamilyListsUptoCardSaid : Prop := Claim7.holds Tryz.pinned (.plain (OpenSpec.upto familyListsSpec)) familyListsUptoCard
end Rows
end Go.Proofs.YtibkpglgeincdaaGreatDoor
