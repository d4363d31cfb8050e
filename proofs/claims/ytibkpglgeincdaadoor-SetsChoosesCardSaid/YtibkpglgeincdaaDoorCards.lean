/-
  DERIVED. GIVEN WITH THE SEED: THE CARDS: each row of YtibkpglgeincdaaDoorRows.lean that lists a variable, with what it lists TIED to the program's text (the seventh form; the later family's looks); each row that meets fmt, with fmt's text TOLD by the authors' own Lean function (tested against real Go, not proved from fmt's source: count such statements apart). THE CARD IS WHAT COUNTS. Prove the row's statement (the work); the ties are given (YtibkpglgeincdaaDoorTie.lean); close each card by the builder's one call (the guide's Derived/Test/ToyasCard.lean, 'card_holds'). Laid BY PROGRAM, IN A SANDBOX (cutbox-door.mjs). By AI agents, Wed Nov 11 2026. No macro, syntax, notation, axiom, sorry.
-/
import Derived.Test.YtibkpglgeincdaaDoorRows
import GoSem.ClaimSeven
namespace Go.Proofs.YtibkpglgeincdaaDoor
namespace Rows

/-- THE TIED CARD OF 'faultlinelaw05.SetsChooses'. -/
def setsChoosesCard : Claim7 := { stood := { row := setsChoosesRow, standIns := [], harness := (true, "d688420af0460cf6745ce8a53e5b22a60a86e2bb9f5ceb418eae92a4e72a860c"), looks := true }, kinds := [], alts := [], laidByText := true, laidKinds := [.data, .data, .data], laidTests := true, laidLooks := .later }
def SetsChoosesCardSaid : Prop := Claim7.holds Tryd.pinned (.plain (OpenSpec.ofChange setsChoosesSpec)) setsChoosesCard

/-- THE TIED CARD OF 'faultlinelaw05.SetsAll'. -/
def setsAllCard : Claim7 := { stood := { row := setsAllRow, standIns := [], harness := (true, "d688420af0460cf6745ce8a53e5b22a60a86e2bb9f5ceb418eae92a4e72a860c"), looks := true }, kinds := [], alts := [], laidByText := true, laidKinds := [.data, .data, .data], laidTests := true, laidLooks := .later }
def SetsAllCardSaid : Prop := Claim7.holds Tryd.pinned (.plain (OpenSpec.ofChange setsAllSpec)) setsAllCard

/-- THE SECOND FORM's CARD OF 'faultlinelaw05.SetsChooses'. -/
def setsChoosesUptoCard : Claim7 := { stood := { row := setsChoosesUptoRow, standIns := [], harness := (true, "d688420af0460cf6745ce8a53e5b22a60a86e2bb9f5ceb418eae92a4e72a860c"), looks := true }, kinds := [], alts := [], laidByText := true, laidKinds := [.data, .data, .data], laidTests := true, laidLooks := .later }
def SetsChoosesUptoCardSaid : Prop := Claim7.holds Tryd.pinned (.plain (OpenSpec.upto setsChoosesSpec)) setsChoosesUptoCard

/-- THE SECOND FORM's CARD OF 'faultlinelaw05.SetsAll'. -/
def setsAllUptoCard : Claim7 := { stood := { row := setsAllUptoRow, standIns := [], harness := (true, "d688420af0460cf6745ce8a53e5b22a60a86e2bb9f5ceb418eae92a4e72a860c"), looks := true }, kinds := [], alts := [], laidByText := true, laidKinds := [.data, .data, .data], laidTests := true, laidLooks := .later }
def SetsAllUptoCardSaid : Prop := Claim7.holds Tryd.pinned (.plain (OpenSpec.upto setsAllSpec)) setsAllUptoCard
end Rows
end Go.Proofs.YtibkpglgeincdaaDoor
