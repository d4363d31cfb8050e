/-
  DERIVED. GIVEN WITH THE SEED: THE CARDS: each row of YtakkbemldccekaaDoorRows.lean that lists a variable, with what it lists TIED to the program's text (the seventh form; the later family's looks); each row that meets fmt, with fmt's text TOLD by the authors' own Lean function (tested against real Go, not proved from fmt's source: count such statements apart). THE CARD IS WHAT COUNTS. Prove the row's statement (the work); the ties are given (YtakkbemldccekaaDoorTie.lean); close each card by the builder's one call (the guide's Derived/Test/ToyasCard.lean, 'card_holds'). Laid BY PROGRAM, IN A SANDBOX (cutbox-door.mjs). By AI agents, Wed Nov 11 2026. No macro, syntax, notation, axiom, sorry.
-/
import Derived.Test.YtakkbemldccekaaDoorRows
import GoSem.ClaimSeven
namespace Go.Proofs.YtakkbemldccekaaDoor
namespace Rows

/-- THE TIED CARD OF 'faultlinelaw07.HittingAll'. -/
def hittingAllCard : Claim7 := { stood := { row := hittingAllRow, standIns := [], harness := (true, "b704ab41504782fb79c4cdb29feaabc86d2c0655cfdf2b7d2423fddd4e9af3b3"), looks := true }, kinds := [], alts := [], laidByText := true, laidKinds := [.data, .data], laidTests := true, laidLooks := .later }
def HittingAllCardSaid : Prop := Claim7.holds Tryd.pinned (.plain (OpenSpec.ofChange hittingAllSpec)) hittingAllCard

/-- THE TIED CARD OF 'faultlinelaw07.HittingLeast'. -/
def hittingLeastCard : Claim7 := { stood := { row := hittingLeastRow, standIns := [], harness := (true, "b704ab41504782fb79c4cdb29feaabc86d2c0655cfdf2b7d2423fddd4e9af3b3"), looks := true }, kinds := [], alts := [], laidByText := true, laidKinds := [.data, .data], laidTests := true, laidLooks := .later }
def HittingLeastCardSaid : Prop := Claim7.holds Tryd.pinned (.plain (OpenSpec.ofChange hittingLeastSpec)) hittingLeastCard

/-- THE TIED CARD OF 'faultlinelaw07.HittingCovers'. -/
def hittingCoversCard : Claim7 := { stood := { row := hittingCoversRow, standIns := [], harness := (true, "b704ab41504782fb79c4cdb29feaabc86d2c0655cfdf2b7d2423fddd4e9af3b3"), looks := true }, kinds := [], alts := [], laidByText := true, laidKinds := [.data, .data], laidTests := true, laidLooks := .later }
def HittingCoversCardSaid : Prop := Claim7.holds Tryd.pinned (.plain (OpenSpec.ofChange hittingCoversSpec)) hittingCoversCard

/-- THE TIED CARD OF 'faultlinelaw07.HittingDuality'. -/
def hittingDualityCard : Claim7 := { stood := { row := hittingDualityRow, standIns := [], harness := (true, "b704ab41504782fb79c4cdb29feaabc86d2c0655cfdf2b7d2423fddd4e9af3b3"), looks := true }, kinds := [], alts := [], laidByText := true, laidKinds := [.data, .data], laidTests := true, laidLooks := .later }
def HittingDualityCardSaid : Prop := Claim7.holds Tryd.pinned (.plain (OpenSpec.ofChange hittingDualitySpec)) hittingDualityCard

/-- THE TIED CARD OF 'faultlinelaw07.HittingPacks'. -/
def hittingPacksCard : Claim7 := { stood := { row := hittingPacksRow, standIns := [], harness := (true, "b704ab41504782fb79c4cdb29feaabc86d2c0655cfdf2b7d2423fddd4e9af3b3"), looks := true }, kinds := [], alts := [], laidByText := true, laidKinds := [.data, .data], laidTests := true, laidLooks := .later }
def HittingPacksCardSaid : Prop := Claim7.holds Tryd.pinned (.plain (OpenSpec.ofChange hittingPacksSpec)) hittingPacksCard

/-- THE TIED CARD OF 'faultlinelaw07.HittingCheap'. -/
def hittingCheapCard : Claim7 := { stood := { row := hittingCheapRow, standIns := [], harness := (true, "b704ab41504782fb79c4cdb29feaabc86d2c0655cfdf2b7d2423fddd4e9af3b3"), looks := true }, kinds := [], alts := [], laidByText := true, laidKinds := [.data, .data], laidTests := true, laidLooks := .later }
def HittingCheapCardSaid : Prop := Claim7.holds Tryd.pinned (.plain (OpenSpec.ofChange hittingCheapSpec)) hittingCheapCard

/-- THE SECOND FORM's CARD OF 'faultlinelaw07.HittingAll'. -/
def hittingAllUptoCard : Claim7 := { stood := { row := hittingAllUptoRow, standIns := [], harness := (true, "b704ab41504782fb79c4cdb29feaabc86d2c0655cfdf2b7d2423fddd4e9af3b3"), looks := true }, kinds := [], alts := [], laidByText := true, laidKinds := [.data, .data], laidTests := true, laidLooks := .later }
def HittingAllUptoCardSaid : Prop := Claim7.holds Tryd.pinned (.plain (OpenSpec.upto hittingAllSpec)) hittingAllUptoCard

/-- THE SECOND FORM's CARD OF 'faultlinelaw07.HittingLeast'. -/
def hittingLeastUptoCard : Claim7 := { stood := { row := hittingLeastUptoRow, standIns := [], harness := (true, "b704ab41504782fb79c4cdb29feaabc86d2c0655cfdf2b7d2423fddd4e9af3b3"), looks := true }, kinds := [], alts := [], laidByText := true, laidKinds := [.data, .data], laidTests := true, laidLooks := .later }
def HittingLeastUptoCardSaid : Prop := Claim7.holds Tryd.pinned (.plain (OpenSpec.upto hittingLeastSpec)) hittingLeastUptoCard

/-- THE SECOND FORM's CARD OF 'faultlinelaw07.HittingCovers'. -/
def hittingCoversUptoCard : Claim7 := { stood := { row := hittingCoversUptoRow, standIns := [], harness := (true, "b704ab41504782fb79c4cdb29feaabc86d2c0655cfdf2b7d2423fddd4e9af3b3"), looks := true }, kinds := [], alts := [], laidByText := true, laidKinds := [.data, .data], laidTests := true, laidLooks := .later }
def HittingCoversUptoCardSaid : Prop := Claim7.holds Tryd.pinned (.plain (OpenSpec.upto hittingCoversSpec)) hittingCoversUptoCard

/-- THE SECOND FORM's CARD OF 'faultlinelaw07.HittingDuality'. -/
def hittingDualityUptoCard : Claim7 := { stood := { row := hittingDualityUptoRow, standIns := [], harness := (true, "b704ab41504782fb79c4cdb29feaabc86d2c0655cfdf2b7d2423fddd4e9af3b3"), looks := true }, kinds := [], alts := [], laidByText := true, laidKinds := [.data, .data], laidTests := true, laidLooks := .later }
def HittingDualityUptoCardSaid : Prop := Claim7.holds Tryd.pinned (.plain (OpenSpec.upto hittingDualitySpec)) hittingDualityUptoCard

/-- THE SECOND FORM's CARD OF 'faultlinelaw07.HittingPacks'. -/
def hittingPacksUptoCard : Claim7 := { stood := { row := hittingPacksUptoRow, standIns := [], harness := (true, "b704ab41504782fb79c4cdb29feaabc86d2c0655cfdf2b7d2423fddd4e9af3b3"), looks := true }, kinds := [], alts := [], laidByText := true, laidKinds := [.data, .data], laidTests := true, laidLooks := .later }
def HittingPacksUptoCardSaid : Prop := Claim7.holds Tryd.pinned (.plain (OpenSpec.upto hittingPacksSpec)) hittingPacksUptoCard

/-- THE SECOND FORM's CARD OF 'faultlinelaw07.HittingCheap'. -/
def hittingCheapUptoCard : Claim7 := { stood := { row := hittingCheapUptoRow, standIns := [], harness := (true, "b704ab41504782fb79c4cdb29feaabc86d2c0655cfdf2b7d2423fddd4e9af3b3"), looks := true }, kinds := [], alts := [], laidByText := true, laidKinds := [.data, .data], laidTests := true, laidLooks := .later }
def HittingCheapUptoCardSaid : Prop := Claim7.holds Tryd.pinned (.plain (OpenSpec.upto hittingCheapSpec)) hittingCheapUptoCard
end Rows
end Go.Proofs.YtakkbemldccekaaDoor
