/-
  No cell of these rows narrows 'for every input' (looked for: loops, veiled, ifaces, maps, wideKeys, modest, calm, conditions, laid).
  DERIVED. THE GIVEN ROWS OF THIS SEAT. 11 by the template 'for every input the law returns true; each argument reads behind the call as it read before'; 0 by the template 'total and deterministic' (their statements: YtnlihfhafnidlaaTotals.lean).
  GIVEN WITH THE SEED: the statements are not yours to turn. If you find one false, say at which input.
  Laid BY PROGRAM, IN A SANDBOX (cutbox-rows.mjs): the forced cells as the released guide's own fill.sh prints them over the translation 6e07e0dc2ae22125… (all of the seat's roots in one cut). By AI agents, Wed Nov 11 2026. No macro, syntax, notation, axiom, sorry.
-/
import Derived.Test.YtnlihfhafnidlaaChecked
import GoSem.Claim
import GoSem.ClaimJoined
import GoSem.ClaimMapViews
import Derived.JoinedTies
import Derived.KernelRfl
namespace Go.Proofs.Ytnlihfhafnidlaa
/- THE CELL 'sum', in the pinned program and in every row, IS THE sha256 OF THE DUMP (.gsa) THAT YtnlihfhafnidlaaProg.lean LOADS. Nothing in Lean hashes anything: it is a label: what it is worth is what the hold of that sum in a sandbox is worth. -/
noncomputable def Try.pinned : Pinned := { name := "ytnlihfhafnidlaa", sum := "6e07e0dc2ae221257f75802f3c3f11455283f4a07927684cf76969fc302a4e61", checked := Try.checked }
namespace Rows
def none {H : Type} : Left H := { results := [], args := [] }

/-- 'faultlinelaw01.NaturalOrder': WHATEVER THE INPUT: true; the input reads as it did. -/
def naturalOrderSpec : ChangeSpec := { name := "naturalOrder", fn := fun _ => fun
  | [d1, d2, d3] => { results := [.lit (.bool true)], args := [d1, d2, d3] }
  | _ => none }
def naturalOrderRow : OpenClaim := { program := "ytnlihfhafnidlaa", sum := "6e07e0dc2ae221257f75802f3c3f11455283f4a07927684cf76969fc302a4e61", func := "faultline/faultlinelaw01.NaturalOrder", spec := "naturalOrder", apart := false }
def NaturalOrderSaid : Prop := naturalOrderRow.holds Try.pinned (OpenSpec.ofChange naturalOrderSpec)

/-- ITS FALSE NEIGHBOUR: 'it returns false'. Refute it at one input. -/
def naturalOrderWrong : ChangeSpec := { name := "naturalOrder", fn := fun _ => fun
  | [d1, d2, d3] => { results := [.lit (.bool false)], args := [d1, d2, d3] }
  | _ => none }
def NaturalOrderWrongFalsely : Prop := naturalOrderRow.holds Try.pinned (OpenSpec.ofChange naturalOrderWrong)

/-- 'faultlinelaw01.NaturalSums': WHATEVER THE INPUT: true; the input reads as it did. -/
def naturalSumsSpec : ChangeSpec := { name := "naturalSums", fn := fun _ => fun
  | [d1, d2] => { results := [.lit (.bool true)], args := [d1, d2] }
  | _ => none }
def naturalSumsRow : OpenClaim := { program := "ytnlihfhafnidlaa", sum := "6e07e0dc2ae221257f75802f3c3f11455283f4a07927684cf76969fc302a4e61", func := "faultline/faultlinelaw01.NaturalSums", spec := "naturalSums", apart := false }
def NaturalSumsSaid : Prop := naturalSumsRow.holds Try.pinned (OpenSpec.ofChange naturalSumsSpec)

/-- ITS FALSE NEIGHBOUR: 'it returns false'. Refute it at one input. -/
def naturalSumsWrong : ChangeSpec := { name := "naturalSums", fn := fun _ => fun
  | [d1, d2] => { results := [.lit (.bool false)], args := [d1, d2] }
  | _ => none }
def NaturalSumsWrongFalsely : Prop := naturalSumsRow.holds Try.pinned (OpenSpec.ofChange naturalSumsWrong)

/-- 'faultlinelaw01.NaturalProducts': WHATEVER THE INPUT: true; the input reads as it did. -/
def naturalProductsSpec : ChangeSpec := { name := "naturalProducts", fn := fun _ => fun
  | [d1, d2, d3] => { results := [.lit (.bool true)], args := [d1, d2, d3] }
  | _ => none }
def naturalProductsRow : OpenClaim := { program := "ytnlihfhafnidlaa", sum := "6e07e0dc2ae221257f75802f3c3f11455283f4a07927684cf76969fc302a4e61", func := "faultline/faultlinelaw01.NaturalProducts", spec := "naturalProducts", apart := false }
def NaturalProductsSaid : Prop := naturalProductsRow.holds Try.pinned (OpenSpec.ofChange naturalProductsSpec)

/-- ITS FALSE NEIGHBOUR: 'it returns false'. Refute it at one input. -/
def naturalProductsWrong : ChangeSpec := { name := "naturalProducts", fn := fun _ => fun
  | [d1, d2, d3] => { results := [.lit (.bool false)], args := [d1, d2, d3] }
  | _ => none }
def NaturalProductsWrongFalsely : Prop := naturalProductsRow.holds Try.pinned (OpenSpec.ofChange naturalProductsWrong)

/-- 'faultlinelaw01.NaturalQuotients': WHATEVER THE INPUT: true; the input reads as it did. -/
def naturalQuotientsSpec : ChangeSpec := { name := "naturalQuotients", fn := fun _ => fun
  | [d1, d2] => { results := [.lit (.bool true)], args := [d1, d2] }
  | _ => none }
def naturalQuotientsRow : OpenClaim := { program := "ytnlihfhafnidlaa", sum := "6e07e0dc2ae221257f75802f3c3f11455283f4a07927684cf76969fc302a4e61", func := "faultline/faultlinelaw01.NaturalQuotients", spec := "naturalQuotients", apart := false }
def NaturalQuotientsSaid : Prop := naturalQuotientsRow.holds Try.pinned (OpenSpec.ofChange naturalQuotientsSpec)

/-- ITS FALSE NEIGHBOUR: 'it returns false'. Refute it at one input. -/
def naturalQuotientsWrong : ChangeSpec := { name := "naturalQuotients", fn := fun _ => fun
  | [d1, d2] => { results := [.lit (.bool false)], args := [d1, d2] }
  | _ => none }
def NaturalQuotientsWrongFalsely : Prop := naturalQuotientsRow.holds Try.pinned (OpenSpec.ofChange naturalQuotientsWrong)

/-- 'faultlinelaw01.NaturalMoves': WHATEVER THE INPUT: true; the input reads as it did. -/
def naturalMovesSpec : ChangeSpec := { name := "naturalMoves", fn := fun _ => fun
  | [d1, d2] => { results := [.lit (.bool true)], args := [d1, d2] }
  | _ => none }
def naturalMovesRow : OpenClaim := { program := "ytnlihfhafnidlaa", sum := "6e07e0dc2ae221257f75802f3c3f11455283f4a07927684cf76969fc302a4e61", func := "faultline/faultlinelaw01.NaturalMoves", spec := "naturalMoves", apart := false }
def NaturalMovesSaid : Prop := naturalMovesRow.holds Try.pinned (OpenSpec.ofChange naturalMovesSpec)

/-- ITS FALSE NEIGHBOUR: 'it returns false'. Refute it at one input. -/
def naturalMovesWrong : ChangeSpec := { name := "naturalMoves", fn := fun _ => fun
  | [d1, d2] => { results := [.lit (.bool false)], args := [d1, d2] }
  | _ => none }
def NaturalMovesWrongFalsely : Prop := naturalMovesRow.holds Try.pinned (OpenSpec.ofChange naturalMovesWrong)

/-- 'faultlinelaw01.NaturalTexts': WHATEVER THE INPUT: true; the input reads as it did. -/
def naturalTextsSpec : ChangeSpec := { name := "naturalTexts", fn := fun _ => fun
  | [d1, d2] => { results := [.lit (.bool true)], args := [d1, d2] }
  | _ => none }
def naturalTextsRow : OpenClaim := { program := "ytnlihfhafnidlaa", sum := "6e07e0dc2ae221257f75802f3c3f11455283f4a07927684cf76969fc302a4e61", func := "faultline/faultlinelaw01.NaturalTexts", spec := "naturalTexts", apart := false }
def NaturalTextsSaid : Prop := naturalTextsRow.holds Try.pinned (OpenSpec.ofChange naturalTextsSpec)

/-- ITS FALSE NEIGHBOUR: 'it returns false'. Refute it at one input. -/
def naturalTextsWrong : ChangeSpec := { name := "naturalTexts", fn := fun _ => fun
  | [d1, d2] => { results := [.lit (.bool false)], args := [d1, d2] }
  | _ => none }
def NaturalTextsWrongFalsely : Prop := naturalTextsRow.holds Try.pinned (OpenSpec.ofChange naturalTextsWrong)

/-- 'faultlinelaw01.NaturalRing': WHATEVER THE INPUT: true; the input reads as it did. -/
def naturalRingSpec : ChangeSpec := { name := "naturalRing", fn := fun _ => fun
  | [d1, d2, d3] => { results := [.lit (.bool true)], args := [d1, d2, d3] }
  | _ => none }
def naturalRingRow : OpenClaim := { program := "ytnlihfhafnidlaa", sum := "6e07e0dc2ae221257f75802f3c3f11455283f4a07927684cf76969fc302a4e61", func := "faultline/faultlinelaw01.NaturalRing", spec := "naturalRing", apart := false }
def NaturalRingSaid : Prop := naturalRingRow.holds Try.pinned (OpenSpec.ofChange naturalRingSpec)

/-- ITS FALSE NEIGHBOUR: 'it returns false'. Refute it at one input. -/
def naturalRingWrong : ChangeSpec := { name := "naturalRing", fn := fun _ => fun
  | [d1, d2, d3] => { results := [.lit (.bool false)], args := [d1, d2, d3] }
  | _ => none }
def NaturalRingWrongFalsely : Prop := naturalRingRow.holds Try.pinned (OpenSpec.ofChange naturalRingWrong)

/-- 'faultlinelaw01.NaturalDivides': WHATEVER THE INPUT: true; the input reads as it did. -/
def naturalDividesSpec : ChangeSpec := { name := "naturalDivides", fn := fun _ => fun
  | [d1, d2] => { results := [.lit (.bool true)], args := [d1, d2] }
  | _ => none }
def naturalDividesRow : OpenClaim := { program := "ytnlihfhafnidlaa", sum := "6e07e0dc2ae221257f75802f3c3f11455283f4a07927684cf76969fc302a4e61", func := "faultline/faultlinelaw01.NaturalDivides", spec := "naturalDivides", apart := false }
def NaturalDividesSaid : Prop := naturalDividesRow.holds Try.pinned (OpenSpec.ofChange naturalDividesSpec)

/-- ITS FALSE NEIGHBOUR: 'it returns false'. Refute it at one input. -/
def naturalDividesWrong : ChangeSpec := { name := "naturalDivides", fn := fun _ => fun
  | [d1, d2] => { results := [.lit (.bool false)], args := [d1, d2] }
  | _ => none }
def NaturalDividesWrongFalsely : Prop := naturalDividesRow.holds Try.pinned (OpenSpec.ofChange naturalDividesWrong)

/-- 'faultlinelaw01.NaturalCommon': WHATEVER THE INPUT: true; the input reads as it did. -/
def naturalCommonSpec : ChangeSpec := { name := "naturalCommon", fn := fun _ => fun
  | [d1, d2, d3] => { results := [.lit (.bool true)], args := [d1, d2, d3] }
  | _ => none }
def naturalCommonRow : OpenClaim := { program := "ytnlihfhafnidlaa", sum := "6e07e0dc2ae221257f75802f3c3f11455283f4a07927684cf76969fc302a4e61", func := "faultline/faultlinelaw01.NaturalCommon", spec := "naturalCommon", apart := false }
def NaturalCommonSaid : Prop := naturalCommonRow.holds Try.pinned (OpenSpec.ofChange naturalCommonSpec)

/-- ITS FALSE NEIGHBOUR: 'it returns false'. Refute it at one input. -/
def naturalCommonWrong : ChangeSpec := { name := "naturalCommon", fn := fun _ => fun
  | [d1, d2, d3] => { results := [.lit (.bool false)], args := [d1, d2, d3] }
  | _ => none }
def NaturalCommonWrongFalsely : Prop := naturalCommonRow.holds Try.pinned (OpenSpec.ofChange naturalCommonWrong)

/-- 'faultlinelaw01.NaturalBack': WHATEVER THE INPUT: true; the input reads as it did. -/
def naturalBackSpec : ChangeSpec := { name := "naturalBack", fn := fun _ => fun
  | [d1, d2] => { results := [.lit (.bool true)], args := [d1, d2] }
  | _ => none }
def naturalBackRow : OpenClaim := { program := "ytnlihfhafnidlaa", sum := "6e07e0dc2ae221257f75802f3c3f11455283f4a07927684cf76969fc302a4e61", func := "faultline/faultlinelaw01.NaturalBack", spec := "naturalBack", apart := false }
def NaturalBackSaid : Prop := naturalBackRow.holds Try.pinned (OpenSpec.ofChange naturalBackSpec)

/-- ITS FALSE NEIGHBOUR: 'it returns false'. Refute it at one input. -/
def naturalBackWrong : ChangeSpec := { name := "naturalBack", fn := fun _ => fun
  | [d1, d2] => { results := [.lit (.bool false)], args := [d1, d2] }
  | _ => none }
def NaturalBackWrongFalsely : Prop := naturalBackRow.holds Try.pinned (OpenSpec.ofChange naturalBackWrong)

/-- 'faultlinelaw01.NaturalSquares': WHATEVER THE INPUT: true; the input reads as it did. -/
def naturalSquaresSpec : ChangeSpec := { name := "naturalSquares", fn := fun _ => fun
  | [d1, d2] => { results := [.lit (.bool true)], args := [d1, d2] }
  | _ => none }
def naturalSquaresRow : OpenClaim := { program := "ytnlihfhafnidlaa", sum := "6e07e0dc2ae221257f75802f3c3f11455283f4a07927684cf76969fc302a4e61", func := "faultline/faultlinelaw01.NaturalSquares", spec := "naturalSquares", apart := false }
def NaturalSquaresSaid : Prop := naturalSquaresRow.holds Try.pinned (OpenSpec.ofChange naturalSquaresSpec)

/-- ITS FALSE NEIGHBOUR: 'it returns false'. Refute it at one input. -/
def naturalSquaresWrong : ChangeSpec := { name := "naturalSquares", fn := fun _ => fun
  | [d1, d2] => { results := [.lit (.bool false)], args := [d1, d2] }
  | _ => none }
def NaturalSquaresWrongFalsely : Prop := naturalSquaresRow.holds Try.pinned (OpenSpec.ofChange naturalSquaresWrong)

/- THE SECOND FORM. 'bulk': how many values and letters a reading holds, each counted each time it is reached (what is shared counts as often as it is met; a slice's spare places count too). A statement '..UptoSaid' is the law's where the arguments, and the package variables that the reading takes, are together of bulk at most 1048576: NARROWER than '..Said'. Prove '..Said' where nothing that the law and all that it calls make is longer than what came in: it says more and counts as full. Else prove '..UptoSaid'. A law counts once. -/
mutual
def uptoBulk {H : Type} : DataW H → Nat
  | .lit (.string bytes) => bytes.length + 1
  | .lit _ => 1
  | .nil => 1
  | .ptr d => uptoBulk d + 1
  | .slice elems spare => uptoBulkAll elems + uptoBulkAll spare + 1
  | .agg parts => uptoBulkAll parts + 1
  | .iface _ d => uptoBulk d + 1
  | .map entries => uptoBulkEntries entries + 1
  | .held _ => 1
def uptoBulkAll {H : Type} : List (DataW H) → Nat
  | [] => 0
  | d :: r => uptoBulk d + uptoBulkAll r
def uptoBulkEntries {H : Type} : List (Lit × DataW H) → Nat
  | [] => 0
  | x :: r => uptoBulkEntry x + uptoBulkEntries r
def uptoBulkEntry {H : Type} : Lit × DataW H → Nat
  | (.string bytes, d) => bytes.length + uptoBulk d + 1
  | (_, d) => uptoBulk d + 1
 end
def uptoSmall : (H : Type) → List (DataW H) → Bool := fun _ ds => decide (uptoBulkAll ds ≤ 1048576)
def OpenSpec.upto (s : _root_.Go.ChangeSpec) : _root_.Go.OpenSpec := { _root_.Go.OpenSpec.ofChange s with cond := some uptoSmall }

/-- 'faultlinelaw01.NaturalOrder', WHERE WHAT IT READS IS OF BULK AT MOST 1048576: true; the input reads as it did. -/
def naturalOrderUptoRow : OpenClaim := { program := "ytnlihfhafnidlaa", sum := "6e07e0dc2ae221257f75802f3c3f11455283f4a07927684cf76969fc302a4e61", func := "faultline/faultlinelaw01.NaturalOrder", spec := "naturalOrder", apart := false, narrowed := true }
def NaturalOrderUptoSaid : Prop := naturalOrderUptoRow.holds Try.pinned (OpenSpec.upto naturalOrderSpec)

/-- 'faultlinelaw01.NaturalSums', WHERE WHAT IT READS IS OF BULK AT MOST 1048576: true; the input reads as it did. -/
def naturalSumsUptoRow : OpenClaim := { program := "ytnlihfhafnidlaa", sum := "6e07e0dc2ae221257f75802f3c3f11455283f4a07927684cf76969fc302a4e61", func := "faultline/faultlinelaw01.NaturalSums", spec := "naturalSums", apart := false, narrowed := true }
def NaturalSumsUptoSaid : Prop := naturalSumsUptoRow.holds Try.pinned (OpenSpec.upto naturalSumsSpec)

/-- 'faultlinelaw01.NaturalProducts', WHERE WHAT IT READS IS OF BULK AT MOST 1048576: true; the input reads as it did. -/
def naturalProductsUptoRow : OpenClaim := { program := "ytnlihfhafnidlaa", sum := "6e07e0dc2ae221257f75802f3c3f11455283f4a07927684cf76969fc302a4e61", func := "faultline/faultlinelaw01.NaturalProducts", spec := "naturalProducts", apart := false, narrowed := true }
def NaturalProductsUptoSaid : Prop := naturalProductsUptoRow.holds Try.pinned (OpenSpec.upto naturalProductsSpec)

/-- 'faultlinelaw01.NaturalQuotients', WHERE WHAT IT READS IS OF BULK AT MOST 1048576: true; the input reads as it did. -/
def naturalQuotientsUptoRow : OpenClaim := { program := "ytnlihfhafnidlaa", sum := "6e07e0dc2ae221257f75802f3c3f11455283f4a07927684cf76969fc302a4e61", func := "faultline/faultlinelaw01.NaturalQuotients", spec := "naturalQuotients", apart := false, narrowed := true }
def NaturalQuotientsUptoSaid : Prop := naturalQuotientsUptoRow.holds Try.pinned (OpenSpec.upto naturalQuotientsSpec)

/-- 'faultlinelaw01.NaturalMoves', WHERE WHAT IT READS IS OF BULK AT MOST 1048576: true; the input reads as it did. -/
def naturalMovesUptoRow : OpenClaim := { program := "ytnlihfhafnidlaa", sum := "6e07e0dc2ae221257f75802f3c3f11455283f4a07927684cf76969fc302a4e61", func := "faultline/faultlinelaw01.NaturalMoves", spec := "naturalMoves", apart := false, narrowed := true }
def NaturalMovesUptoSaid : Prop := naturalMovesUptoRow.holds Try.pinned (OpenSpec.upto naturalMovesSpec)

/-- 'faultlinelaw01.NaturalTexts', WHERE WHAT IT READS IS OF BULK AT MOST 1048576: true; the input reads as it did. -/
def naturalTextsUptoRow : OpenClaim := { program := "ytnlihfhafnidlaa", sum := "6e07e0dc2ae221257f75802f3c3f11455283f4a07927684cf76969fc302a4e61", func := "faultline/faultlinelaw01.NaturalTexts", spec := "naturalTexts", apart := false, narrowed := true }
def NaturalTextsUptoSaid : Prop := naturalTextsUptoRow.holds Try.pinned (OpenSpec.upto naturalTextsSpec)

/-- 'faultlinelaw01.NaturalRing', WHERE WHAT IT READS IS OF BULK AT MOST 1048576: true; the input reads as it did. -/
def naturalRingUptoRow : OpenClaim := { program := "ytnlihfhafnidlaa", sum := "6e07e0dc2ae221257f75802f3c3f11455283f4a07927684cf76969fc302a4e61", func := "faultline/faultlinelaw01.NaturalRing", spec := "naturalRing", apart := false, narrowed := true }
def NaturalRingUptoSaid : Prop := naturalRingUptoRow.holds Try.pinned (OpenSpec.upto naturalRingSpec)

/-- 'faultlinelaw01.NaturalDivides', WHERE WHAT IT READS IS OF BULK AT MOST 1048576: true; the input reads as it did. -/
def naturalDividesUptoRow : OpenClaim := { program := "ytnlihfhafnidlaa", sum := "6e07e0dc2ae221257f75802f3c3f11455283f4a07927684cf76969fc302a4e61", func := "faultline/faultlinelaw01.NaturalDivides", spec := "naturalDivides", apart := false, narrowed := true }
def NaturalDividesUptoSaid : Prop := naturalDividesUptoRow.holds Try.pinned (OpenSpec.upto naturalDividesSpec)

/-- 'faultlinelaw01.NaturalCommon', WHERE WHAT IT READS IS OF BULK AT MOST 1048576: true; the input reads as it did. -/
def naturalCommonUptoRow : OpenClaim := { program := "ytnlihfhafnidlaa", sum := "6e07e0dc2ae221257f75802f3c3f11455283f4a07927684cf76969fc302a4e61", func := "faultline/faultlinelaw01.NaturalCommon", spec := "naturalCommon", apart := false, narrowed := true }
def NaturalCommonUptoSaid : Prop := naturalCommonUptoRow.holds Try.pinned (OpenSpec.upto naturalCommonSpec)

/-- 'faultlinelaw01.NaturalBack', WHERE WHAT IT READS IS OF BULK AT MOST 1048576: true; the input reads as it did. -/
def naturalBackUptoRow : OpenClaim := { program := "ytnlihfhafnidlaa", sum := "6e07e0dc2ae221257f75802f3c3f11455283f4a07927684cf76969fc302a4e61", func := "faultline/faultlinelaw01.NaturalBack", spec := "naturalBack", apart := false, narrowed := true }
def NaturalBackUptoSaid : Prop := naturalBackUptoRow.holds Try.pinned (OpenSpec.upto naturalBackSpec)

/-- 'faultlinelaw01.NaturalSquares', WHERE WHAT IT READS IS OF BULK AT MOST 1048576: true; the input reads as it did. -/
def naturalSquaresUptoRow : OpenClaim := { program := "ytnlihfhafnidlaa", sum := "6e07e0dc2ae221257f75802f3c3f11455283f4a07927684cf76969fc302a4e61", func := "faultline/faultlinelaw01.NaturalSquares", spec := "naturalSquares", apart := false, narrowed := true }
def NaturalSquaresUptoSaid : Prop := naturalSquaresUptoRow.holds Try.pinned (OpenSpec.upto naturalSquaresSpec)

end Rows
end Go.Proofs.Ytnlihfhafnidlaa
