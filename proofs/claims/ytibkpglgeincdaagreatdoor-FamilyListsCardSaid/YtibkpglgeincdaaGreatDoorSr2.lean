/-
  The specification's Subset, Compare, Least, Greatest of sets.
-/
import Derived.Test.YtibkpglgeincdaaGreatDoorSr1
namespace Go.Proofs.YtibkpglgeincdaaGreatDoor.Sb
open Go.RowKit
set_option linter.unusedVariables false
set_option maxRecDepth 100000
theorem VI_ints_get {l : List Nat} {k : Nat} (h : k < l.length) : (VI (ints l))[k]? = some (.int .i64 ((l[k] : Nat) : Int)) := by
  simp [VI, ints, h]
/-- the last of a list, or -1 -/
def lastI (l : List Nat) : Int := match l.getLast? with | none => -1 | some i => (i : Int)
theorem lastI_snoc (l : List Nat) (x : Nat) : lastI (l ++ [x]) = (x : Int) := by unfold lastI; simp
end Go.Proofs.YtibkpglgeincdaaGreatDoor.Sb
