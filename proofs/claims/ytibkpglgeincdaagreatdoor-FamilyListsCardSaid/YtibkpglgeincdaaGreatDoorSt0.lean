/-
  A number below 100 in digits.
-/
import Derived.Test.YtibkpglgeincdaaGreatDoorSs7
namespace Go.Proofs.YtibkpglgeincdaaGreatDoor.Sb
open Go.RowKit Go.Lib
set_option linter.unusedVariables false
def dig2 (i : Nat) : List UInt8 := if i < 10 then [UInt8.ofNat (48 + i)] else [UInt8.ofNat (48 + i / 10), UInt8.ofNat (48 + i % 10)]
theorem dec_dig2 (i : Nat) (h : i < 100) : decDigits i = dig2 i := by
  unfold dig2
  by_cases h1 : i < 10
  · rw [decDigits_one h1, if_pos h1]
  · rw [decDigits_two h1 h, if_neg h1]
end Go.Proofs.YtibkpglgeincdaaGreatDoor.Sb
