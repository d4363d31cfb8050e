/-
  The contracts of the program's three values.
-/
import Derived.Test.YtcnelmklfdfilaaKs6
namespace Go.Proofs.Ytcnelmklfdfilaa.Fm
open Go.RowKit Go.Proofs.Ytcnelmklfdfilaa.Sb
set_option linter.unusedVariables false
theorem tvalues_any (w : World) (vars top : Int) (A : Option Addr) (n c : Nat) (xs : List Nd) (h : RdN w A n c xs) (hv : I64 vars) (ht : I64 top) (y nn : Int) (hbad : tchk vars xs top y nn ≠ 0) :
    Calls Try.prog 12 #[.agg #[.int .i64 vars, .slice A n c, .int .i64 top], cubV y nn] w fun e w' => ∃ B d, e = .returned (.tuple #[.slice B 0 d, errV (tchk vars xs top y nn)]) ∧ On w w' :=
  (tvalues_bad w vars top A n c xs h hv ht y nn hbad).mono fun e w' h => ⟨none, 0, h⟩
end Go.Proofs.Ytcnelmklfdfilaa.Fm
