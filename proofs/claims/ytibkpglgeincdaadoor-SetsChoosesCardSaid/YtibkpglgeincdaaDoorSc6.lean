/-
  Sets of events: where the list of all sets of k of n events ends: computed for all n up to 24.
-/
import Derived.Test.YtibkpglgeincdaaDoorSc1
namespace Go.Proofs.YtibkpglgeincdaaDoor.Sb
set_option linter.unusedVariables false
set_option maxRecDepth 100000
def chkE (n : Nat) : Nat → Nat → Bool
  | 0, _ => true
  | c + 1, s => bif c == 0 then (succS s == s || decide (2 ^ n ≤ succS s)) else chkE n c (succS s)
theorem all_end : ∀ n, n < 25 → ∀ k, k < n + 1 → bn n k ≤ 1024 → chkE n (bn n k) (2 ^ k - 1) = true := by decide +kernel
theorem chkE_last (n c : Nat) : ∀ s, chkE n (c + 1) s = true → succS (iter s c) = iter s c ∨ 2 ^ n ≤ succS (iter s c) := by
  induction c with
  | zero =>
    intro s h
    unfold chkE at h
    show succS s = s ∨ 2 ^ n ≤ succS s
    simpa using h
  | succ c ih =>
    intro s h
    unfold chkE at h
    rw [iter_shift]
    exact ih _ h
end Go.Proofs.YtibkpglgeincdaaDoor.Sb
