/-
  Sets of events: how many sets of k of n events there are, and that the next sets list them all: computed for all n up to 24.
-/
import Derived.Test.YtibkpglgeincdaaDoorSb4
import Derived.Test.YtibkpglgeincdaaDoorSb1
namespace Go.Proofs.YtibkpglgeincdaaDoor.Sb
set_option linter.unusedVariables false
set_option maxRecDepth 100000
def nextRow (r : List Nat) : List Nat := 1 :: (List.zipWith (· + ·) r (r.drop 1) ++ [1])
def rowP : Nat → List Nat
  | 0 => [1]
  | n + 1 => nextRow (rowP n)
/-- Pascal's triangle -/
def bn (n k : Nat) : Nat := (rowP n).getD k 0
theorem bn_facts : ∀ n, n < 25 → (bn n 0 = 1 ∧ (∀ i, i < n → bn n i * (n - i) = bn n (i + 1) * (i + 1)) ∧ (∀ i, i < n + 1 → 0 < bn n i ∧ bn n i ≤ 2704156) ∧ bn n (n + 1) = 0) := by decide +kernel
theorem bn_pascal : ∀ n, n < 24 → ∀ k, k < n + 1 → bn n k + bn n (k + 1) = bn (n + 1) (k + 1) := by decide +kernel
def chk (n k : Nat) : Nat → Nat → Bool
  | 0, _ => true
  | c + 1, s => decide (s < 2 ^ n) && ((Lib.popAux 24 s == k) && ((c == 0) || (decide (s < succS s) && chk n k c (succS s))))
theorem all_ok : ∀ n, n < 25 → ∀ k, k < n + 1 → bn n k ≤ 1024 → chk n k (bn n k) (2 ^ k - 1) = true := by decide +kernel
def iter (s : Nat) : Nat → Nat
  | 0 => s
  | j + 1 => succS (iter s j)
theorem iter_shift (s j : Nat) : iter s (j + 1) = iter (succS s) j := by
  induction j with
  | zero => rfl
  | succ j ih => show succS (iter s (j + 1)) = succS (iter (succS s) j); rw [ih]
theorem chk_all (n k c : Nat) : ∀ s, chk n k c s = true → ∀ j, j < c → iter s j < 2 ^ n ∧ Lib.popAux 24 (iter s j) = k ∧ (j + 1 < c → iter s j < iter s (j + 1)) := by
  induction c with
  | zero => intro s _ j hj; omega
  | succ c ih =>
    intro s h j hj
    unfold chk at h
    rw [Bool.and_eq_true, Bool.and_eq_true, Bool.or_eq_true] at h
    obtain ⟨h1, h2, h3⟩ := h
    have a := of_decide_eq_true h1
    have b : Lib.popAux 24 s = k := by simpa using h2
    rcases j with _ | j
    · refine ⟨a, b, fun hc => ?_⟩
      rcases h3 with h3 | h3
      · have : c = 0 := by simpa using h3
        omega
      · rw [Bool.and_eq_true] at h3
        exact of_decide_eq_true h3.1
    · rcases h3 with h3 | h3
      · have : c = 0 := by simpa using h3
        omega
      · rw [Bool.and_eq_true] at h3
        have := ih (succS s) h3.2 j (by omega)
        rw [iter_shift, iter_shift]
        exact ⟨this.1, this.2.1, fun hc => this.2.2 (by omega)⟩
/-- the sets of k of n events -/
def chooseL (n k : Nat) : List Nat := (List.range (bn n k)).map (iter (2 ^ k - 1))
theorem chooseL_len (n k : Nat) : (chooseL n k).length = bn n k := by simp [chooseL]
theorem chooseL_at (n k j : Nat) (h : j < (chooseL n k).length) : (chooseL n k)[j] = iter (2 ^ k - 1) j := by simp [chooseL]
end Go.Proofs.YtibkpglgeincdaaDoor.Sb
