/-
  Normal: masks of events in the statements without the specification.
-/
import Derived.Test.YtmkogcaafkobaaaJGM
import Derived.Test.YtmkogcaafkobaaaFs
namespace Go.Proofs.Ytmkogcaafkobaaa.Fm
open Go.RowKit Go.Proofs.Ytmkogcaafkobaaa.Sb
set_option linter.unusedVariables false
set_option maxRecDepth 100000
theorem pow_posN (v : Nat) : 1 ≤ 2 ^ v := Nat.one_le_two_pow
theorem all_eqN (v : Nat) : (((2 ^ v : Nat) : Int) - 1) = ((2 ^ v - 1 : Nat) : Int) := by have := pow_posN v; omega
/-- x & (2^v - 1) -/
theorem and_allN (x : Int) (v : Nat) (hv : v ≤ 24) : bits .and .i64 x (((2 ^ v : Nat) : Int) - 1) = ((cut x % 2 ^ v : Nat) : Int) := by
  have h1 := pow_posN v
  have h2 := pow24 hv
  rw [all_eqN, and_small x _ (by omega), Nat.and_two_pow_sub_one_eq_mod]
theorem andNot_small (m : Nat) (hm : m < 16777216) (x : Int) : bits .andNot .i64 (m : Int) x = ((without m (cut x) : Nat) : Int) := by
  show IntKind.i64.wrap ((BitVec.ofInt 64 (m : Int) &&& ~~~BitVec.ofInt 64 x).toNat : Int) = _
  have hm' : (BitVec.ofInt 64 (m : Int)).toNat = m := nat64 m (by omega)
  have e : (BitVec.ofInt 64 (m : Int) &&& ~~~BitVec.ofInt 64 x).toNat = without m (cut x) := by
    apply Nat.eq_of_testBit_eq
    intro i
    rw [without_tb, BitVec.testBit_toNat, BitVec.getLsbD_and, BitVec.getLsbD_not, ← BitVec.testBit_toNat, ← BitVec.testBit_toNat, hm']
    by_cases h : i < 24
    · have h2 : i < 64 := by omega
      rw [← ofInt_cut, Nat.testBit_mod_two_pow]
      simp [h, h2]
    · have : m.testBit i = false := Nat.testBit_lt_two_pow (Nat.lt_of_lt_of_le hm (show 2 ^ 24 ≤ 2 ^ i from Nat.pow_le_pow_right (by decide) (by omega)))
      simp [this]
  rw [e, wrapn]
  have := without_le m (cut x)
  omega
/-- (2^v - 1) &^ x -/
theorem andNot_allN (x : Int) (v : Nat) (hv : v ≤ 24) : bits .andNot .i64 (((2 ^ v : Nat) : Int) - 1) x = ((without (2 ^ v - 1) (cut x) : Nat) : Int) := by
  have h1 := pow_posN v
  have h2 := pow24 hv
  rw [all_eqN, andNot_small _ (by omega)]
theorem compl_lt (v c : Nat) : without (2 ^ v - 1) c < 2 ^ v := by
  have := without_le (2 ^ v - 1) c
  have := pow_posN v
  omega
theorem compl_bit (v c a : Nat) (h : a < v) : (without (2 ^ v - 1) c).testBit a = !(c % 2 ^ v).testBit a := by
  rw [without_tb, Nat.testBit_two_pow_sub_one, Nat.testBit_mod_two_pow, decide_eq_true h]; simp
/-- neither negations nor xors among the first nodes -/
def plTo (f : Fn) : Nat → Bool
  | 0 => true
  | k + 1 => plTo f k && ((f.nd k).kind != 1 && (f.nd k).kind != 5)
theorem plTo_all (f : Fn) : ∀ k, plTo f k = true → ∀ i, i < k → (f.nd i).kind ≠ 1 ∧ (f.nd i).kind ≠ 5 := by
  intro k
  induction k with
  | zero => intro _ i hi; omega
  | succ k ih =>
    intro h i hi
    unfold plTo at h
    rw [Bool.and_eq_true, Bool.and_eq_true] at h
    by_cases e : i = k
    · subst e; exact ⟨by simpa using h.2.1, by simpa using h.2.2⟩
    · exact ih h.1 i (by omega)
theorem dual_plain {f : Fn} (hk : plTo f f.nodes.length = true) {i : Nat} (hi : i < (dual f).nodes.length) : ((dual f).nd i).kind ≠ 1 ∧ ((dual f).nd i).kind ≠ 5 :=
  duTo_plain (fun i hi => plTo_all f _ hk i hi) f.nodes.length (Nat.le_refl _) _ (mem_ndL (l := (duTo f f.nodes.length).1) hi)
theorem ndN_get (f : Fn) (i : Nat) : f.nd i = f.nodes.getD i Nn.z := rfl
end Go.Proofs.Ytmkogcaafkobaaa.Fm
