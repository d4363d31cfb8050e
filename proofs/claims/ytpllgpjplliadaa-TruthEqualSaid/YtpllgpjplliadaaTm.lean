/-
  Masks of the events that matter.
-/
import Derived.Test.YtpllgpjplliadaaTe
import Derived.Test.YtpllgpjplliadaaFlm
namespace Go.Proofs.Ytpllgpjplliadaa.Fm
open Go.RowKit Go.Proofs.Ytpllgpjplliadaa.Sb
set_option linter.unusedVariables false
set_option maxRecDepth 100000
theorem relv_24 (f : Fn) (hv : f.vars ≤ 12) : relv f < 16777216 := by
  have h1 := relv_lt f
  have h2 := pow12 hv
  omega
theorem relv_no {f : Fn} (hf : WF f) : without (relv f) (sup f) = 0 := by
  apply Nat.eq_of_testBit_eq
  intro i
  rw [without_tb, Nat.zero_testBit]
  cases h : (relv f).testBit i with
  | false => rfl
  | true => rw [relv_sup hf h]; rfl
theorem relv_andNot {f : Fn} (hf : WF f) (hv : f.vars ≤ 12) : bits .andNot .i64 ((relv f : Nat) : Int) ((sup f : Nat) : Int) = 0 := by
  have h1 := relv_24 f hv
  have h2 := (sup_lt f hf).2
  rw [andNot_nat _ _ (by omega) (by omega), relv_no hf]; rfl
/-- a & r | b & all &^ r -/
def mixR (f : Fn) (a b : Int) : Nat := (cut a &&& relv f) ||| without (cut b % 2 ^ f.vars) (relv f)
theorem mixR_lt (f : Fn) (a b : Int) : mixR f a b < 2 ^ f.vars := by
  unfold mixR
  refine Nat.or_lt_two_pow ?_ ?_
  · exact Nat.lt_of_le_of_lt Nat.and_le_right (relv_lt f)
  · exact Nat.lt_of_le_of_lt (without_le _ _) (cut_mod_lt _ _)
theorem mixR_val (f : Fn) (a b : Int) : val f (cut a % 2 ^ f.vars) = val f (mixR f a b) := by
  refine val_irr (cut_mod_lt _ _) (mixR_lt f a b) fun i hi hr => ?_
  have hb : (relv f).testBit i = true := by rw [relv_bit, hr, decide_eq_true hi]; rfl
  unfold mixR
  rw [Nat.testBit_or, Nat.testBit_and, without_tb, hb, Nat.testBit_mod_two_pow]
  simp [hi]
theorem mixR_run (f : Fn) (hv : f.vars ≤ 12) (a b : Int) : bits .or .i64 (bits .and .i64 a ((relv f : Nat) : Int)) (bits .andNot .i64 ((cut b % 2 ^ f.vars : Nat) : Int) ((relv f : Nat) : Int)) = ((mixR f a b : Nat) : Int) := by
  have h1 := relv_24 f hv
  have h2 := pow12 hv
  have h3 := cut_mod_lt b f.vars
  have h4 : cut a &&& relv f ≤ relv f := Nat.and_le_right
  have h5 := without_le (cut b % 2 ^ f.vars) (relv f)
  rw [and_small a _ h1, andNot_nat _ _ (by omega) (by omega), or_nat _ _ (by omega) (by omega)]
  rfl
theorem mono_z {f : Fn} (hm : mono f = true) (a b : Int) (hx : val f (cut a % 2 ^ f.vars) = true) : val f ((cut a ||| cut b) % 2 ^ f.vars) = true := by
  have := mono_or hm (cut_mod_lt a f.vars) (cut_mod_lt b f.vars) hx
  rw [← this]
  congr 1
  apply Nat.eq_of_testBit_eq
  intro i
  rw [Nat.testBit_mod_two_pow, Nat.testBit_or, Nat.testBit_or, Nat.testBit_mod_two_pow, Nat.testBit_mod_two_pow]
  by_cases h : i < f.vars <;> simp [h]
end Go.Proofs.Ytpllgpjplliadaa.Fm
