/-
  Masks of events.
-/
import Derived.Test.YtpllgpjplliadaaFa
import Derived.Test.YtpllgpjplliadaaFn
namespace Go.Proofs.Ytpllgpjplliadaa.Fm
open Go.RowKit Go.Proofs.Ytpllgpjplliadaa.Sb
set_option linter.unusedVariables false
set_option maxRecDepth 100000
theorem pow_pos2 (v : Nat) : 1 ≤ 2 ^ v := Nat.one_le_two_pow
/-- x & (2^v - 1) -/
theorem and_all (x : Int) (v : Nat) (hv : v ≤ 24) : bits .and .i64 x (((2 ^ v : Nat) : Int) - 1) = ((cut x % 2 ^ v : Nat) : Int) := by
  have h1 := pow_pos2 v
  have h2 := pow24 hv
  have e : (((2 ^ v : Nat) : Int) - 1) = ((2 ^ v - 1 : Nat) : Int) := by omega
  rw [e, and_small x _ (by omega), Nat.and_two_pow_sub_one_eq_mod]
theorem cut_mod_lt (x : Int) (v : Nat) : cut x % 2 ^ v < 2 ^ v := Nat.mod_lt _ (Nat.two_pow_pos v)
theorem sup_lt (f : Fn) (hf : WF f) : sup f < 2 ^ f.vars ∧ sup f < 16777216 := ⟨supTo_lt _ _, supTo_24 _ hf.1⟩
/-- a & s | b & all &^ s -/
def mixS (f : Fn) (a b : Int) : Nat := (cut a &&& sup f) ||| without (cut b % 2 ^ f.vars) (sup f)
theorem mix_lt (f : Fn) (hf : WF f) (a b : Int) : mixS f a b < 2 ^ f.vars := by
  unfold mixS
  refine Nat.or_lt_two_pow ?_ ?_
  · exact Nat.lt_of_le_of_lt Nat.and_le_right (sup_lt f hf).1
  · exact Nat.lt_of_le_of_lt (without_le _ _) (cut_mod_lt _ _)
theorem mix_val (f : Fn) (hf : WF f) (a b : Int) : val f (cut a % 2 ^ f.vars) = val f (mixS f a b) := by
  refine val_same hf fun x hx hs => ?_
  unfold mixS
  rw [Nat.testBit_or, Nat.testBit_and, without_tb, hs, Nat.testBit_mod_two_pow]
  simp [hx]
theorem mix_run (f : Fn) (hf : WF f) (a b : Int) : bits .or .i64 (bits .and .i64 a ((sup f : Nat) : Int)) (bits .andNot .i64 ((cut b % 2 ^ f.vars : Nat) : Int) ((sup f : Nat) : Int)) = ((mixS f a b : Nat) : Int) := by
  have h1 := (sup_lt f hf).2
  have h2 := pow24 hf.1
  have h3 := cut_mod_lt b f.vars
  have h4 : cut a &&& sup f ≤ sup f := Nat.and_le_right
  have h5 := without_le (cut b % 2 ^ f.vars) (sup f)
  rw [and_small a _ h1, andNot_nat _ _ (by omega) (by omega), or_nat _ _ (by omega) (by omega)]
  rfl
theorem or_all (a b : Int) (v : Nat) (hv : v ≤ 24) : bits .and .i64 (bits .or .i64 a b) (((2 ^ v : Nat) : Int) - 1) = (((cut a ||| cut b) % 2 ^ v : Nat) : Int) := by
  rw [and_all _ v hv, cut_or]
theorem or_mod_lt (a b : Int) (v : Nat) : (cut a ||| cut b) % 2 ^ v < 2 ^ v := Nat.mod_lt _ (Nat.two_pow_pos v)
theorem bne_self (b : Bool) : (b != b) = false := by cases b <;> rfl
theorem beq_self (b : Bool) : (b == b) = true := by cases b <;> rfl
end Go.Proofs.Ytpllgpjplliadaa.Fm
