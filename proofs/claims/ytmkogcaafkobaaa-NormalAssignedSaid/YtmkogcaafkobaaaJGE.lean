/-
  Events that become constants or formulas: Assign, Replace of the specification.
-/
import Derived.Test.YtmkogcaafkobaaaJGC
import Derived.Test.YtmkogcaafkobaaaKu
namespace Go.Proofs.Ytmkogcaafkobaaa.Fm
open Go.RowKit Go.Proofs.Ytmkogcaafkobaaa.Sb
set_option linter.unusedVariables false
set_option maxRecDepth 100000
theorem bit_int9 (s a : Nat) (hs : s < 16777216) : bits .and .i64 ((s : Int) / 2 ^ a) 1 = ((s / 2 ^ a % 2 : Nat) : Int) := by
  have e : ((s : Int) / 2 ^ a) = ((s >>> a : Nat) : Int) := by
    rw [Nat.shiftRight_eq_div_pow, Int.natCast_ediv, Int.natCast_pow]; rfl
  rw [e, bit_step s a hs, Nat.shiftRight_eq_div_pow]
/-- what events become in Assign -/
def asgV (v y n i : Nat) : Nat := if n / 2 ^ i % 2 = 1 then v else if y / 2 ^ i % 2 = 1 then v + 1 else i
def asgL (v y n k : Nat) : List Nat := (List.range k).map (asgV v y n)
theorem asgL_succ (v y n k : Nat) : asgL v y n (k + 1) = asgL v y n k ++ [asgV v y n k] := by unfold asgL; rw [List.range_succ]; simp
theorem asgL_len (v y n k : Nat) : (asgL v y n k).length = k := by simp [asgL]
def two01 : List Nn := [⟨0, 0, []⟩, ⟨0, 1, []⟩]
def assignF (f : Fn) (y n : Nat) : Fn := joined f two01 (asgL f.vars y n f.vars)
theorem two01_ok (v : Nat) : okL v two01 := by
  intro i hi
  have h2 : i = 0 ∨ i = 1 := by simp [two01] at hi; omega
  rcases h2 with rfl | rfl
  · exact okN_const (by omega)
  · exact okN_const (by omega)
theorem two01_rd {w : World} {g : Nat} (h : Own w g 41 #[.int .i64 0, .int .i64 0, .slice none 0 0, .int .i64 0, .int .i64 1, .slice none 0 0]) : RdN w (some ⟨g, 0, none⟩) 2 2 (rawL two01) := by
  refine ⟨rfl, by omega, by omega, fun e => (by cases e), fun h0 => ⟨_, rfl, h.lt, fun j hj => ?_⟩⟩
  have h2 : j = 0 ∨ j = 1 := by omega
  rcases h2 with rfl | rfl
  · exact ⟨none, 0, 0, h.cell 0, h.cell 1, h.cell 2, Rd.nil_ _⟩
  · exact ⟨none, 0, 0, h.cell 3, h.cell 4, h.cell 5, Rd.nil_ _⟩
/-- what events become in Replace -/
def repV (e t i : Nat) : Nat := if i = e then t else i
def repL (e t k : Nat) : List Nat := (List.range k).map (repV e t)
theorem repL_succ (e t k : Nat) : repL e t (k + 1) = repL e t k ++ [repV e t k] := by unfold repL; rw [List.range_succ]; simp
theorem repL_len (e t k : Nat) : (repL e t k).length = k := by simp [repL]
def replaceF (f : Fn) (e : Nat) (g : Fn) : Fn := joined f g.nodes (repL e g.top f.vars)
end Go.Proofs.Ytmkogcaafkobaaa.Fm
/-
  Replace of the specification: its errors.
-/
namespace Go.Proofs.Ytmkogcaafkobaaa.Fm
open Go.RowKit Go.Proofs.Ytmkogcaafkobaaa.Sb
set_option linter.unusedVariables false
set_option maxRecDepth 100000
/-- the error of Replace -/
def repErr (v v2 : Nat) (ev : Int) : Nat := if v = v2 then (if 0 ≤ ev ∧ ev < (v : Int) then 0 else 10) else 11
end Go.Proofs.Ytmkogcaafkobaaa.Fm
