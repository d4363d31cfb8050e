/-
  The specification of three values: of, truth, Values, Value.
-/
import Derived.Test.YtmkogcaafkobaaaFi
import Derived.Test.YtmkogcaafkobaaaKq
namespace Go.Proofs.Ytmkogcaafkobaaa.Fm
open Go.RowKit Go.Proofs.Ytmkogcaafkobaaa.Sb
set_option linter.unusedVariables false
set_option maxRecDepth 100000
theorem own2 {w : World} {p : Nat} {t : TypeId} {a b : Value} (h : Own w p t #[a, b]) : w.cell? ⟨p, 0, none⟩ = some a ∧ w.cell? ⟨p, 1, none⟩ = some b := by
  refine ⟨?_, ?_⟩
  · rw [h.cell]; rfl
  · rw [h.cell]; rfl
/-- a cube by value -/
abbrev cubV (y n : Int) : Value := .agg #[.int .i64 y, .int .i64 n]
/-! ## Values -/
/-- how many of the first j arguments have the value t -/
def cntT (vars : Nat) (vs : List Nat) (y nn : Nat) (args : List Nat) (j t : Nat) : Nat := ((args.take j).map (argT vars vs y nn)).count t
theorem cntT_succ {vars : Nat} {vs : List Nat} {y nn : Nat} {args : List Nat} {j : Nat} (h : j < args.length) (t : Nat) : cntT vars vs y nn args (j + 1) t = cntT vars vs y nn args j t + (if argT vars vs y nn (args.getD j 0) = t then 1 else 0) := by
  unfold cntT
  rw [take_args h, List.map_append, List.count_append]
  congr 1
  simp [List.count_cons]
theorem cntT_le {vars : Nat} {vs : List Nat} {y nn : Nat} {args : List Nat} {j t : Nat} : cntT vars vs y nn args j t ≤ j := by
  unfold cntT
  refine Nat.le_trans List.count_le_length ?_
  rw [List.length_map, List.length_take]; omega
theorem argT_rep (vars : Nat) (vs : List Nat) (k y nn a : Nat) : argT vars (vs ++ List.replicate k 0) y nn a = argT vars vs y nn a := by
  unfold argT argE
  rw [getD_rep]
theorem cntT_rep (vars : Nat) (vs : List Nat) (k y nn : Nat) (args : List Nat) (j t : Nat) : cntT vars (vs ++ List.replicate k 0) y nn args j t = cntT vars vs y nn args j t := by
  unfold cntT
  congr 2
  funext a
  exact argT_rep _ _ _ _ _ _
def vrowT (f : Fn) (y nn i : Nat) : List Nat := tvalsTo f y nn i ++ List.replicate (f.nodes.length - i) 0
theorem tvalsTo_len {f : Fn} {y nn i : Nat} (h : i ≤ f.nodes.length) : (tvalsTo f y nn i).length = i := evTo_len h
theorem vrowT_len {f : Fn} {y nn i : Nat} (h : i ≤ f.nodes.length) : (vrowT f y nn i).length = f.nodes.length := by
  unfold vrowT
  rw [List.length_append, tvalsTo_len h, List.length_replicate]; omega
theorem vrowT_zero (f : Fn) (y nn : Nat) : vrowT f y nn 0 = List.replicate f.nodes.length 0 := by
  unfold vrowT tvalsTo; rw [evTo_zero]; rfl
theorem vrowT_full (f : Fn) (y nn : Nat) : vrowT f y nn f.nodes.length = tvals f y nn := by
  unfold vrowT tvals; simp
theorem vrowT_le {f : Fn} {y nn i : Nat} (h : i ≤ f.nodes.length) (a : Nat) : argT f.vars (vrowT f y nn i) y nn a ≤ 2 := by
  unfold vrowT
  rw [argT_rep]
  exact argT_le f y nn i a h
theorem vrowT_succ {f : Fn} {y nn i : Nat} (h : i < f.nodes.length) : (vrowT f y nn i).set i (decT (f.nd i).kind (f.nd i).k (f.nd i).args.length (cntT f.vars (vrowT f y nn i) y nn (f.nd i).args (f.nd i).args.length 0) (cntT f.vars (vrowT f y nn i) y nn (f.nd i).args (f.nd i).args.length 1) (cntT f.vars (vrowT f y nn i) y nn (f.nd i).args (f.nd i).args.length 2)) = vrowT f y nn (i + 1) := by
  have hl : (tvalsTo f y nn i).length = i := tvalsTo_len (by omega)
  obtain ⟨k, hk⟩ : ∃ k, f.nodes.length - i = k + 1 := ⟨f.nodes.length - i - 1, by omega⟩
  unfold vrowT
  rw [cntT_rep, cntT_rep, cntT_rep, hk, show f.nodes.length - (i + 1) = k by omega]
  have e : tvalsTo f y nn (i + 1) = tvalsTo f y nn i ++ [decT (f.nd i).kind (f.nd i).k (f.nd i).args.length (cntT f.vars (tvalsTo f y nn i) y nn (f.nd i).args (f.nd i).args.length 0) (cntT f.vars (tvalsTo f y nn i) y nn (f.nd i).args (f.nd i).args.length 1) (cntT f.vars (tvalsTo f y nn i) y nn (f.nd i).args (f.nd i).args.length 2)] := by
    unfold tvalsTo
    rw [evTo_succ h]
    unfold cmbT
    rw [List.length_map]
    unfold cntT
    rw [List.take_length]
    rfl
  rw [e]
  conv => lhs; arg 2; rw [← hl]
  exact set_rep _ _ _ _
theorem truthN_cast {a b a' b' : Bool} (h1 : a = a') (h2 : b = b') : ((truthN a b : Nat) : Int) = ((truthN a' b' : Nat) : Int) := by rw [h1, h2]
end Go.Proofs.Ytmkogcaafkobaaa.Fm
