/-
  Trim of the program.
-/
import Derived.Test.YtmkogcaafkobaaaFr
import Derived.Deep.RegionHeld3
namespace Go.Proofs.Ytmkogcaafkobaaa.Fm
open Go.RowKit Go.Proofs.Ytmkogcaafkobaaa.Sb
set_option linter.unusedVariables false
set_option maxRecDepth 100000
/-- a node with new numbers of its arguments -/
def renum (num : List Nat) (x : Nn) : Nn := ⟨x.kind, x.k, x.args.map fun a => num.getD a 0⟩
/-- the new numbers and the new nodes after i nodes -/
def trTo (f : Fn) : Nat → List Nat × List Nn
  | 0 => (List.range f.vars ++ List.replicate f.nodes.length 0, [])
  | i + 1 => if mk f (f.vars + i) = true then ((trTo f i).1.set (f.vars + i) (f.vars + (trTo f i).2.length), (trTo f i).2 ++ [renum (trTo f i).1 (f.nd i)]) else trTo f i
def trim (f : Fn) : Fn := ⟨f.vars, (trTo f f.nodes.length).2, (trTo f f.nodes.length).1.getD f.top 0⟩
theorem range_set (t k : Nat) : (List.range t ++ List.replicate (k + 1) 0).set t t = List.range (t + 1) ++ List.replicate k 0 := by
  have := set_rep (List.range t) t 0 k
  rw [List.length_range] at this
  rw [this, List.range_succ]
theorem trTo_len (f : Fn) (i : Nat) : (trTo f i).1.length = f.vars + f.nodes.length ∧ (trTo f i).2.length ≤ i := by
  induction i with
  | zero => simp [trTo]
  | succ i ih =>
    rw [trTo]
    split
    · simp [ih.1]; omega
    · omega
theorem trTo_le (f : Fn) (i : Nat) : ∀ a, (trTo f i).1.getD a 0 ≤ f.vars + i := by
  induction i with
  | zero =>
    intro a
    rw [trTo]
    simp only
    rw [getD_rep, List.getD_eq_getElem?_getD]
    by_cases h : a < f.vars
    · rw [List.getElem?_range h]; simp; omega
    · rw [List.getElem?_eq_none (by simp; omega)]; simp
  | succ i ih =>
    intro a
    have h2 := (trTo_len f i).2
    rw [trTo]
    split
    · simp only
      rw [getD_set]
      split
      · omega
      · have := ih a; omega
    · have := ih a; omega
/-- the number of a node is set before its arguments are renumbered: that turns nothing -/
theorem renum_set (num : List Nat) (p v : Nat) (args : List Nat) (h : ∀ a ∈ args, a < p) : (args.map fun a => (num.set p v).getD a 0) = args.map fun a => num.getD a 0 := by
  refine List.map_congr_left fun a ha => ?_
  rw [getD_set, if_neg]
  have := h a ha
  omega
theorem own3 {w : World} {p : Nat} {t : TypeId} {a b c : Value} (h : Own w p t #[a, b, c]) : w.cell? ⟨p, 0, none⟩ = some a ∧ w.cell? ⟨p, 1, none⟩ = some b ∧ w.cell? ⟨p, 2, none⟩ = some c := by
  refine ⟨?_, ?_, ?_⟩
  · rw [h.cell]; rfl
  · rw [h.cell]; rfl
  · rw [h.cell]; rfl
theorem own_by {w w' : World} {g : Nat} {t : TypeId} {cur : Array Value} {row : Option Nat} (h : Own w g t cur) (k : w.grownBy w' row) (hr : ∀ b, row = some b → b ≠ g) : Own w' g t cur :=
  (k.block g h.lt (fun e => hr g e.symm rfl)).trans h
theorem on_by {a b c : World} {row : Option Nat} (h : On a b) (k : b.grownBy c row) (hr : ∀ g, row = some g → a.heap.size ≤ g) : On a c := Below.grown h k h.size (fun g e => hr g e)
end Go.Proofs.Ytmkogcaafkobaaa.Fm
