/-
  What the statements about formulas begin with: the document's example.
-/
import Derived.Test.YtpllgpjplliadaaFi
namespace Go.Proofs.Ytpllgpjplliadaa.Fm
open Go.RowKit Go.Proofs.Ytpllgpjplliadaa.Sb
set_option linter.unusedVariables false
set_option maxRecDepth 100000
def ex : Fn := ⟨3, [⟨2, 0, [0, 1]⟩, ⟨4, 2, [0, 2, 3]⟩], 4⟩
theorem ex_wf : WF ex := by
  refine ⟨by decide, by decide, fun i hi => ?_, by decide⟩
  have : i = 0 ∨ i = 1 := by
    have : ex.nodes.length = 2 := rfl
    omega
  rcases this with rfl | rfl
  · refine ⟨by decide, by decide, by decide, by decide, by decide, by decide, by decide⟩
  · refine ⟨by decide, by decide, by decide, by decide, by decide, by decide, by decide⟩
theorem ex_3 : val ex 3 = true := by decide +kernel
theorem ex_1 : val ex 1 = false := by decide +kernel
theorem ex_s : sup ex = 7 := by decide +kernel
theorem own_alloc1 {w : World} {b : Nat} {t : TypeId} {cur : Array Value} (hb : w.heap.size = b) : Own (w.alloc (.cells cur t)) b t cur := by rw [← hb]; exact Own.new _ _ _
theorem size_alloc {w : World} {b : Nat} {o : Obj} (hb : w.heap.size = b) : (w.alloc o).heap.size = b + 1 := by simp [hb]
theorem rd_own {w : World} {g : Nat} {t : TypeId} {cur : Array Value} {vs : List Value} {n : Nat} (h : Own w g t cur) (hv : cur.toList = vs) (hn : vs.length = n) (hs : n ≤ 1000000) : Rd w (some ⟨g, 0, none⟩) n n vs := by
  refine ⟨hn, by omega, by omega, fun e => (by cases e), fun _ => ⟨_, rfl, h.lt, fun j u hj => ?_⟩⟩
  rw [add_plain, h.cell, Nat.zero_add, ← Array.getElem?_toList, hv]
  exact hj
theorem rdN_two {w : World} {g : Nat} {a b : Nn} {P P' : Option Addr} {m k m' k' : Nat} (h : Own w g 57 #[.int .i64 (a.kind : Int), .int .i64 (a.k : Int), .slice P m k, .int .i64 (b.kind : Int), .int .i64 (b.k : Int), .slice P' m' k']) (h1 : Rd w P m k (VI (ints a.args))) (h2 : Rd w P' m' k' (VI (ints b.args))) : RdN w (some ⟨g, 0, none⟩) 2 2 (rawL [a, b]) := by
  refine ⟨rfl, by omega, by omega, fun e => (by cases e), fun _ => ⟨_, rfl, h.lt, fun j hj => ?_⟩⟩
  rw [add_plain]
  have : j = 0 ∨ j = 1 := by omega
  rcases this with rfl | rfl
  · exact ⟨P, m, k, by rw [h.cell]; rfl, by rw [h.cell]; rfl, by rw [h.cell]; rfl, h1⟩
  · exact ⟨P', m', k', by rw [h.cell]; rfl, by rw [h.cell]; rfl, by rw [h.cell]; rfl, h2⟩
end Go.Proofs.Ytpllgpjplliadaa.Fm
