/-
  Support and Size of the program and of the specification.
-/
import Derived.Test.YtmkogcaafkobaaaFb
namespace Go.Proofs.Ytmkogcaafkobaaa.Fm
open Go.RowKit Go.Proofs.Ytmkogcaafkobaaa.Sb
set_option linter.unusedVariables false
set_option maxRecDepth 100000
theorem need_get (f : Fn) (t : Nat) : ((bel f).drop f.vars).getD t false = mk f (f.vars + t) := by
  unfold mk
  rw [List.getD_eq_getElem?_getD, List.getElem?_drop, List.getD_eq_getElem?_getD]
theorem siz_le {f : Fn} (hf : WF f) (j : Nat) (hj : j ≤ f.nodes.length) : (sizTo (bel f) f.vars f.nodes j).1 ≤ 128 ∧ (sizTo (bel f) f.vars f.nodes j).2 ≤ 2048 := by
  have h1 := hf.2.1
  obtain ⟨a, b⟩ := sizTo_le (bel f) f.vars f.nodes j 16 (fun i hi => hf.len (show i < f.nodes.length by omega))
  omega
set_option maxHeartbeats 8000000 in
theorem support_ok (w : World) (f : Fn) (hf : WF f) (A : Option Addr) (n c : Nat) (h : RdN w A n c (rawL f.nodes)) :
    Calls Try.prog 19 #[.agg #[.int .i64 (f.vars : Int), .slice A n c, .int .i64 (f.top : Int)]] w fun e w' => e = .returned (.tuple #[.int .i64 (sup f : Nat), .nilIface]) ∧ On w w' := by
  have hn : f.nodes.length = n := by have := h.len; rwa [raw_len] at this
  have hcap := h.cap
  have hmax := h.max
  have hv := hf.1
  have hn128 := hf.2.1
  have htop := hf.2.2.2
  rw [hn] at hn128 htop
  obtain ⟨q, hq⟩ : ∃ q, w.heap.size = q := ⟨_, rfl⟩
  obtain ⟨w0, hw0⟩ : ∃ w0, w.alloc (.cells #[.int .i64 (f.vars : Int), .slice A n c, .int .i64 (f.top : Int)] 24) = w0 := ⟨_, rfl⟩
  have O0 : Own w0 q 24 #[.int .i64 (f.vars : Int), .slice A n c, .int .i64 (f.top : Int)] := by rw [← hw0, ← hq]; exact Own.new _ _ _
  have P0 : On w w0 := by rw [← hw0]; exact (On.refl w).alloc _
  have hC := check_any w0 (f.vars : Int) (f.top : Int) A n c _ (h.on P0) (by unfold I64; omega) (by unfold I64; omega)
  rw [chk_ok hf, errV_zero, ← hw0] at hC
  have hB := fun W (k : On w W) => below_ok W f hf A n c (h.on k)
  have HO := Lib.hid (And.intro O0 (And.intro P0 hw0))
  have HR := Lib.hid h
  have HN := Lib.hid hn
  have HF := Lib.hid hf
  clear h hn hf O0 P0 hw0
  go_enter Try.func19, Try.ntmps19
  go_wp2_with fail
  refine hC.mono ?_
  rintro e w1 ⟨rfl, P1⟩
  rw [HO.out.2.2] at P1
  clear hC
  have O1 := HO.out.1.on P1
  have r0 := O1.cell 0
  have r1 := O1.cell 1
  have r2 := O1.cell 2
  simp at r0 r1 r2
  have P01 := HO.out.2.1.trans P1
  have hB2 := hB w1 P01
  have H1 := Lib.hid (And.intro O1 P01)
  clear O1 hB P1 P01
  go_wp2_with fail
  refine hB2.mono ?_
  rintro e w2 ⟨B, d, rfl, hM, P2⟩
  go_wp2
  go_ret2
  exact ⟨rfl, H1.out.2.trans P2⟩
end Go.Proofs.Ytmkogcaafkobaaa.Fm
