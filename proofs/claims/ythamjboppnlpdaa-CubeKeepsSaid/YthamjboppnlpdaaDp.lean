/-
  slices.Collect, slices.SortedFunc over slices.Values of cubes.
-/
import Derived.Test.YthamjboppnlpdaaDk
import Derived.Test.YthamjboppnlpdaaDn
namespace Go.Proofs.Ythamjboppnlpdaa.Cu
open Go.RowKit Go.Proofs.Ythamjboppnlpdaa.Sb
set_option linter.unusedVariables false
set_option maxRecDepth 100000
set_option maxHeartbeats 2000000 in
theorem values_any (w : World) (A : Option Addr) (n c : Nat) :
    Calls Try.prog 55 #[.slice A n c] w fun e w' => e = .returned (.func (.func 68) #[] #[.pointer (some ⟨w.heap.size, 0, none⟩)]) ∧ w.alloc (.cells #[.slice A n c] 37) = w' := by
  go_enter Try.func55, Try.ntmps55
  go_wp2
  go_ret
  exact ⟨rfl, rfl⟩
set_option maxHeartbeats 2000000 in
theorem collect_any (w : World) (Bs : Nat) (A : Option Addr) (n c : Nat) (xs : List Cz) (h : RdC w A n c xs) (hn : n ≤ 1024) (hB : Bs < w.heap.size) (hc : w.cell? ⟨Bs, 0, none⟩ = some (.slice A n c)) :
    Calls Try.prog 66 #[.func (.func 68) #[] #[.pointer (some ⟨Bs, 0, none⟩)]] w fun e w' => ∃ A' c', e = .returned (.slice A' n c') ∧ w'.ownsRow w.heap.size 23 2 (.slice A' n c') n (CV xs) ∧ On w w' := by
  have hA := callsIn_wide.1 (It.appendseq_in Fence.wide 3 trivial trivial rfl (by omega) Bs A n c xs w h hn hB hc)
  clear h hB hc
  go_enter Try.func66, Try.ntmps66
  go_wp2_with fail
  refine hA.mono ?_
  rintro e w1 ⟨v, rfl, hrow, hb⟩
  obtain ⟨A', c', rfl, h1, h2⟩ := owns_form hrow
  have HR := Lib.hid (And.intro hrow hb)
  clear hA hrow hb
  go_wp2
  go_ret
  exact ⟨_, _, rfl, HR.out.1, HR.out.2⟩
set_option maxHeartbeats 2000000 in
theorem sorted_ok (w : World) (Bs : Nat) (A : Option Addr) (n c : Nat) (l : List Cb) (h : RdC w A n c (zl l)) (hl : ∀ x ∈ l, OkC x) (hn : n ≤ 1024) (hB : Bs < w.heap.size) (hc : w.cell? ⟨Bs, 0, none⟩ = some (.slice A n c)) :
    Calls Try.prog 54 #[.func (.func 68) #[] #[.pointer (some ⟨Bs, 0, none⟩)], .func (.func 56) #[] #[]] w fun e w' => ∃ A' c', e = .returned (.slice A' n c') ∧ RdC w' A' n c' (zl (sortL l)) ∧ On w w' := by
  have hnl : l.length = n := by have := h.len; rwa [zl_len] at this
  have hC := collect_any w Bs A n c (zl l) h hn hB hc
  have HL := Lib.hid (And.intro hl hnl)
  clear h hB hc hl hnl
  go_enter Try.func54, Try.ntmps54
  go_wp2_with fail
  refine hC.mono ?_
  rintro e w1 ⟨A', c', rfl, hrow, P1⟩
  have hS := sortc_ok w1 w.heap.size A' n c' l HL.out.1 HL.out.2 hn hrow
  have HP := Lib.hid P1
  clear hC hrow P1
  go_wp2_with fail
  refine hS.mono ?_
  rintro e w2 ⟨rfl, hrd, hon⟩
  have HR := Lib.hid (And.intro hrd (hon w HP.out (Nat.le_refl _)))
  clear hS hrd hon
  go_wp2
  go_ret
  exact ⟨_, _, rfl, HR.out.1, HR.out.2⟩
end Go.Proofs.Ythamjboppnlpdaa.Cu
