/-
  The example of the statements of three values.
-/
import Derived.Test.YtcnelmklfdfilaaKs
namespace Go.Proofs.Ytcnelmklfdfilaa.Fm
open Go.RowKit Go.Proofs.Ytcnelmklfdfilaa.Sb
set_option linter.unusedVariables false
set_option maxRecDepth 100000
set_option maxHeartbeats 8000000 in
theorem awake9_any (w : World) : Calls Try.prog 9 #[] w fun e w' => e = .returned (.bool true) ∧ On w w' := by
  have hE := fun W => example9_any W
  have hV1 := fun W A c (h : RdN W A 2 c (rawL ex9.nodes)) => tvalue_ok W ex9 ex9_wf A 2 c h 1 0 (by decide) (by decide) (fun a h => by simp at h)
  have hV2 := fun W A c (h : RdN W A 2 c (rawL ex9.nodes)) => tvalue_ok W ex9 ex9_wf A 2 c h 0 1 (by decide) (by decide) (fun a h => by simp at h)
  have hS := fun W A c (h : RdN W A 2 c (rawL ex9.nodes)) => tnext_ok W ex9 ex9_wf A 2 c h 0 1 (by decide) (by decide) (fun a h => by simp at h)
  rw [ex9_10] at hV1
  rw [ex9_01] at hV2
  rw [ex9_n] at hS
  have v3 : (ex9.vars : Int) = 3 := rfl
  have t4 : (ex9.top : Int) = 4 := rfl
  rw [v3, t4] at hV1 hV2 hS
  clear v3 t4
  go_enter Try.func9, Try.ntmps9
  go_wp2_with fail
  refine (hE _).mono ?_
  rintro e w1 ⟨A1, c1, rfl, R1, P1⟩
  go_wp2_with fail
  refine (hV1 _ _ _ R1).mono ?_
  rintro e w2 ⟨rfl, P2⟩
  go_wp2_with fail
  refine (hE _).mono ?_
  rintro e w3 ⟨A3, c3, rfl, R3, P3⟩
  go_wp2_with fail
  refine (hV2 _ _ _ R3).mono ?_
  rintro e w4 ⟨rfl, P4⟩
  go_wp2_with fail
  refine (hE _).mono ?_
  rintro e w5 ⟨A5, c5, rfl, R5, P5⟩
  go_wp2_with fail
  refine (hS _ _ _ R5).mono ?_
  rintro e w6 ⟨rfl, P6⟩
  have PF := ((((P1.trans P2).trans P3).trans P4).trans P5).trans P6
  clear hE hV1 hV2 hS R1 R3 R5 P1 P2 P3 P4 P5 P6
  go_wp2
  go_ret
  exact ⟨rfl, PF⟩
end Go.Proofs.Ytcnelmklfdfilaa.Fm
