/-
  The statement SetsLists, walked: Of and List answer as the specification's do.
-/
import Derived.Test.YteijndnofihgdaaDoorSs9
import Derived.Test.YteijndnofihgdaaDoorSr3
namespace Go.Proofs.YteijndnofihgdaaDoor.Sb
open Go.RowKit
set_option linter.unusedVariables false
set_option maxRecDepth 100000
set_option maxHeartbeats 4000000 in
theorem lists_any (w : World) (A : Option Addr) (n c : Nat) (l : List Int) (s : Int) (R : Rd w A n c (VI l)) (_ : -9223372036854775808 ≤ s ∧ s ≤ 9223372036854775807) (hT : Tab w) :
    Calls Tryd.prog 4 #[.slice A n c, .int .i64 s] w fun e w' => e = .returned (.bool true) ∧ On w w' := by
  have hcap := R.cap
  have hmax := R.max
  by_cases hn : 100 < n
  · go_enter Tryd.func4, Tryd.ntmps4
    go_wp2_with fail
    refine (awake_any _ hT).mono ?_
    rintro e w1 ⟨rfl, P1⟩
    go_wp2
    go_ret
    exact ⟨rfl, P1⟩
  · obtain ⟨x1, y1, V1, W1⟩ : ∃ x y : Nat, (∀ W, Rd W A n c (VI l) → Calls Tryd.prog 28 #[.slice A n c] W fun e w' => e = .returned (.tuple #[.int .i64 (x : Int), errV y]) ∧ W = w') ∧ (∀ W, Rd W A n c (VI l) → Calls Tryd.prog 30 #[.slice A n c] W fun e w' => e = .returned (.tuple #[.int .i64 (x : Int), .int .i64 (y : Int)]) ∧ W = w') := ⟨_, _, fun W h => of_any W A n c l h, fun W h => rof_any W A n c l h⟩
    obtain ⟨l2, y2, V2, W2⟩ : ∃ (l2 : List Int) (y : Nat), (∀ W, Calls Tryd.prog 29 #[.int .i64 s] W (GivesI W l2 y)) ∧ (∀ W, Calls Tryd.prog 31 #[.int .i64 s] W (GivesJ W l2 y)) := ⟨_, _, fun W => list_all W s, fun W => rlist_all W s⟩
    go_enter Tryd.func4, Tryd.ntmps4
    go_wp2_with fail
    refine (awake_any _ hT).mono ?_
    rintro e w1 ⟨rfl, P1⟩
    have R1 := R.on P1
    go_wp2_with fail
    refine (V1 _ R1).mono ?_
    rintro e w' ⟨rfl, rfl⟩
    go_wp2_with fail
    refine (V2 _).mono ?_
    rintro e w2 ⟨A2, n2, c2, rfl, Q2, P2⟩
    have R2 := R1.on P2
    go_wp2_with fail
    refine (W1 _ R2).mono ?_
    rintro e w' ⟨rfl, rfl⟩
    go_wp2_with fail
    refine (W2 _).mono ?_
    rintro e w3 ⟨A3, n3, c3, rfl, Q3, P3⟩
    have Q2' := Q2.on P3
    go_wp2_with fail
    refine (num_any _ y1).mono ?_
    rintro e w' ⟨rfl, rfl⟩
    go_wp2_with fail
    refine (num_any _ y2).mono ?_
    rintro e w' ⟨rfl, rfl⟩
    have hI := ints_any _ _ _ _ _ _ _ _ _ Q2' Q3
    rw [decide_eq_true rfl] at hI
    go_wp2_with fail
    refine hI.mono ?_
    rintro e w4 ⟨rfl, P4⟩
    go_wp2
    go_ret
    exact ⟨rfl, ((P1.trans P2).trans P3).trans P4⟩
end Go.Proofs.YteijndnofihgdaaDoor.Sb
