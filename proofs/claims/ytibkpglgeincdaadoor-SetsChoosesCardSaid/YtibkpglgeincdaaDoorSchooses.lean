/-
  The statement SetsChooses, walked: Next, Choose, Parts and Binomial answer as the specification's do.
-/
import Derived.Test.YtibkpglgeincdaaDoorSs9
import Derived.Test.YtibkpglgeincdaaDoorSc8
import Derived.Test.YtibkpglgeincdaaDoorScb
namespace Go.Proofs.YtibkpglgeincdaaDoor.Sb
open Go.RowKit
set_option linter.unusedVariables false
set_option maxRecDepth 100000
set_option maxHeartbeats 4000000 in
theorem chooses_any (w : World) (s n k : Int) (_ : -9223372036854775808 ≤ s ∧ s ≤ 9223372036854775807) (_ : -9223372036854775808 ≤ n ∧ n ≤ 9223372036854775807) (_ : -9223372036854775808 ≤ k ∧ k ≤ 9223372036854775807) (hT : Tab w) :
    Calls Tryd.prog 3 #[.int .i64 s, .int .i64 n, .int .i64 k] w fun e w' => e = .returned (.bool true) ∧ On w w' := by
  obtain ⟨x1, y1, V1, W1⟩ : ∃ x y : Nat, (∀ W, Tab W → Calls Tryd.prog 6 #[.int .i64 s] W fun e w' => e = .returned (.tuple #[.int .i64 (x : Int), errV y]) ∧ W = w') ∧ (∀ W, Calls Tryd.prog 10 #[.int .i64 s] W fun e w' => e = .returned (.tuple #[.int .i64 (x : Int), .int .i64 (y : Int)]) ∧ On W w') := ⟨_, _, fun W h => next_any W s h, fun W => rnext_any W s⟩
  obtain ⟨l2, y2, V2, W2⟩ : ∃ (l2 : List Nat) (y : Nat), (∀ W, Tab W → Calls Tryd.prog 7 #[.int .i64 n, .int .i64 k] W (GivesI W (ints l2) y)) ∧ (∀ W, Calls Tryd.prog 11 #[.int .i64 n, .int .i64 k] W (GivesC W l2 y)) := ⟨_, _, fun W h => choose_all W n k h, fun W => rchoose_all W n k⟩
  obtain ⟨l3, y3, V3, W3⟩ : ∃ (l3 : List Nat) (y : Nat), (∀ W, Calls Tryd.prog 8 #[.int .i64 s] W (GivesI W (ints l3) y)) ∧ (∀ W, Calls Tryd.prog 12 #[.int .i64 s] W (GivesC W l3 y)) := ⟨_, _, fun W => parts_all W s, fun W => rparts_all W s⟩
  obtain ⟨x4, y4, V4, W4⟩ : ∃ x y : Nat, (∀ W, Calls Tryd.prog 9 #[.int .i64 n, .int .i64 k] W fun e w' => e = .returned (.tuple #[.int .i64 (x : Int), errV y]) ∧ W = w') ∧ (∀ W, Calls Tryd.prog 13 #[.int .i64 n, .int .i64 k] W fun e w' => e = .returned (.tuple #[.int .i64 (x : Int), .int .i64 (y : Int)]) ∧ On W w') := ⟨_, _, fun W => Binomial_all W n k, fun W => rbinomial_all W n k⟩
  go_enter Tryd.func3, Tryd.ntmps3
  go_wp2_with fail
  refine (awake_any _ hT).mono ?_
  rintro e w1 ⟨rfl, P1⟩
  have hT1 := hT.on P1
  go_wp2_with fail
  refine (V1 _ hT1).mono ?_
  rintro e w' ⟨rfl, rfl⟩
  go_wp2_with fail
  refine (V2 _ hT1).mono ?_
  rintro e w2 ⟨A2, n2, c2, rfl, Q2, P2⟩
  go_wp2_with fail
  refine (V3 _).mono ?_
  rintro e w3 ⟨A3, n3, c3, rfl, Q3, P3⟩
  go_wp2_with fail
  refine (V4 _).mono ?_
  rintro e w' ⟨rfl, rfl⟩
  go_wp2_with fail
  refine (W1 _).mono ?_
  rintro e w4 ⟨rfl, P4⟩
  go_wp2_with fail
  refine (W2 _).mono ?_
  rintro e w5 ⟨A5, n5, c5, rfl, Q5, P5⟩
  go_wp2_with fail
  refine (W3 _).mono ?_
  rintro e w6 ⟨A6, n6, c6, rfl, Q6, P6⟩
  go_wp2_with fail
  refine (W4 _).mono ?_
  rintro e w7 ⟨rfl, P7⟩
  have Q2' := Q2.on (P3.trans (P4.trans (P5.trans (P6.trans P7))))
  have Q5' := Q5.on (P6.trans P7)
  have Q3' := Q3.on (P4.trans (P5.trans (P6.trans P7)))
  have Q6' := Q6.on P7
  have PW := P1.trans (P2.trans (P3.trans (P4.trans (P5.trans (P6.trans P7)))))
  go_wp2_with fail
  refine (num_any _ y1).mono ?_
  rintro e w' ⟨rfl, rfl⟩
  go_wp2_with fail
  refine (num_any _ y2).mono ?_
  rintro e w' ⟨rfl, rfl⟩
  have hI := ints_any _ _ _ _ _ _ _ _ _ Q2' Q5'
  rw [decide_eq_true rfl] at hI
  go_wp2_with fail
  refine hI.mono ?_
  rintro e w8 ⟨rfl, P8⟩
  go_wp2_with fail
  refine (num_any _ y3).mono ?_
  rintro e w' ⟨rfl, rfl⟩
  have hJ := ints_any _ _ _ _ _ _ _ _ _ (Q3'.on P8) (Q6'.on P8)
  rw [decide_eq_true rfl] at hJ
  go_wp2_with fail
  refine hJ.mono ?_
  rintro e w9 ⟨rfl, P9⟩
  go_wp2_with fail
  refine (num_any _ y4).mono ?_
  rintro e w' ⟨rfl, rfl⟩
  go_wp2
  go_ret
  exact ⟨rfl, PW.trans (P8.trans P9)⟩
end Go.Proofs.YtibkpglgeincdaaDoor.Sb
