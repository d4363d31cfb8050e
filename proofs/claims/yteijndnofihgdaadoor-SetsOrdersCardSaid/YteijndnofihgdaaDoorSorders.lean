/-
  The statement SetsOrders, walked: Compare is a total order, a proper subset is less, Subset agrees with masks, counts add up.
-/
import Derived.Test.YteijndnofihgdaaDoorSs9
import Derived.Test.YteijndnofihgdaaDoorSb5
namespace Go.Proofs.YteijndnofihgdaaDoor.Sb
open Go.RowKit
set_option linter.unusedVariables false
set_option maxRecDepth 100000
/-- a call that leaves the world -/
abbrev Pure (f : FuncId) (args : Array Value) (v : Value) : Prop := ∀ W : World, Calls Tryd.prog f args W fun e w' => e = .returned v ∧ W = w'
set_option maxHeartbeats 4000000 in
theorem orders_same (w : World) (a b c : Int) (x z n1 n3 : Nat) (hand : bits .and .i64 (x : Int) (x : Int) = (x : Int))
    (hT : Tab w) (X1 : Pure 14 #[.int .i64 a] (.int .i64 (x : Int))) (X2 : Pure 14 #[.int .i64 b] (.int .i64 (x : Int))) (X3 : Pure 14 #[.int .i64 c] (.int .i64 (z : Int)))
    (N1 : Pure 16 #[.int .i64 (bits .or .i64 (x : Int) (x : Int))] (.int .i64 (n1 : Int))) 
    (N3 : Pure 16 #[.int .i64 (x : Int)] (.int .i64 (n3 : Int))) 
    (hn : n1 + n3 = n3 + n3) (hn1 : n1 ≤ 24) (hn2 : n3 ≤ 24)
    (C1 : Pure 22 #[.int .i64 (x : Int), .int .i64 (x : Int)] (.int .i64 0)) (S1 : Pure 20 #[.int .i64 (x : Int), .int .i64 (x : Int)] (.bool true)) :
    Calls Tryd.prog 7 #[.int .i64 a, .int .i64 b, .int .i64 c] w fun e w' => e = .returned (.bool true) ∧ On w w' := by
  have hs : (n1 : Int) + (n3 : Int) = (n3 : Int) + (n3 : Int) := by omega
  have hs1 : wrap64 ((n1 : Int) + (n3 : Int)) = (n1 : Int) + (n3 : Int) := by unfold wrap64; omega
  clear hn hn1 hn2
  go_enter Tryd.func7, Tryd.ntmps7
  go_wp2_with fail
  refine (awake_any _ hT).mono ?_
  rintro e w1 ⟨rfl, P1⟩
  go_wp2_with fail
  refine (X1 _).mono ?_
  rintro e w' ⟨rfl, rfl⟩
  go_wp2_with fail
  refine (X2 _).mono ?_
  rintro e w' ⟨rfl, rfl⟩
  go_wp2_with fail
  refine (X3 _).mono ?_
  rintro e w' ⟨rfl, rfl⟩
  go_wp2_with fail
  refine (C1 _).mono ?_
  rintro e w' ⟨rfl, rfl⟩
  go_wp2_with fail
  refine (C1 _).mono ?_
  rintro e w' ⟨rfl, rfl⟩
  go_wp2_with fail
  refine (C1 _).mono ?_
  rintro e w' ⟨rfl, rfl⟩
  go_wp2_with fail
  refine (C1 _).mono ?_
  rintro e w' ⟨rfl, rfl⟩
  go_wp2_with fail
  refine (S1 _).mono ?_
  rintro e w' ⟨rfl, rfl⟩
  go_wp2_with fail
  refine (S1 _).mono ?_
  rintro e w' ⟨rfl, rfl⟩
  go_wp2_with fail
  refine (N1 _).mono ?_
  rintro e w' ⟨rfl, rfl⟩
  go_wp2_with fail
  refine (N3 _).mono ?_
  rintro e w' ⟨rfl, rfl⟩
  go_wp2_with fail
  refine (N3 _).mono ?_
  rintro e w' ⟨rfl, rfl⟩
  go_wp2_with fail
  refine (N3 _).mono ?_
  rintro e w' ⟨rfl, rfl⟩
  go_wp2
  go_ret
  exact ⟨by simp [*], P1⟩
set_option maxHeartbeats 4000000 in
theorem orders_ltt (w : World) (a b c : Int) (x y z n1 n3 n4 : Nat) (hxy : ¬ (x : Int) = (y : Int)) (hand : bits .and .i64 (x : Int) (y : Int) = (x : Int))
    (hT : Tab w) (X1 : Pure 14 #[.int .i64 a] (.int .i64 (x : Int))) (X2 : Pure 14 #[.int .i64 b] (.int .i64 (y : Int))) (X3 : Pure 14 #[.int .i64 c] (.int .i64 (z : Int)))
    (N1 : Pure 16 #[.int .i64 (bits .or .i64 (x : Int) (y : Int))] (.int .i64 (n1 : Int))) 
    (N3 : Pure 16 #[.int .i64 (x : Int)] (.int .i64 (n3 : Int))) (N4 : Pure 16 #[.int .i64 (y : Int)] (.int .i64 (n4 : Int)))
    (hn : n1 + n3 = n3 + n4) (hn1 : n1 ≤ 24) (hn2 : n3 ≤ 24)
    (C1 : Pure 22 #[.int .i64 (x : Int), .int .i64 (y : Int)] (.int .i64 (-1))) (C2 : Pure 22 #[.int .i64 (y : Int), .int .i64 (x : Int)] (.int .i64 1)) (C3 : Pure 22 #[.int .i64 (y : Int), .int .i64 (z : Int)] (.int .i64 (-1))) (C4 : Pure 22 #[.int .i64 (x : Int), .int .i64 (z : Int)] (.int .i64 (-1))) (S1 : Pure 20 #[.int .i64 (x : Int), .int .i64 (y : Int)] (.bool true)) :
    Calls Tryd.prog 7 #[.int .i64 a, .int .i64 b, .int .i64 c] w fun e w' => e = .returned (.bool true) ∧ On w w' := by
  have hs : (n1 : Int) + (n3 : Int) = (n3 : Int) + (n4 : Int) := by omega
  have hs1 : wrap64 ((n1 : Int) + (n3 : Int)) = (n1 : Int) + (n3 : Int) := by unfold wrap64; omega
  clear hn hn1 hn2
  go_enter Tryd.func7, Tryd.ntmps7
  go_wp2_with fail
  refine (awake_any _ hT).mono ?_
  rintro e w1 ⟨rfl, P1⟩
  go_wp2_with fail
  refine (X1 _).mono ?_
  rintro e w' ⟨rfl, rfl⟩
  go_wp2_with fail
  refine (X2 _).mono ?_
  rintro e w' ⟨rfl, rfl⟩
  go_wp2_with fail
  refine (X3 _).mono ?_
  rintro e w' ⟨rfl, rfl⟩
  go_wp2_with fail
  refine (C1 _).mono ?_
  rintro e w' ⟨rfl, rfl⟩
  go_wp2_with fail
  refine (C2 _).mono ?_
  rintro e w' ⟨rfl, rfl⟩
  go_wp2_with fail
  refine (C1 _).mono ?_
  rintro e w' ⟨rfl, rfl⟩
  go_wp2_with fail
  refine (C1 _).mono ?_
  rintro e w' ⟨rfl, rfl⟩
  go_wp2_with fail
  refine (C3 _).mono ?_
  rintro e w' ⟨rfl, rfl⟩
  go_wp2_with fail
  refine (C4 _).mono ?_
  rintro e w' ⟨rfl, rfl⟩
  go_wp2_with fail
  refine (S1 _).mono ?_
  rintro e w' ⟨rfl, rfl⟩
  go_wp2_with fail
  refine (S1 _).mono ?_
  rintro e w' ⟨rfl, rfl⟩
  go_wp2_with fail
  refine (C1 _).mono ?_
  rintro e w' ⟨rfl, rfl⟩
  go_wp2_with fail
  refine (N1 _).mono ?_
  rintro e w' ⟨rfl, rfl⟩
  go_wp2_with fail
  refine (N3 _).mono ?_
  rintro e w' ⟨rfl, rfl⟩
  go_wp2_with fail
  refine (N3 _).mono ?_
  rintro e w' ⟨rfl, rfl⟩
  go_wp2_with fail
  refine (N4 _).mono ?_
  rintro e w' ⟨rfl, rfl⟩
  go_wp2
  go_ret
  exact ⟨by simp [*], P1⟩
set_option maxHeartbeats 4000000 in
theorem orders_ltf (w : World) (a b c : Int) (x y z n1 n2 n3 n4 : Nat) (hxy : ¬ (x : Int) = (y : Int)) (hand : ¬ bits .and .i64 (x : Int) (y : Int) = (x : Int))
    (hT : Tab w) (X1 : Pure 14 #[.int .i64 a] (.int .i64 (x : Int))) (X2 : Pure 14 #[.int .i64 b] (.int .i64 (y : Int))) (X3 : Pure 14 #[.int .i64 c] (.int .i64 (z : Int)))
    (N1 : Pure 16 #[.int .i64 (bits .or .i64 (x : Int) (y : Int))] (.int .i64 (n1 : Int))) (N2 : Pure 16 #[.int .i64 (bits .and .i64 (x : Int) (y : Int))] (.int .i64 (n2 : Int)))
    (N3 : Pure 16 #[.int .i64 (x : Int)] (.int .i64 (n3 : Int))) (N4 : Pure 16 #[.int .i64 (y : Int)] (.int .i64 (n4 : Int)))
    (hn : n1 + n2 = n3 + n4) (hn1 : n1 ≤ 24) (hn2 : n2 ≤ 24)
    (C1 : Pure 22 #[.int .i64 (x : Int), .int .i64 (y : Int)] (.int .i64 (-1))) (C2 : Pure 22 #[.int .i64 (y : Int), .int .i64 (x : Int)] (.int .i64 1)) (C3 : Pure 22 #[.int .i64 (y : Int), .int .i64 (z : Int)] (.int .i64 (-1))) (C4 : Pure 22 #[.int .i64 (x : Int), .int .i64 (z : Int)] (.int .i64 (-1))) (S1 : Pure 20 #[.int .i64 (x : Int), .int .i64 (y : Int)] (.bool false)) :
    Calls Tryd.prog 7 #[.int .i64 a, .int .i64 b, .int .i64 c] w fun e w' => e = .returned (.bool true) ∧ On w w' := by
  have hs : (n1 : Int) + (n2 : Int) = (n3 : Int) + (n4 : Int) := by omega
  have hs1 : wrap64 ((n1 : Int) + (n2 : Int)) = (n1 : Int) + (n2 : Int) := by unfold wrap64; omega
  clear hn hn1 hn2
  go_enter Tryd.func7, Tryd.ntmps7
  go_wp2_with fail
  refine (awake_any _ hT).mono ?_
  rintro e w1 ⟨rfl, P1⟩
  go_wp2_with fail
  refine (X1 _).mono ?_
  rintro e w' ⟨rfl, rfl⟩
  go_wp2_with fail
  refine (X2 _).mono ?_
  rintro e w' ⟨rfl, rfl⟩
  go_wp2_with fail
  refine (X3 _).mono ?_
  rintro e w' ⟨rfl, rfl⟩
  go_wp2_with fail
  refine (C1 _).mono ?_
  rintro e w' ⟨rfl, rfl⟩
  go_wp2_with fail
  refine (C2 _).mono ?_
  rintro e w' ⟨rfl, rfl⟩
  go_wp2_with fail
  refine (C1 _).mono ?_
  rintro e w' ⟨rfl, rfl⟩
  go_wp2_with fail
  refine (C1 _).mono ?_
  rintro e w' ⟨rfl, rfl⟩
  go_wp2_with fail
  refine (C3 _).mono ?_
  rintro e w' ⟨rfl, rfl⟩
  go_wp2_with fail
  refine (C4 _).mono ?_
  rintro e w' ⟨rfl, rfl⟩
  go_wp2_with fail
  refine (S1 _).mono ?_
  rintro e w' ⟨rfl, rfl⟩
  go_wp2_with fail
  refine (S1 _).mono ?_
  rintro e w' ⟨rfl, rfl⟩
  go_wp2_with fail
  refine (N1 _).mono ?_
  rintro e w' ⟨rfl, rfl⟩
  go_wp2_with fail
  refine (N2 _).mono ?_
  rintro e w' ⟨rfl, rfl⟩
  go_wp2_with fail
  refine (N3 _).mono ?_
  rintro e w' ⟨rfl, rfl⟩
  go_wp2_with fail
  refine (N4 _).mono ?_
  rintro e w' ⟨rfl, rfl⟩
  go_wp2
  go_ret
  exact ⟨by simp [*], P1⟩
set_option maxHeartbeats 4000000 in
theorem orders_gtt (w : World) (a b c : Int) (x y z n1 n3 n4 : Nat) (hxy : ¬ (x : Int) = (y : Int)) (hand : bits .and .i64 (x : Int) (y : Int) = (x : Int)) (c3 : Int) (h3 : ¬ c3 < 0)
    (hT : Tab w) (X1 : Pure 14 #[.int .i64 a] (.int .i64 (x : Int))) (X2 : Pure 14 #[.int .i64 b] (.int .i64 (y : Int))) (X3 : Pure 14 #[.int .i64 c] (.int .i64 (z : Int)))
    (N1 : Pure 16 #[.int .i64 (bits .or .i64 (x : Int) (y : Int))] (.int .i64 (n1 : Int))) 
    (N3 : Pure 16 #[.int .i64 (x : Int)] (.int .i64 (n3 : Int))) (N4 : Pure 16 #[.int .i64 (y : Int)] (.int .i64 (n4 : Int)))
    (hn : n1 + n3 = n3 + n4) (hn1 : n1 ≤ 24) (hn2 : n3 ≤ 24)
    (C1 : Pure 22 #[.int .i64 (x : Int), .int .i64 (y : Int)] (.int .i64 (-1))) (C2 : Pure 22 #[.int .i64 (y : Int), .int .i64 (x : Int)] (.int .i64 1)) (C3 : Pure 22 #[.int .i64 (y : Int), .int .i64 (z : Int)] (.int .i64 c3)) (S1 : Pure 20 #[.int .i64 (x : Int), .int .i64 (y : Int)] (.bool true)) :
    Calls Tryd.prog 7 #[.int .i64 a, .int .i64 b, .int .i64 c] w fun e w' => e = .returned (.bool true) ∧ On w w' := by
  have hs : (n1 : Int) + (n3 : Int) = (n3 : Int) + (n4 : Int) := by omega
  have hs1 : wrap64 ((n1 : Int) + (n3 : Int)) = (n1 : Int) + (n3 : Int) := by unfold wrap64; omega
  clear hn hn1 hn2
  go_enter Tryd.func7, Tryd.ntmps7
  go_wp2_with fail
  refine (awake_any _ hT).mono ?_
  rintro e w1 ⟨rfl, P1⟩
  go_wp2_with fail
  refine (X1 _).mono ?_
  rintro e w' ⟨rfl, rfl⟩
  go_wp2_with fail
  refine (X2 _).mono ?_
  rintro e w' ⟨rfl, rfl⟩
  go_wp2_with fail
  refine (X3 _).mono ?_
  rintro e w' ⟨rfl, rfl⟩
  go_wp2_with fail
  refine (C1 _).mono ?_
  rintro e w' ⟨rfl, rfl⟩
  go_wp2_with fail
  refine (C2 _).mono ?_
  rintro e w' ⟨rfl, rfl⟩
  go_wp2_with fail
  refine (C1 _).mono ?_
  rintro e w' ⟨rfl, rfl⟩
  go_wp2_with fail
  refine (C1 _).mono ?_
  rintro e w' ⟨rfl, rfl⟩
  go_wp2_with fail
  refine (C3 _).mono ?_
  rintro e w' ⟨rfl, rfl⟩
  go_wp2_with fail
  refine (S1 _).mono ?_
  rintro e w' ⟨rfl, rfl⟩
  go_wp2_with fail
  refine (S1 _).mono ?_
  rintro e w' ⟨rfl, rfl⟩
  go_wp2_with fail
  refine (C1 _).mono ?_
  rintro e w' ⟨rfl, rfl⟩
  go_wp2_with fail
  refine (N1 _).mono ?_
  rintro e w' ⟨rfl, rfl⟩
  go_wp2_with fail
  refine (N3 _).mono ?_
  rintro e w' ⟨rfl, rfl⟩
  go_wp2_with fail
  refine (N3 _).mono ?_
  rintro e w' ⟨rfl, rfl⟩
  go_wp2_with fail
  refine (N4 _).mono ?_
  rintro e w' ⟨rfl, rfl⟩
  go_wp2
  go_ret
  exact ⟨by simp [*], P1⟩
set_option maxHeartbeats 4000000 in
theorem orders_gtf (w : World) (a b c : Int) (x y z n1 n2 n3 n4 : Nat) (hxy : ¬ (x : Int) = (y : Int)) (hand : ¬ bits .and .i64 (x : Int) (y : Int) = (x : Int)) (c3 : Int) (h3 : ¬ c3 < 0)
    (hT : Tab w) (X1 : Pure 14 #[.int .i64 a] (.int .i64 (x : Int))) (X2 : Pure 14 #[.int .i64 b] (.int .i64 (y : Int))) (X3 : Pure 14 #[.int .i64 c] (.int .i64 (z : Int)))
    (N1 : Pure 16 #[.int .i64 (bits .or .i64 (x : Int) (y : Int))] (.int .i64 (n1 : Int))) (N2 : Pure 16 #[.int .i64 (bits .and .i64 (x : Int) (y : Int))] (.int .i64 (n2 : Int)))
    (N3 : Pure 16 #[.int .i64 (x : Int)] (.int .i64 (n3 : Int))) (N4 : Pure 16 #[.int .i64 (y : Int)] (.int .i64 (n4 : Int)))
    (hn : n1 + n2 = n3 + n4) (hn1 : n1 ≤ 24) (hn2 : n2 ≤ 24)
    (C1 : Pure 22 #[.int .i64 (x : Int), .int .i64 (y : Int)] (.int .i64 (-1))) (C2 : Pure 22 #[.int .i64 (y : Int), .int .i64 (x : Int)] (.int .i64 1)) (C3 : Pure 22 #[.int .i64 (y : Int), .int .i64 (z : Int)] (.int .i64 c3)) (S1 : Pure 20 #[.int .i64 (x : Int), .int .i64 (y : Int)] (.bool false)) :
    Calls Tryd.prog 7 #[.int .i64 a, .int .i64 b, .int .i64 c] w fun e w' => e = .returned (.bool true) ∧ On w w' := by
  have hs : (n1 : Int) + (n2 : Int) = (n3 : Int) + (n4 : Int) := by omega
  have hs1 : wrap64 ((n1 : Int) + (n2 : Int)) = (n1 : Int) + (n2 : Int) := by unfold wrap64; omega
  clear hn hn1 hn2
  go_enter Tryd.func7, Tryd.ntmps7
  go_wp2_with fail
  refine (awake_any _ hT).mono ?_
  rintro e w1 ⟨rfl, P1⟩
  go_wp2_with fail
  refine (X1 _).mono ?_
  rintro e w' ⟨rfl, rfl⟩
  go_wp2_with fail
  refine (X2 _).mono ?_
  rintro e w' ⟨rfl, rfl⟩
  go_wp2_with fail
  refine (X3 _).mono ?_
  rintro e w' ⟨rfl, rfl⟩
  go_wp2_with fail
  refine (C1 _).mono ?_
  rintro e w' ⟨rfl, rfl⟩
  go_wp2_with fail
  refine (C2 _).mono ?_
  rintro e w' ⟨rfl, rfl⟩
  go_wp2_with fail
  refine (C1 _).mono ?_
  rintro e w' ⟨rfl, rfl⟩
  go_wp2_with fail
  refine (C1 _).mono ?_
  rintro e w' ⟨rfl, rfl⟩
  go_wp2_with fail
  refine (C3 _).mono ?_
  rintro e w' ⟨rfl, rfl⟩
  go_wp2_with fail
  refine (S1 _).mono ?_
  rintro e w' ⟨rfl, rfl⟩
  go_wp2_with fail
  refine (S1 _).mono ?_
  rintro e w' ⟨rfl, rfl⟩
  go_wp2_with fail
  refine (N1 _).mono ?_
  rintro e w' ⟨rfl, rfl⟩
  go_wp2_with fail
  refine (N2 _).mono ?_
  rintro e w' ⟨rfl, rfl⟩
  go_wp2_with fail
  refine (N3 _).mono ?_
  rintro e w' ⟨rfl, rfl⟩
  go_wp2_with fail
  refine (N4 _).mono ?_
  rintro e w' ⟨rfl, rfl⟩
  go_wp2
  go_ret
  exact ⟨by simp [*], P1⟩
set_option maxHeartbeats 4000000 in
theorem orders_great (w : World) (a b c : Int) (x y z n1 n2 n3 n4 : Nat) (hxy : ¬ (x : Int) = (y : Int)) (hand : ¬ bits .and .i64 (x : Int) (y : Int) = (x : Int))
    (hT : Tab w) (X1 : Pure 14 #[.int .i64 a] (.int .i64 (x : Int))) (X2 : Pure 14 #[.int .i64 b] (.int .i64 (y : Int))) (X3 : Pure 14 #[.int .i64 c] (.int .i64 (z : Int)))
    (N1 : Pure 16 #[.int .i64 (bits .or .i64 (x : Int) (y : Int))] (.int .i64 (n1 : Int))) (N2 : Pure 16 #[.int .i64 (bits .and .i64 (x : Int) (y : Int))] (.int .i64 (n2 : Int)))
    (N3 : Pure 16 #[.int .i64 (x : Int)] (.int .i64 (n3 : Int))) (N4 : Pure 16 #[.int .i64 (y : Int)] (.int .i64 (n4 : Int)))
    (hn : n1 + n2 = n3 + n4) (hn1 : n1 ≤ 24) (hn2 : n2 ≤ 24)
    (C1 : Pure 22 #[.int .i64 (x : Int), .int .i64 (y : Int)] (.int .i64 1)) (C2 : Pure 22 #[.int .i64 (y : Int), .int .i64 (x : Int)] (.int .i64 (-1))) (S1 : Pure 20 #[.int .i64 (x : Int), .int .i64 (y : Int)] (.bool false)) :
    Calls Tryd.prog 7 #[.int .i64 a, .int .i64 b, .int .i64 c] w fun e w' => e = .returned (.bool true) ∧ On w w' := by
  have hs : (n1 : Int) + (n2 : Int) = (n3 : Int) + (n4 : Int) := by omega
  have hs1 : wrap64 ((n1 : Int) + (n2 : Int)) = (n1 : Int) + (n2 : Int) := by unfold wrap64; omega
  clear hn hn1 hn2
  go_enter Tryd.func7, Tryd.ntmps7
  go_wp2_with fail
  refine (awake_any _ hT).mono ?_
  rintro e w1 ⟨rfl, P1⟩
  go_wp2_with fail
  refine (X1 _).mono ?_
  rintro e w' ⟨rfl, rfl⟩
  go_wp2_with fail
  refine (X2 _).mono ?_
  rintro e w' ⟨rfl, rfl⟩
  go_wp2_with fail
  refine (X3 _).mono ?_
  rintro e w' ⟨rfl, rfl⟩
  go_wp2_with fail
  refine (C1 _).mono ?_
  rintro e w' ⟨rfl, rfl⟩
  go_wp2_with fail
  refine (C2 _).mono ?_
  rintro e w' ⟨rfl, rfl⟩
  go_wp2_with fail
  refine (C1 _).mono ?_
  rintro e w' ⟨rfl, rfl⟩
  go_wp2_with fail
  refine (C1 _).mono ?_
  rintro e w' ⟨rfl, rfl⟩
  go_wp2_with fail
  refine (S1 _).mono ?_
  rintro e w' ⟨rfl, rfl⟩
  go_wp2_with fail
  refine (S1 _).mono ?_
  rintro e w' ⟨rfl, rfl⟩
  go_wp2_with fail
  refine (N1 _).mono ?_
  rintro e w' ⟨rfl, rfl⟩
  go_wp2_with fail
  refine (N2 _).mono ?_
  rintro e w' ⟨rfl, rfl⟩
  go_wp2_with fail
  refine (N3 _).mono ?_
  rintro e w' ⟨rfl, rfl⟩
  go_wp2_with fail
  refine (N4 _).mono ?_
  rintro e w' ⟨rfl, rfl⟩
  go_wp2
  go_ret
  exact ⟨by simp [*], P1⟩
theorem orders_any (w : World) (a b c : Int) (_ : -9223372036854775808 ≤ a ∧ a ≤ 9223372036854775807) (_ : -9223372036854775808 ≤ b ∧ b ≤ 9223372036854775807) (_ : -9223372036854775808 ≤ c ∧ c ≤ 9223372036854775807) (hT : Tab w) :
    Calls Tryd.prog 7 #[.int .i64 a, .int .i64 b, .int .i64 c] w fun e w' => e = .returned (.bool true) ∧ On w w' := by
  have X1 : Pure 14 #[.int .i64 a] (.int .i64 (cut a : Nat)) := fun W => cut_any W a
  have X2 : Pure 14 #[.int .i64 b] (.int .i64 (cut b : Nat)) := fun W => cut_any W b
  have X3 : Pure 14 #[.int .i64 c] (.int .i64 (cut c : Nat)) := fun W => cut_any W c
  have lx := cut_lt a
  have ly := cut_lt b
  have lz := cut_lt c
  generalize cut a = x at *
  generalize cut b = y at *
  generalize cut c = z at *
  have cx : cut (x : Int) = x := cut_nat x lx
  have cy : cut (y : Int) = y := cut_nat y ly
  have cz : cut (z : Int) = z := cut_nat z lz
  have N1 : Pure 16 #[.int .i64 (bits .or .i64 (x : Int) (y : Int))] (.int .i64 (pc (x ||| y) : Nat)) := fun W => by have := count_any W (bits .or .i64 (x : Int) (y : Int)); rwa [cut_or, cx, cy] at this
  have N2 : Pure 16 #[.int .i64 (bits .and .i64 (x : Int) (y : Int))] (.int .i64 (pc (x &&& y) : Nat)) := fun W => by have := count_any W (bits .and .i64 (x : Int) (y : Int)); rwa [cut_and, cx, cy] at this
  have N3 : Pure 16 #[.int .i64 (x : Int)] (.int .i64 (pc x : Nat)) := fun W => by have := count_any W (x : Int); rwa [cx] at this
  have N4 : Pure 16 #[.int .i64 (y : Int)] (.int .i64 (pc y : Nat)) := fun W => by have := count_any W (y : Int); rwa [cy] at this
  have C1 : Pure 22 #[.int .i64 (x : Int), .int .i64 (y : Int)] (.int .i64 (cmpS x y)) := fun W => by have := compare_any W (x : Int) (y : Int); rwa [cx, cy] at this
  have C2 : Pure 22 #[.int .i64 (y : Int), .int .i64 (x : Int)] (.int .i64 (cmpS y x)) := fun W => by have := compare_any W (y : Int) (x : Int); rwa [cx, cy] at this
  have C3 : Pure 22 #[.int .i64 (y : Int), .int .i64 (z : Int)] (.int .i64 (cmpS y z)) := fun W => by have := compare_any W (y : Int) (z : Int); rwa [cy, cz] at this
  have C4 : Pure 22 #[.int .i64 (x : Int), .int .i64 (z : Int)] (.int .i64 (cmpS x z)) := fun W => by have := compare_any W (x : Int) (z : Int); rwa [cx, cz] at this
  have S1 : Pure 20 #[.int .i64 (x : Int), .int .i64 (y : Int)] (.bool (x &&& y == x)) := fun W => by have := subset_any W (x : Int) (y : Int); rwa [cx, cy, without_and] at this
  have hn := pc_add x y
  have h1 := pc_le (x ||| y)
  have h2 := pc_le (x &&& y)
  have hand := and_nat x y lx ly
  have e21 := cmpS_neg y x
  have r1 := cmpS_range x y
  have r4 := cmpS_range x z
  by_cases hxy : x = y
  · subst hxy
    have e1 := (cmpS_eq x x).2 rfl
    rw [e1] at C1 C2
    have es : (x &&& x == x) = true := by rw [Nat.and_self]; simp
    rw [es] at S1
    rw [Nat.and_self] at hand
    rw [Nat.and_self] at hn h2
    exact orders_same w a b c x z _ _ hand hT X1 X2 X3 N1 N3 hn h1 h2 C1 S1
  · have hxy' : ¬ (x : Int) = (y : Int) := by clear hand; omega
    have hne : cmpS x y ≠ 0 := fun e => hxy ((cmpS_eq x y).1 e)
    rw [e21] at C2
    have hlt1 : cmpS x y = -1 → cmpS y z < 0 → cmpS x z = -1 := fun h3 h4 => by
      have := cmpS_trans x y z (by rw [h3]; decide) h4
      rcases r4 with h5 | h5 | h5 <;> omega
    rcases r1 with r1 | r1 | r1
    · rw [r1] at C1 C2
      by_cases hs : x &&& y = x
      · have es : (x &&& y == x) = true := by simpa using hs
        rw [es] at S1
        rw [hs] at hand hn h2
        by_cases h3 : cmpS y z < 0
        · have e3 : cmpS y z = -1 := by rcases cmpS_range y z with h5 | h5 | h5 <;> omega
          rw [hlt1 r1 h3] at C4
          rw [e3] at C3
          exact orders_ltt w a b c x y z _ _ _ hxy' hand hT X1 X2 X3 N1 N3 N4 hn h1 h2 C1 C2 C3 C4 S1
        · exact orders_gtt w a b c x y z _ _ _ hxy' hand _ h3 hT X1 X2 X3 N1 N3 N4 hn h1 h2 C1 C2 C3 S1
      · have es : (x &&& y == x) = false := by simpa using hs
        rw [es] at S1
        have hand2 : ¬ bits .and .i64 (x : Int) (y : Int) = (x : Int) := by rw [hand]; intro e; exact hs (Int.ofNat.inj e)
        by_cases h3 : cmpS y z < 0
        · have e3 : cmpS y z = -1 := by rcases cmpS_range y z with h5 | h5 | h5 <;> omega
          rw [hlt1 r1 h3] at C4
          rw [e3] at C3
          exact orders_ltf w a b c x y z _ _ _ _ hxy' hand2 hT X1 X2 X3 N1 N2 N3 N4 hn h1 h2 C1 C2 C3 C4 S1
        · exact orders_gtf w a b c x y z _ _ _ _ hxy' hand2 _ h3 hT X1 X2 X3 N1 N2 N3 N4 hn h1 h2 C1 C2 C3 S1
    · exact absurd r1 hne
    · rw [r1] at C1 C2
      have hs : ¬ x &&& y = x := fun e => by
        have h3 := pc_sub x y lx ly e hxy
        have h4 : cmpS x y < 0 := (cmpS_lt x y).2 (.inl h3)
        omega
      have es : (x &&& y == x) = false := by simpa using hs
      rw [es] at S1
      have hand2 : ¬ bits .and .i64 (x : Int) (y : Int) = (x : Int) := by rw [hand]; intro e; exact hs (Int.ofNat.inj e)
      exact orders_great w a b c x y z _ _ _ _ hxy' hand2 hT X1 X2 X3 N1 N2 N3 N4 hn h1 h2 C1 C2 S1
end Go.Proofs.YteijndnofihgdaaDoor.Sb
