/-
  Package sets without its shelf: Valid, Cut, Count.
-/
import Derived.Test.YthamjboppnlpdaaProg
import Derived.Test.YthamjboppnlpdaaSb0
import Derived.Test.YthamjboppnlpdaaSb1
import Derived.Test.YthamjboppnlpdaaSb2
import Derived.WalkKit
import Derived.WalkSpells
import Derived.Lib.Hide
import Derived.Laws.Bits128
namespace Go.Proofs.Ythamjboppnlpdaa.Sb
open Go.RowKit
set_option linter.unusedVariables false
theorem ret_i {k : IntKind} {a b : Int} (h : a = b) : Ending.returned (.int k a) = .returned (.int k b) := by rw [h]
theorem ret_b {a b : Bool} (h : a = b) : Ending.returned (.bool a) = .returned (.bool b) := by rw [h]
set_option maxHeartbeats 400000 in
theorem valid_any (w : World) (s : Int) :
    Calls Try.prog 45 #[.int .i64 s] w fun e w' => e = .returned (.bool (decide (0 ≤ s ∧ s < 16777216))) ∧ w = w' := by
  have hd : decide (0 ≤ s ∧ s < 16777216) = (decide (0 ≤ s) && decide (s ≤ 16777215)) := by
    by_cases h1 : 0 ≤ s <;> by_cases h2 : s ≤ 16777215 <;> simp [h1, h2] <;> omega
  rw [hd]
  by_cases h : 0 ≤ s
  · go_enter Try.func45, Try.ntmps45
    go_wp2
    go_ret
    exact ⟨ret_b (by simp [h]), rfl⟩
  · go_enter Try.func45, Try.ntmps45
    go_wp2
    go_ret
    exact ⟨ret_b (by rw [decide_eq_false (show ¬ 0 ≤ s by omega)]; rfl), rfl⟩
set_option maxHeartbeats 400000 in
theorem cut_any (w : World) (s : Int) :
    Calls Try.prog 65 #[.int .i64 s] w fun e w' => e = .returned (.int .i64 (cut s : Nat)) ∧ w = w' := by
  go_enter Try.func65, Try.ntmps65
  go_wp2
  go_ret
  exact ⟨ret_i (and_full s), rfl⟩
theorem u64n (n : Nat) (h : n < 18446744073709551616) : IntKind.u64.wrap (n : Int) = (n : Int) := by rw [IntKind.wrap_u64]; omega
theorem road1_run (c : Nat) (hc : c < 16777216) : IntKind.u64.wrap (bits .and .u64 ((c : Int) / 2) 6148914691236517205 + bits .and .u64 (c : Int) 6148914691236517205) = (road1 c : Nat) := by
  have a1 := u64_and_nat (c / 2) 6148914691236517205 (by omega) (by omega)
  have a2 := u64_and_nat c 6148914691236517205 (by omega) (by omega)
  have hl := (road_lt c hc).1
  unfold road1 at hl ⊢
  rw [show ((c : Int) / 2) = ((c / 2 : Nat) : Int) by omega]
  rw [show ((6148914691236517205 : Nat) : Int) = 6148914691236517205 from rfl] at a1 a2
  rw [a1, a2, ← Int.natCast_add, u64n _ (by omega)]
theorem road2_run (c : Nat) (hc : c < 16777216) (hl : road2 c < 16777216) : IntKind.u64.wrap (bits .and .u64 ((c : Int) / 4) 3689348814741910323 + bits .and .u64 (c : Int) 3689348814741910323) = (road2 c : Nat) := by
  have a1 := u64_and_nat (c / 4) 3689348814741910323 (by omega) (by omega)
  have a2 := u64_and_nat c 3689348814741910323 (by omega) (by omega)
  unfold road2 at hl ⊢
  rw [show ((c : Int) / 4) = ((c / 4 : Nat) : Int) by omega]
  rw [show ((3689348814741910323 : Nat) : Int) = 3689348814741910323 from rfl] at a1 a2
  rw [a1, a2, ← Int.natCast_add, u64n _ (by omega)]
theorem road3_run (c : Nat) (hc : c < 16777216) : bits .and .u64 (IntKind.u64.wrap ((c : Int) / 16 + (c : Int))) 1085102592571150095 = (road3 c : Nat) := by
  have a1 := u64_and_nat (c / 16 + c) 1085102592571150095 (by omega) (by omega)
  unfold road3
  rw [show ((c : Int) / 16 + (c : Int)) = ((c / 16 + c : Nat) : Int) by omega, u64n _ (by omega)]
  rw [show ((1085102592571150095 : Nat) : Int) = 1085102592571150095 from rfl] at a1
  exact a1
set_option maxHeartbeats 400000 in
theorem ones64_any (w : World) (c : Nat) (hc : c < 16777216) :
    Calls Try.prog 75 #[.int .u64 (c : Int)] w fun e w' => e = .returned (.int .i64 (Lib.popAux 24 c : Nat)) ∧ w = w' := by
  obtain ⟨l1, l2, _⟩ := road_lt c hc
  obtain ⟨y, ey, hy, eq⟩ := road_all c hc
  generalize Lib.popAux 24 c = r at eq ⊢
  go_enter Try.func75, Try.ntmps75
  go_wp2
  go_ret
  refine ⟨ret_i ?_, rfl⟩
  rw [road1_run c hc, road2_run _ l1 l2, road3_run _ l2, ey]
  have i64127 := i64_and127
  rw [i64_and127, ← eq]
  clear ey l1 l2 hc
  simp only [IntKind.wrap_u64, wrap64]
  have e1 : ((y : Int) + (y : Int) / 256) % 18446744073709551616 = ((y + y / 256 : Nat) : Int) := by omega
  rw [e1]
  have hz : y + y / 256 < 33554432 := by omega
  generalize y + y / 256 = z at *
  have e2 : ((z : Int) + (z : Int) / 65536) % 18446744073709551616 = ((z + z / 65536 : Nat) : Int) := by omega
  rw [e2]
  have hz2 : z + z / 65536 < 67108864 := by omega
  generalize z + z / 65536 = x at *
  have e3 : (x : Int) / 4294967296 = 0 := by omega
  rw [e3, Int.add_zero]
  have e4 : (x : Int) % 18446744073709551616 = x := by omega
  rw [e4]
  have e5 : ((x : Int) + 9223372036854775808) % 18446744073709551616 - 9223372036854775808 = x := by omega
  rw [e5]
  omega
set_option maxHeartbeats 400000 in
theorem ones_any (w : World) (c : Nat) (hc : c < 16777216) :
    Calls Try.prog 64 #[.int .u64 (c : Int)] w fun e w' => e = .returned (.int .i64 (Lib.popAux 24 c : Nat)) ∧ w = w' := by
  have hS := fun W => ones64_any W c hc
  generalize Lib.popAux 24 c = r at hS ⊢
  go_enter Try.func64, Try.ntmps64
  go_wp2_with (refine (hS _).mono ?_; rintro e w' ⟨rfl, rfl⟩)
  go_ret
  exact ⟨rfl, rfl⟩
set_option maxHeartbeats 400000 in
theorem count_any (w : World) (s : Int) :
    Calls Try.prog 49 #[.int .i64 s] w fun e w' => e = .returned (.int .i64 (pc (cut s) : Nat)) ∧ w = w' := by
  have hu : IntKind.u64.wrap ((cut s : Nat) : Int) = ((cut s : Nat) : Int) := u64n _ (by have := cut_lt' s; omega)
  have hC := fun W => cut_any W s
  have hS := fun W => ones_any W (cut s) (cut_lt' s)
  rw [pc_pop]
  generalize Lib.popAux 24 (cut s) = r at hS ⊢
  generalize cut s = c at *
  go_enter Try.func49, Try.ntmps49
  go_wp2_with (first | (refine (hC _).mono ?_; rintro e w' ⟨rfl, rfl⟩) | (refine (hS _).mono ?_; rintro e w' ⟨rfl, rfl⟩))
  go_ret
  exact ⟨rfl, rfl⟩
end Go.Proofs.Ythamjboppnlpdaa.Sb
