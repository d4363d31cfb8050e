/-
  Package sets: Valid, Cut, Count, Has, Subset, Compare, Least, Greatest.
-/
import Derived.Test.YtakkbemldccekaaDoorShelf
import Derived.Test.YtakkbemldccekaaDoorSb0
import Derived.Test.YtakkbemldccekaaDoorSb1
import Derived.Test.YtakkbemldccekaaDoorSb2
import Derived.WalkKit
import Derived.WalkSpells
import Derived.Lib.Hide
import Derived.Laws.Bits128
namespace Go.Proofs.YtakkbemldccekaaDoor.Sb
open Go.RowKit
set_option linter.unusedVariables false
theorem ret_i {k : IntKind} {a b : Int} (h : a = b) : Ending.returned (.int k a) = .returned (.int k b) := by rw [h]
theorem ret_b {a b : Bool} (h : a = b) : Ending.returned (.bool a) = .returned (.bool b) := by rw [h]
set_option maxHeartbeats 400000 in
theorem valid_any (w : World) (s : Int) :
    Calls Tryd.prog 54 #[.int .i64 s] w fun e w' => e = .returned (.bool (decide (0 ≤ s ∧ s < 16777216))) ∧ w = w' := by
  have hd : decide (0 ≤ s ∧ s < 16777216) = (decide (0 ≤ s) && decide (s ≤ 16777215)) := by
    by_cases h1 : 0 ≤ s <;> by_cases h2 : s ≤ 16777215 <;> simp [h1, h2] <;> omega
  rw [hd]
  by_cases h : 0 ≤ s
  · go_enter Tryd.func54, Tryd.ntmps54
    go_wp2
    go_ret
    exact ⟨ret_b (by simp [h]), rfl⟩
  · go_enter Tryd.func54, Tryd.ntmps54
    go_wp2
    go_ret
    exact ⟨ret_b (by rw [decide_eq_false (show ¬ 0 ≤ s by omega)]; rfl), rfl⟩
set_option maxHeartbeats 400000 in
theorem cut_any (w : World) (s : Int) :
    Calls Tryd.prog 26 #[.int .i64 s] w fun e w' => e = .returned (.int .i64 (cut s : Nat)) ∧ w = w' := by
  go_enter Tryd.func26, Tryd.ntmps26
  go_wp2
  go_ret
  exact ⟨ret_i (and_full s), rfl⟩
theorem u64n (n : Nat) (h : n < 18446744073709551616) : IntKind.u64.wrap (n : Int) = (n : Int) := by rw [IntKind.wrap_u64]; omega
theorem road1_run (c : Nat) (hc : c < 16777216) : IntKind.u64.wrap (bits .and .u64 ((c : Int) / 2) 6148914691236517205 + bits .and .u64 (c : Int) 6148914691236517205) = (road1 c : Nat) := by
  have a1 := u64_and_nat (c / 2) 6148914691236517205 (by omega) (by omega)
  have a2 := u64_and_nat c 6148914691236517205 (by omega) (by omega)
  have hl := (road_lt c hc).1
  unfold road1 at hl ⊢
  rw [show ((c : Int) / 2) = ((c / 2 : Nat) : Int) by omega]
  rw [show ((6148914691236517205 : Nat) : Int) = 6148914691236517205 from rfl] at a1 a2
  rw [a1, a2, ← Int.natCast_add, u64n _ (by omega)]
theorem road2_run (c : Nat) (hc : c < 16777216) (hl : road2 c < 16777216) : IntKind.u64.wrap (bits .and .u64 ((c : Int) / 4) 3689348814741910323 + bits .and .u64 (c : Int) 3689348814741910323) = (road2 c : Nat) := by
  have a1 := u64_and_nat (c / 4) 3689348814741910323 (by omega) (by omega)
  have a2 := u64_and_nat c 3689348814741910323 (by omega) (by omega)
  unfold road2 at hl ⊢
  rw [show ((c : Int) / 4) = ((c / 4 : Nat) : Int) by omega]
  rw [show ((3689348814741910323 : Nat) : Int) = 3689348814741910323 from rfl] at a1 a2
  rw [a1, a2, ← Int.natCast_add, u64n _ (by omega)]
theorem road3_run (c : Nat) (hc : c < 16777216) : bits .and .u64 (IntKind.u64.wrap ((c : Int) / 16 + (c : Int))) 1085102592571150095 = (road3 c : Nat) := by
  have a1 := u64_and_nat (c / 16 + c) 1085102592571150095 (by omega) (by omega)
  unfold road3
  rw [show ((c : Int) / 16 + (c : Int)) = ((c / 16 + c : Nat) : Int) by omega, u64n _ (by omega)]
  rw [show ((1085102592571150095 : Nat) : Int) = 1085102592571150095 from rfl] at a1
  exact a1
set_option maxHeartbeats 400000 in
theorem ones64_any (w : World) (c : Nat) (hc : c < 16777216) :
    Calls Tryd.prog 77 #[.int .u64 (c : Int)] w fun e w' => e = .returned (.int .i64 (Lib.popAux 24 c : Nat)) ∧ w = w' := by
  obtain ⟨l1, l2, _⟩ := road_lt c hc
  obtain ⟨y, ey, hy, eq⟩ := road_all c hc
  generalize Lib.popAux 24 c = r at eq ⊢
  go_enter Tryd.func77, Tryd.ntmps77
  go_wp2
  go_ret
  refine ⟨ret_i ?_, rfl⟩
  rw [road1_run c hc, road2_run _ l1 l2, road3_run _ l2, ey]
  have i64127 := i64_and127
  rw [i64_and127, ← eq]
  clear ey l1 l2 hc
  simp only [IntKind.wrap_u64, wrap64]
  have e1 : ((y : Int) + (y : Int) / 256) % 18446744073709551616 = ((y + y / 256 : Nat) : Int) := by omega
  rw [e1]
  have hz : y + y / 256 < 33554432 := by omega
  generalize y + y / 256 = z at *
  have e2 : ((z : Int) + (z : Int) / 65536) % 18446744073709551616 = ((z + z / 65536 : Nat) : Int) := by omega
  rw [e2]
  have hz2 : z + z / 65536 < 67108864 := by omega
  generalize z + z / 65536 = x at *
  have e3 : (x : Int) / 4294967296 = 0 := by omega
  rw [e3, Int.add_zero]
  have e4 : (x : Int) % 18446744073709551616 = x := by omega
  rw [e4]
  have e5 : ((x : Int) + 9223372036854775808) % 18446744073709551616 - 9223372036854775808 = x := by omega
  rw [e5]
  omega
set_option maxHeartbeats 400000 in
theorem ones_any (w : World) (c : Nat) (hc : c < 16777216) :
    Calls Tryd.prog 58 #[.int .u64 (c : Int)] w fun e w' => e = .returned (.int .i64 (Lib.popAux 24 c : Nat)) ∧ w = w' := by
  have hS := fun W => ones64_any W c hc
  generalize Lib.popAux 24 c = r at hS ⊢
  go_enter Tryd.func58, Tryd.ntmps58
  go_wp2_with (refine (hS _).mono ?_; rintro e w' ⟨rfl, rfl⟩)
  go_ret
  exact ⟨rfl, rfl⟩
set_option maxHeartbeats 400000 in
theorem count_any (w : World) (s : Int) :
    Calls Tryd.prog 32 #[.int .i64 s] w fun e w' => e = .returned (.int .i64 (pc (cut s) : Nat)) ∧ w = w' := by
  have hu : IntKind.u64.wrap ((cut s : Nat) : Int) = ((cut s : Nat) : Int) := u64n _ (by have := cut_lt' s; omega)
  have hC := fun W => cut_any W s
  have hS := fun W => ones_any W (cut s) (cut_lt' s)
  rw [pc_pop]
  generalize Lib.popAux 24 (cut s) = r at hS ⊢
  generalize cut s = c at *
  go_enter Tryd.func32, Tryd.ntmps32
  go_wp2_with (first | (refine (hC _).mono ?_; rintro e w' ⟨rfl, rfl⟩) | (refine (hS _).mono ?_; rintro e w' ⟨rfl, rfl⟩))
  go_ret
  exact ⟨rfl, rfl⟩
set_option maxHeartbeats 400000 in
theorem subset_any (w : World) (a b : Int) :
    Calls Tryd.prog 73 #[.int .i64 a, .int .i64 b] w fun e w' => e = .returned (.bool (without (cut a) (cut b) == 0)) ∧ w = w' := by
  go_enter Tryd.func73, Tryd.ntmps73
  go_wp2_with (refine (cut_any _ _).mono ?_; rintro e w' ⟨rfl, rfl⟩)
  go_ret
  refine ⟨ret_b ?_, rfl⟩
  rw [cut_andNot, Bool.eq_iff_iff, beq_iff_eq, beq_iff_eq]
  omega
set_option maxHeartbeats 400000 in
theorem compare_any (w : World) (a b : Int) :
    Calls Tryd.prog 56 #[.int .i64 a, .int .i64 b] w fun e w' => e = .returned (.int .i64 (cmpS (cut a) (cut b))) ∧ w = w' := by
  have hc := fun x y W => Tryd.cmp_Compare_int x y W
  have hi : ∀ m n : Nat, Lib.compareInt (m : Int) (n : Int) = if m < n then -1 else if n < m then 1 else 0 := by
    intro m n
    unfold Lib.compareInt
    by_cases h1 : m < n
    · rw [if_pos (by omega), if_pos h1]
    · by_cases h2 : n < m
      · rw [if_neg (by omega), if_pos (by omega), if_neg h1, if_pos h2]
      · rw [if_neg (by omega), if_neg (by omega), if_neg h1, if_neg h2]
  have hA := fun s W => cut_any W s
  have hB := fun s W => count_any W s
  unfold cmpS
  by_cases h : pc (cut a) = pc (cut b)
  · rw [if_neg (by omega), if_neg (by omega), ← hi]
    have hD := fun W => hc (cut a : Nat) (cut b : Nat) W
    clear hi hc
    generalize Lib.compareInt (cut a : Nat) (cut b : Nat) = r at hD ⊢
    go_enter Tryd.func56, Tryd.ntmps56
    go_wp2_with (first | (refine (hA _ _).mono ?_; rintro e w' ⟨rfl, rfl⟩) | (refine (hB _ _).mono ?_; rintro e w' ⟨rfl, rfl⟩) | (refine (hD _).mono ?_; rintro e w' ⟨rfl, rfl⟩))
    go_ret
    exact ⟨rfl, rfl⟩
  · have e : (if pc (cut a) < pc (cut b) then (-1 : Int) else if pc (cut b) < pc (cut a) then 1 else if cut a < cut b then -1 else if cut b < cut a then 1 else 0) = Lib.compareInt (pc (cut a) : Nat) (pc (cut b) : Nat) := by
      rw [hi]
      by_cases h1 : pc (cut a) < pc (cut b)
      · rw [if_pos h1, if_pos h1]
      · rw [if_neg h1, if_neg h1, if_pos (by omega), if_pos (by omega)]
    rw [e]
    have hD := fun W => hc (pc (cut a) : Nat) (pc (cut b) : Nat) W
    clear hi hc e
    generalize Lib.compareInt (pc (cut a) : Nat) (pc (cut b) : Nat) = r at hD ⊢
    go_enter Tryd.func56, Tryd.ntmps56
    go_wp2_with (first | (refine (hA _ _).mono ?_; rintro e w' ⟨rfl, rfl⟩) | (refine (hB _ _).mono ?_; rintro e w' ⟨rfl, rfl⟩) | (refine (hD _).mono ?_; rintro e w' ⟨rfl, rfl⟩))
    go_ret
    exact ⟨rfl, rfl⟩
set_option maxHeartbeats 400000 in
theorem greatest_any (w : World) (s : Int) :
    Calls Tryd.prog 45 #[.int .i64 s] w fun e w' => e = .returned (.int .i64 (greatest (cut s))) ∧ w = w' := by
  have hu : IntKind.u64.wrap ((cut s : Nat) : Int) = ((cut s : Nat) : Int) := u64n _ (by have := cut_lt' s; omega)
  have hl := fun W => Tryd.bits_Len (cut s : Nat) W (by omega) (by have := cut_lt' s; omega)
  go_enter Tryd.func45, Tryd.ntmps45
  go_wp2_with (first | (refine (cut_any _ s).mono ?_; rintro e w' ⟨rfl, rfl⟩) | (refine (hl _).mono ?_; rintro e w' ⟨rfl, rfl⟩))
  go_ret
  refine ⟨ret_i ?_, rfl⟩
  rw [greatest_len _ (cut_lt s)]
  have hb : Lib.bitLen (cut s) ≤ 64 := by
    by_cases h0 : cut s = 0
    · rw [h0]; decide
    · obtain ⟨l, e, a, b⟩ := bitLen_aux 64 (cut s) h0 (by have := cut_lt' s; omega)
      have hl : l < 24 := (Nat.pow_lt_pow_iff_right (by decide)).1 (Nat.lt_of_le_of_lt a (cut_lt s))
      show Lib.bitLenAux 64 (cut s) ≤ 64
      omega
  generalize Lib.bitLen (cut s) = b at hb
  unfold wrap64; omega
set_option maxHeartbeats 400000 in
theorem has_in (w : World) (s : Int) (i : Nat) (h : i < 24) :
    Calls Tryd.prog 59 #[.int .i64 s, .int .i64 (i : Int)] w fun e w' => e = .returned (.bool ((cut s).testBit i)) ∧ w = w' := by
  go_enter Tryd.func59, Tryd.ntmps59
  go_wp2
  go_ret
  refine ⟨ret_b ?_, rfl⟩
  rw [and_one, cut_tb s i h]
  rfl
set_option maxHeartbeats 400000 in
theorem has_out (w : World) (s i : Int) (h : i < 0 ∨ 24 ≤ i) :
    Calls Tryd.prog 59 #[.int .i64 s, .int .i64 i] w fun e w' => e = .returned (.bool false) ∧ w = w' := by
  rcases h with h | h
  · go_enter Tryd.func59, Tryd.ntmps59
    go_wp2
    go_ret
    exact ⟨rfl, rfl⟩
  · go_enter Tryd.func59, Tryd.ntmps59
    go_wp2
    go_ret
    exact ⟨rfl, rfl⟩
end Go.Proofs.YtakkbemldccekaaDoor.Sb
