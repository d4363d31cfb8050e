/-
  The statement SetsTells, walked: the small functions of sets answer as the specification's do.
-/
import Derived.Test.YteijndnofihgdaaDoorSs9
import Derived.Test.YteijndnofihgdaaDoorSr2
namespace Go.Proofs.YteijndnofihgdaaDoor.Sb
open Go.RowKit
set_option linter.unusedVariables false
set_option maxRecDepth 100000
/-- whether an int is an element -/
def hasS (c : Nat) (i : Int) : Bool := if i < 0 ∨ 24 ≤ i then false else c.testBit i.toNat
theorem has_any (w : World) (s i : Int) :
    Calls Tryd.prog 18 #[.int .i64 s, .int .i64 i] w fun e w' => e = .returned (.bool (hasS (cut s) i)) ∧ w = w' := by
  unfold hasS
  by_cases h : i < 0 ∨ 24 ≤ i
  · rw [if_pos h]; exact has_out w s i h
  · rw [if_neg h]
    obtain ⟨n, rfl⟩ : ∃ n : Nat, i = (n : Int) := ⟨i.toNat, by omega⟩
    rw [Int.toNat_natCast]
    exact has_in w s n (by omega)
theorem rhas_any (w : World) (s i : Int) :
    Calls Tryd.prog 19 #[.int .i64 s, .int .i64 i] w fun e w' => e = .returned (.bool (hasS (cut s) i)) ∧ w = w' := by
  unfold hasS
  by_cases h : i < 0 ∨ 24 ≤ i
  · rw [if_pos h]; exact rhas_out w s i h
  · rw [if_neg h]
    obtain ⟨n, rfl⟩ : ∃ n : Nat, i = (n : Int) := ⟨i.toNat, by omega⟩
    rw [Int.toNat_natCast]
    exact rhas_in w s n (by omega)
theorem without_sub (a b : Nat) (ha : a < 2 ^ 24) : (without a b == 0) = (els a).all fun i => b.testBit i := by
  rw [← subS_els a b ha]
  unfold subS
  rw [Bool.eq_iff_iff, beq_iff_eq, beq_iff_eq]
  constructor
  · intro h
    apply Nat.eq_of_testBit_eq; intro i
    have := congrArg (·.testBit i) h
    simp only [without_tb, Nat.zero_testBit] at this
    rw [Nat.testBit_and]
    cases h1 : a.testBit i <;> cases h2 : b.testBit i <;> simp_all
  · intro h
    apply Nat.eq_of_testBit_eq; intro i
    have := congrArg (·.testBit i) h
    simp only [Nat.testBit_and] at this
    rw [without_tb, Nat.zero_testBit]
    cases h1 : a.testBit i <;> cases h2 : b.testBit i <;> simp_all
set_option maxHeartbeats 4000000 in
theorem tells_any (w : World) (a b i : Int) (_ : -9223372036854775808 ≤ a ∧ a ≤ 9223372036854775807) (_ : -9223372036854775808 ≤ b ∧ b ≤ 9223372036854775807) (_ : -9223372036854775808 ≤ i ∧ i ≤ 9223372036854775807) (hT : Tab w) :
    Calls Tryd.prog 3 #[.int .i64 a, .int .i64 b, .int .i64 i] w fun e w' => e = .returned (.bool true) ∧ On w w' := by
  have hsub := without_sub (cut a) (cut b) (cut_lt a)
  obtain ⟨b1, V1, W1⟩ : ∃ x : Bool, (∀ W, Calls Tryd.prog 12 #[.int .i64 a] W fun e w' => e = .returned (.bool x) ∧ W = w') ∧ (∀ W, Calls Tryd.prog 13 #[.int .i64 a] W fun e w' => e = .returned (.bool x) ∧ W = w') := ⟨_, fun W => valid_any W a, fun W => rvalid_any W a⟩
  obtain ⟨b2, V2, W2⟩ : ∃ x : Int, (∀ W, Calls Tryd.prog 14 #[.int .i64 a] W fun e w' => e = .returned (.int .i64 x) ∧ W = w') ∧ (∀ W, Calls Tryd.prog 15 #[.int .i64 a] W fun e w' => e = .returned (.int .i64 x) ∧ W = w') := ⟨_, fun W => cut_any W a, fun W => rcut_any W a⟩
  obtain ⟨b3, V3, W3⟩ : ∃ x : Int, (∀ W, Calls Tryd.prog 16 #[.int .i64 a] W fun e w' => e = .returned (.int .i64 x) ∧ W = w') ∧ (∀ W, Calls Tryd.prog 17 #[.int .i64 a] W fun e w' => e = .returned (.int .i64 x) ∧ W = w') := ⟨_, fun W => count_any W a, fun W => rcount_any W a⟩
  obtain ⟨b4, V4, W4⟩ : ∃ x : Bool, (∀ W, Calls Tryd.prog 18 #[.int .i64 a, .int .i64 i] W fun e w' => e = .returned (.bool x) ∧ W = w') ∧ (∀ W, Calls Tryd.prog 19 #[.int .i64 a, .int .i64 i] W fun e w' => e = .returned (.bool x) ∧ W = w') := ⟨_, fun W => has_any W a i, fun W => rhas_any W a i⟩
  obtain ⟨b5, V5, W5⟩ : ∃ x : Bool, (∀ W, Calls Tryd.prog 20 #[.int .i64 a, .int .i64 b] W fun e w' => e = .returned (.bool x) ∧ W = w') ∧ (∀ W, Calls Tryd.prog 21 #[.int .i64 a, .int .i64 b] W fun e w' => e = .returned (.bool x) ∧ On W w') := ⟨_, fun W => subset_any W a b, fun W => by rw [hsub]; exact rsubset_any W a b⟩
  obtain ⟨b6, V6, W6⟩ : ∃ x : Int, (∀ W, Calls Tryd.prog 22 #[.int .i64 a, .int .i64 b] W fun e w' => e = .returned (.int .i64 x) ∧ W = w') ∧ (∀ W, Calls Tryd.prog 23 #[.int .i64 a, .int .i64 b] W fun e w' => e = .returned (.int .i64 x) ∧ W = w') := ⟨_, fun W => compare_any W a b, fun W => rcompare_any W a b⟩
  obtain ⟨b7, V7, W7⟩ : ∃ x : Int, (∀ W, Tab W → Calls Tryd.prog 24 #[.int .i64 a] W fun e w' => e = .returned (.int .i64 x) ∧ W = w') ∧ (∀ W, Calls Tryd.prog 25 #[.int .i64 a] W fun e w' => e = .returned (.int .i64 x) ∧ On W w') := ⟨_, fun W h => least_any W a h, fun W => rleast_any W a⟩
  obtain ⟨b8, V8, W8⟩ : ∃ x : Int, (∀ W, Calls Tryd.prog 26 #[.int .i64 a] W fun e w' => e = .returned (.int .i64 x) ∧ W = w') ∧ (∀ W, Calls Tryd.prog 27 #[.int .i64 a] W fun e w' => e = .returned (.int .i64 x) ∧ On W w') := ⟨_, fun W => greatest_any W a, fun W => rgreatest_any W a⟩
  clear hsub
  go_enter Tryd.func3, Tryd.ntmps3
  go_wp2_with fail
  refine (awake_any _ hT).mono ?_
  rintro e w1 ⟨rfl, P1⟩
  have T1 := hT.on P1
  go_wp2_with fail
  refine (V1 _).mono ?_
  rintro e w' ⟨rfl, rfl⟩
  go_wp2_with fail
  refine (W1 _).mono ?_
  rintro e w' ⟨rfl, rfl⟩
  go_wp2_with fail
  refine (V2 _).mono ?_
  rintro e w' ⟨rfl, rfl⟩
  go_wp2_with fail
  refine (W2 _).mono ?_
  rintro e w' ⟨rfl, rfl⟩
  go_wp2_with fail
  refine (V3 _).mono ?_
  rintro e w' ⟨rfl, rfl⟩
  go_wp2_with fail
  refine (W3 _).mono ?_
  rintro e w' ⟨rfl, rfl⟩
  go_wp2_with fail
  refine (V4 _).mono ?_
  rintro e w' ⟨rfl, rfl⟩
  go_wp2_with fail
  refine (W4 _).mono ?_
  rintro e w' ⟨rfl, rfl⟩
  go_wp2_with fail
  refine (V5 _).mono ?_
  rintro e w' ⟨rfl, rfl⟩
  go_wp2_with fail
  refine (W5 _).mono ?_
  rintro e w2 ⟨rfl, P2⟩
  have T2 := T1.on P2
  go_wp2_with fail
  refine (V6 _).mono ?_
  rintro e w' ⟨rfl, rfl⟩
  go_wp2_with fail
  refine (W6 _).mono ?_
  rintro e w' ⟨rfl, rfl⟩
  go_wp2_with fail
  refine (V7 _ T2).mono ?_
  rintro e w' ⟨rfl, rfl⟩
  go_wp2_with fail
  refine (W7 _).mono ?_
  rintro e w3 ⟨rfl, P3⟩
  go_wp2_with fail
  refine (V8 _).mono ?_
  rintro e w' ⟨rfl, rfl⟩
  go_wp2_with fail
  refine (W8 _).mono ?_
  rintro e w4 ⟨rfl, P4⟩
  go_wp2
  go_ret
  exact ⟨rfl, ((P1.trans P2).trans P3).trans P4⟩
end Go.Proofs.YteijndnofihgdaaDoor.Sb
