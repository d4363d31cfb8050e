/-
  Choose, for any two ints: the program and the specification.
-/
import Derived.Test.YtibkpglgeincdaaDoorSc7
namespace Go.Proofs.YtibkpglgeincdaaDoor.Sb
open Go.RowKit
set_option linter.unusedVariables false
set_option maxRecDepth 100000
/-- what Choose answers -/
def chooseR (n k : Int) : List Nat × Nat := if n < 0 ∨ 24 < n ∨ k < 0 ∨ n < k then ([], 3) else if 1024 < bn n.toNat k.toNat then ([], 4) else (chooseL n.toNat k.toNat, 0)
set_option maxHeartbeats 1000000 in
theorem choose_bad (w : World) (n k : Int) (h : n < 0 ∨ 24 < n ∨ k < 0 ∨ n < k) :
    Calls Tryd.prog 7 #[.int .i64 n, .int .i64 k] w fun e w' => e = .returned (.tuple #[.slice none 0 0, errV 3]) ∧ w = w' := by
  rw [errV_pos 3 (by decide)]
  by_cases h1 : n < 0
  · clear h
    go_enter Tryd.func7, Tryd.ntmps7
    go_wp2
    go_ret2
    exact ⟨rfl, rfl⟩
  · by_cases h2 : 24 < n
    · clear h
      go_enter Tryd.func7, Tryd.ntmps7
      go_wp2
      go_ret2
      exact ⟨rfl, rfl⟩
    · by_cases h3 : k < 0
      · clear h
        go_enter Tryd.func7, Tryd.ntmps7
        go_wp2
        go_ret2
        exact ⟨rfl, rfl⟩
      · have h4 : n < k := by omega
        clear h
        go_enter Tryd.func7, Tryd.ntmps7
        go_wp2
        go_ret2
        exact ⟨rfl, rfl⟩
set_option maxHeartbeats 1000000 in
theorem rchoose_bad (w : World) (n k : Int) (h : n < 0 ∨ 24 < n ∨ k < 0 ∨ n < k) :
    Calls Tryd.prog 11 #[.int .i64 n, .int .i64 k] w fun e w' => e = .returned (.tuple #[.slice none 0 0, .int .i64 3]) ∧ w = w' := by
  by_cases h1 : n < 0
  · clear h
    go_enter Tryd.func11, Tryd.ntmps11
    go_wp2
    go_ret2
    exact ⟨rfl, rfl⟩
  · by_cases h2 : 24 < n
    · clear h
      go_enter Tryd.func11, Tryd.ntmps11
      go_wp2
      go_ret2
      exact ⟨rfl, rfl⟩
    · by_cases h3 : k < 0
      · clear h
        go_enter Tryd.func11, Tryd.ntmps11
        go_wp2
        go_ret2
        exact ⟨rfl, rfl⟩
      · have h4 : n < k := by omega
        clear h
        go_enter Tryd.func11, Tryd.ntmps11
        go_wp2
        go_ret2
        exact ⟨rfl, rfl⟩
set_option maxHeartbeats 1000000 in
theorem rchoose_large (w : World) (n k : Nat) (hn : n ≤ 24) (hk : k ≤ n) (h : 1024 < bn n k) :
    Calls Tryd.prog 11 #[.int .i64 (n : Int), .int .i64 (k : Int)] w fun e w' => e = .returned (.tuple #[.slice none 0 0, .int .i64 4]) ∧ On w w' := by
  have hB := fun W => rbinomial_run W n k (by omega) hk
  have h' : (1024 : Int) < ((bn n k : Nat) : Int) := by omega
  generalize bn n k = z at *
  have hk1 : ¬ (k : Int) < 0 := by omega
  have hk2 : ¬ (n : Int) < (k : Int) := by omega
  have hn1 : ¬ (n : Int) < 0 := by omega
  have hn3 : ¬ (24 : Int) < (n : Int) := by omega
  go_enter Tryd.func11, Tryd.ntmps11
  go_wp2_with (refine (hB _).mono ?_; rintro e w0 ⟨rfl, P0⟩)
  go_ret2
  exact ⟨rfl, P0⟩
theorem choose_all (w : World) (n k : Int) (hT : Tab w) :
    Calls Tryd.prog 7 #[.int .i64 n, .int .i64 k] w (GivesI w (ints (chooseR n k).1) (chooseR n k).2) := by
  unfold chooseR
  by_cases h : n < 0 ∨ 24 < n ∨ k < 0 ∨ n < k
  · rw [if_pos h]
    refine (choose_bad w n k h).mono ?_
    rintro e w' ⟨rfl, rfl⟩
    exact ⟨none, 0, 0, rfl, Rd.nil_ _, On.refl _⟩
  · rw [if_neg h]
    obtain ⟨a, rfl⟩ : ∃ a : Nat, n = (a : Int) := ⟨n.toNat, by omega⟩
    obtain ⟨b, rfl⟩ : ∃ b : Nat, k = (b : Int) := ⟨k.toNat, by omega⟩
    rw [Int.toNat_natCast, Int.toNat_natCast]
    by_cases hl : 1024 < bn a b
    · rw [if_pos hl]
      refine (choose_large w a b (by omega) (by omega) hl).mono ?_
      rintro e w' ⟨rfl, rfl⟩
      exact ⟨none, 0, 0, rfl, Rd.nil_ _, On.refl _⟩
    · rw [if_neg hl]
      exact choose_any w a b (by omega) (by omega) (by omega) hT
theorem rchoose_all (w : World) (n k : Int) :
    Calls Tryd.prog 11 #[.int .i64 n, .int .i64 k] w (GivesC w (chooseR n k).1 (chooseR n k).2) := by
  unfold chooseR
  by_cases h : n < 0 ∨ 24 < n ∨ k < 0 ∨ n < k
  · rw [if_pos h]
    refine (rchoose_bad w n k h).mono ?_
    rintro e w' ⟨rfl, rfl⟩
    exact ⟨none, 0, 0, rfl, Rd.nil_ _, On.refl _⟩
  · rw [if_neg h]
    obtain ⟨a, rfl⟩ : ∃ a : Nat, n = (a : Int) := ⟨n.toNat, by omega⟩
    obtain ⟨b, rfl⟩ : ∃ b : Nat, k = (b : Int) := ⟨k.toNat, by omega⟩
    rw [Int.toNat_natCast, Int.toNat_natCast]
    by_cases hl : 1024 < bn a b
    · rw [if_pos hl]
      refine (rchoose_large w a b (by omega) (by omega) hl).mono ?_
      rintro e w' ⟨rfl, P⟩
      exact ⟨none, 0, 0, rfl, Rd.nil_ _, P⟩
    · rw [if_neg hl]
      exact rchoose_run w a b (by omega) (by omega) (by omega)
end Go.Proofs.YtibkpglgeincdaaDoor.Sb
