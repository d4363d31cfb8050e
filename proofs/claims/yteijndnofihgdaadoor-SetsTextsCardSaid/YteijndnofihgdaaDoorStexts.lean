/-
  The statement SetsTexts, walked: Text and Parse answer as the specification's do.
-/
import Derived.Test.YteijndnofihgdaaDoorSs9
import Derived.Test.YteijndnofihgdaaDoorSt6
namespace Go.Proofs.YteijndnofihgdaaDoor.Sb
open Go.RowKit
set_option linter.unusedVariables false
set_option maxRecDepth 100000
set_option maxHeartbeats 4000000 in
theorem texts_any (w : World) (s : Int) (t : ByteArray) (_ : -9223372036854775808 ≤ s ∧ s ≤ 9223372036854775807) (ht : t.size ≤ 9223372036854775807) (hT : Tab w) (hsh : w.ShapedOpen Tryd.prog) :
    Calls Tryd.prog 6 #[.int .i64 s, .string t] w fun e w' => e = .returned (.bool true) ∧ On w w' := by
  have hM := mx_of_shaped hsh
  clear hsh
  obtain ⟨n, hn⟩ : ∃ n, t.size = n := ⟨_, rfl⟩
  by_cases hl : 1000 < n
  · have hl' : (1000 : Int) < (n : Int) := by omega
    go_enter Tryd.func6, Tryd.ntmps6
    go_wp2_with fail
    refine (awake_any _ hT).mono ?_
    rintro e w1 ⟨rfl, P1⟩
    go_wp2
    go_ret
    exact ⟨rfl, P1⟩
  · have hl' : ¬ (1000 : Int) < (n : Int) := by omega
    obtain ⟨tx, y1, V1, W1⟩ : ∃ (tx : ByteArray) (y : Nat), (∀ W, Calls Tryd.prog 42 #[.int .i64 s] W fun e w' => e = .returned (.tuple #[.string tx, errV y]) ∧ On W w') ∧ (∀ W, Calls Tryd.prog 44 #[.int .i64 s] W fun e w' => e = .returned (.tuple #[.string tx, .int .i64 (y : Int)]) ∧ On W w') := ⟨_, _, fun W => text_all W s, fun W => rtext_all W s⟩
    have hstr : str t.data.toList = t := by cases t; simp [str]
    have hlen : t.data.toList.length = n := by rw [← hn]; show t.data.toList.length = t.data.size; simp
    obtain ⟨x2, y2, V2, W2⟩ : ∃ (x : Int) (y : Nat), (∀ W, Mx W → Calls Tryd.prog 43 #[.string t] W fun e w' => e = .returned (.tuple #[.int .i64 x, errV y]) ∧ On W w') ∧ (∀ W, Calls Tryd.prog 45 #[.string t] W fun e w' => e = .returned (.tuple #[.int .i64 x, .int .i64 (y : Int)]) ∧ On W w') := by
      refine ⟨(parseR t.data.toList).1, (parseR t.data.toList).2, fun W h => ?_, fun W => ?_⟩
      · have := parse_any W t.data.toList (by omega) h
        rwa [hstr] at this
      · have := rparse_any W t.data.toList (by omega)
        rwa [hstr] at this
    clear hstr hlen
    go_enter Tryd.func6, Tryd.ntmps6
    go_wp2_with fail
    refine (awake_any _ hT).mono ?_
    rintro e w1 ⟨rfl, P1⟩
    have M1 := hM.on P1
    go_wp2_with fail
    refine (V1 _).mono ?_
    rintro e w2 ⟨rfl, P2⟩
    have M2 := M1.on P2
    go_wp2_with fail
    refine (V2 _ M2).mono ?_
    rintro e w3 ⟨rfl, P3⟩
    go_wp2_with fail
    refine (W1 _).mono ?_
    rintro e w4 ⟨rfl, P4⟩
    go_wp2_with fail
    refine (W2 _).mono ?_
    rintro e w5 ⟨rfl, P5⟩
    go_wp2_with fail
    refine (num_any _ y1).mono ?_
    rintro e w' ⟨rfl, rfl⟩
    go_wp2_with fail
    refine (num_any _ y2).mono ?_
    rintro e w' ⟨rfl, rfl⟩
    go_wp2
    go_ret
    exact ⟨rfl, (((P1.trans P2).trans P3).trans P4).trans P5⟩
end Go.Proofs.YteijndnofihgdaaDoor.Sb
