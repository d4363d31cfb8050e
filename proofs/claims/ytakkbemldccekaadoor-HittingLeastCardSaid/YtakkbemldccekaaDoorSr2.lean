/-
  The specification's Subset, Compare, Least, Greatest of sets.
-/
import Derived.Test.YtakkbemldccekaaDoorSr1
namespace Go.Proofs.YtakkbemldccekaaDoor.Sb
open Go.RowKit
set_option linter.unusedVariables false
set_option maxRecDepth 100000
theorem VI_ints_get {l : List Nat} {k : Nat} (h : k < l.length) : (VI (ints l))[k]? = some (.int .i64 ((l[k] : Nat) : Int)) := by
  simp [VI, ints, h]
/-- the last of a list, or -1 -/
def lastI (l : List Nat) : Int := match l.getLast? with | none => -1 | some i => (i : Int)
theorem lastI_snoc (l : List Nat) (x : Nat) : lastI (l ++ [x]) = (x : Int) := by unfold lastI; simp
set_option maxHeartbeats 1000000 in
theorem rgreatest_any (w : World) (s : Int) :
    Calls Tryd.prog 49 #[.int .i64 s] w fun e w' => e = .returned (.int .i64 (greatest (cut s))) ∧ On w w' := by
  have hE := elements_any w s
  have e0 : greatest (cut s) = lastI (els (cut s)) := rfl
  rw [e0]
  clear e0
  generalize els (cut s) = l at *
  go_enter Tryd.func49, Tryd.ntmps49
  go_wp2_with (refine hE.mono ?_; rintro e w1 ⟨A1, n1, c1, rfl, R1, P1⟩)
  have hn : l.length = n1 := by have := R1.len; rw [VI_length, ints_length] at this; exact this
  have hcap := R1.cap
  have hmax := R1.max
  clear hE
  go_loopw [3, 9] (fun o i wr => ∃ k : Nat, k ≤ n1 ∧ i = .int .i64 (k : Int) ∧ o = .int .i64 (lastI (l.take k)) ∧ w1 = wr) (fun _ i _ => n1 - (intOf i).toNat)
  case atStart => exact ⟨0, by omega, rfl, rfl, rfl⟩
  case round =>
    obtain ⟨k, hk, rfl, rfl, rfl⟩ := hrel
    have HN := Lib.hid hn
    clear hn
    by_cases hlt : k < n1
    · have hkl : k < l.length := by rw [HN.out]; exact hlt
      obtain ⟨ad, rfl, hb, hc⟩ := R1.at_ k _ (VI_ints_get hkl)
      have hs : lastI (l.take (k + 1)) = ((l[k] : Nat) : Int) := by
        rw [List.take_add_one, List.getElem?_eq_getElem hkl]; exact lastI_snoc _ _
      obtain ⟨x, hx⟩ : ∃ x, l[k] = x := ⟨_, rfl⟩
      rw [hx] at hc hs
      have HS := Lib.hid hs
      clear hs hx
      go_wp2
      go_roundw
      case rel => exact ⟨k + 1, by omega, by go_num, by rw [HS.out], trivial⟩
      case measure => simp [intOf]; omega
    · obtain rfl : k = n1 := by omega
      have hd : l.take k = l := List.take_of_length_le (by rw [HN.out]; omega)
      rw [hd]
      go_wp2
      go_ret
      exact ⟨rfl, P1⟩
end Go.Proofs.YtakkbemldccekaaDoor.Sb
