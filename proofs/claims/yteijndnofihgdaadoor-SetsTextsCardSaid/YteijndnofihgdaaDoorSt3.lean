/-
  The specification's number: a number at the beginning of a text, and how many bytes it has.
-/
import Derived.Test.YteijndnofihgdaaDoorSq4
import Derived.Handy
namespace Go.Proofs.YteijndnofihgdaaDoor.Sb
open Go.RowKit Go.Lib
set_option linter.unusedVariables false
set_option maxRecDepth 100000
/-- whether a byte is a digit -/
def dg (d : UInt8) : Prop := 48 ≤ d.toNat ∧ d.toNat ≤ 57
instance (d : UInt8) : Decidable (dg d) := by unfold dg; exact inferInstance
def numL : List UInt8 → Nat × Nat
  | [] => (0, 0)
  | [d] => if dg d then (d.toNat - 48, 1) else (0, 0)
  | d :: e :: _ => if dg d then (if dg e then (if d.toNat = 48 then (0, 0) else ((d.toNat - 48) * 10 + (e.toNat - 48), 2)) else (d.toNat - 48, 1)) else (0, 0)
theorem numL_one (d : UInt8) : numL [d] = if dg d then (d.toNat - 48, 1) else (0, 0) := rfl
theorem numL_two (d e : UInt8) (r : List UInt8) : numL (d :: e :: r) = if dg d then (if dg e then (if d.toNat = 48 then (0, 0) else ((d.toNat - 48) * 10 + (e.toNat - 48), 2)) else (d.toNat - 48, 1)) else (0, 0) := rfl
abbrev NumC (b : ByteArray) (n k : Int) : Prop := ∀ w : World, Calls Tryd.prog 63 #[.string b] w fun e w' => e = .returned (.tuple #[.int .i64 n, .int .i64 k]) ∧ w = w'
set_option maxHeartbeats 2000000 in
theorem num_none (b : ByteArray) (hs : b.size = 0) : NumC b 0 0 := by
  intro w
  go_enter Tryd.func63, Tryd.ntmps63
  go_wp2
  refine wp_loop_rounds 4 ?_
  rw [rounds_succ]
  go_wp2
  all_goals (go_ret2; exact ⟨rfl, rfl⟩)
set_option maxHeartbeats 2000000 in
theorem num_one (b : ByteArray) (x : Nat) (hs : b.size = 1) (h0 : ∀ h, (b[0]'h).toNat = x) (h1 : (48 : Int) ≤ (x : Int)) (h2 : (x : Int) ≤ 57) : NumC b ((x : Int) - 48) 1 := by
  intro w
  go_enter Tryd.func63, Tryd.ntmps63
  go_wp2
  refine wp_loop_rounds 4 ?_
  rw [rounds_succ]
  go_wp2
  rw [rounds_succ]
  go_wp2
  all_goals (go_ret2; exact ⟨rfl, rfl⟩)
set_option maxHeartbeats 2000000 in
theorem num_not (b : ByteArray) (x n : Nat) (hs : b.size = n) (hn : (0 : Int) < (n : Int)) (h0 : ∀ h, (b[0]'h).toNat = x) (h1 : (48 : Int) ≤ (x : Int)) (h2 : ¬ (x : Int) ≤ 57) : NumC b 0 0 := by
  intro w
  go_enter Tryd.func63, Tryd.ntmps63
  go_wp2
  refine wp_loop_rounds 4 ?_
  rw [rounds_succ]
  go_wp2
  all_goals (go_ret2; exact ⟨rfl, rfl⟩)
set_option maxHeartbeats 2000000 in
theorem num_not2 (b : ByteArray) (x n : Nat) (hs : b.size = n) (hn : (0 : Int) < (n : Int)) (h0 : ∀ h, (b[0]'h).toNat = x) (h1 : ¬ (48 : Int) ≤ (x : Int)) : NumC b 0 0 := by
  intro w
  go_enter Tryd.func63, Tryd.ntmps63
  go_wp2
  refine wp_loop_rounds 4 ?_
  rw [rounds_succ]
  go_wp2
  all_goals (go_ret2; exact ⟨rfl, rfl⟩)
set_option maxHeartbeats 2000000 in
theorem num_two1 (b : ByteArray) (x y n : Nat) (hs : b.size = n) (hn : (1 : Int) < (n : Int)) (h0 : ∀ h, (b[0]'h).toNat = x) (k0 : ∀ h, (b[1]'h).toNat = y) (h1 : (48 : Int) ≤ (x : Int)) (h2 : (x : Int) ≤ 57) (h3 : (48 : Int) ≤ (y : Int)) (h4 : ¬ (y : Int) ≤ 57) : NumC b ((x : Int) - 48) 1 := by
  intro w
  go_enter Tryd.func63, Tryd.ntmps63
  go_wp2
  refine wp_loop_rounds 4 ?_
  rw [rounds_succ]
  go_wp2
  rw [rounds_succ]
  go_wp2
  all_goals (go_ret2; exact ⟨rfl, rfl⟩)
set_option maxHeartbeats 2000000 in
theorem num_two2 (b : ByteArray) (x y n : Nat) (hs : b.size = n) (hn : (1 : Int) < (n : Int)) (h0 : ∀ h, (b[0]'h).toNat = x) (k0 : ∀ h, (b[1]'h).toNat = y) (h1 : (48 : Int) ≤ (x : Int)) (h2 : (x : Int) ≤ 57) (h3 : ¬ (48 : Int) ≤ (y : Int)) : NumC b ((x : Int) - 48) 1 := by
  intro w
  go_enter Tryd.func63, Tryd.ntmps63
  go_wp2
  refine wp_loop_rounds 4 ?_
  rw [rounds_succ]
  go_wp2
  rw [rounds_succ]
  go_wp2
  all_goals (go_ret2; exact ⟨rfl, rfl⟩)
set_option maxHeartbeats 2000000 in
theorem num_two (b : ByteArray) (x y n : Nat) (hs : b.size = n) (hn : (1 : Int) < (n : Int)) (h0 : ∀ h, (b[0]'h).toNat = x) (k0 : ∀ h, (b[1]'h).toNat = y) (h1 : (48 : Int) ≤ (x : Int)) (h2 : (x : Int) ≤ 57) (h3 : (48 : Int) ≤ (y : Int)) (h4 : (y : Int) ≤ 57) (h5 : ¬ (x : Int) = 48) : NumC b (10 * ((x : Int) - 48) + ((y : Int) - 48)) 2 := by
  intro w
  go_enter Tryd.func63, Tryd.ntmps63
  go_wp2
  refine wp_loop_rounds 4 ?_
  rw [rounds_succ]
  go_wp2
  rw [rounds_succ]
  go_wp2
  rw [rounds_succ]
  go_wp2
  all_goals (go_ret2; exact ⟨rfl, rfl⟩)
set_option maxHeartbeats 2000000 in
theorem num_lead (b : ByteArray) (y n : Nat) (hs : b.size = n) (hn : (1 : Int) < (n : Int)) (h0 : ∀ h, (b[0]'h).toNat = 48) (k0 : ∀ h, (b[1]'h).toNat = y) (h3 : (48 : Int) ≤ (y : Int)) (h4 : (y : Int) ≤ 57) : NumC b 0 0 := by
  intro w
  go_enter Tryd.func63, Tryd.ntmps63
  go_wp2
  refine wp_loop_rounds 4 ?_
  rw [rounds_succ]
  go_wp2
  rw [rounds_succ]
  go_wp2
  rw [rounds_succ]
  go_wp2
  all_goals (go_ret2; exact ⟨rfl, rfl⟩)
theorem number_any (w : World) (s : List UInt8) :
    Calls Tryd.prog 63 #[.string (str s)] w fun e w' => e = .returned (.tuple #[.int .i64 ((numL s).1 : Nat), .int .i64 ((numL s).2 : Nat)]) ∧ w = w' := by
  rcases s with _ | ⟨d, _ | ⟨e, r⟩⟩
  · exact num_none _ rfl w
  · rw [numL_one]
    by_cases h : dg d
    · rw [if_pos h]
      have := num_one (str [d]) d.toNat rfl (fun _ => rfl) (by have := h.1; omega) (by have := h.2; omega) w
      rw [show ((d.toNat : Int) - 48) = ((d.toNat - 48 : Nat) : Int) by have := h.1; omega] at this
      exact this
    · rw [if_neg h]
      by_cases h1 : 48 ≤ d.toNat
      · exact num_not (str [d]) d.toNat 1 rfl (by decide) (fun _ => rfl) (by omega) (fun e => h ⟨h1, by omega⟩) w
      · exact num_not2 (str [d]) d.toNat 1 rfl (by decide) (fun _ => rfl) (by omega) w
  · rw [numL_two]
    have hs : (str (d :: e :: r)).size = r.length + 2 := by show (d :: e :: r).toArray.size = _; simp
    have hn : (1 : Int) < ((r.length + 2 : Nat) : Int) := by omega
    have hn0 : (0 : Int) < ((r.length + 2 : Nat) : Int) := by omega
    by_cases h : dg d
    · rw [if_pos h]
      have a1 : (48 : Int) ≤ (d.toNat : Int) := by have := h.1; omega
      have a2 : (d.toNat : Int) ≤ 57 := by have := h.2; omega
      by_cases h2 : dg e
      · rw [if_pos h2]
        have a3 : (48 : Int) ≤ (e.toNat : Int) := by have := h2.1; omega
        have a4 : (e.toNat : Int) ≤ 57 := by have := h2.2; omega
        by_cases h3 : d.toNat = 48
        · rw [if_pos h3]
          exact num_lead _ e.toNat _ hs hn (fun _ => h3) (fun _ => rfl) a3 a4 w
        · rw [if_neg h3]
          have := num_two _ d.toNat e.toNat _ hs hn (fun _ => rfl) (fun _ => rfl) a1 a2 a3 a4 (by omega) w
          rw [show (10 * ((d.toNat : Int) - 48) + ((e.toNat : Int) - 48)) = (((d.toNat - 48) * 10 + (e.toNat - 48) : Nat) : Int) by have := h.1; have := h2.1; omega] at this
          exact this
      · rw [if_neg h2]
        have e48 : ((d.toNat : Int) - 48) = ((d.toNat - 48 : Nat) : Int) := by have := h.1; omega
        by_cases h1 : 48 ≤ e.toNat
        · have := num_two1 _ d.toNat e.toNat _ hs hn (fun _ => rfl) (fun _ => rfl) a1 a2 (by omega) (fun e => h2 ⟨h1, by omega⟩) w
          rw [e48] at this
          exact this
        · have := num_two2 _ d.toNat e.toNat _ hs hn (fun _ => rfl) (fun _ => rfl) a1 a2 (by omega) w
          rw [e48] at this
          exact this
    · rw [if_neg h]
      by_cases h1 : 48 ≤ d.toNat
      · exact num_not _ d.toNat _ hs hn0 (fun _ => rfl) (by omega) (fun e => h ⟨h1, by omega⟩) w
      · exact num_not2 _ d.toNat _ hs hn0 (fun _ => rfl) (by omega) w
end Go.Proofs.YteijndnofihgdaaDoor.Sb
