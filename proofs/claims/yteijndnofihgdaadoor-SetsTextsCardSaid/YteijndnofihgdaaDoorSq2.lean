/-
  Package sets: parseNumber.
-/
import Derived.Test.YteijndnofihgdaaDoorSq1
import Derived.Test.YteijndnofihgdaaDoorSs7
import Derived.Handy
namespace Go.Proofs.YteijndnofihgdaaDoor.Sb
open Go.RowKit Go.Lib
set_option linter.unusedVariables false
set_option maxRecDepth 100000
/-- what parseNumber returns -/
def numR (p : List UInt8) : Value := match numP p with | none => .tuple #[.int .i64 0, .bool false] | some i => .tuple #[.int .i64 (i : Int), .bool true]
theorem u8n (d : UInt8) : d.toNat < 256 := UInt8.toNat_lt d
set_option maxHeartbeats 1000000 in
theorem pn_none (w : World) :
    Calls Tryd.prog 79 #[.string ⟨#[]⟩] w fun e w' => e = .returned (.tuple #[.int .i64 0, .bool false]) ∧ w = w' := by
  go_enter Tryd.func79, Tryd.ntmps79
  go_wp2
  go_ret2
  exact ⟨rfl, rfl⟩
theorem numR_some {p : List UInt8} {i : Nat} (h : numP p = some i) : numR p = .tuple #[.int .i64 (i : Int), .bool true] := by unfold numR; rw [h]
theorem numR_none {p : List UInt8} (h : numP p = none) : numR p = .tuple #[.int .i64 0, .bool false] := by unfold numR; rw [h]
theorem one_at (d : UInt8) (h : 0 < (⟨#[d]⟩ : ByteArray).size) : ((⟨#[d]⟩ : ByteArray)[0]'h).toNat = d.toNat := rfl
set_option maxHeartbeats 2000000 in
theorem pn_one (w : World) (d : UInt8) :
    Calls Tryd.prog 79 #[.string ⟨#[d]⟩] w fun e w' => e = .returned (numR [d]) ∧ w = w' := by
  have hd := u8n d
  have e0 := fun h => one_at d h
  by_cases h : 48 ≤ d.toNat ∧ d.toNat ≤ 57
  · rw [numR_some (p := [d]) (i := d.toNat - 48) (if_pos h)]
    generalize hx : d.toNat = x at *
    have h1 : (48 : Int) ≤ (x : Int) := by omega
    have h2 : (x : Int) ≤ 57 := by omega
    have h3 : ((x - 48 : Nat) : Int) = (x : Int) - 48 := by omega
    go_enter Tryd.func79, Tryd.ntmps79
    go_wp2
    refine wp_loop_rounds 2 ?_
    rw [rounds_succ]
    go_wp2
    rw [rounds_succ]
    go_wp2
    go_ret2
    refine ⟨?_, rfl⟩
    rw [h3]; rfl
  · have hn : numP [d] = none := if_neg h
    rw [numR_none hn]
    clear hn
    generalize hx : d.toNat = x at *
    by_cases h1 : 48 ≤ x
    · have h2 : ¬ (x : Int) ≤ 57 := fun e => h ⟨h1, by omega⟩
      have h3 : (48 : Int) ≤ (x : Int) := by omega
      go_enter Tryd.func79, Tryd.ntmps79
      go_wp2
      refine wp_loop_rounds 2 ?_
      rw [rounds_succ]
      go_wp2
      go_ret2
      exact ⟨rfl, rfl⟩
    · have h3 : ¬ (48 : Int) ≤ (x : Int) := by omega
      go_enter Tryd.func79, Tryd.ntmps79
      go_wp2
      refine wp_loop_rounds 2 ?_
      rw [rounds_succ]
      go_wp2
      go_ret2
      exact ⟨rfl, rfl⟩
theorem two_at (d e : UInt8) : (∀ h, ((⟨#[d, e]⟩ : ByteArray)[0]'h).toNat = d.toNat) ∧ (∀ h, ((⟨#[d, e]⟩ : ByteArray)[1]'h).toNat = e.toNat) := ⟨fun _ => rfl, fun _ => rfl⟩
set_option maxHeartbeats 4000000 in
theorem pn_two (w : World) (d e : UInt8) :
    Calls Tryd.prog 79 #[.string ⟨#[d, e]⟩] w fun z w' => z = .returned (numR [d, e]) ∧ w = w' := by
  have hd := u8n d
  have he := u8n e
  obtain ⟨e0, e1⟩ := two_at d e
  by_cases h : d.toNat ≠ 48 ∧ (48 ≤ d.toNat ∧ d.toNat ≤ 57) ∧ (48 ≤ e.toNat ∧ e.toNat ≤ 57)
  · rw [numR_some (p := [d, e]) (i := (d.toNat - 48) * 10 + (e.toNat - 48)) (if_pos h)]
    generalize d.toNat = x at *
    generalize e.toNat = y at *
    have h0 : ¬ (x : Int) = 48 := by omega
    have h1 : (48 : Int) ≤ (x : Int) := by omega
    have h2 : (x : Int) ≤ 57 := by omega
    have h3 : (48 : Int) ≤ (y : Int) := by omega
    have h4 : (y : Int) ≤ 57 := by omega
    have h5 : (((x - 48) * 10 + (y - 48) : Nat) : Int) = ((x : Int) - 48) * 10 + ((y : Int) - 48) := by omega
    have HF := Lib.hid h5
    clear h5 h
    · go_enter Tryd.func79, Tryd.ntmps79
      go_wp2
      refine wp_loop_rounds 3 ?_
      rw [rounds_succ]
      go_wp2
      rw [rounds_succ]
      go_wp2
      rw [rounds_succ]
      go_wp2
      go_ret2
      refine ⟨?_, rfl⟩
      rw [HF.out]; rfl
  · have hn : numP [d, e] = none := if_neg h
    rw [numR_none hn]
    clear hn
    generalize d.toNat = x at *
    generalize e.toNat = y at *
    by_cases a0 : x = 48
    · have h0 : (x : Int) = 48 := by omega
      subst a0
      clear h0
      go_enter Tryd.func79, Tryd.ntmps79
      go_wp2
      go_ret2
      exact ⟨rfl, rfl⟩
    have h0 : ¬ (x : Int) = 48 := by omega
    by_cases a1 : x < 48
    · have h1 : ¬ (48 : Int) ≤ (x : Int) := by omega
      clear h a0
      go_enter Tryd.func79, Tryd.ntmps79
      go_wp2
      refine wp_loop_rounds 3 ?_
      rw [rounds_succ]
      go_wp2
      go_ret2
      exact ⟨rfl, rfl⟩
    have h1 : (48 : Int) ≤ (x : Int) := by omega
    by_cases a2 : 57 < x
    · have h2 : ¬ (x : Int) ≤ 57 := by omega
      clear h a0
      go_enter Tryd.func79, Tryd.ntmps79
      go_wp2
      refine wp_loop_rounds 3 ?_
      rw [rounds_succ]
      go_wp2
      go_ret2
      exact ⟨rfl, rfl⟩
    have h2 : (x : Int) ≤ 57 := by omega
    by_cases a3 : y < 48
    · have h3 : ¬ (48 : Int) ≤ (y : Int) := by omega
      clear h a0
      go_enter Tryd.func79, Tryd.ntmps79
      go_wp2
      refine wp_loop_rounds 3 ?_
      rw [rounds_succ]
      go_wp2
      rw [rounds_succ]
      go_wp2
      go_ret2
      exact ⟨rfl, rfl⟩
    · have h3 : (48 : Int) ≤ (y : Int) := by omega
      have h4 : ¬ (y : Int) ≤ 57 := by omega
      clear h a0
      go_enter Tryd.func79, Tryd.ntmps79
      go_wp2
      refine wp_loop_rounds 3 ?_
      rw [rounds_succ]
      go_wp2
      rw [rounds_succ]
      go_wp2
      go_ret2
      exact ⟨rfl, rfl⟩
set_option maxHeartbeats 1000000 in
theorem pn_long (w : World) (s : ByteArray) (h : 2 < s.size) :
    Calls Tryd.prog 79 #[.string s] w fun e w' => e = .returned (.tuple #[.int .i64 0, .bool false]) ∧ w = w' := by
  have h1 : (2 : Int) < (s.size : Int) := by omega
  go_enter Tryd.func79, Tryd.ntmps79
  go_wp2
  all_goals (go_ret2; exact ⟨rfl, rfl⟩)
theorem pn_any (w : World) (p : List UInt8) :
    Calls Tryd.prog 79 #[.string (str p)] w fun e w' => e = .returned (numR p) ∧ w = w' := by
  rcases p with _ | ⟨d, _ | ⟨e, _ | ⟨f, r⟩⟩⟩
  · rw [numR_none rfl]; exact pn_none w
  · exact pn_one w d
  · exact pn_two w d e
  · rw [numR_none rfl]
    refine pn_long w _ ?_
    show 2 < (d :: e :: f :: r).toArray.size
    simp
end Go.Proofs.YteijndnofihgdaaDoor.Sb
