/-
  signedSum: the sum of two numbers with signs.
-/
import Derived.Test.YtkchpagjkgmpmaaGreatRinv
namespace Go.Proofs.YtkchpagjkgmpmaaGreat
open Go.RowKit
set_option linter.unusedVariables false
namespace Num
/-- the sign and the size of the sum of two numbers with signs -/
def ssS (sa : Bool) (x : Nat) (sb : Bool) (y : Nat) : Bool := if sa = sb then sa else if y ≤ x then sa else sb
def ssN (sa : Bool) (x : Nat) (sb : Bool) (y : Nat) : Nat := if sa = sb then x + y else if y ≤ x then x - y else y - x
theorem ss_sgn (sa : Bool) (x : Nat) (sb : Bool) (y : Nat) : sgn (ssS sa x sb y) (ssN sa x sb y) = sgn sa x + sgn sb y := by
  unfold ssS ssN sgn
  by_cases h : y ≤ x <;> cases sa <;> cases sb <;> simp [h] <;> omega
def SSPost (w : World) (s : Bool) (z L : Nat) (e : Ending) (w' : World) : Prop := ∃ A n c, e = .returned (.tuple #[.bool s, .slice A n c]) ∧ Nm w' A n c z L ∧ On w w'
set_option maxRecDepth 100000 in
set_option maxHeartbeats 1600000 in
theorem ssum_any (w : World) (sa sb : Bool) (A A' : Option Addr) (n c n' c' L : Nat) (xs ys : List Nat) (h : Rd w A n c xs) (k : Rd w A' n' c' ys) (h1 : n ≤ L) (h2 : n' ≤ L) (hL : L ≤ 100000000) :
    Calls Tryz.prog 118 #[.bool sa, .slice A n c, .bool sb, .slice A' n' c'] w (SSPost w (ssS sa (val xs) sb (val ys)) (ssN sa (val xs) sb (val ys)) (L + 1)) := by
  have tx : tl xs ≤ L := Nat.le_trans (tl_le _) (by rw [h.len]; exact h1)
  have ty : tl ys ≤ L := Nat.le_trans (tl_le _) (by rw [k.len]; exact h2)
  have HS : ∀ x y, Hid (ssS true x true y = true ∧ ssS false x false y = false ∧ ssN true x true y = x + y ∧ ssN false x false y = x + y) := fun x y => Lib.hid ⟨by simp [ssS], by simp [ssS], by simp [ssN], by simp [ssN]⟩
  have HL : val xs < val ys → Hid (ssS true (val xs) false (val ys) = false ∧ ssS false (val xs) true (val ys) = true ∧ ssN true (val xs) false (val ys) = val ys - val xs ∧ ssN false (val xs) true (val ys) = val ys - val xs) := fun hl => Lib.hid ⟨by unfold ssS; rw [if_neg (by decide), if_neg (by omega)], by unfold ssS; rw [if_neg (by decide), if_neg (by omega)], by unfold ssN; rw [if_neg (by decide), if_neg (by omega)], by unfold ssN; rw [if_neg (by decide), if_neg (by omega)]⟩
  have HG : val ys ≤ val xs → Hid (ssS true (val xs) false (val ys) = true ∧ ssS false (val xs) true (val ys) = false ∧ ssN true (val xs) false (val ys) = val xs - val ys ∧ ssN false (val xs) true (val ys) = val xs - val ys) := fun hl => Lib.hid ⟨by unfold ssS; rw [if_neg (by decide), if_pos hl], by unfold ssS; rw [if_neg (by decide), if_pos hl], by unfold ssN; rw [if_neg (by decide), if_pos hl], by unfold ssN; rw [if_neg (by decide), if_pos hl]⟩
  replace HS := HS (val xs) (val ys)
  have eq_ : ∀ sa : Bool, ssS sa (val xs) sa (val ys) = sa → ssN sa (val xs) sa (val ys) = val xs + val ys → Calls Tryz.prog 118 #[.bool sa, .slice A n c, .bool sa, .slice A' n' c'] w (SSPost w sa (val xs + val ys) (L + 1)) := by
    clear HS HL HG
    intro sa _ _
    cases sa
    all_goals
      go_enter Tryz.func118, Tryz.ntmps118
      go_wp2_with fail
      refine (add_any _ _ _ _ _ _ _ L _ _ h k tx ty hL).mono ?_
      rintro e w1 ⟨B, m, d, rfl, N, P⟩
      go_wp2
      go_ret2
      exact ⟨B, m, d, rfl, N, P⟩
  have lt_ : ∀ sa sb : Bool, sa ≠ sb → val xs < val ys → Calls Tryz.prog 118 #[.bool sa, .slice A n c, .bool sb, .slice A' n' c'] w (SSPost w sb (val ys - val xs) (L + 1)) := by
    clear HS HL HG
    intro sa sb hne hl
    cases sa <;> cases sb
    all_goals first | exact absurd rfl hne | skip
    all_goals
      go_enter Tryz.func118, Tryz.ntmps118
      go_wp2_with fail
      refine (sub_bad _ _ _ _ _ _ _ _ _ h k hl).mono ?_
      rintro e w1 ⟨rfl, P1⟩
      go_wp2_with fail
      refine (sub_good _ _ _ _ _ _ _ L _ _ (k.on P1) (h.on P1) (by omega) ty hL).mono ?_
      rintro e w2 ⟨B, m, d, rfl, N, P⟩
      go_wp2
      go_ret2
      exact ⟨B, m, d, rfl, N.wide (by omega), P1.trans P⟩
  have ge_ : ∀ sa sb : Bool, sa ≠ sb → val ys ≤ val xs → Calls Tryz.prog 118 #[.bool sa, .slice A n c, .bool sb, .slice A' n' c'] w (SSPost w sa (val xs - val ys) (L + 1)) := by
    clear HS HL HG
    intro sa sb hne hl
    cases sa <;> cases sb
    all_goals first | exact absurd rfl hne | skip
    all_goals
      go_enter Tryz.func118, Tryz.ntmps118
      go_wp2_with fail
      refine (sub_good _ _ _ _ _ _ _ L _ _ h k hl tx hL).mono ?_
      rintro e w2 ⟨B, m, d, rfl, N, P⟩
      go_wp2
      go_ret2
      exact ⟨B, m, d, rfl, N.wide (by omega), P⟩
  by_cases hs : sa = sb
  · subst hs
    have h1 : ssS sa (val xs) sa (val ys) = sa := by cases sa; exact HS.out.2.1; exact HS.out.1
    have h2 : ssN sa (val xs) sa (val ys) = val xs + val ys := by cases sa; exact HS.out.2.2.2; exact HS.out.2.2.1
    rw [h1, h2]
    exact eq_ sa h1 h2
  · rcases Nat.lt_or_ge (val xs) (val ys) with hl | hl
    · have h1 : ssS sa (val xs) sb (val ys) = sb := by cases sa <;> cases sb <;> first | exact absurd rfl hs | exact (HL hl).out.1 | exact (HL hl).out.2.1
      have h2 : ssN sa (val xs) sb (val ys) = val ys - val xs := by cases sa <;> cases sb <;> first | exact absurd rfl hs | exact (HL hl).out.2.2.1 | exact (HL hl).out.2.2.2
      rw [h1, h2]
      exact lt_ sa sb hs hl
    · have h1 : ssS sa (val xs) sb (val ys) = sa := by cases sa <;> cases sb <;> first | exact absurd rfl hs | exact (HG hl).out.1 | exact (HG hl).out.2.1
      have h2 : ssN sa (val xs) sb (val ys) = val xs - val ys := by cases sa <;> cases sb <;> first | exact absurd rfl hs | exact (HG hl).out.2.2.1 | exact (HG hl).out.2.2.2
      rw [h1, h2]
      exact ge_ sa sb hs hl
end Num
end Go.Proofs.YtkchpagjkgmpmaaGreat
