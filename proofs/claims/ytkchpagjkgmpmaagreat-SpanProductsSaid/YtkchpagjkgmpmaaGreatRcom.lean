/-
  Facts on signs and on valid fractions.
-/
import Derived.Test.YtkchpagjkgmpmaaGreatReq
namespace Go.Proofs.YtkchpagjkgmpmaaGreat
open Go.RowKit
set_option linter.unusedVariables false
namespace Num
theorem rsg_neg (x : Rat) : rsg (-x) = -(rsg x) := by
  unfold rsg; grind
theorem rsg_mul (x y : Rat) : rsg (x * y) = rsg x * rsg y := by
  have h1 : x < 0 ∨ x = 0 ∨ 0 < x := by grind
  have h2 : y < 0 ∨ y = 0 ∨ 0 < y := by grind
  rcases h1 with a | a | a
  · rcases h2 with b | b | b
    · have := Rat.mul_pos (a := -x) (b := -y) (by grind) (by grind)
      have : 0 < x * y := by grind
      unfold rsg; grind
    · subst b; rw [Rat.mul_zero]; unfold rsg; simp
    · have := Rat.mul_pos (a := -x) (b := y) (by grind) (by grind)
      have : x * y < 0 := by grind
      unfold rsg; grind
  · subst a; rw [Rat.zero_mul]; unfold rsg; simp
  · rcases h2 with b | b | b
    · have := Rat.mul_pos (a := x) (b := -y) (by grind) (by grind)
      have : x * y < 0 := by grind
      unfold rsg; grind
    · subst b; rw [Rat.mul_zero]; unfold rsg; simp
    · have := Rat.mul_pos a b
      unfold rsg; grind
theorem rsg_zero_iff (x : Rat) : rsg x = 0 ↔ x = 0 := by unfold rsg; grind
theorem Fld.mk3 {w : World} {s : Bool} {A A' : Option Addr} {n c n' c' L : Nat} {xs ys : List Nat} {r : Rat} (h : Rd w A n c xs) (k : Rd w A' n' c' ys) (h1 : n ≤ L) (h2 : n' ≤ L) (hr : raw s xs ys = r) : Fld w (.agg #[.bool s, .slice A n c, .slice A' n' c']) r L := ⟨s, A, n, c, A', n', c', xs, ys, rfl, h, k, h1, h2, hr⟩
theorem rsg_eq {x y : Rat} (h : x = y) : rsg (x - y) = 0 := by subst h; unfold rsg; grind
theorem valid_isR (w : World) (v : Value) (r : Rat) (L : Nat) (h : IsR w v r L) (hL : L ≤ 5000) : Calls Tryz.prog 49 #[v] w fun e w' => e = .returned (.bool true) ∧ On w w' := by
  obtain ⟨A, n, c, xs, A', n', c', ys, rfl, R, R', C, C', h1, h2, h3, h4⟩ := h
  have hf : fitB (decide (r < 0)) xs ys = true := by
    by_cases h0 : r = 0
    · subst h0
      have e1 : xs = [] := (nil_iff C).2 (by rw [h3]; rfl)
      have e2 : ys = [] := (nil_iff C').2 (by rw [h4]; rfl)
      subst e1 e2
      rfl
    · rw [dn_ne h0] at h4
      have hx : 0 < val xs := by rw [h3]; exact num_pos_of_ne h0
      have hy : 0 < val ys := by rw [h4]; exact r.den_pos
      have lx : 0 < xs.length := by
        rcases Nat.eq_zero_or_pos xs.length with h | h
        · rw [List.eq_nil_of_length_eq_zero h] at hx; cases hx
        · exact h
      have ly : 0 < ys.length := by
        rcases Nat.eq_zero_or_pos ys.length with h | h
        · rw [List.eq_nil_of_length_eq_zero h] at hy; cases hy
        · exact h
      exact fitB_yes _ ⟨lx, C⟩ ⟨ly, C'⟩ (by rw [h3, h4]; exact r.reduced)
  have := valid_any w (decide (r < 0)) A A' n c n' c' xs ys R R' (by omega) (by omega)
  rw [hf] at this
  exact this
theorem rsg_le {x y : Rat} (h : x ≤ y) : rsg (x - y) = -1 ∨ rsg (x - y) = 0 := by unfold rsg; grind
theorem rsg_lt {x y : Rat} (h : y < x) : rsg (x - y) = 1 := by unfold rsg; grind
end Num
end Go.Proofs.YtkchpagjkgmpmaaGreat
