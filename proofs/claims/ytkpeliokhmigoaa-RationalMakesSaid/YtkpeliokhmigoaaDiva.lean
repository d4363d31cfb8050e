/-
  Div of any numbers.
-/
import Derived.Test.YtkpeliokhmigoaaDl
import Derived.Test.YtkpeliokhmigoaaDiv
namespace Go.Proofs.Ytkpeliokhmigoaa
open Go.RowKit
set_option linter.unusedVariables false
namespace Num
set_option maxHeartbeats 800000 in
theorem div_long (w : World) (A A' : Option Addr) (n c n' c' : Nat) (xs ys : List Nat) (h : Rd w A n c xs) (k : Rd w A' n' c' ys) (m : Nat) (h0 : tl ys = m + 2) (h1 : tl ys ≤ tl xs) (hn : n ≤ 10000) :
    Calls Try.prog 81 #[.slice A n c, .slice A' n' c'] w (QR w (val xs) (val ys) (tl xs) (tl ys)) := by
  have T := h.take (k := tl xs) (by rw [← h.len]; exact tl_le xs)
  have T' := k.take (k := tl ys) (by rw [← k.len]; exact tl_le ys)
  have hle : tl xs ≤ n := by rw [← h.len]; exact tl_le xs
  have hlast := clean_last (clean_take ys) (m + 1) (by rw [List.length_take, Nat.min_eq_left (tl_le ys), h0])
  rw [← val_take_tl xs, ← val_take_tl ys]
  generalize xs.take (tl xs) = zs at *
  generalize ys.take (tl ys) = us at *
  have HLA := Lib.hid hlast
  have H0 := Lib.hid h0
  rw [h0] at h1 T'
  rw [h0]
  clear hlast h0
  go_enter Try.func81, Try.ntmps81
  go_wp2_with fail
  refine (trim_any _ _ _ _ _ h).mono ?_
  rintro e w' ⟨rfl, rfl⟩
  go_wp2_with fail
  refine (trim_any _ _ _ _ _ k).mono ?_
  rintro e w' ⟨rfl, rfl⟩
  rw [H0.out]
  generalize tl xs = l at *
  have hd1 : decide ((l : Int) < (m : Int) + 2) = false := decide_eq_false (by omega)
  have hd2 : (((m : Int) + 2) == 0) = false := by simp; omega
  have hd3 : (((m : Int) + 2) == 1) = false := by simp; omega
  go_wp2_with fail
  refine (divlong_any _ _ _ _ _ _ _ _ _ T T' HLA.out h1 (by omega)).mono ?_
  rintro e w1 ⟨A1, n1, c1, A2, n2, c2, rfl, N1, N2, hon⟩
  go_wp2
  go_ret3
  exact ⟨_, _, _, _, _, _, rfl, N1, N2, hon⟩
/-- Div, the divisor not 0 -/
theorem div_any (w : World) (A A' : Option Addr) (n c n' c' L M : Nat) (xs ys : List Nat) (h : Rd w A n c xs) (k : Rd w A' n' c' ys) (hv : 0 < val ys) (hn : n ≤ 10000) (hL : tl xs ≤ L) (hM : tl ys ≤ M) (hM2 : 2 ≤ M) :
    Calls Try.prog 81 #[.slice A n c, .slice A' n' c'] w (QR w (val xs) (val ys) L M) := by
  have hp : 0 < tl ys := by
    rcases Nat.eq_zero_or_pos (tl ys) with h0 | h0
    · rw [val_of_tl_zero ys h0] at hv; omega
    · exact h0
  rcases Nat.lt_or_ge (tl xs) (tl ys) with hlt | hge
  · exact div_less w A A' n c n' c' L M xs ys h k hlt (by omega) hM
  · rcases Nat.lt_or_ge (tl ys) 2 with h1 | h2
    · exact div_word w A A' n c n' c' L M xs ys h k (by omega) (by omega) (by omega) hL hM2
    · obtain ⟨m, hm⟩ : ∃ m, tl ys = m + 2 := ⟨tl ys - 2, by omega⟩
      refine (div_long w A A' n c n' c' xs ys h k m hm hge hn).mono ?_
      rintro e w' ⟨A1, n1, c1, A2, n2, c2, he, ⟨q, q1, q2, q3, q4⟩, ⟨r, r1, r2, r3, r4⟩, hon⟩
      exact ⟨A1, n1, c1, A2, n2, c2, he, ⟨q, q1, q2, q3, by omega⟩, ⟨r, r1, r2, r3, by omega⟩, hon⟩
end Num
end Go.Proofs.Ytkpeliokhmigoaa
