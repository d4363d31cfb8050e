/-
  What small functions do: slices.Clone of words, of64, Of, to64, Words.
-/
import Derived.Test.YtkpeliokhmigoaaOwn
import Derived.Test.YtkpeliokhmigoaaTrim
import Derived.Lib.SliceRun
namespace Go.Proofs.Ytkpeliokhmigoaa
open Go.RowKit
set_option linter.unusedVariables false
namespace Num
/-- a copy: the same words, in a block of its own -/
def Cloned (w : World) (n : Nat) (xs : List Nat) (e : Ending) (w' : World) : Prop :=
  ∃ A' c', e = .returned (.slice A' n c') ∧ Rd w' A' n c' xs ∧ On w w' ∧ (0 < n → ∃ g cur, A' = some ⟨g, 0, none⟩ ∧ w.heap.size ≤ g ∧ Own w' g 53 cur ∧ Has cur 0 xs)
set_option maxHeartbeats 400000 in
theorem clone_any (w : World) (A : Option Addr) (n c : Nat) (xs : List Nat) (h : Rd w A n c xs) (hn : n ≤ 100000000) :
    Calls Try.prog 76 #[.slice A n c] w (Cloned w n xs) := by
  have heq := fun W => Lib.run_eql_slice_nil (P := Try.prog) W 22 53 A n c 0 0 Try.underlying22
  rcases A with _ | ad
  · have hc0 : c = 0 := h.none_ rfl
    obtain rfl : n = 0 := by have := h.cap; omega
    obtain rfl : xs = [] := List.eq_nil_of_length_eq_zero h.len
    subst hc0
    go_enter Try.func76, Try.ntmps76
    go_wp2
    go_ret
    exact ⟨none, 0, rfl, Rd.nil_, On.refl _, fun h => absurd h (by omega)⟩
  · have hlen := h.len
    have hown : (w.alloc (.cells #[] 53)).ownsRow w.heap.size 53 1 (.slice (some ⟨w.heap.size, 0, none⟩) 0 0) 0 (VW .u32 []) :=
      ⟨rfl, .inr ⟨w.heap.size, 0, #[], rfl, Nat.le_refl _, heap_alloc_new w _, Nat.le_refl _, by decide, rfl, rfl⟩⟩
    have hcells : ∀ ad', some ad = some ad' → ∀ j, j < n → (w.alloc (.cells #[] 53)).cell? (ad'.add j) = some (.int .u32 (gw xs j : Int)) := by
      intro ad' e j hj
      obtain ⟨ad2, e2, hb, hc⟩ := (h.alloc (.cells #[] 53)).at_ j hj
      injection e with e
      injection e2 with e2
      subst e; subst e2
      exact hc
    have HC := Lib.hid hcells
    have HO := Lib.hid hown
    have HL := Lib.hid hlen
    clear hcells hown hlen
    go_enter Try.func76, Try.ntmps76
    go_wp2_with (at_builtin; refine wpList_app rfl (.tmp 5) (.tmp 6) 22 rfl w.heap.size 53 (.int .u32 0) 4 Try.underlying22 info32 rfl (by decide) .u32 (.slice (some ⟨w.heap.size, 0, none⟩) 0 0) 0 [] rfl HO.out (some ad) n c xs rfl HL.out (fun e => by cases e) HC.out (by omega) (by simp) ?_; intro v' w1 hown1 hgrow hor)
    go_ret
    rw [Nat.zero_add, List.nil_append] at hown1
    obtain ⟨A', c', rfl⟩ := row_form hown1
    refine ⟨A', c', rfl, rd_of_row h.ok hown1, Below.grown ((Below.refl _ _).alloc (Nat.le_refl _) _) hgrow (by simp) (fun k e => by cases e; exact Nat.le_refl _), fun hn0 => ?_⟩
    obtain ⟨g, cap, cur, hv, hb, ho, hh, _⟩ := own_of_row h.ok hown1 hn0
    injection hv with h1
    exact ⟨g, cur, h1, hb, ho, hh⟩
set_option maxHeartbeats 400000 in
/-- a number of at most two words -/
theorem of64_any (w : World) (x : Int) (h0 : 0 ≤ x) (h1 : x ≤ 18446744073709551615) :
    Calls Try.prog 82 #[.int .u64 x] w (Gives w x.toNat 2) := by
  obtain ⟨k, rfl⟩ := Int.eq_ofNat_of_zero_le h0
  go_enter Try.func82, Try.ntmps82
  go_wp2_with fail
  rw [show ((k : Int) % 4294967296) = ((k % 4294967296 : Nat) : Int) from by omega, show ((k : Int) / 4294967296) = ((k / 4294967296 : Nat) : Int) from by omega]
  have R := rd_two w 53 (k % 4294967296) (k / 4294967296) (by omega) (by omega)
  refine (trim_any _ _ _ _ _ R).mono ?_
  rintro e w' ⟨rfl, rfl⟩
  go_wp2
  go_ret
  have hN := nm_trim R (L := 2) (tl_le _)
  have hv : val [k % 4294967296, k / 4294967296] = k := by simp only [val, BB]; omega
  rw [hv] at hN
  exact ⟨_, _, _, rfl, hN, (On.refl w).alloc _⟩
/-- Of -/
theorem of_any (w : World) (x : Int) (h1 : x ≤ 9223372036854775807) :
    Calls Try.prog 45 #[.int .i64 x] w (Gives w x.toNat 2) := by
  by_cases h0 : x < 0
  · go_enter Try.func45, Try.ntmps45
    go_wp2
    go_ret
    exact ⟨none, 0, 0, rfl, ⟨[], Rd.nil_, clean_nil, by simp [val]; omega, by omega⟩, On.refl _⟩
  · go_enter Try.func45, Try.ntmps45
    go_wp2_with fail
    refine (of64_any _ _ (by omega) (by omega)).mono ?_
    rintro e w' ⟨A, n, c, rfl, hN, hon⟩
    go_wp2
    go_ret
    exact ⟨A, n, c, rfl, hN, hon⟩
set_option maxHeartbeats 400000 in
/-- the two lists are the same -/
theorem words_true (w : World) (A A' : Option Addr) (n c n' c' : Nat) (v L L' : Nat) (h : Nm w A n c v L) (k : Nm w A' n' c' v L') :
    Calls Try.prog 44 #[.slice A n c, .slice A' n' c'] w fun e w' => e = .returned (.bool true) ∧ On w w' := by
  obtain ⟨xs, R, C, V, hL⟩ := h
  obtain ⟨ys, R', C', V', hL'⟩ := k
  obtain rfl : xs = ys := val_inj R.ok R'.ok C C' (by rw [V, V'])
  obtain rfl : n = n' := by rw [← R.len, ← R'.len]
  have hcap := R.cap
  have hmax := R.max
  clear V V' C C'
  go_enter Try.func44, Try.ntmps44
  go_wp2
  go_loopw [13] (fun i wr => ∃ k : Nat, k ≤ n ∧ i = .int .i64 k ∧ On w wr) (fun i _ => n - (intOf i).toNat)
  case atStart => exact ⟨0, Nat.zero_le _, rfl, On.refl _⟩
  case round =>
    obtain ⟨k, hk, rfl, hon⟩ := hrel
    by_cases hlt : k < n
    · obtain ⟨ad, rfl, hb, hc⟩ := (R.on hon).at_ k hlt
      obtain ⟨ad', rfl, hb', hc'⟩ := (R'.on hon).at_ k hlt
      go_wp2
      go_quiet (fail)
      go_wp2
      exact ⟨⟨k + 1, by omega, by go_num, hon.drewN nq⟩, by simp [intOf]; omega⟩
    · go_wp2
      go_ret
      exact ⟨rfl, hon⟩
end Num
end Go.Proofs.Ytkpeliokhmigoaa
