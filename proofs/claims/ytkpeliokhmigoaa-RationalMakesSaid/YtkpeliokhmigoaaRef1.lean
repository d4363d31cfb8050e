/-
  The specification's functions: word, Trim, Of, Cmp, Add, Sub.
-/
import Derived.Test.YtkpeliokhmigoaaBase
namespace Go.Proofs.Ytkpeliokhmigoaa
open Go.RowKit
set_option linter.unusedVariables false
namespace Num
theorem word_is (w : World) (A : Option Addr) (n c : Nat) (xs : List Nat) (h : Rd w A n c xs) (i : Int) (k : Nat) (hi : i = (k : Int)) (h1 : k ≤ 1000000000) :
    Calls Try.prog 72 #[.slice A n c, .int .i64 i] w fun e w' => e = .returned (.int .u64 ((gw xs k : Nat) : Int)) ∧ w = w' := by
  subst hi
  have hcap := h.cap
  have hmax := h.max
  by_cases hk : k < n
  · obtain ⟨ad, rfl, hb, hcell⟩ := h.at_ k hk
    have hg := h.ok.get k
    go_enter Try.func72, Try.ntmps72
    go_wp2
    go_ret
    exact ⟨rfl, rfl⟩
  · have hg := Lib.hid (getD_ge (l := xs) (k := k) (by rw [h.len]; omega))
    go_enter Try.func72, Try.ntmps72
    go_wp2
    go_ret
    exact ⟨by rw [hg.out]; rfl, rfl⟩
theorem own_empty (w : World) (t : TypeId) (k : IntKind) : (w.alloc (.cells #[] t)).ownsRow w.heap.size t 1 (.slice (some ⟨w.heap.size, 0, none⟩) 0 0) 0 (VW k []) :=
  ⟨rfl, .inr ⟨w.heap.size, 0, #[], rfl, Nat.le_refl _, heap_alloc_new w _, Nat.le_refl _, by decide, rfl, rfl⟩⟩
theorem Rd.nil_app {w : World} {A : Option Addr} {n c : Nat} {xs : List Nat} (h : Rd w A n c xs) : A = none → n = 0 ∧ c = 0 := fun e => by
  have h1 := h.none_ e
  have h2 := h.cap
  omega
theorem Rd.cells_app {w : World} {A : Option Addr} {n c : Nat} {xs : List Nat} (h : Rd w A n c xs) : ∀ ad, A = some ad → ∀ j, j < n → w.cell? (ad.add j) = some (.int .u32 (gw xs j : Int)) := by
  intro ad e j hj
  obtain ⟨ad2, e2, hb, hc⟩ := h.at_ j hj
  rw [e] at e2
  injection e2 with e2
  subst e2
  exact hc
/-- Gives, and the memory is new -/
def GivesN (w : World) (v L : Nat) (e : Ending) (w' : World) : Prop := ∃ A n c, e = .returned (.slice A n c) ∧ Nm w' A n c v L ∧ On w w' ∧ ∀ ad, A = some ad → w.heap.size ≤ ad.block
def GivesN2 (w : World) (v L : Nat) (er : Value) (e : Ending) (w' : World) : Prop := ∃ A n c, e = .returned (.tuple #[.slice A n c, er]) ∧ Nm w' A n c v L ∧ On w w' ∧ ∀ ad, A = some ad → w.heap.size ≤ ad.block
theorem row_new {w : World} {base : Nat} {e : TypeId} {A : Option Addr} {n c : Nat} {xs : List Value} (h : w.ownsRow base e 1 (.slice A n c) n xs) : ∀ ad, A = some ad → base ≤ ad.block := by
  intro ad e1
  rcases h.2 with ⟨hv, _⟩ | ⟨g, cap, cur, hv, hb, _⟩
  · injection hv with h1 h2 h3
    rw [h1] at e1; cases e1
  · injection hv with h1 h2 h3
    rw [h1] at e1
    injection e1 with e1
    rw [← e1]; exact hb
set_option maxHeartbeats 800000 in
theorem rtrim_new (w : World) (A : Option Addr) (n c L : Nat) (xs : List Nat) (h : Rd w A n c xs) (hL : tl xs ≤ L) (hn : n ≤ 100000000) :
    Calls Try.prog 70 #[.slice A n c] w (GivesN w (val xs) L) := by
  have hlen := h.len
  have hcap := h.cap
  have hmax := h.max
  have htl : tl xs ≤ n := by rw [← h.len]; exact tl_le xs
  go_enter Try.func70, Try.ntmps70
  go_wp2
  go_loop [3] (fun i => ∃ k : Nat, k ≤ n ∧ i = .int .i64 k ∧ tl (xs.take k) = tl xs) (fun i => (intOf i).toNat)
  case atStart => exact ⟨n, Nat.le_refl _, rfl, by rw [List.take_of_length_le (by omega)]⟩
  case round =>
    obtain ⟨k, hk, rfl, ht⟩ := hrel
    have HT := Lib.hid ht
    clear ht
    by_cases hz : 0 < k ∧ gw xs (k - 1) = 0
    · obtain ⟨k, rfl⟩ : ∃ j, k = j + 1 := ⟨k - 1, by omega⟩
      rw [Nat.add_sub_cancel] at hz
      obtain ⟨ad, rfl, hb, hcell⟩ := h.at_ k (by omega)
      have H0 := Lib.hid hz.2
      rw [hz.2] at hcell
      clear hz
      go_wp2
      go_round
      case rel => exact ⟨k, by omega, by go_num, by rw [← HT.out, tl_take_zero xs k (by omega) H0.out]⟩
      case measure => first | (simp [intOf]; done) | (simp [intOf]; omega)
    · have hk2 : tl xs = k := by
        rw [← HT.out]
        rcases Nat.eq_zero_or_pos k with h0 | h0
        · subst h0; rfl
        · obtain ⟨j, rfl⟩ : ∃ j, k = j + 1 := ⟨k - 1, by omega⟩
          exact tl_take_pos xs j (by omega) (by intro e; exact hz ⟨h0, by rw [Nat.add_sub_cancel]; exact e⟩)
      have T := h.take (k := k) hk
      have TA := T.alloc (.cells #[] 53)
      have HO := Lib.hid (own_empty w 53 .u32)
      have HN := Lib.hid TA.nil_app
      have HC := Lib.hid TA.cells_app
      have HL := Lib.hid T.len
      have HK2 := Lib.hid hk2
      have HZ := Lib.hid hz
      clear hz hk2 TA
      rcases k with _ | k
      · clear hlen
        go_wp2_with (at_builtin; refine wpList_app rfl (.tmp 18) (.tmp 21) 22 rfl w.heap.size 53 (.int .u32 0) 4 Try.underlying22 info32 rfl (by decide) .u32 (.slice (some ⟨w.heap.size, 0, none⟩) 0 0) 0 [] rfl HO.out A 0 c (xs.take 0) rfl HL.out HN.out HC.out (by omega) (by simp) ?_; intro v' w1 hown1 hgrow hor)
        go_ret
        rw [Nat.zero_add, List.nil_append] at hown1
        obtain ⟨A', c', rfl⟩ := row_form hown1
        refine ⟨A', 0, c', rfl, ⟨[], rd_of_row Ok.nil hown1, clean_nil, (val_of_tl_zero xs HK2.out).symm, by omega⟩, Below.grown ((Below.refl _ _).alloc (Nat.le_refl _) _) hgrow (by simp) (fun k e => by cases e; exact Nat.le_refl _), row_new hown1⟩
      · obtain ⟨ad, rfl, hb, hcell⟩ := h.at_ k (by omega)
        have hne : (((gw xs k : Nat) : Int) == 0) = false := by
          have : gw xs k ≠ 0 := fun e => HZ.out ⟨by omega, by rw [Nat.add_sub_cancel]; exact e⟩
          simp; omega
        clear hlen
        go_wp2_with (at_builtin; refine wpList_app rfl (.tmp 18) (.tmp 21) 22 rfl w.heap.size 53 (.int .u32 0) 4 Try.underlying22 info32 rfl (by decide) .u32 (.slice (some ⟨w.heap.size, 0, none⟩) 0 0) 0 [] rfl HO.out (some ad) (k + 1) c (xs.take (k + 1)) rfl HL.out HN.out HC.out (by omega) (by simp) ?_; intro v' w1 hown1 hgrow hor)
        go_ret
        rw [Nat.zero_add, List.nil_append] at hown1
        obtain ⟨A', c', rfl⟩ := row_form hown1
        have hcl := clean_take xs
        have hvl := val_take_tl xs
        rw [HK2.out] at hcl hvl
        refine ⟨A', k + 1, c', rfl, ⟨xs.take (k + 1), rd_of_row (h.ok.take _) hown1, hcl, hvl, by rw [← HK2.out]; exact hL⟩, Below.grown ((Below.refl _ _).alloc (Nat.le_refl _) _) hgrow (by simp) (fun k e => by cases e; exact Nat.le_refl _), row_new hown1⟩
theorem rtrim_any (w : World) (A : Option Addr) (n c L : Nat) (xs : List Nat) (h : Rd w A n c xs) (hL : tl xs ≤ L) (hn : n ≤ 100000000) :
    Calls Try.prog 70 #[.slice A n c] w (Gives w (val xs) L) :=
  (rtrim_new w A n c L xs h hL hn).mono fun _ _ ⟨A, n, c, he, hN, hO, _⟩ => ⟨A, n, c, he, hN, hO⟩
end Num
end Go.Proofs.Ytkpeliokhmigoaa
