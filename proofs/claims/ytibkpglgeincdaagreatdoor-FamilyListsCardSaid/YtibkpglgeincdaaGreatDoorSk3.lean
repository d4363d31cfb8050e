/-
  The specification's Support, Sizes, for lists of sets.
-/
import Derived.Test.YtibkpglgeincdaaGreatDoorSk2
namespace Go.Proofs.YtibkpglgeincdaaGreatDoor.Sb
open Go.RowKit
set_option linter.unusedVariables false
set_option maxRecDepth 100000
set_option maxHeartbeats 2000000 in
theorem rSupport_ok (w : World) (A : Option Addr) (n c : Nat) (k : List Nat) (h : Rd w A n c (VI (ints k))) (hk : Ok k) (hl : k.length ≤ 1024) :
    Calls Tryz.prog 15 #[.slice A n c] w fun e w' => e = .returned (.tuple #[.int .i64 (orL k : Nat), .int .i64 0]) ∧ On w w' := by
  have hn : k.length = n := by have := h.len; rw [ints_len] at this; exact this
  have hA := Error_any w A n c _ h
  rw [lerr_ok hk hl] at hA
  have h1 := h
  have hcap := h.cap
  have hmax := h.max
  have HN := Lib.hid hn
  clear h hn
  go_enter Tryz.func15, Tryz.ntmps15
  go_wp2_with fail
  refine hA.mono ?_
  rintro e w' ⟨rfl, rfl⟩
  clear hA
  have H := Lib.hid h1
  clear h1
  go_wp2
  go_loopw [5, 15] (fun u i wr => ∃ j : Nat, j ≤ n ∧ i = .int .i64 (j : Int) ∧ u = .int .i64 ((orL (k.take j) : Nat) : Int) ∧ w = wr) (fun _ i _ => n - (intOf i).toNat)
  case atStart => exact ⟨0, by omega, rfl, rfl, rfl⟩
  case round =>
    obtain ⟨j, hj, rfl, rfl, rfl⟩ := hrel
    by_cases hlt : j < n
    · have hjl : j < k.length := by rw [HN.out]; exact hlt
      obtain ⟨ad, e1, hb, hc⟩ := H.out.at_ j _ (ints_get hjl)
      cases e1
      have hst := orL_take hjl
      have hxm := getD_mem hjl
      have h24 : orL (k.take j) < 16777216 := orL_ok fun x hx => hk x (List.mem_of_mem_take hx)
      obtain ⟨x, hx⟩ : ∃ x, k.getD j 0 = x := ⟨_, rfl⟩
      obtain ⟨u, hu⟩ : ∃ u, orL (k.take j) = u := ⟨_, rfl⟩
      rw [hx] at hc hst hxm
      rw [hu] at hst h24 ⊢
      have hor := or_step u x h24 (hk x hxm)
      rw [← hst] at hor
      have HO := Lib.hid hor
      clear hx hu hst hxm h24 hor
      go_wp2
      go_roundw
      case rel => exact ⟨j + 1, by omega, by go_num, by rw [← HO.out], trivial⟩
      case measure => simp [intOf]; omega
    · obtain rfl : j = n := by omega
      have e0 : k.take j = k := List.take_of_length_le (by rw [HN.out]; omega)
      rw [e0]
      clear e0
      go_wp2
      go_ret2
      exact ⟨rfl, On.refl _⟩
end Go.Proofs.YtibkpglgeincdaaGreatDoor.Sb
