/-
  What the statements call besides: equal lists, equal formulas, Is, Clip.
-/
import Derived.Test.YtpllgpjplliadaaFu
namespace Go.Proofs.Ytpllgpjplliadaa.Fm
open Go.RowKit Go.Proofs.Ytpllgpjplliadaa.Sb
set_option linter.unusedVariables false
set_option maxRecDepth 100000
set_option maxHeartbeats 2000000 in
theorem ints_eq (w : World) (A : Option Addr) (n c : Nat) (A' : Option Addr) (n' c' : Nat) (l : List Int) (h : Rd w A n c (VI l)) (h' : Rd w A' n' c' (VI l)) :
    Calls Try.prog 21 #[.slice A n c, .slice A' n' c'] w fun e w' => e = .returned (.bool true) ∧ On w w' := by
  obtain rfl : n = n' := by rw [← VI_len h, VI_len h']
  have hcap := h.cap
  have hmax := h.max
  have hcap' := h'.cap
  have hmax' := h'.max
  go_enter Try.func21, Try.ntmps21
  go_wp2
  go_loopw [13] (fun i wr => ∃ k : Nat, k ≤ n ∧ i = .int .i64 (k : Int) ∧ On w wr) (fun i _ => n - (intOf i).toNat)
  case atStart => exact ⟨0, by omega, rfl, On.refl _⟩
  case round =>
    obtain ⟨k, hk, rfl, hon⟩ := hrel
    by_cases hlt : k < n
    · obtain ⟨ad, rfl, hb, hc⟩ := VI_at (h.on hon) hlt
      obtain ⟨ad', rfl, hb', hc'⟩ := VI_at (h'.on hon) hlt
      obtain ⟨x, hx⟩ : ∃ x, l.getD k 0 = x := ⟨_, rfl⟩
      rw [hx] at hc hc'
      clear hx
      go_wp2
      go_region
      all_goals go_wp2
      exact ⟨⟨k + 1, by omega, by go_num, hon.drew⟩, by simp [intOf]; omega⟩
    · obtain rfl : k = n := by omega
      go_wp2
      go_ret
      exact ⟨rfl, hon⟩
set_option maxHeartbeats 2000000 in
theorem bools_eq (w : World) (A : Option Addr) (n c : Nat) (A' : Option Addr) (n' c' : Nat) (l : List Bool) (h : Rd w A n c (VB l)) (h' : Rd w A' n' c' (VB l)) :
    Calls Try.prog 18 #[.slice A n c, .slice A' n' c'] w fun e w' => e = .returned (.bool true) ∧ On w w' := by
  obtain rfl : n = n' := by rw [← VB_len h, VB_len h']
  have hcap := h.cap
  have hmax := h.max
  have hcap' := h'.cap
  have hmax' := h'.max
  go_enter Try.func18, Try.ntmps18
  go_wp2
  go_loopw [13] (fun i wr => ∃ k : Nat, k ≤ n ∧ i = .int .i64 (k : Int) ∧ On w wr) (fun i _ => n - (intOf i).toNat)
  case atStart => exact ⟨0, by omega, rfl, On.refl _⟩
  case round =>
    obtain ⟨k, hk, rfl, hon⟩ := hrel
    by_cases hlt : k < n
    · obtain ⟨ad, rfl, hb, hc⟩ := VB_at (h.on hon) hlt
      obtain ⟨ad', rfl, hb', hc'⟩ := VB_at (h'.on hon) hlt
      obtain ⟨x, hx⟩ : ∃ x, l.getD k false = x := ⟨_, rfl⟩
      rw [hx] at hc hc'
      clear hx
      cases x with
      | true =>
        go_wp2
        go_region
        all_goals go_wp2
        exact ⟨⟨k + 1, by omega, by go_num, hon.drew⟩, by simp [intOf]; omega⟩
      | false =>
        go_wp2
        go_region
        all_goals go_wp2
        exact ⟨⟨k + 1, by omega, by go_num, hon.drew⟩, by simp [intOf]; omega⟩
    · obtain rfl : k = n := by omega
      go_wp2
      go_ret
      exact ⟨rfl, hon⟩
theorem is_err (w : World) (x : Int) : Calls Try.prog 27 #[.iface 50 (.int .i64 x), .int .i64 x] w fun e w' => e = .returned (.bool true) ∧ w = w' := by
  have hta : ∀ W, (Instr.typeAssert (.iface 50 (.int .i64 x)) 29 50 true).run Try.prog W = .ok (.tuple #[.int .i64 x, .bool true]) W := fun _ => by kernel_rfl
  go_enter Try.func27, Try.ntmps27
  go_wp2
  go_ret
  exact ⟨rfl, rfl⟩

theorem clip_any (w : World) (v : Nat) (hv : v ≤ 24) : Calls Try.prog 29 #[.int .i64 (v : Int), .int .i64 0, .int .i64 24] w fun e w' => e = .returned (.int .i64 (v : Int)) ∧ w = w' := by
  by_cases h0 : v = 0
  · subst h0
    go_enter Try.func29, Try.ntmps29
    go_wp2
    go_ret
    exact ⟨rfl, rfl⟩
  · have h1 : min (v : Int) 24 = (v : Int) := by omega
    have h2 : max (0 : Int) (v : Int) = (v : Int) := by omega
    have h3 : 0 < v := by omega
    go_enter Try.func29, Try.ntmps29
    go_wp2
    go_ret
    exact ⟨rfl, rfl⟩
end Go.Proofs.Ytpllgpjplliadaa.Fm
