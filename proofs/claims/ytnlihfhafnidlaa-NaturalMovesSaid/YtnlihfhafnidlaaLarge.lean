/-
  large; clean; and what stands at the head of each statement.
-/
import Derived.Test.YtnlihfhafnidlaaAwake
namespace Go.Proofs.Ytnlihfhafnidlaa
open Go.RowKit
set_option linter.unusedVariables false
namespace Num
/-- the lengths of the lists in a block -/
def Lens (w : World) (g : Nat) (ls : List Nat) : Prop := ∀ i, i < ls.length → ∃ A c, w.cell? ⟨g, i, none⟩ = some (.slice A (gw ls i) c) ∧ c ≤ 9223372036854775807 ∧ gw ls i ≤ c
set_option maxHeartbeats 400000 in
theorem large_no (w : World) (g k c : Nat) (ls : List Nat) (h : Lens w g ls) (hk : ls.length = k) (hkb : k ≤ 10) (hno : ∀ i, i < k → gw ls i ≤ 40) :
    Calls Try.prog 15 #[.slice (some ⟨g, 0, none⟩) k c] w fun e w' => e = .returned (.bool false) ∧ w = w' := by
  have HK := Lib.hid hk
  have HN := Lib.hid hno
  clear hk hno
  go_enter Try.func15, Try.ntmps15
  go_wp2
  go_loop [7] (fun i => ∃ j : Nat, j ≤ k ∧ i = .int .i64 (j : Int)) (fun i => k - (intOf i).toNat)
  case atStart => exact ⟨0, by omega, rfl⟩
  case round =>
    obtain ⟨j, hj, rfl⟩ := hrel
    by_cases hlt : j < k
    · obtain ⟨A, c', hc, hm, hl⟩ := h j (by rw [HK.out]; exact hlt)
      have hn := HN.out j hlt
      go_wp2
      go_round
      case rel => exact ⟨j + 1, by omega, by go_num⟩
      case measure => first | (simp [intOf]; done) | (simp [intOf]; omega)
    · go_wp2
      go_ret
      exact ⟨rfl, rfl⟩
set_option maxHeartbeats 400000 in
theorem large_yes (w : World) (g k c : Nat) (ls : List Nat) (h : Lens w g ls) (hk : ls.length = k) (hkb : k ≤ 10) (m : Nat) (hmk : m < k) (hyes : 40 < gw ls m) :
    Calls Try.prog 15 #[.slice (some ⟨g, 0, none⟩) k c] w fun e w' => e = .returned (.bool true) ∧ w = w' := by
  have HK := Lib.hid hk
  have HY := Lib.hid hyes
  clear hk hyes
  go_enter Try.func15, Try.ntmps15
  go_wp2
  go_loop [7] (fun i => ∃ j : Nat, j ≤ m ∧ i = .int .i64 (j : Int)) (fun i => k - (intOf i).toNat)
  case atStart => exact ⟨0, by omega, rfl⟩
  case round =>
    obtain ⟨j, hj, rfl⟩ := hrel
    obtain ⟨A, c', hc, hm, hl⟩ := h j (by rw [HK.out]; omega)
    have hjk : j < k := by omega
    by_cases hn : 40 < gw ls j
    · go_wp2
      go_ret
      exact ⟨rfl, rfl⟩
    · have hne : j ≠ m := by intro e; subst e; exact hn HY.out
      have hjm : j + 1 ≤ m := by omega
      clear hne
      go_wp2
      go_round
      case rel => exact ⟨j + 1, by omega, by go_num⟩
      case measure => first | (simp [intOf]; done) | (simp [intOf]; omega)
set_option maxHeartbeats 400000 in
theorem clean_any (w : World) (A : Option Addr) (n c v L : Nat) (h : Nm w A n c v L) :
    Calls Try.prog 46 #[.slice A n c] w fun e w' => e = .returned (.bool true) ∧ On w w' := by
  obtain ⟨xs, R, C, V, hL⟩ := h
  have hmax := R.max
  have hcap := R.cap
  rcases n with _ | n
  · go_enter Try.func46, Try.ntmps46
    go_wp2
    go_ret
    exact ⟨rfl, On.refl _⟩
  · obtain ⟨ad, rfl, hb, hc⟩ := R.at_ n (by omega)
    have hne := clean_last C n R.len
    have hb1 : (((gw xs n : Nat) : Int) != 0) = true := by rw [bne_iff_ne]; omega
    clear V C hne
    go_enter Try.func46, Try.ntmps46
    go_wp2
    go_ret
    exact ⟨rfl, On.refl _⟩
theorem lens_one (w : World) (t : TypeId) (A : Option Addr) (n c : Nat) (h : n ≤ c) (hm : c ≤ 9223372036854775807) : Lens (w.alloc (.cells #[.slice A n c] t)) w.heap.size [n] := by
  intro i hi
  obtain rfl : i = 0 := by simp at hi; omega
  exact ⟨A, c, by rw [(Own.new w t _).cell]; rfl, hm, h⟩
theorem lens_two (w : World) (t : TypeId) (A A' : Option Addr) (n c n' c' : Nat) (h : n ≤ c) (hm : c ≤ 9223372036854775807) (h' : n' ≤ c') (hm' : c' ≤ 9223372036854775807) : Lens (w.alloc (.cells #[.slice A n c, .slice A' n' c'] t)) w.heap.size [n, n'] := by
  intro i hi
  match i, hi with
  | 0, _ => exact ⟨A, c, by rw [(Own.new w t _).cell]; rfl, hm, h⟩
  | 1, _ => exact ⟨A', c', by rw [(Own.new w t _).cell]; rfl, hm', h'⟩
theorem lens_three (w : World) (t : TypeId) (A A' A'' : Option Addr) (n c n' c' n'' c'' : Nat) (h : n ≤ c) (hm : c ≤ 9223372036854775807) (h' : n' ≤ c') (hm' : c' ≤ 9223372036854775807) (h'' : n'' ≤ c'') (hm'' : c'' ≤ 9223372036854775807) : Lens (w.alloc (.cells #[.slice A n c, .slice A' n' c', .slice A'' n'' c''] t)) w.heap.size [n, n', n''] := by
  intro i hi
  match i, hi with
  | 0, _ => exact ⟨A, c, by rw [(Own.new w t _).cell]; rfl, hm, h⟩
  | 1, _ => exact ⟨A', c', by rw [(Own.new w t _).cell]; rfl, hm', h'⟩
  | 2, _ => exact ⟨A'', c'', by rw [(Own.new w t _).cell]; rfl, hm'', h''⟩
end Num
end Go.Proofs.Ytnlihfhafnidlaa
