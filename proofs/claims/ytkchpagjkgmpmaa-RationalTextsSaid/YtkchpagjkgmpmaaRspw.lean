/-
  The specification's find.
-/
import Derived.Test.YtkchpagjkgmpmaaRspm
import Derived.Test.YtkchpagjkgmpmaaRst
import Derived.Test.YtkchpagjkgmpmaaRpar
namespace Go.Proofs.Ytkchpagjkgmpmaa
open Go.RowKit
set_option linter.unusedVariables false
namespace Num
theorem byte_at2 (s : ByteArray) (k : Nat) (hk : k < s.size) : s.data.toList[k]'(by rw [dl_len]; exact hk) = s[k] := by
  simp [ByteArray.getElem_eq_getElem_data]
theorem at_bytes (c : UInt8) (s : ByteArray) (a b : List UInt8) (hab : s.data.toList = a ++ c :: b) (ha : c ∉ a) : ∀ k (hk : k < s.size), (k < a.length → ((s[k].toNat : Int) == (c.toNat : Int)) = false) ∧ (k = a.length → ((s[k].toNat : Int) == (c.toNat : Int)) = true) := by
  intro k hk
  have e := byte_at2 s k hk
  have e2 : s.data.toList[k]? = some s[k] := by rw [← e]; exact List.getElem?_eq_getElem _
  rw [hab] at e2
  constructor
  · intro h
    rw [List.getElem?_append_left h] at e2
    have hm : s[k] ∈ a := List.mem_of_getElem? e2
    rw [beq_eq_false_iff_ne]
    intro h2
    have : s[k] = c := UInt8.toNat_inj.1 (by omega)
    rw [this] at hm
    exact ha hm
  · intro h
    subst h
    rw [List.getElem?_append_right (Nat.le_refl _)] at e2
    simp at e2
    rw [← e2]; simp
theorem no_bytes (c : UInt8) (s : ByteArray) (h : c ∉ s.data.toList) : ∀ k (hk : k < s.size), ((s[k].toNat : Int) == (c.toNat : Int)) = false := by
  intro k hk
  have e := byte_at2 s k hk
  have hm : s[k] ∈ s.data.toList := by rw [← e]; exact List.getElem_mem _
  rw [beq_eq_false_iff_ne]
  intro h2
  have : s[k] = c := UInt8.toNat_inj.1 (by omega)
  rw [this] at hm
  exact h hm
set_option maxRecDepth 100000 in
set_option maxHeartbeats 800000 in
theorem find_no (w : World) (s : ByteArray) (c : Int) (d : UInt8) (hc : (d.toNat : Int) = c) (hs : s.size ≤ 10000) (h : d ∉ s.data.toList) :
    Calls Try.prog 49 #[.string s, .int .u8 c] w fun e w' => e = .returned (.int .i64 (-1)) ∧ On w w' := by
  have hN : Hid (∀ k (hk : k < s.size), ((s[k].toNat : Int) == c) = false) := Lib.hid (by
    have := no_bytes _ s h
    rw [hc] at this
    exact this)
  clear h
  go_enter Try.func49, Try.ntmps49
  go_wp2
  go_loopw [8] (fun i wr => ∃ k : Nat, k ≤ s.size ∧ i = .int .i64 (k : Int) ∧ On w wr) (fun i _ => s.size - (intOf i).toNat)
  case atStart => exact ⟨0, by omega, rfl, On.refl w⟩
  case round =>
    obtain ⟨k, hk, rfl, hon⟩ := hrel
    by_cases hlt : k < s.size
    · have h1 := hN.out k hlt
      have k0 : (0 : Int) ≤ (k : Int) := by omega
      have k1 : (k : Int) < (s.size : Int) := by omega
      go_wp2
      exact ⟨⟨k + 1, by omega, by go_num, hon⟩, by simp [intOf]; omega⟩
    · obtain rfl : k = s.size := by omega
      go_wp2
      go_ret
      exact ⟨rfl, hon⟩
set_option maxRecDepth 100000 in
set_option maxHeartbeats 800000 in
theorem find_at (w : World) (s : ByteArray) (c : Int) (d : UInt8) (hc : (d.toNat : Int) = c) (hs : s.size ≤ 10000) (a b : List UInt8) (hab : s.data.toList = a ++ d :: b) (ha : d ∉ a) :
    Calls Try.prog 49 #[.string s, .int .u8 c] w fun e w' => e = .returned (.int .i64 (a.length : Int)) ∧ On w w' := by
  have hN : Hid (∀ k (hk : k < s.size), (k < a.length → ((s[k].toNat : Int) == c) = false) ∧ (k = a.length → ((s[k].toNat : Int) == c) = true)) := Lib.hid (by
    have := at_bytes _ s a b hab ha
    rw [hc] at this
    exact this)
  have hal : a.length < s.size := by rw [← dl_len, hab]; simp <;> omega
  clear hab ha
  go_enter Try.func49, Try.ntmps49
  go_wp2
  go_loopw [8] (fun i wr => ∃ k : Nat, k ≤ a.length ∧ i = .int .i64 (k : Int) ∧ On w wr) (fun i _ => s.size - (intOf i).toNat)
  case atStart => exact ⟨0, by omega, rfl, On.refl w⟩
  case round =>
    obtain ⟨k, hk, rfl, hon⟩ := hrel
    have hlt : k < s.size := by omega
    have k0 : (0 : Int) ≤ (k : Int) := by omega
    have k1 : (k : Int) < (s.size : Int) := by omega
    rcases Nat.lt_or_ge k a.length with hka | hka
    · have h1 := (hN.out k hlt).1 hka
      go_wp2
      exact ⟨⟨k + 1, by omega, by go_num, hon⟩, by simp [intOf]; omega⟩
    · obtain rfl : k = a.length := by omega
      have h1 := (hN.out _ hlt).2 rfl
      go_wp2
      go_ret
      exact ⟨rfl, hon⟩
end Num
end Go.Proofs.Ytkchpagjkgmpmaa
