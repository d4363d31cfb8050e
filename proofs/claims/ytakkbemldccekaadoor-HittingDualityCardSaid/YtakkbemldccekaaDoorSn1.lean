/-
  What the statements call besides: Ints, Num, Is.
-/
import Derived.Test.YtakkbemldccekaaDoorSs1
import Derived.Test.YtakkbemldccekaaDoorSo
import Derived.BigRegion
namespace Go.Proofs.YtakkbemldccekaaDoor.Sb
open Go.RowKit
set_option linter.unusedVariables false
set_option maxRecDepth 100000
/-- a new slice of ints, and the number of an error -/
def GivesI (w : World) (l : List Int) (c : Nat) (e : Ending) (w' : World) : Prop := ∃ A n k, e = .returned (.tuple #[.slice A n k, errV c]) ∧ Rd w' A n k (VI l) ∧ On w w'
theorem list_ne_at : ∀ (l k : List Int), l.length = k.length → l ≠ k → ∃ j, j < l.length ∧ l.take j = k.take j ∧ l.getD j 0 ≠ k.getD j 0 := by
  intro l
  induction l with
  | nil => intro k h1 h2; rcases k with _ | ⟨y, k⟩; exact absurd rfl h2; simp at h1
  | cons x l ih =>
    intro k h1 h2
    rcases k with _ | ⟨y, k⟩
    · simp at h1
    by_cases hxy : x = y
    · subst hxy
      obtain ⟨j, a, b, c⟩ := ih k (by simpa using h1) (fun e => h2 (by rw [e]))
      exact ⟨j + 1, by simpa using a, by simp [b], by simpa using c⟩
    · exact ⟨0, by simp, rfl, by simpa using hxy⟩
set_option maxHeartbeats 1000000 in
theorem ints_any (w : World) (A : Option Addr) (n c : Nat) (l : List Int) (A' : Option Addr) (n' c' : Nat) (l' : List Int) (h : Rd w A n c (VI l)) (h' : Rd w A' n' c' (VI l')) :
    Calls Tryd.prog 18 #[.slice A n c, .slice A' n' c'] w fun e w' => e = .returned (.bool (decide (l = l'))) ∧ On w w' := by
  have hn : l.length = n := by have := h.len; rw [VI_length] at this; exact this
  have hn' : l'.length = n' := by have := h'.len; rw [VI_length] at this; exact this
  have hcap := h.cap
  have hmax := h.max
  have hcap' := h'.cap
  have hmax' := h'.max
  by_cases hl : n = n'
  · subst hl
    have HN := Lib.hid hn
    have HN' := Lib.hid hn'
    clear hn hn'
    go_enter Tryd.func18, Tryd.ntmps18
    go_wp2
    go_loopw [13] (fun i wr => ∃ k : Nat, k ≤ n ∧ i = .int .i64 (k : Int) ∧ l.take k = l'.take k ∧ On w wr) (fun i _ => n - (intOf i).toNat)
    case atStart => exact ⟨0, by omega, rfl, rfl, On.refl _⟩
    case round =>
      obtain ⟨k, hk, rfl, ht, hon⟩ := hrel
      have HT := Lib.hid ht
      clear ht
      by_cases hlt : k < n
      · have hkl : k < l.length := by rw [HN.out]; exact hlt
        have hkl' : k < l'.length := by rw [HN'.out]; exact hlt
        obtain ⟨ad, rfl, hb, hc⟩ := (h.on hon).at_ k _ (VI_get hkl)
        obtain ⟨ad', rfl, hb', hc'⟩ := (h'.on hon).at_ k _ (VI_get hkl')
        have e1 : l.getD k 0 = l[k] := by simp [hkl]
        have e2 : l'.getD k 0 = l'[k] := by simp [hkl']
        obtain ⟨x, hx⟩ : ∃ x, l.getD k 0 = x := ⟨_, rfl⟩
        obtain ⟨y, hy⟩ : ∃ y, l'.getD k 0 = y := ⟨_, rfl⟩
        have HX := Lib.hid hx
        have HY := Lib.hid hy
        rw [hx] at hc
        rw [hy] at hc'
        clear hx hy
        have E1 := Lib.hid e1
        have E2 := Lib.hid e2
        clear e1 e2
        by_cases hxy : x = y
        · subst hxy
          go_wp2
          go_region
          all_goals go_wp2
          refine ⟨⟨k + 1, by omega, by go_num, ?_, hon.drew⟩, by simp [intOf]; omega⟩
          rw [List.take_add_one, List.take_add_one, HT.out, List.getElem?_eq_getElem hkl, List.getElem?_eq_getElem hkl', ← E1.out, ← E2.out, HX.out, HY.out]
        · have hd : decide (l = l') = false := by
            apply decide_eq_false
            rintro rfl
            exact hxy (HX.out.symm.trans HY.out)
          have HD := Lib.hid hd
          clear hd
          go_wp2
          go_region
          all_goals go_wp2
          go_ret
          exact ⟨by rw [HD.out]; rfl, hon.drew⟩
      · obtain rfl : k = n := by omega
        have hd : decide (l = l') = true := by
          apply decide_eq_true
          have := HT.out
          rwa [List.take_of_length_le (by rw [HN.out]; omega), List.take_of_length_le (by rw [HN'.out]; omega)] at this
        have HD := Lib.hid hd
        clear hd
        go_wp2
        go_ret
        exact ⟨by rw [HD.out]; rfl, hon⟩
  · have hd : decide (l = l') = false := decide_eq_false fun e => hl (by rw [← hn, ← hn', e])
    rw [hd]
    clear hd hn hn'
    have hl2 : ¬ (n : Int) = (n' : Int) := by omega
    go_enter Tryd.func18, Tryd.ntmps18
    go_wp2
    go_ret
    exact ⟨rfl, On.refl _⟩
set_option maxHeartbeats 400000 in
theorem num_any (w : World) (c : Nat) :
    Calls Tryd.prog 17 #[errV c] w fun e w' => e = .returned (.int .i64 (c : Int)) ∧ w = w' := by
  by_cases h : c = 0
  · subst h
    rw [errV_zero]
    go_enter Tryd.func17, Tryd.ntmps17
    go_wp2
    go_ret
    exact ⟨rfl, rfl⟩
  · rw [errV_pos c h]
    have hta : ∀ W, (Instr.typeAssert (.iface 50 (.int .i64 (c : Int))) 26 50 true).run Tryd.prog W = .ok (.tuple #[.int .i64 (c : Int), .bool true]) W := fun _ => by kernel_rfl
    go_enter Tryd.func17, Tryd.ntmps17
    go_wp2
    go_ret
    exact ⟨rfl, rfl⟩
theorem is_err (w : World) (x : Int) : Calls Tryd.prog 27 #[.iface 50 (.int .i64 x), .int .i64 x] w fun e w' => e = .returned (.bool true) ∧ w = w' := by
  have hta : ∀ W, (Instr.typeAssert (.iface 50 (.int .i64 x)) 26 50 true).run Tryd.prog W = .ok (.tuple #[.int .i64 x, .bool true]) W := fun _ => by kernel_rfl
  go_enter Tryd.func27, Tryd.ntmps27
  go_wp2
  go_ret
  exact ⟨rfl, rfl⟩
theorem rd_lit (w : World) (t : TypeId) (cur : Array Value) (vs : List Value) (n : Nat) (h : cur.toList = vs) (hn : vs.length = n) (hs : n ≤ 1000000) : Rd (w.alloc (.cells cur t)) (some ⟨w.heap.size, 0, none⟩) n n vs := by
  refine ⟨hn, by omega, by omega, fun e => (by cases e), fun _ => ⟨_, rfl, by simp, fun j u hj => ?_⟩⟩
  rw [add_plain, (Own.new w t cur).cell, Nat.zero_add, ← Array.getElem?_toList, h]
  exact hj
end Go.Proofs.YtakkbemldccekaaDoor.Sb
