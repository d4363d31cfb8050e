/-
  The library's Grow and Concat; package family: Plus.
-/
import Derived.Test.YtakkbemldccekaaDoorSf3
namespace Go.Proofs.YtakkbemldccekaaDoor.Sb
open Go.RowKit
set_option linter.unusedVariables false
set_option maxRecDepth 100000
theorem row_made2 (w : World) (e : TypeId) (cur : Array Value) (c : Nat) (hc : cur.size = c) (hm : c ≤ maxLen) : (w.alloc (.cells cur e)).ownsRow w.heap.size e 1 (.slice (some ⟨w.heap.size, 0, none⟩) 0 c) 0 [] :=
  ⟨rfl, .inr ⟨w.heap.size, c, cur, rfl, Nat.le_refl _, heap_alloc_new w _, Nat.zero_le _, hm, by omega, by simp⟩⟩
theorem zero_size (n : Nat) : (Builtin.zeroCells #[Value.int .i64 0] n).size = n := by
  simp [Builtin.zeroCells]
theorem grow_any (w : World) (n : Nat) (hn : n ≤ 1000000000) :
    Calls Tryd.prog 92 #[.slice none 0 0, .int .i64 (n : Int)] w fun e w' => ∃ v, e = .returned v ∧ w'.ownsRow w.heap.size 3 1 v 0 [] ∧ On w w' := by
  by_cases h0 : n = 0
  · subst h0
    refine (Any8.slices_Grow_room Tryd.laysGrow none 0 0 0 w (Nat.le_refl _) (by omega) (by omega) (by omega)).mono ?_
    rintro e w' ⟨rfl, rfl⟩
    exact ⟨_, rfl, row_nil _ _ _, On.refl _⟩
  · obtain ⟨i, hi, hz, hs, hb⟩ := info_parts' infoi
    refine (Any8.slices_Grow_grow Tryd.laysGrow i (.int .i64 0) hi hz (by rw [hs]; omega) none 0 0 n [] w (Nat.le_refl _) (by omega) (by rw [hb]; omega) (by omega) (by simp) (fun _ => rfl) (fun a e => by cases e)).mono ?_
    rintro e w' ⟨rfl, rfl⟩
    refine ⟨_, rfl, row_made2 w.drew _ _ _ ?_ ?_, ((On.refl w).drew).alloc _⟩
    · have hge := grownCap_ge w (0 + n) 0 3
      have e1 : (Value.int .i64 0).cells = #[Value.int .i64 0] := rfl
      rw [e1, Array.size_append, Array.size_append, zero_size, zero_size]
      show 0 + (0 + n - 0) + (grownCap w (0 + n) 0 3 - (0 + n)) = grownCap w (0 + n) 0 3
      omega
    · exact grownCap_le_maxLen w (0 + n) 0 _ (by unfold maxLen; omega)
theorem sum_wr (a m b : Nat) (h : b = a + m) (hb : b ≤ 1000000000) : wrap64 ((a : Int) + (m : Int)) = (b : Int) := by unfold wrap64; omega
/-- how many there are in the first j -/
def sumN : List Sl → Nat
  | [] => 0
  | t :: xs => t.l.length + sumN xs
def flat : List Sl → List Int
  | [] => []
  | t :: xs => t.l ++ flat xs
theorem sumN_append (xs ys : List Sl) : sumN (xs ++ ys) = sumN xs + sumN ys := by
  induction xs with
  | nil => simp [sumN]
  | cons t xs ih => simp only [List.cons_append, sumN, ih]; omega
theorem flat_append (xs ys : List Sl) : flat (xs ++ ys) = flat xs ++ flat ys := by
  induction xs with
  | nil => rfl
  | cons t xs ih => simp only [List.cons_append, flat, ih, List.append_assoc]
theorem sumN_take {xs : List Sl} {j : Nat} (h : j < xs.length) : sumN (xs.take (j + 1)) = sumN (xs.take j) + xs[j].l.length := by
  rw [List.take_add_one, List.getElem?_eq_getElem h, sumN_append]; simp [sumN]
theorem flat_take {xs : List Sl} {j : Nat} (h : j < xs.length) : flat (xs.take (j + 1)) = flat (xs.take j) ++ xs[j].l := by
  rw [List.take_add_one, List.getElem?_eq_getElem h, flat_append]; simp [flat]
theorem sumN_le (xs : List Sl) (j : Nat) : sumN (xs.take j) ≤ sumN xs := by
  have : sumN xs = sumN (xs.take j) + sumN (xs.drop j) := by rw [← sumN_append, List.take_append_drop]
  omega
set_option maxHeartbeats 4000000 in
theorem concat_any (w : World) (A : Option Addr) (n c : Nat) (xs : List Sl) (h : Rd w A n c (VSl xs)) (hx : ∀ t ∈ xs, RdS w t) (hsm : sumN xs ≤ 1000000000) :
    Calls Tryd.prog 79 #[.slice A n c] w fun e w' => ∃ v, e = .returned v ∧ w'.ownsRow w.heap.size 3 1 v (sumN xs) (VI (flat xs)) ∧ On w w' := by
  have hn : xs.length = n := by have := h.len; simpa [VSl] using this
  have hcap := h.cap
  have hmax := h.max
  have HN := Lib.hid hn
  have HX := Lib.hid hx
  have HSM := Lib.hid hsm
  have H := Lib.hid h
  clear hn hx hsm h
  go_enter Tryd.func79, Tryd.ntmps79
  go_wp2
  go_loopw [3, 11] (fun s i wr => ∃ j : Nat, j ≤ n ∧ i = .int .i64 (j : Int) ∧ s = .int .i64 ((sumN (xs.take j) : Nat) : Int) ∧ w = wr) (fun _ i _ => n - (intOf i).toNat)
  case atStart => exact ⟨0, by omega, rfl, rfl, rfl⟩
  case round =>
    obtain ⟨j, hj, rfl, rfl, rfl⟩ := hrel
    by_cases hlt : j < n
    · have hjl : j < xs.length := by rw [HN.out]; exact hlt
      obtain ⟨ad, e1, hb, hc⟩ := H.out.at_ j _ (VSl_get hjl)
      cases e1
      have hR0 := HX.out xs[j] (List.getElem_mem hjl)
      have hst0 := sumN_take hjl
      obtain ⟨⟨B, m, d, l⟩, ht⟩ : ∃ t, xs[j] = t := ⟨_, rfl⟩
      rw [ht] at hc hR0 hst0
      have hR : Rd w B m d (VI l) := hR0
      have hm : l.length = m := by have := hR.len; rw [VI_length] at this; exact this
      have hst : sumN (xs.take (j + 1)) = sumN (xs.take j) + m := by rw [← hm]; exact hst0
      have hle := sumN_le xs (j + 1)
      have hsm := HSM.out
      obtain ⟨a, ha⟩ : ∃ a, sumN (xs.take j) = a := ⟨_, rfl⟩
      obtain ⟨b, hb2⟩ : ∃ b, sumN (xs.take (j + 1)) = b := ⟨_, rfl⟩
      rw [ha] at hst ⊢
      rw [hb2] at hst hle
      have HB := Lib.hid hb2
      have hw := sum_wr a m b hst (Nat.le_trans hle hsm)
      have hnn : ¬ (b : Int) < 0 := Int.not_lt.2 (Int.natCast_nonneg b)
      have hc2 : w.cell? (ad.add j) = some (.slice B m d) := hc
      clear hR0 hst0 ht hR hm hle hsm ha hb2 hc hst
      go_wp2
      go_roundw
      case rel => exact ⟨j + 1, by omega, by go_num, by rw [HB.out]; first | rfl | go_num, trivial⟩
      case measure => simp [intOf]; omega
    · obtain rfl : j = n := by omega
      have hall : xs.take j = xs := List.take_of_length_le (by rw [HN.out]; omega)
      rw [hall]
      have hG := grow_any w (sumN xs) HSM.out
      have hsm := HSM.out
      obtain ⟨T, hT⟩ : ∃ T, sumN xs = T := ⟨_, rfl⟩
      rw [hT] at hG hsm ⊢
      have HT := Lib.hid hT
      clear hT hall
      go_wp2_with fail
      refine hG.mono ?_
      rintro e w1 ⟨v0, rfl, hrow0, hon0⟩
      have HROW0 := Lib.hid hrow0
      clear hrow0 hG
      go_wp2
      go_loopw [6, 27] (fun v i wr => ∃ q : Nat, q ≤ j ∧ i = .int .i64 (q : Int) ∧ wr.ownsRow w.heap.size 3 1 v (sumN (xs.take q)) (VI (flat (xs.take q))) ∧ On w wr) (fun _ i _ => j - (intOf i).toNat)
      case atStart => exact ⟨0, by omega, rfl, HROW0.out, hon0⟩
      case round =>
        obtain ⟨q, hq, rfl, hrow, hon⟩ := hrel
        obtain ⟨A4, c4, rfl⟩ := row_form hrow
        have HROW := Lib.hid hrow
        clear hrow
        by_cases hlt2 : q < j
        · have hjl : q < xs.length := by rw [HN.out]; exact hlt2
          obtain ⟨ad, e1, hb, hc⟩ := (H.out.on hon).at_ q _ (VSl_get hjl)
          cases e1
          have hR0 := HX.out xs[q] (List.getElem_mem hjl)
          have hst0 := sumN_take hjl
          have hft0 := flat_take hjl
          obtain ⟨⟨B, m, d, l⟩, ht⟩ : ∃ t, xs[q] = t := ⟨_, rfl⟩
          rw [ht] at hc hR0 hst0 hft0
          have hR : Rd w B m d (VI l) := hR0
          have hR2 := hR.on hon
          have hm : l.length = m := by have := hR.len; rw [VI_length] at this; exact this
          have hst : sumN (xs.take (q + 1)) = sumN (xs.take q) + m := by rw [← hm]; exact hst0
          have hft : flat (xs.take (q + 1)) = flat (xs.take q) ++ l := hft0
          have hle := sumN_le xs (q + 1)
          rw [HT.out] at hle
          have hc2 : wr.cell? (ad.add q) = some (.slice B m d) := hc
          have hsz := hon.size
          have HR2 := Lib.hid hR2
          have HST := Lib.hid hst
          have HFT := Lib.hid hft
          have HLE := Lib.hid hle
          clear hR0 hst0 ht hR hm hle hc hst hft hft0 hR2
          go_wp2_with (at_builtin; refine wpList_app rfl (.tmp 31) (.tmp 32) 22 rfl w.heap.size 3 (.int .i64 0) 8 Tryd.underlying22 infoi rfl (by decide) (.slice A4 (sumN (xs.take q)) c4) _ (VI (flat (xs.take q))) rfl HROW.out B m d (VI l) rfl HR2.out (VI_one _) (by rw [← HST.out]; exact Nat.le_trans HLE.out hsm) hsz ?_; intro v' w5 hown5 hgrow5 _)
          refine ⟨⟨q + 1, by omega, by go_num, ?_, on_row hon HROW.out (Nat.le_refl _) hgrow5⟩, by simp [intOf]; omega⟩
          rw [HST.out, HFT.out, VI_append]; exact hown5
        · obtain rfl : q = j := by omega
          have hall : xs.take q = xs := List.take_of_length_le (by rw [HN.out]; omega)
          have HALL := Lib.hid hall
          clear hall
          go_wp2
          go_ret
          refine ⟨_, rfl, ?_, hon⟩
          have h9 := HROW.out
          have e9 := HALL.out
          show wr.ownsRow w.heap.size 3 1 (.slice A4 (sumN (xs.take q)) c4) _ _
          rw [e9] at h9 ⊢
          first | exact h9 | (rw [← HT.out]; exact h9)
end Go.Proofs.YtakkbemldccekaaDoor.Sb
