/-
  The library's Reverse and ContainsFunc on rows of the call's own; package family: Maximal.
-/
import Derived.Test.YtibkpglgeincdaaGreatDoorSf8
namespace Go.Proofs.YtibkpglgeincdaaGreatDoor.Sb
open Go.RowKit Go.Shelf Go.Lib Go.Sort
set_option linter.unusedVariables false
set_option maxRecDepth 100000
theorem own_row {w : World} {g : Nat} {cur : Array Value} {n c base : Nat} {xs : List Value} (ho : Own w g 3 cur) (hs : cur.size = c) (hb : base ≤ g) (h : Rd w (some ⟨g, 0, none⟩) n c xs) : w.ownsRow base 3 1 (.slice (some ⟨g, 0, none⟩) n c) n xs := by
  have hl := h.len
  refine ⟨by omega, .inr ⟨g, c, cur, rfl, hb, ho, h.cap, by unfold maxLen; exact h.max, by omega, ?_⟩⟩
  apply List.ext_getElem?
  intro j
  rw [Nat.mul_one, List.getElem?_take]
  by_cases hj : j < n
  · rw [if_pos hj]
    obtain ⟨u, hu⟩ : ∃ u, xs[j]? = some u := ⟨xs[j], by rw [List.getElem?_eq_getElem]⟩
    obtain ⟨ad, e, _, hc⟩ := h.at_ j u hu
    cases e
    rw [add_plain, ho.cell, Nat.zero_add] at hc
    rw [hu, Array.getElem?_toList]; exact hc
  · rw [if_neg hj, List.getElem?_eq_none (by omega)]
theorem NewRow.row {w w' : World} {A : Option Addr} {n c : Nat} {k : List Nat} (h : NewRow w w' A n c k) : w'.ownsRow w.heap.size 3 1 (.slice A n c) n (VI (ints k)) := by
  rcases h.own with rfl | ⟨g, cur, rfl, hb, hO, hs⟩
  · have hc := h.rd.none_ rfl
    have hn : n = 0 := by have := h.rd.cap; omega
    subst hc
    subst hn
    have hk := h.rd.len
    rw [ints_len] at hk
    obtain rfl := List.eq_nil_of_length_eq_zero hk
    exact row_nil _ _ _
  · exact own_row hO hs hb h.rd
/-- a row of the call's own, as a block -/
theorem row_block2 {w : World} {base n c : Nat} {A : Option Addr} {xs : List Value} (h : w.ownsRow base 3 1 (.slice A n c) n xs) (h0 : 0 < n) : ∃ g cur, A = some ⟨g, 0, none⟩ ∧ base ≤ g ∧ Own w g 3 cur ∧ (∀ j u, xs[j]? = some u → w.cell? ⟨g, j, none⟩ = some u) := by
  rcases h.2 with ⟨hv, hz⟩ | ⟨g, cap, cur, hv, hb, hh, hcap, hmax, hsz, htake⟩
  · omega
  injection hv with h1 h2 h3
  subst h1
  have ho : Own w g 3 cur := hh
  refine ⟨g, cur, rfl, hb, ho, fun j u hu => ?_⟩
  rw [ho.cell]
  rw [← htake, List.getElem?_take] at hu
  split at hu
  · rwa [Array.getElem?_toList] at hu
  · cases hu
theorem holds_row {w : World} {g : Nat} {cur : Array Value} {k : List Nat} (hk : Ok k) (hown : Own w g 3 cur) (hc : ∀ j u, (VI (ints k))[j]? = some u → w.cell? ⟨g, j, none⟩ = some u) : Holds encS w g 0 (toS k hk).toArray := by
  intro j hj
  rw [List.size_toArray, toS_len] at hj
  refine ⟨?_, hown.frozen _⟩
  rw [Nat.zero_add, hc j _ (ints_get hj)]
  have e2 : (toS k hk).toArray[j]! = ⟨k[j], hk _ (List.getElem_mem hj)⟩ := by
    rw [arr_get _ j (by rw [toS_len]; exact hj)]
    simp [toS]
  rw [e2]
  simp [encS, hj]
theorem rd_of_holds {w : World} {g n c : Nat} {l : List S24} (hH : Holds encS w g 0 l.toArray) (hb : g < w.heap.size) (hn : l.length = n) (hc : n ≤ c) (hm : c ≤ 9223372036854775807) : Rd w (some ⟨g, 0, none⟩) n c (VI (ints (l.map (·.v)))) := by
  refine ⟨by rw [ints_len, List.length_map, hn], hc, hm, fun e => (by cases e), fun _ => ⟨_, rfl, hb, fun j u hu => ?_⟩⟩
  have hj : j < l.length := by
    have := (List.getElem?_eq_some_iff.1 hu).1
    rwa [ints_len, List.length_map] at this
  rw [add_plain, (hH j (by simpa using hj)).1, arr_get _ j hj]
  have : (VI (ints (l.map (·.v))))[j]? = some (.int .i64 ((l[j].v : Nat) : Int)) := by simp [VI, ints, hj]
  rw [this] at hu
  rw [← hu]; rfl
theorem reverse_any (w : World) (base : Nat) (A : Option Addr) (n c : Nat) (k : List Nat) (hk : Ok k) (h : w.ownsRow base 3 1 (.slice A n c) n (VI (ints k))) :
    Calls Tryz.prog 27 #[.slice A n c] w fun e w' => e = .returned (.tuple #[]) ∧ Rd w' A n c (VI (ints k.reverse)) ∧ ∀ w0, On w0 w → w0.heap.size ≤ base → On w0 w' := by
  have hrd := rd_of_row h
  have hn : k.length = n := by have := hrd.len; rw [ints_len] at this; exact this
  by_cases h0 : n = 0
  · subst h0
    obtain rfl := List.eq_nil_of_length_eq_zero hn
    refine (Tryz.slices_Reverse_empty (α := S24) A c w).mono ?_
    rintro e w' ⟨rfl, rfl⟩
    exact ⟨rfl, hrd, fun w0 ho _ => ho⟩
  · obtain ⟨g, cur, rfl, hb, ho, hc⟩ := row_block2 h (by omega)
    have hH := holds_row hk ho hc
    have hR := Tryz.slices_Reverse encS (fun _ => rfl) g 0 c (toS k hk) w hH (by rw [toS_len]; have := hrd.cap; have := hrd.max; omega)
    rw [toS_len, hn] at hR
    refine hR.mono ?_
    rintro e w' ⟨rfl, q, hw⟩
    have hsz : (toS k hk).reverse.toArray.size = (toS k hk).toArray.size := by simp
    have hH2 : Holds encS w' g 0 (toS k hk).reverse.toArray := by
      rw [hw]
      exact holds_putRow _ _ _ _ _ _ (holds_ahead _ _ q _ _ _ hH) hsz
    have hO : Only g w w' := by rw [hw]; exact only_putRow w g 0 q encS _
    have hlt : g < w'.heap.size := Nat.lt_of_lt_of_le ho.lt hO.size
    have hr := rd_of_holds hH2 hlt (by rw [List.length_reverse, toS_len, hn]) hrd.cap hrd.max
    rw [List.map_reverse, toS_v] at hr
    exact ⟨rfl, hr, fun w0 h1 h2 => h1.only hO (Nat.le_trans h2 hb)⟩
/-- the closure of Maximal -/
theorem above_any (w : World) (b : Nat) (x y : Nat) (hx : x < 16777216) (hy : y < 16777216) (hc : w.cell? ⟨b, 0, none⟩ = some (.int .i64 (x : Int))) :
    Calls Tryz.prog 28 #[.int .i64 (y : Int), .pointer (some ⟨b, 0, none⟩)] w fun e w' => e = .returned (.bool (x &&& y == x)) ∧ w = w' := by
  have hS := fun W => subset_any W (x : Int) (y : Int)
  rw [cut_nat x hx, cut_nat y hy, without_and] at hS
  generalize (x &&& y == x) = r at *
  go_enter Tryz.func28, Tryz.ntmps28
  go_wp2_with (refine (hS _).mono ?_; rintro e w' ⟨rfl, rfl⟩)
  go_ret
  exact ⟨rfl, rfl⟩
end Go.Proofs.YtibkpglgeincdaaGreatDoor.Sb
