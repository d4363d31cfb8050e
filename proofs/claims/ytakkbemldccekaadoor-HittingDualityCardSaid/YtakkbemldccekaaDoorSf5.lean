/-
  Package family: Minimal, Plus, divide, unions.
-/
import Derived.Test.YtakkbemldccekaaDoorSf4
namespace Go.Proofs.YtakkbemldccekaaDoor.Sb
open Go.RowKit
set_option linter.unusedVariables false
set_option maxRecDepth 100000
theorem GivesM.ok {w w' : World} {l : List Nat} {e : Ending} (h : GivesM w l e w') (hl : l.length ≤ 1024) : ∃ A n c, e = .returned (.tuple #[.slice A n c, .nilIface]) ∧ Rd w' A n c (VI (ints l)) ∧ On w w' := by
  obtain ⟨P, h | h⟩ := h
  · obtain ⟨_, A, n, c, he, hr⟩ := h
    rw [errV_zero] at he
    exact ⟨A, n, c, he, hr, P⟩
  · omega
theorem errs_one (l : List Int) : errs [l] = lerr l := by
  simp only [errs]; split <;> omega
theorem errs_two (l k : List Int) : errs [l, k] = if lerr l = 0 then lerr k else lerr l := by
  simp only [errs]
  split
  · split <;> omega
  · rfl
/-- accept of one list and of two -/
theorem accept1 (w : World) (A : Option Addr) (n c : Nat) (l : List Int) (h : Rd w A n c (VI l)) :
    Calls Tryd.prog 53 #[.slice (some ⟨w.heap.size, 0, none⟩) 1 1] (w.alloc (.cells #[.slice A n c] 22)) fun e w' => e = .returned (errV (lerr l)) ∧ w.alloc (.cells #[.slice A n c] 22) = w' := by
  have R := rd_lit w 22 #[.slice A n c] (VSl [⟨A, n, c, l⟩]) 1 rfl rfl (by omega)
  have := accept_any _ _ _ _ [⟨A, n, c, l⟩] R (fun t ht => by
    obtain rfl : t = ⟨A, n, c, l⟩ := by simpa using ht
    exact h.alloc _)
  rw [List.map_cons, List.map_nil, errs_one] at this
  exact this
theorem accept2 (w : World) (A : Option Addr) (n c : Nat) (l : List Int) (h : Rd w A n c (VI l)) (B : Option Addr) (m d : Nat) (k : List Int) (h2 : Rd w B m d (VI k)) :
    Calls Tryd.prog 53 #[.slice (some ⟨w.heap.size, 0, none⟩) 2 2] (w.alloc (.cells #[.slice A n c, .slice B m d] 22)) fun e w' => e = .returned (errV (if lerr l = 0 then lerr k else lerr l)) ∧ w.alloc (.cells #[.slice A n c, .slice B m d] 22) = w' := by
  have R := rd_lit w 22 #[.slice A n c, .slice B m d] (VSl [⟨A, n, c, l⟩, ⟨B, m, d, k⟩]) 2 rfl rfl (by omega)
  have := accept_any _ _ _ _ [⟨A, n, c, l⟩, ⟨B, m, d, k⟩] R (fun t ht => by
    rcases List.mem_cons.1 ht with rfl | ht
    · exact h.alloc _
    · obtain rfl : t = ⟨B, m, d, k⟩ := by simpa using ht
      exact h2.alloc _)
  rw [List.map_cons, List.map_cons, List.map_nil, errs_two] at this
  exact this
theorem concat2 (w : World) (A : Option Addr) (n c : Nat) (l : List Int) (h : Rd w A n c (VI l)) (B : Option Addr) (m d : Nat) (k : List Int) (h2 : Rd w B m d (VI k)) (hsm : n + m ≤ 1000000000) :
    Calls Tryd.prog 79 #[.slice (some ⟨w.heap.size, 0, none⟩) 2 2] (w.alloc (.cells #[.slice A n c, .slice B m d] 22)) fun e w' => ∃ v, e = .returned v ∧ w'.ownsRow (w.heap.size + 1) 3 1 v (n + m) (VI (l ++ k)) ∧ On (w.alloc (.cells #[.slice A n c, .slice B m d] 22)) w' := by
  have R := rd_lit w 22 #[.slice A n c, .slice B m d] (VSl [⟨A, n, c, l⟩, ⟨B, m, d, k⟩]) 2 rfl rfl (by omega)
  have hn : l.length = n := by have := h.len; rw [VI_length] at this; exact this
  have hm : k.length = m := by have := h2.len; rw [VI_length] at this; exact this
  have e1 : sumN [⟨A, n, c, l⟩, ⟨B, m, d, k⟩] = n + m := by simp only [sumN]; omega
  have e2 : flat [⟨A, n, c, l⟩, ⟨B, m, d, k⟩] = l ++ k := by simp [flat]
  have := concat_any _ _ _ _ [⟨A, n, c, l⟩, ⟨B, m, d, k⟩] R (fun t ht => by
    rcases List.mem_cons.1 ht with rfl | ht
    · exact h.alloc _
    · obtain rfl : t = ⟨B, m, d, k⟩ := by simpa using ht
      exact h2.alloc _) (by rw [e1]; exact hsm)
  rw [e1, e2] at this
  have e3 : (w.alloc (.cells #[.slice A n c, .slice B m d] 22)).heap.size = w.heap.size + 1 := by simp
  rw [e3] at this
  exact this
theorem min_len1 {k : List Nat} (hl : k.length ≤ 1024) : (minL k).length ≤ 1024 := Nat.le_trans (minL_len k) hl
set_option maxHeartbeats 1000000 in
theorem Minimal_ok (w : World) (A : Option Addr) (n c : Nat) (k : List Nat) (h : Rd w A n c (VI (ints k))) (hk : Ok k) (hl : k.length ≤ 1024) :
    Calls Tryd.prog 31 #[.slice A n c] w fun e w' => ∃ A n c, e = .returned (.tuple #[.slice A n c, .nilIface]) ∧ Rd w' A n c (VI (ints (minL k))) ∧ On w w' := by
  have hn : k.length = n := by have := h.len; rw [ints_len] at this; exact this
  have hA := accept1 w A n c _ h
  rw [lerr_ok hk hl, errV_zero] at hA
  have P1 := (On.refl w).alloc (.cells #[.slice A n c] 22)
  have hM := minimal_any (w.alloc (.cells #[.slice A n c] 22)) A n c k (h.alloc _) hk (by omega)
  have hb := min_len1 hl
  clear hn h
  go_enter Tryd.func31, Tryd.ntmps31
  go_wp2_with fail
  refine hA.mono ?_
  rintro e w1 ⟨rfl, rfl⟩
  generalize w.alloc (.cells #[.slice A n c] 22) = w1 at *
  clear hA
  go_wp2_with fail
  refine hM.mono ?_
  rintro e w2 h2
  obtain ⟨A2, n2, c2, rfl, R2, P2⟩ := h2.ok hb
  clear hM h2
  go_wp2
  go_ret2
  exact ⟨_, _, _, rfl, R2, P1.trans P2⟩
/-- two rows of the call's own lie apart -/
def Apart (v u : Value) : Prop := ∀ g, v.ownBlock = some g → u.ownBlock ≠ some g
theorem own_lt {w : World} {base : Nat} {e : TypeId} {v : Value} {n : Nat} {xs : List Value} (h : w.ownsRow base e 1 v n xs) {g : Nat} (hg : v.ownBlock = some g) : g < w.heap.size := by
  rcases h.2 with ⟨rfl, _⟩ | ⟨g', cap, cur, rfl, _, hh, _⟩
  · simp [Value.ownBlock] at hg
  · have e : g' = g := by simpa [Value.ownBlock] using hg
    subst e
    exact (Array.getElem?_eq_some_iff.1 hh).1
/-- a row stays where another one grows -/
theorem row_apart {w w' : World} {base : Nat} {e : TypeId} {v u : Value} {n : Nat} {xs : List Value} (h : w.ownsRow base e 1 v n xs) (k : w.grownBy w' u.ownBlock) (hne : Apart v u) : w'.ownsRow base e 1 v n xs := by
  refine ⟨h.1, ?_⟩
  rcases h.2 with h2 | ⟨g, cap, cur, hv, hb, hh, h3⟩
  · exact .inl h2
  · refine .inr ⟨g, cap, cur, hv, hb, (k.block g (Array.getElem?_eq_some_iff.1 hh).1 ?_).trans hh, h3⟩
    have := hne g (by rw [hv]; rfl)
    intro e2
    exact this e2.symm
theorem apart_nil (c : Nat) (u : Value) : Apart (.slice none 0 c) u := fun g h => by simp [Value.ownBlock] at h
theorem apart_new {w : World} {base : Nat} {e : TypeId} {v u u' : Value} {n N : Nat} {xs : List Value} (h : w.ownsRow base e 1 v n xs) (ha : Apart v u) (hN : w.heap.size ≤ N) (hu : u'.ownBlock = u.ownBlock ∨ u'.ownBlock = some N) : Apart v u' ∧ Apart u' v := by
  have h1 : Apart v u' := by
    intro g hg e2
    rcases hu with hu | hu
    · exact ha g hg (by rw [← hu]; exact e2)
    · rw [hu] at e2
      injection e2 with e2
      have := own_lt h hg
      omega
  exact ⟨h1, fun g hg e2 => h1 g e2 hg⟩
/-- what divide makes of the first j -/
def abv (l k : List Nat) (j : Nat) : List Nat := above (l.take j) k
def rst (l k : List Nat) (j : Nat) : List Nat := rest (l.take j) k
theorem abv_succ (l k : List Nat) (j : Nat) (h : j < l.length) : abv l k (j + 1) = if cov k (l.getD j 0) then abv l k j ++ [l.getD j 0] else abv l k j := by
  unfold abv above
  rw [take_get h, List.filter_append]
  cases hc : cov k (l.getD j 0) <;> simp only [List.filter_cons, hc, List.filter_nil] <;> simp
theorem rst_succ (l k : List Nat) (j : Nat) (h : j < l.length) : rst l k (j + 1) = if cov k (l.getD j 0) then rst l k j else rst l k j ++ [l.getD j 0] := by
  unfold rst rest
  rw [take_get h, List.filter_append]
  cases hc : cov k (l.getD j 0) <;> simp only [List.filter_cons, hc, List.filter_nil] <;> simp
theorem abv_len (l k : List Nat) (j : Nat) : (abv l k j).length ≤ l.length := by
  unfold abv above
  refine Nat.le_trans (List.length_filter_le _ _) ?_
  rw [List.length_take]; omega
theorem rst_len (l k : List Nat) (j : Nat) : (rst l k j).length ≤ l.length := by
  unfold rst rest
  refine Nat.le_trans (List.length_filter_le _ _) ?_
  rw [List.length_take]; omega
end Go.Proofs.YtakkbemldccekaaDoor.Sb
