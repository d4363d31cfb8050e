/-
  Package family: covers, accept.
-/
import Derived.Test.YtibkpglgeincdaaDoorSn1
import Derived.Test.YtibkpglgeincdaaDoorSf0
namespace Go.Proofs.YtibkpglgeincdaaDoor.Sb
open Go.RowKit
set_option linter.unusedVariables false
set_option maxRecDepth 100000
theorem ints_get {k : List Nat} {i : Nat} (h : i < k.length) : (VI (ints k))[i]? = some (.int .i64 ((k.getD i 0 : Nat) : Int)) := by
  simp [VI, ints, h]
theorem ints_len (k : List Nat) : (VI (ints k)).length = k.length := by simp [VI, ints]
theorem getD_mem {k : List Nat} {i : Nat} (h : i < k.length) : k.getD i 0 ∈ k := by
  have : k.getD i 0 = k[i] := by simp [h]
  rw [this]; exact List.getElem_mem h
theorem take_get {k : List Nat} {i : Nat} (h : i < k.length) : k.take (i + 1) = k.take i ++ [k.getD i 0] := by
  rw [List.take_add_one, List.getElem?_eq_getElem h]; simp [h]
theorem cov_one (x s : Nat) : cov [x] s = (x &&& s == x) := by simp [cov]
/-- the number of a list's error -/
def okI (l : List Int) : Bool := l.all fun x => decide (0 ≤ x ∧ x < 16777216)
def lerr (l : List Int) : Nat := if 1024 < l.length then 4 else if okI l then 0 else 3
/-- the first error of lists -/
def errs : List (List Int) → Nat
  | [] => 0
  | l :: ls => if lerr l = 0 then errs ls else lerr l
theorem okI_ints (l : List Int) (h : okI l = true) : ∃ k, l = ints k ∧ Ok k := by
  induction l with
  | nil => exact ⟨[], rfl, fun x hx => by cases hx⟩
  | cons x l ih =>
    unfold okI at h
    rw [List.all_cons, Bool.and_eq_true] at h
    obtain ⟨k, rfl, hk⟩ := ih h.2
    have hx := of_decide_eq_true h.1
    refine ⟨x.toNat :: k, ?_, Ok.cons (by omega) hk⟩
    simp only [ints, List.map_cons]
    congr 1
    exact (Int.toNat_of_nonneg hx.1).symm
theorem in_range (x : Nat) (h : x < 16777216) : decide ((0 : Int) ≤ (x : Int) ∧ (x : Int) < 16777216) = true := decide_eq_true ⟨by omega, by omega⟩
theorem okI_cons (x : Int) (l : List Int) : okI (x :: l) = (decide (0 ≤ x ∧ x < 16777216) && okI l) := rfl
theorem okI_of {k : List Nat} (h : Ok k) : okI (ints k) = true := by
  induction k with
  | nil => rfl
  | cons x k ih =>
    have e : ints (x :: k) = (x : Int) :: ints k := rfl
    rw [e, okI_cons, in_range x (h x (List.mem_cons_self ..)), ih fun y hy => h y (List.mem_cons_of_mem _ hy)]
    rfl
theorem lerr_zero (l : List Int) (h : lerr l = 0) : ∃ k, l = ints k ∧ Ok k ∧ k.length ≤ 1024 := by
  unfold lerr at h
  split at h
  · omega
  · rename_i h1
    split at h
    · rename_i h2
      obtain ⟨k, rfl, hk⟩ := okI_ints l h2
      exact ⟨k, rfl, hk, by rw [ints_length] at h1; omega⟩
    · omega
theorem lerr_ok {k : List Nat} (h : Ok k) (hl : k.length ≤ 1024) : lerr (ints k) = 0 := by
  unfold lerr
  rw [if_neg (by rw [ints_length]; omega), if_pos (okI_of h)]
/-- a slice of ints, and what it reads as -/
structure Sl where
  A : Option Addr
  n : Nat
  c : Nat
  l : List Int
def VSl (xs : List Sl) : List Value := xs.map fun t => .slice t.A t.n t.c
def RdS (w : World) (t : Sl) : Prop := Rd w t.A t.n t.c (VI t.l)
theorem VSl_get {xs : List Sl} {i : Nat} (h : i < xs.length) : (VSl xs)[i]? = some (.slice xs[i].A xs[i].n xs[i].c) := by simp [VSl, h]
theorem errs_cut (xs : List Sl) (i : Nat) (h : i < xs.length) : errs ((xs.drop i).map (·.l)) = if lerr xs[i].l = 0 then errs ((xs.drop (i + 1)).map (·.l)) else lerr xs[i].l := by
  rw [List.drop_eq_getElem_cons h, List.map_cons, errs]
theorem okI_take {l : List Int} {i : Nat} (h : i < l.length) : okI (l.take (i + 1)) = (okI (l.take i) && decide (0 ≤ l.getD i 0 ∧ l.getD i 0 < 16777216)) := by
  unfold okI
  rw [List.take_add_one, List.getElem?_eq_getElem h, List.all_append]
  simp [h]
theorem okI_bad {l : List Int} {i : Nat} (h : i < l.length) (hb : decide (0 ≤ l.getD i 0 ∧ l.getD i 0 < 16777216) = false) : okI l = false := by
  rw [Bool.eq_false_iff]
  intro hall
  unfold okI at hall
  rw [List.all_eq_true] at hall
  have := hall l[i] (List.getElem_mem h)
  have e : l.getD i 0 = l[i] := by simp [h]
  rw [e, this] at hb
  cases hb
end Go.Proofs.YtibkpglgeincdaaDoor.Sb
