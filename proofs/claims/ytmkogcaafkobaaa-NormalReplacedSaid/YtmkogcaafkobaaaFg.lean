/-
  Depth of the program and of the specification.
-/
import Derived.Test.YtmkogcaafkobaaaFs
namespace Go.Proofs.Ytmkogcaafkobaaa.Fm
open Go.RowKit Go.Proofs.Ytmkogcaafkobaaa.Sb
set_option linter.unusedVariables false
set_option maxRecDepth 100000
theorem run_mkI (n : Nat) (h : n ≤ 100000) (w : World) :
    (Instr.makeSlice 39 (.int .i64 (n : Int)) (.int .i64 (n : Int))).run Try.prog w = .ok (.slice (some ⟨w.heap.size, 0, none⟩) n n) (w.alloc (.cells (VI (ints (List.replicate n 0))).toArray 3)) := by
  have := run_make_row' 39 3 (.int .i64 0) 8 Try.underlying39 infoi rfl .i64 .i64 n (by omega) (by omega) w
  rw [made_list] at this
  rw [this, VI, ints, List.map_replicate, List.map_replicate]; rfl
theorem own_rdI {w : World} {g : Nat} {xs : List Nat} {n : Nat} (h : Own w g 3 (VI (ints xs)).toArray) (hn : xs.length = n) (hm : n ≤ 100000) : Rd w (some ⟨g, 0, none⟩) n n (VI (ints xs)) := by
  refine ⟨by rw [VI_length, ints_length]; exact hn, Nat.le_refl _, by omega, fun e => (by cases e), fun h0 => ⟨_, rfl, h.lt, fun j u hj => ?_⟩⟩
  rw [add_plain, h.cell, Nat.zero_add]
  simpa using hj
theorem own_setI {w : World} {g : Nat} {xs ys : List Nat} (h : Own w g 3 (VI (ints xs)).toArray) (i : Nat) {z : Int} {b : Nat} (hz : z = (b : Int)) (he : xs.set i b = ys) : Own (w.setCell ⟨g, i, none⟩ (.int .i64 z)) g 3 (VI (ints ys)).toArray := by
  subst hz; subst he
  have := h.set_ i (.int .i64 (b : Int))
  have e : (VI (ints xs)).toArray.setIfInBounds i (.int .i64 (b : Int)) = (VI (ints (xs.set i b))).toArray := by simp [VI, ints, List.map_set]
  rw [e] at this
  exact this
theorem own_atI {w : World} {g : Nat} {xs : List Nat} (h : Own w g 3 (VI (ints xs)).toArray) {i : Nat} (hi : i < xs.length) : w.cell? ⟨g, i, none⟩ = some (.int .i64 (xs.getD i 0 : Nat)) := by
  rw [h.cell]
  simp [VI, ints, hi]
/-- the depths in memory -/
def drow (f : Fn) (i : Nat) : List Nat := List.replicate f.vars 0 ++ (depTo f i ++ List.replicate (f.nodes.length - i) 0)
def argD (vars : Nat) (es : List Nat) (a : Nat) : Nat := argE vars (fun _ => 0) 0 es a
theorem drow_get (f : Fn) (i a : Nat) : (drow f i).getD a 0 = argD f.vars (depTo f i) a := by
  unfold drow argD argE
  by_cases h : a < f.vars
  · rw [if_pos h, List.getD_eq_getElem?_getD, List.getElem?_append_left (by simpa using h), List.getElem?_replicate]; split <;> rfl
  · rw [if_neg h, List.getD_eq_getElem?_getD, List.getElem?_append_right (by simp; omega), List.length_replicate, ← List.getD_eq_getElem?_getD, getD_rep]
theorem depTo_len {f : Fn} {i : Nat} (h : i ≤ f.nodes.length) : (depTo f i).length = i := evTo_len h
theorem drow_len {f : Fn} {i : Nat} (h : i ≤ f.nodes.length) : (drow f i).length = f.vars + f.nodes.length := by
  unfold drow
  rw [List.length_append, List.length_append, depTo_len h, List.length_replicate, List.length_replicate]; omega
theorem drow_zero (f : Fn) : drow f 0 = List.replicate (f.vars + f.nodes.length) 0 := by
  unfold drow depTo
  rw [evTo_zero, List.nil_append, Nat.sub_zero, List.replicate_append_replicate]
/-- the greatest depth of the first t arguments -/
def gmax (vars : Nat) (es : List Nat) (args : List Nat) (t : Nat) : Nat := ((args.take t).map (argD vars es)).foldl max 0
theorem gmax_succ {vars : Nat} {es args : List Nat} {t : Nat} (h : t < args.length) : gmax vars es args (t + 1) = max (gmax vars es args t) (argD vars es (args.getD t 0)) := by
  unfold gmax
  rw [take_args h]; simp
theorem drow_succ {f : Fn} {i : Nat} (h : i < f.nodes.length) : (drow f i).set (f.vars + i) (1 + gmax f.vars (depTo f i) (f.nd i).args (f.nd i).args.length) = drow f (i + 1) := by
  have hl : (depTo f i).length = i := depTo_len (by omega)
  obtain ⟨k, hk⟩ : ∃ k, f.nodes.length - i = k + 1 := ⟨f.nodes.length - i - 1, by omega⟩
  unfold drow
  rw [hk, show f.nodes.length - (i + 1) = k by omega]
  have e : depTo f (i + 1) = depTo f i ++ [1 + gmax f.vars (depTo f i) (f.nd i).args (f.nd i).args.length] := by
    unfold depTo gmax
    rw [evTo_succ h, List.take_length]; rfl
  rw [e, List.set_append_right _ _ (by simp), List.length_replicate, Nat.add_sub_cancel_left]
  congr 1
  conv => lhs; arg 2; rw [← hl]
  exact set_rep _ _ _ _
theorem foldl_max_le (l : List Nat) (a b : Nat) (h : ∀ x ∈ l, x ≤ b) (ha : a ≤ b) : l.foldl max a ≤ b := by
  induction l generalizing a with
  | nil => exact ha
  | cons x l ih =>
    have := h x List.mem_cons_self
    exact ih (max a x) (fun y hy => h y (List.mem_cons_of_mem _ hy)) (by omega)
theorem depTo_le (f : Fn) (i : Nat) (hi : i ≤ f.nodes.length) : ∀ x ∈ depTo f i, x ≤ i := by
  induction i with
  | zero => intro x hx; unfold depTo at hx; rw [evTo_zero] at hx; cases hx
  | succ i ih =>
    have ih := ih (by omega)
    intro x hx
    unfold depTo at hx
    rw [evTo_succ (by omega)] at hx
    rcases List.mem_append.1 hx with h | h
    · have := ih x h; omega
    · rw [List.mem_singleton] at h
      subst h
      have : ((f.nd i).args.map (argE f.vars (fun _ => 0) 0 (evTo (fun _ => 0) 0 cmbD f i))).foldl max 0 ≤ i := foldl_max_le _ _ _ (fun y hy => by
        obtain ⟨a, _, rfl⟩ := List.mem_map.1 hy
        unfold argE
        split
        · exact Nat.zero_le _
        · rw [List.getD_eq_getElem?_getD]
          rcases hg : (evTo (fun _ => 0) 0 cmbD f i)[a - f.vars]? with _ | v
          · simp
          · exact ih v (List.mem_of_getElem? hg)) (by omega)
      show 1 + ((f.nd i).args.map (argE f.vars (fun _ => 0) 0 (evTo (fun _ => 0) 0 cmbD f i))).foldl max 0 ≤ i + 1
      omega
theorem argD_le {f : Fn} {i a : Nat} (hi : i ≤ f.nodes.length) : argD f.vars (depTo f i) a ≤ i := by
  unfold argD argE
  split
  · exact Nat.zero_le _
  · rw [List.getD_eq_getElem?_getD]
    rcases hg : (depTo f i)[a - f.vars]? with _ | v
    · simp
    · exact depTo_le f i hi v (List.mem_of_getElem? hg)
theorem gmax_le {f : Fn} {i t : Nat} {args : List Nat} (hi : i ≤ f.nodes.length) : gmax f.vars (depTo f i) args t ≤ i :=
  foldl_max_le _ _ _ (fun y hy => by
    obtain ⟨a, _, rfl⟩ := List.mem_map.1 hy
    exact argD_le hi) (by omega)
end Go.Proofs.Ytmkogcaafkobaaa.Fm
