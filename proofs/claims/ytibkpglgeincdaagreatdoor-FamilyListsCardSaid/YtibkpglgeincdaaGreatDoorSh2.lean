/-
  Package family: Maximal.
-/
import Derived.Test.YtibkpglgeincdaaGreatDoorSh1
namespace Go.Proofs.YtibkpglgeincdaaGreatDoor.Sb
open Go.RowKit Go.Shelf Go.Lib Go.Sort
set_option linter.unusedVariables false
set_option maxRecDepth 100000
theorem maximal_enters : ∀ args w, (callFunc 28 args).run Tryz.prog w = .ok (.enter 28 args) w := enters_of Tryz.func28 (by kernel_rfl) rfl
theorem contains_any (w : World) (base : Nat) (A : Option Addr) (n c : Nat) (k : List Nat) (hk : Ok k) (h : w.ownsRow base 3 1 (.slice A n c) n (VI (ints k))) (b x : Nat) (hx : x < 16777216) (hb : b < w.heap.size) (hc : w.cell? ⟨b, 0, none⟩ = some (.int .i64 (x : Int))) :
    Calls Tryz.prog 30 #[.slice A n c, .func (.func 28) #[] #[.pointer (some ⟨b, 0, none⟩)]] w fun e w' => e = .returned (.bool (inn k x)) ∧ On w w' := by
  have hrd := rd_of_row h
  have hn : k.length = n := by have := hrd.len; rw [ints_len] at this; exact this
  by_cases h0 : n = 0
  · subst h0
    obtain rfl := List.eq_nil_of_length_eq_zero hn
    refine (Tryz.slices_ContainsFunc_empty (α := S24) A c _ w).mono ?_
    rintro e w' ⟨rfl, rfl⟩
    exact ⟨rfl, On.refl _⟩
  · obtain ⟨g, cur, rfl, hg, ho, hcell⟩ := row_block2 h (by omega)
    have hp : PredAt Tryz.prog 28 #[.pointer (some ⟨b, 0, none⟩)] encS (fun y => x &&& y.v == x) w := by
      intro W y hW
      have := above_any W b x y.v hx y.h ((Below.cell hW (p := ⟨b, 0, none⟩) hb).trans hc)
      refine Calls.mono this ?_
      rintro e w' ⟨he, hw⟩
      exact ⟨he, 0, hw.symm⟩
    have hcs : ∀ j, j < (toS k hk).length → w.cell? ⟨g, 0 + j, none⟩ = some (encS (toS k hk)[j]!) := by
      intro j hj
      have hH := (holds_row hk ho hcell) j (by simpa using hj)
      have e1 : (toS k hk).toArray[j]! = (toS k hk)[j]! := by rw [arr_get _ j hj, getElem!_pos _ j hj]
      rw [← e1]; exact hH.1
    have hC := Tryz.slices_ContainsFunc encS (fun y => x &&& y.v == x) 28 #[.pointer (some ⟨b, 0, none⟩)] maximal_enters g 0 n c (toS k hk) w hp (by rw [toS_len, hn]; exact Nat.le_refl _) (by have := hrd.cap; have := hrd.max; omega) hcs
    refine Calls.mono hC ?_
    rintro e w' ⟨rfl, q, rfl⟩
    refine ⟨?_, (On.refl w).drewN q⟩
    have e2 : (toS k hk).take n = toS k hk := List.take_of_length_le (by rw [toS_len, hn]; exact Nat.le_refl _)
    have e3 : (toS k hk).any (fun y => x &&& y.v == x) = inn k x := by
      have e4 : inn k x = ((toS k hk).map (·.v)).any fun y => x &&& y == x := by rw [toS_v]; rfl
      rw [e4, List.any_map]; rfl
    rw [e2, e3]
/-- what is kept of the last j -/
def keptX (k : List Nat) (j : Nat) : List Nat := ((sortU k).reverse.take j).filter (isMax k)
theorem keptX_all (k : List Nat) (j : Nat) (h : (sortU k).length ≤ j) : (keptX k j).reverse = maxL k := by
  unfold keptX maxL
  rw [List.take_of_length_le (by rw [List.length_reverse]; exact h), ← List.filter_reverse, List.reverse_reverse]
theorem keptX_ok {k : List Nat} (hk : Ok k) (j : Nat) : Ok (keptX k j) := fun x hx => by
  have h1 := List.mem_of_mem_take (List.mem_filter.1 hx).1
  rw [List.mem_reverse] at h1
  exact sortU_ok hk x h1
theorem keptX_len (k : List Nat) (j : Nat) : (keptX k j).length ≤ k.length := by
  unfold keptX
  have a1 := List.length_filter_le (isMax k) ((sortU k).reverse.take j)
  have a2 : ((sortU k).reverse.take j).length ≤ (sortU k).length := by rw [List.length_take, List.length_reverse]; omega
  have a3 := sortU_len k
  omega
theorem inn_rev (l : List Nat) (x : Nat) : inn l.reverse x = inn l x := by
  rw [Bool.eq_iff_iff, inn_iff, inn_iff]
  constructor <;> (rintro ⟨y, hy, hs⟩; exact ⟨y, by simpa using hy, hs⟩)
theorem keptX_succ {k : List Nat} (hk : Ok k) {j : Nat} (h : j < (sortU k).reverse.length) : keptX k (j + 1) = if inn (keptX k j) ((sortU k).reverse.getD j 0) then keptX k j else keptX k j ++ [(sortU k).reverse.getD j 0] := by
  have hx : (sortU k).reverse.getD j 0 = (sortU k).reverse[j] := by rw [List.getD_eq_getElem?_getD, List.getElem?_eq_getElem h]; rfl
  rw [hx]
  have e : sortU k = ((sortU k).reverse.drop (j + 1)).reverse ++ (sortU k).reverse[j] :: ((sortU k).reverse.take j).reverse := by
    have e1 : (sortU k).reverse = (sortU k).reverse.take j ++ (sortU k).reverse[j] :: (sortU k).reverse.drop (j + 1) := by rw [← List.drop_eq_getElem_cons h, List.take_append_drop]
    have e2 := congrArg List.reverse e1
    rw [List.reverse_reverse] at e2
    rw [List.reverse_append, List.reverse_cons] at e2
    simpa using e2
  have hm := max_upto hk _ _ _ e
  unfold keptX
  rw [List.take_add_one, List.getElem?_eq_getElem h, List.filter_append]
  have e3 : (((sortU k).reverse.take j).reverse.filter (isMax k)) = (((sortU k).reverse.take j).filter (isMax k)).reverse := List.filter_reverse ..
  generalize hS : (sortU k).reverse[j] = s at *
  have hm2 : isMax k s = !inn (((sortU k).reverse.take j).filter (isMax k)) s := by
    rw [← inn_rev]
    first | exact hm | (rw [← e3]; exact hm)
  cases hc : inn (((sortU k).reverse.take j).filter (isMax k)) s with
  | true => rw [hc] at hm2; simp [hm2]
  | false => rw [hc] at hm2; simp [hm2]
end Go.Proofs.YtibkpglgeincdaaGreatDoor.Sb
