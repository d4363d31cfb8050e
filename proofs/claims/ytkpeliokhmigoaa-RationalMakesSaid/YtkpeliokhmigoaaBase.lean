/-
  How an argument reads; a comparison that comes out equal.
-/
import Derived.Test.YtkpeliokhmigoaaMul
namespace Go.Proofs.Ytkpeliokhmigoaa
open Go.RowKit
set_option linter.unusedVariables false
namespace Num
theorem nm_len {w : World} {A : Option Addr} {n c v L : Nat} (h : Nm w A n c v L) (k : Nat) (hv : v < BB ^ k) : ∃ xs, Rd w A n c xs ∧ Clean xs ∧ val xs = v ∧ n ≤ k ∧ tl xs = n := by
  obtain ⟨xs, h1, h2, h3, h4⟩ := h
  have h5 := clean_len h2 k (by rw [h3]; exact hv)
  exact ⟨xs, h1, h2, h3, by rw [← h1.len]; exact h5, by rw [h2, h1.len]⟩
/-- a slice of uint32 that came in, as the statement's frame tells it -/
theorem rd_of_cells {w : World} {a : Option Addr} {len cap : Nat} {zs : List Int} (h : (a = none ∧ len = 0 ∧ cap = 0 ∧ zs = []) ∨
    ∃ x, a = some x ∧ len ≤ cap ∧ cap ≤ maxLen ∧ zs.length = cap ∧ (∀ i, i < zs.length → w.cell? (x.add i) = some (.int .u32 (zs.getD i 0))) ∧ ∀ n ∈ zs, (Lit.int .u32 n).wf = true) : ∃ xs, Rd w a len cap xs := by
  rcases h with ⟨rfl, rfl, rfl, rfl⟩ | ⟨x, rfl, hl, hm, hz, hc, hw⟩
  · exact ⟨[], Rd.nil_⟩
  · have hb : ∀ n ∈ zs, 0 ≤ n ∧ n ≤ 4294967295 := fun n hn => by
      have := hw n hn
      simpa [Lit.wf, IntKind.min, IntKind.max, IntKind.signed, IntKind.bits] using this
    have hg : ∀ i, i < len → ((gw ((zs.take len).map Int.toNat) i : Nat) : Int) = zs.getD i 0 := by
      intro i hi
      have hiz : i < zs.length := by omega
      have e : gw ((zs.take len).map Int.toNat) i = (zs[i]).toNat := by
        unfold gw
        rw [List.getD_eq_getElem?_getD, List.getElem?_map, List.getElem?_take_of_lt hi, List.getElem?_eq_getElem hiz]
        rfl
      rw [e, List.getD_eq_getElem?_getD, List.getElem?_eq_getElem hiz, Option.getD_some]
      have := hb _ (List.getElem_mem hiz)
      omega
    refine ⟨(zs.take len).map Int.toNat, by rw [List.length_map, List.length_take]; omega, hl, by unfold maxLen at hm; exact hm, ?_, fun e => (by cases e), fun hn => ⟨x, rfl, ?_, fun j hj => ?_⟩⟩
    · intro u hu
      obtain ⟨v, hv, rfl⟩ := List.mem_map.1 hu
      have := hb v (List.mem_of_mem_take hv)
      omega
    · have := World.block_lt_of_cell? w (x.add 0) (hc 0 (by omega))
      rwa [block_of_add] at this
    · rw [hg j hj]; exact hc j (by omega)
theorem cmp_same (w : World) (A A' : Option Addr) (n c n' c' : Nat) (xs ys : List Nat) (h : Rd w A n c xs) (k : Rd w A' n' c' ys) (hv : val xs = val ys) :
    Calls Try.prog 77 #[.slice A n c, .slice A' n' c'] w fun e w' => e = .returned (.int .i64 0) ∧ On w w' :=
  (cmp_any w A A' n c n' c' xs ys h k).mono fun _ _ ⟨he, ho⟩ => ⟨by rw [he, cmpI_eq hv], ho⟩
theorem some_large (ls : List Nat) (k : Nat) : (∀ i, i < k → gw ls i ≤ 40) ∨ ∃ m, m < k ∧ 40 < gw ls m := by
  by_cases h : ∃ m, m < k ∧ 40 < gw ls m
  · exact .inr h
  · exact .inl fun i hi => Nat.le_of_not_lt fun hlt => h ⟨i, hi, hlt⟩
end Num
end Go.Proofs.Ytkpeliokhmigoaa
