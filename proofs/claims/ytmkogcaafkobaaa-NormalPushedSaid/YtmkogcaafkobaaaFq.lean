/-
  append of one element of any size to a row of the call's own: which cells the row holds then. No statement of the program.
-/
import Derived.Test.YtmkogcaafkobaaaSo
import Derived.Maps.AppendAt
namespace Go.Proofs.Ytmkogcaafkobaaa
open Go.RowKit Go.Proofs.Ytmkogcaafkobaaa.Sb
set_option linter.unusedVariables false
namespace Fm
/-- v: the slice of the first n elements of a whole block of the call's own (or the empty one of no block); cur: the block's cells -/
def RowOf (w : World) (base : Nat) (e : TypeId) (size : Nat) (v : Value) (n : Nat) (cur : Array Value) : Prop :=
  (v = .slice none 0 0 ∧ n = 0 ∧ cur = #[]) ∨ ∃ g cap, v = .slice (some ⟨g, 0, none⟩) n cap ∧ base ≤ g ∧ Own w g e cur ∧ n ≤ cap ∧ cap ≤ maxLen ∧ cur.size = cap * size
theorem RowOf.nil (w : World) (base : Nat) (e : TypeId) (size : Nat) : RowOf w base e size (.slice none 0 0) 0 #[] := .inl ⟨rfl, rfl, rfl⟩
theorem RowOf.size {w : World} {base : Nat} {e : TypeId} {size : Nat} {v : Value} {n : Nat} {cur : Array Value} (h : RowOf w base e size v n cur) : n * size ≤ cur.size := by
  rcases h with ⟨_, rfl, rfl⟩ | ⟨g, cap, _, _, _, h1, _, h2⟩
  · simp
  · rw [h2]; exact Nat.mul_le_mul_right _ h1
theorem RowOf.lt {w : World} {base : Nat} {e : TypeId} {size : Nat} {v : Value} {n : Nat} {cur : Array Value} (h : RowOf w base e size v n cur) : ∀ k, v.ownBlock = some k → base ≤ k ∧ k < w.heap.size ∧ Own w k e cur := by
  intro k hk
  rcases h with ⟨rfl, _, _⟩ | ⟨g, cap, rfl, hb, ho, _⟩
  · simp [Value.ownBlock] at hk
  · simp [Value.ownBlock] at hk
    subst hk
    exact ⟨hb, ho.lt, ho⟩
theorem RowOf.same {w w' : World} {base : Nat} {e : TypeId} {size : Nat} {v : Value} {n : Nat} {cur : Array Value} (h : RowOf w base e size v n cur) (hs : ∀ k, v.ownBlock = some k → w'.heap[k]? = w.heap[k]?) : RowOf w' base e size v n cur := by
  rcases h with h | ⟨g, cap, rfl, hb, ho, h1⟩
  · exact .inl h
  · exact .inr ⟨g, cap, rfl, hb, (hs g rfl).trans ho, h1⟩
theorem RowOf.on {w w' : World} {base : Nat} {e : TypeId} {size : Nat} {v : Value} {n : Nat} {cur : Array Value} (h : RowOf w base e size v n cur) (k : On w w') : RowOf w' base e size v n cur :=
  h.same fun b hb => k.block b (h.lt b hb).2.1
theorem mem_zeroCells {z : Array Value} {n : Nat} {x : Value} (h : x ∈ (Builtin.zeroCells z n).toList) : x ∈ z.toList := by
  unfold Builtin.zeroCells at h
  simp only [Array.toList_map, List.mem_map, Array.toList_range, List.mem_range] at h
  obtain ⟨i, hi, rfl⟩ := h
  have hz : 0 < z.size := Nat.pos_of_ne_zero fun e => by rw [e] at hi; simp at hi
  have hm := Nat.mod_lt i hz
  rw [getElem!_pos z (i % z.size) hm]
  exact Array.mem_toList_iff.2 (Array.getElem_mem hm)
theorem run_app1 {P : Program} (w : World) (base : Nat) (t ty e : TypeId) (i : TypeInfo) (z : Value) (size bytes : Nat) (ht : P.underlying t = some (.slice e)) (hi : P.info? e = some i) (hz : i.zero = some z) (hsize : i.size = size) (hby : i.bytes = bytes) (hzs : z.cells.size = size) (hsz : 0 < size) (hb8 : bytes ≤ 10000)
    (v : Value) (n : Nat) (cur : Array Value) (h : RowOf w base e size v n cur) (a : Addr) (c : Nat) (news : List Value) (hl : news.length = size) (hnews : ∀ j u, news[j]? = some u → w.cell? (a.add j) = some u) (h1 : ∀ u ∈ news, u.oneCell' = true)
    (hn : n ≤ 1000000) (hbase : base ≤ w.heap.size) :
    ∃ v' w' cur', (Builtin.append_ #[t, t] ty #[v, .slice (some a) 1 c]).run P w = .ok v' w' ∧ RowOf w' base e size v' (n + 1) cur' ∧ cur'.toList.take ((n + 1) * size) = cur.toList.take (n * size) ++ news ∧ (∀ x ∈ cur'.toList, x ∈ cur.toList ∨ x ∈ news ∨ x ∈ z.cells.toList) ∧ w.grownBy w' v.ownBlock ∧ (v'.ownBlock = v.ownBlock ∨ v'.ownBlock = some w.heap.size) := by
  subst hsize
  subst hby
  have hml : (9223372036854775807 : Nat) ≥ 1000001 := by decide
  have hmx : n + 1 ≤ maxLen := by unfold maxLen; omega
  have hbytes : (n + 1) * i.bytes ≤ 140737488355328 := by
    have : (n + 1) * i.bytes ≤ (n + 1) * 10000 := Nat.mul_le_mul_left _ hb8
    omega
  have hcn : (cur.toList.take (n * i.size)).length = n * i.size := by
    rw [List.length_take]
    have := h.size
    simp only [Array.length_toList]
    omega
  -- the block that the growing arm makes
  have grown : ∀ (old : Nat), ∀ (row : Option Nat),
      RowOf (w.drew.alloc (.cells ((cur.toList.take (n * i.size)).toArray ++ news.toArray ++ Builtin.zeroCells z.cells (grownCap w (n + 1) old e - (n + 1))) e)) base e i.size (.slice (some ⟨w.heap.size, 0, none⟩) (n + 1) (grownCap w (n + 1) old e)) (n + 1) ((cur.toList.take (n * i.size)).toArray ++ news.toArray ++ Builtin.zeroCells z.cells (grownCap w (n + 1) old e - (n + 1))) ∧
      ((cur.toList.take (n * i.size)).toArray ++ news.toArray ++ Builtin.zeroCells z.cells (grownCap w (n + 1) old e - (n + 1))).toList.take ((n + 1) * i.size) = cur.toList.take (n * i.size) ++ news ∧
      (∀ x ∈ ((cur.toList.take (n * i.size)).toArray ++ news.toArray ++ Builtin.zeroCells z.cells (grownCap w (n + 1) old e - (n + 1))).toList, x ∈ cur.toList ∨ x ∈ news ∨ x ∈ z.cells.toList) ∧
      w.grownBy (w.drew.alloc (.cells ((cur.toList.take (n * i.size)).toArray ++ news.toArray ++ Builtin.zeroCells z.cells (grownCap w (n + 1) old e - (n + 1))) e)) row := by
    intro old row
    have hge := grownCap_ge w (n + 1) old e
    have hcm : grownCap w (n + 1) old e ≤ maxLen := grownCap_le_maxLen w (n + 1) old e hmx
    refine ⟨.inr ⟨w.heap.size, _, rfl, hbase, heap_alloc_new w.drew _, hge, hcm, ?_⟩, ?_, ?_, ⟨rfl, rfl, rfl, by simp, fun k hk _ => heap_alloc_old w.drew _ hk⟩⟩
    · simp only [Array.size_append, List.size_toArray, size_zeroCells, hzs, hcn, hl]
      have : n * i.size + i.size = (n + 1) * i.size := by rw [Nat.add_mul, Nat.one_mul]
      rw [this, ← Nat.add_mul]
      congr 1
      omega
    · simp only [Array.toList_append, List.append_assoc]
      rw [← List.append_assoc]
      have hh : (n + 1) * i.size = (cur.toList.take (n * i.size) ++ news).length := by rw [List.length_append, hcn, hl, Nat.add_mul, Nat.one_mul]
      rw [hh]
      exact List.take_left
    · intro x hx
      simp only [Array.toList_append, List.mem_append] at hx
      rcases hx with (hx | hx) | hx
      · exact .inl (List.mem_of_mem_take hx)
      · exact .inr (.inl hx)
      · exact .inr (.inr (mem_zeroCells hx))
  rcases id h with ⟨rfl, rfl, rfl⟩ | ⟨g, cap, rfl, hbg, hg, hnc, hcm, hcs⟩
  · have hr := run_append_nil (P := P) w t ty e i z ht hi hz a 1 c news (by rw [hl, Nat.one_mul]) hnews (by decide) (by decide) (by omega)
    obtain ⟨g1, g2, g3, g4⟩ := grown 0 (Value.ownBlock (.slice none 0 0))
    simp only [Nat.zero_add, Nat.zero_mul, List.take_zero, List.nil_append, Array.empty_append] at g1 g2 g3 g4 ⊢
    exact ⟨_, _, _, hr, g1, g2, g3, g4, Or.inr rfl⟩
  · by_cases hroom : n + 1 ≤ cap
    · have hfit : n * i.size + news.length ≤ cur.size := by
        rw [hl, hcs]
        have : n * i.size + i.size = (n + 1) * i.size := by rw [Nat.add_mul, Nat.one_mul]
        rw [this]
        exact Nat.mul_le_mul_right _ hroom
      have hr := run_append_room (P := P) w t ty e i ht hi g n cap cur hg a 1 c news (by rw [hl, Nat.one_mul]) hnews h1 hroom hfit
      refine ⟨_, _, _, hr, .inr ⟨g, cap, rfl, hbg, setRow_heap w g cur _ e _ hg, hroom, hcm, ?_⟩, ?_, ?_, ⟨rfl, rfl, rfl, by simp, fun k _ hk => setRow_other w g k _ (fun e => hk (by simp [Value.ownBlock, e]))⟩, Or.inl rfl⟩
      · rw [← hcs]
        simp only [List.size_toArray, List.length_append, List.length_take, List.length_drop, Array.length_toList]
        omega
      · have hh : (n + 1) * i.size = (cur.toList.take (n * i.size) ++ news).length := by rw [List.length_append, hcn, hl, Nat.add_mul, Nat.one_mul]
        rw [hh]
        exact List.take_left
      · intro x hx
        simp only [List.mem_append] at hx
        rcases hx with (hx | hx) | hx
        · exact .inl (List.mem_of_mem_take hx)
        · exact .inr (.inl hx)
        · exact .inl (List.mem_of_mem_drop hx)
    · have holds : ∀ j u, (cur.toList.take (n * i.size))[j]? = some u → w.cell? ((⟨g, 0, none⟩ : Addr).add j) = some u := by
        intro j u hj
        rw [List.getElem?_take] at hj
        split at hj
        · rw [Array.getElem?_toList] at hj
          have := hg.cell j
          rw [hj] at this
          rw [← this, Addr.add_lit, Nat.zero_add]
        · cases hj
      have hr := run_append_grow (P := P) w t ty e i z ht hi hz ⟨g, 0, none⟩ n cap (cur.toList.take (n * i.size)) hcn holds a 1 c news (by rw [hl, Nat.one_mul]) hnews (by omega) (by omega) (growslice_fits (by omega) hbytes)
      obtain ⟨g1, g2, g3, g4⟩ := grown cap (Value.ownBlock (.slice (some ⟨g, 0, none⟩) n cap))
      exact ⟨_, _, _, hr, g1, g2, g3, g4, Or.inr rfl⟩
end Fm
end Go.Proofs.Ytmkogcaafkobaaa
