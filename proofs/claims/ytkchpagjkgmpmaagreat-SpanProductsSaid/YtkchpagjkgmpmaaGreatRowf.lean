/-
  Rows of fractions that grow.
-/
import Derived.Test.YtkchpagjkgmpmaaGreatSrb
import Derived.Test.YtkchpagjkgmpmaaGreatRow
namespace Go.Proofs.YtkchpagjkgmpmaaGreat
open Go.RowKit
set_option linter.unusedVariables false
namespace Num
def NoU (cur : Array Value) : Prop := ∀ x ∈ cur.toList, ∀ y : Int, x ≠ .int .u32 y
theorem Rd.row {w w' : World} {A : Option Addr} {n c : Nat} {xs : List Nat} (h : Rd w A n c xs) {row : Option Nat} (k : w.grownBy w' row) (hr : ∀ g, row = some g → ∃ t cur, Own w g t cur ∧ NoU cur) : Rd w' A n c xs := by
  refine ⟨h.1, h.2.1, h.2.2.1, h.2.2.2.1, h.none_, fun hn => ?_⟩
  obtain ⟨ad, e, hl, hc⟩ := h.2.2.2.2.2 hn
  refine ⟨ad, e, Nat.lt_of_lt_of_le hl k.size, fun j hj => ?_⟩
  by_cases hb : row = some ad.block
  · exfalso
    obtain ⟨t, cur, e2, hnw⟩ := hr _ hb
    have h0 := hc 0 hn
    rw [add_nil] at h0
    unfold World.cell? at h0
    rw [show w.heap[ad.block]? = _ from e2] at h0
    simp only at h0
    split at h0
    · cases h0
    · have hm : Value.int .u32 (gw xs 0) ∈ cur.toList := by
        have := Array.mem_of_getElem? h0
        exact Array.mem_toList_iff.2 this
      exact hnw _ hm _ rfl
  · exact (World.cell?_of_block (by rw [block_of_add]; exact k.block _ hl (fun e => hb e.symm))).trans (hc j hj)
theorem Fld.row {w w' : World} {v : Value} {r : Rat} {L : Nat} (h : Fld w v r L) {row : Option Nat} (k : w.grownBy w' row) (hr : ∀ g, row = some g → ∃ t cur, Own w g t cur ∧ NoU cur) : Fld w' v r L := by
  obtain ⟨s, A, n, c, A', n', c', xs, ys, e, R, R', h1⟩ := h
  exact ⟨s, A, n, c, A', n', c', xs, ys, e, R.row k hr, R'.row k hr, h1⟩
theorem FRats.row {w w' : World} {g : Nat} {rs : List Rat} {L : Nat} (h : FRats w g rs L) {row : Option Nat} (k : w.grownBy w' row) (hr : ∀ g, row = some g → ∃ t cur, Own w g t cur ∧ NoU cur) (hne : some g ≠ row) : FRats w' g rs L := by
  obtain ⟨cur, ho, hs, hk⟩ := h
  refine ⟨cur, (k.block g ho.lt hne).trans ho, hs, fun i hi => ?_⟩
  obtain ⟨s, A, n, c, A', n', c', h1, h2, h3, h4⟩ := hk i hi
  exact ⟨s, A, n, c, A', n', c', h1, h2, h3, h4.row k hr⟩
/-- a row of the call's own that holds the fractions rs, each of lists of at most M words -/
def RowF (w : World) (base : Nat) (v : Value) (rs : List Rat) (M : Nat) : Prop := ∃ cur, RowOf w base 24 3 v rs.length cur ∧ NoU cur ∧ ∀ k (h : k < rs.length), ∃ (s : Bool) (A : Option Addr) (n c : Nat) (A' : Option Addr) (n' c' : Nat), cur[k * 3]? = some (.bool s) ∧ cur[k * 3 + 1]? = some (.slice A n c) ∧ cur[k * 3 + 2]? = some (.slice A' n' c') ∧ Fld w (.agg #[.bool s, .slice A n c, .slice A' n' c']) rs[k] M
theorem RowF.nil (w : World) (base M : Nat) : RowF w base (.slice none 0 0) [] M := ⟨#[], RowOf.nil _ _ _ _, fun x h => by simp at h, fun k h => by simp at h⟩
theorem RowF.lt {w : World} {base : Nat} {v : Value} {rs : List Rat} {M : Nat} (h : RowF w base v rs M) : ∀ k, v.ownBlock = some k → base ≤ k ∧ k < w.heap.size := by
  obtain ⟨cur, h1, _⟩ := h
  exact fun k hk => ⟨(h1.lt k hk).1, (h1.lt k hk).2.1⟩
theorem RowF.far {w : World} {base : Nat} {v : Value} {rs : List Rat} {M : Nat} (h : RowF w base v rs M) : ∀ g, v.ownBlock = some g → ∃ t cur, Own w g t cur ∧ NoU cur := by
  obtain ⟨cur, h1, h2, _⟩ := h
  exact fun k hk => ⟨_, cur, (h1.lt k hk).2.2, h2⟩
theorem RowF.on {w w' : World} {base : Nat} {v : Value} {rs : List Rat} {M : Nat} (h : RowF w base v rs M) (k : On w w') : RowF w' base v rs M := by
  obtain ⟨cur, h1, h2, h3⟩ := h
  refine ⟨cur, h1.on k, h2, fun i hi => ?_⟩
  obtain ⟨s, A, n, c, A', n', c', q1, q2, q3, q4⟩ := h3 i hi
  exact ⟨s, A, n, c, A', n', c', q1, q2, q3, q4.on k⟩
/-- a row of two and more is a list of fractions -/
theorem RowF.frats {w : World} {base : Nat} {v : Value} {rs : List Rat} {M : Nat} (h : RowF w base v rs M) (hl : 2 ≤ rs.length) : ∃ g c, v = .slice (some ⟨g, 0, none⟩) rs.length c ∧ rs.length ≤ c ∧ c ≤ 9223372036854775807 ∧ FRats w g rs M := by
  obtain ⟨cur, h1, h2, h3⟩ := h
  rcases h1 with ⟨_, h4, _⟩ | ⟨g, cap, rfl, hb, ho, hn, hm, hs⟩
  · omega
  · exact ⟨g, cap, rfl, hn, by unfold maxLen at hm; omega, cur, ho, by omega, h3⟩
theorem ratInfo : (Tryz.prog.info? 24).map (fun i => (i.zero, i.size, i.bytes)) = some (some (.agg #[.bool false, .slice none 0 0, .slice none 0 0]), 3, 56) := by kernel_rfl
set_option maxRecDepth 100000 in
theorem app_rat (w : World) (ty base : Nat) (v : Value) (rs : List Rat) (M : Nat) (h : RowF w base v rs M) (g2 c : Nat) (s : Bool) (A : Option Addr) (n c1 : Nat) (A' : Option Addr) (n' c2 : Nat) (r : Rat) (h0 : w.cell? ⟨g2, 0, none⟩ = some (.bool s)) (h1 : w.cell? ⟨g2, 1, none⟩ = some (.slice A n c1)) (h2 : w.cell? ⟨g2, 2, none⟩ = some (.slice A' n' c2)) (F : Fld w (.agg #[.bool s, .slice A n c1, .slice A' n' c2]) r M) (hn : rs.length ≤ 1000000) (hbase : base ≤ w.heap.size) :
    ∃ v' w', (Builtin.append_ #[54, 54] ty #[v, .slice (some ⟨g2, 0, none⟩) 1 c]).run Tryz.prog w = .ok v' w' ∧ RowF w' base v' (rs ++ [r]) M ∧ w.grownBy w' v.ownBlock ∧ (v'.ownBlock = v.ownBlock ∨ v'.ownBlock = some w.heap.size) := by
  obtain ⟨cur, hR, hU, hE⟩ := id h
  obtain ⟨i, hi, hz, hs, hby⟩ := info_parts' ratInfo
  obtain ⟨v', w', cur', hrun, hR', hT, hM, hg, ho⟩ := run_app1 (P := Tryz.prog) w base 54 ty 24 i _ 3 56 Tryz.underlying54 hi hz hs hby rfl (by decide) (by decide) v rs.length cur hR ⟨g2, 0, none⟩ c [.bool s, .slice A n c1, .slice A' n' c2] rfl
    (fun j u hu => by
      match j, hu with
      | 0, hu => simp at hu; subst hu; exact h0
      | 1, hu => simp at hu; subst hu; exact h1
      | 2, hu => simp at hu; subst hu; exact h2) (fun u hu => by simp at hu; rcases hu with rfl | rfl | rfl <;> rfl) hn hbase
  have hfar := h.far
  have hsz := hR.size
  have hcl : (cur.toList.take (rs.length * 3)).length = rs.length * 3 := by
    rw [List.length_take, Array.length_toList]
    exact Nat.min_eq_left hsz
  have hget : ∀ k, k < (rs.length + 1) * 3 → cur'[k]? = (cur.toList.take (rs.length * 3) ++ [.bool s, .slice A n c1, .slice A' n' c2])[k]? := by
    intro k hk
    rw [← hT, List.getElem?_take, if_pos hk, Array.getElem?_toList]
  refine ⟨v', w', hrun, ⟨cur', by rw [List.length_append]; exact hR', fun x hx y e => ?_, fun k hk => ?_⟩, hg, ho⟩
  · subst e
    rcases hM _ hx with hx | hx | hx
    · exact hU _ hx y rfl
    · simp at hx
    · simp [Value.cells] at hx
  · rw [List.length_append, List.length_singleton] at hk
    by_cases hl : k < rs.length
    · obtain ⟨s3, A3, n3, c3, A4, n4, c4, q1, q2, q3, q4⟩ := hE k hl
      have old : ∀ j, j < 3 → cur'[k * 3 + j]? = cur[k * 3 + j]? := by
        intro j hj
        have a1 : k * 3 + j < (rs.length + 1) * 3 := by omega
        have a2 : k * 3 + j < (cur.toList.take (rs.length * 3)).length := by rw [hcl]; omega
        have a3 : k * 3 + j < rs.length * 3 := by omega
        rw [hget _ a1, List.getElem?_append_left a2, List.getElem?_take, if_pos a3, Array.getElem?_toList]
      have e : (rs ++ [r])[k]'(by rw [List.length_append, List.length_singleton]; exact hk) = rs[k] := List.getElem_append_left hl
      rw [e]
      exact ⟨s3, A3, n3, c3, A4, n4, c4, (old 0 (by decide)).trans q1, (old 1 (by decide)).trans q2, (old 2 (by decide)).trans q3, q4.row hg hfar⟩
    · obtain rfl : k = rs.length := by omega
      have new : ∀ j, j < 3 → cur'[rs.length * 3 + j]? = ([Value.bool s, .slice A n c1, .slice A' n' c2] : List Value)[j]? := by
        intro j hj
        have a1 : rs.length * 3 + j < (rs.length + 1) * 3 := by omega
        have a2 : (cur.toList.take (rs.length * 3)).length ≤ rs.length * 3 + j := by rw [hcl]; omega
        rw [hget _ a1, List.getElem?_append_right a2, hcl]
        congr 1
        omega
      have e : (rs ++ [r])[rs.length]'(by rw [List.length_append, List.length_singleton]; exact hk) = r := by simp
      rw [e]
      exact ⟨s, A, n, c1, A', n', c2, new 0 (by decide), new 1 (by decide), new 2 (by decide), F.row hg hfar⟩
set_option maxRecDepth 100000 in
theorem wpList_app_rat {w : World} {ops : Array Oper} {rest : List Oper} {o : Oper} {a : Act} {Q : Exit → Act → World → Prop} (hgd : o.guard = none) (s_ x_ : Operand)
    (ho : o.op = .call { callee := .builtin .append, args := #[s_, x_], argTypes := #[54, 54] })
    (base : Nat) (v : Value) (rs : List Rat) (M : Nat) (hs : a.eval s_ = v) (h : RowF w base v rs M) (g2 c : Nat) (hx : a.eval x_ = .slice (some ⟨g2, 0, none⟩) 1 c) (s : Bool) (A : Option Addr) (n c1 : Nat) (A' : Option Addr) (n' c2 : Nat) (r : Rat) (h0 : w.cell? ⟨g2, 0, none⟩ = some (.bool s)) (h1 : w.cell? ⟨g2, 1, none⟩ = some (.slice A n c1)) (h2 : w.cell? ⟨g2, 2, none⟩ = some (.slice A' n' c2)) (F : Fld w (.agg #[.bool s, .slice A n c1, .slice A' n' c2]) r M) (hn : rs.length ≤ 1000000) (hbase : base ≤ w.heap.size)
    (hk : ∀ v' w', RowF w' base v' (rs ++ [r]) M → w.grownBy w' v.ownBlock → (v'.ownBlock = v.ownBlock ∨ v'.ownBlock = some w.heap.size) → wpList Tryz.prog ops Q rest (a.put o.dst v') w') : wpList Tryz.prog ops Q (o :: rest) a w := by
  refine wpList_plain hgd fun K hK => ?_
  obtain ⟨v', w', hrun, h2, h3, h4⟩ := app_rat w o.type base v rs M h g2 c s A n c1 A' n' c2 r h0 h1 h2 F hn hbase
  unfold Oper.wp
  simp [execOp, ho, resolve, invoke, builtin, hs, hx, hrun, Result.andThen]
  exact hK _ _ (hk v' w' h2 h3 h4)
end Num
end Go.Proofs.YtkchpagjkgmpmaaGreat
