/-
  Nodes that a call makes: rows of nodes that grow; renumbered.
-/
import Derived.Test.YtmkogcaafkobaaaFg
import Derived.Test.YtmkogcaafkobaaaFq
namespace Go.Proofs.Ytmkogcaafkobaaa.Fm
open Go.RowKit Go.Proofs.Ytmkogcaafkobaaa.Sb
set_option linter.unusedVariables false
set_option maxRecDepth 100000
/-- a row of ints stands when blocks of another type, or elder ones, turn -/
theorem row_by {w w' : World} {base : Nat} {v : Value} {n : Nat} {xs : List Value} {row : Option Nat} (h : w.ownsRow base 3 1 v n xs) (k : w.grownBy w' row) (hr : ∀ g, row = some g → g < base ∨ ∃ cur, Own w g 41 cur) : w'.ownsRow base 3 1 v n xs := by
  refine ⟨h.1, ?_⟩
  rcases h.2 with h2 | ⟨g, cap, cur, hv, hb, hh, h3⟩
  · exact .inl h2
  · refine .inr ⟨g, cap, cur, hv, hb, (k.block g (Array.getElem?_eq_some_iff.1 hh).1 (fun e => ?_)).trans hh, h3⟩
    rcases hr g e.symm with h4 | ⟨cur2, h4⟩
    · omega
    · unfold Own at h4
      rw [hh] at h4
      injection h4 with h4
      injection h4 with _ h5 _
      revert h5
      decide
theorem row_low {w : World} {base base' : Nat} {e : TypeId} {v : Value} {n : Nat} {xs : List Value} (h : w.ownsRow base e 1 v n xs) (hb : base' ≤ base) : w.ownsRow base' e 1 v n xs := by
  refine ⟨h.1, ?_⟩
  rcases h.2 with h2 | ⟨g, cap, cur, hv, hg, h3⟩
  · exact .inl h2
  · exact .inr ⟨g, cap, cur, hv, by omega, h3⟩
/-- a row of nodes of the call's own -/
def OutN (w : World) (base : Nat) (v : Value) (xs : List Nn) : Prop :=
  ∃ cur, RowOf w base 41 3 v xs.length cur ∧ ∀ k, k < xs.length → ∃ (P : Option Addr) (m c : Nat), cur[k * 3]? = some (.int .i64 ((xs.getD k Nn.z).kind : Int)) ∧ cur[k * 3 + 1]? = some (.int .i64 ((xs.getD k Nn.z).k : Int)) ∧ cur[k * 3 + 2]? = some (.slice P m c) ∧ w.ownsRow base 3 1 (.slice P m c) m (VI (ints (xs.getD k Nn.z).args))
theorem OutN.nil (w : World) (base : Nat) : OutN w base (.slice none 0 0) [] := ⟨#[], RowOf.nil _ _ _ _, fun k h => by simp at h⟩
theorem OutN.on {w w' : World} {base : Nat} {v : Value} {xs : List Nn} (h : OutN w base v xs) (k : On w w') : OutN w' base v xs := by
  obtain ⟨cur, h1, h2⟩ := h
  refine ⟨cur, h1.on k, fun i hi => ?_⟩
  obtain ⟨P, m, c, a1, a2, a3, a4⟩ := h2 i hi
  exact ⟨P, m, c, a1, a2, a3, row_on a4 k⟩
/-- elder blocks may turn -/
theorem OutN.far {w : World} {base : Nat} {v : Value} {xs : List Nn} (h : OutN w base v xs) {p : Addr} (hp : p.block < base) (u : Value) : OutN (w.setCell p u) base v xs := by
  have hk : w.grownBy (w.setCell p u) (some p.block) := ⟨rfl, rfl, rfl, by simp [World.setCell], fun k _ hne => Below.heap_setCell _ _ _ _ (fun e => hne (by rw [e]))⟩
  obtain ⟨cur, h1, h2⟩ := h
  refine ⟨cur, h1.same fun b hb => Below.heap_setCell _ _ _ _ (fun e => ?_), fun i hi => ?_⟩
  · have := (h1.lt b hb).1
    omega
  · obtain ⟨P, m, c, a1, a2, a3, a4⟩ := h2 i hi
    exact ⟨P, m, c, a1, a2, a3, row_by a4 hk (fun g e => by cases e; exact .inl hp)⟩
theorem OutN.blk {w : World} {base : Nat} {v : Value} {xs : List Nn} (h : OutN w base v xs) : ∀ k, v.ownBlock = some k → base ≤ k ∧ k < w.heap.size ∧ ∃ cur, Own w k 41 cur := by
  obtain ⟨cur, h1, _⟩ := h
  intro k hk
  obtain ⟨a, b, c⟩ := h1.lt k hk
  exact ⟨a, b, cur, c⟩
theorem OutN.form {w : World} {base : Nat} {v : Value} {xs : List Nn} (h : OutN w base v xs) : ∃ A c, v = .slice A xs.length c ∧ xs.length ≤ c ∧ c ≤ 9223372036854775807 := by
  obtain ⟨cur, h1, _⟩ := h
  rcases h1 with ⟨rfl, hn, _⟩ | ⟨g, cap, rfl, _, _, h2, h3, _⟩
  · exact ⟨none, 0, by rw [hn], by omega, by omega⟩
  · exact ⟨_, _, rfl, h2, by unfold maxLen at h3; omega⟩
theorem OutN.rd {w : World} {base : Nat} {A : Option Addr} {n c : Nat} {xs : List Nn} (h : OutN w base (.slice A n c) xs) : n = xs.length ∧ RdN w A n c (rawL xs) := by
  obtain ⟨cur, h1, h2⟩ := h
  rcases h1 with ⟨hv, hn, _⟩ | ⟨g, cap, hv, hb, ho, h3, h4, h5⟩
  · injection hv with e1 e2 e3
    subst e1; subst e2; subst e3
    have hx := List.eq_nil_of_length_eq_zero hn
    subst hx
    exact ⟨rfl, RdN.nil_ w⟩
  · injection hv with e1 e2 e3
    subst e1; subst e3; subst e2
    refine ⟨rfl, by rw [raw_len], h3, by unfold maxLen at h4; omega, fun e => (by cases e), fun h0 => ⟨_, rfl, ho.lt, fun j hj => ?_⟩⟩
    obtain ⟨P, m, c2, a1, a2, a3, a4⟩ := h2 j hj
    have e := raw_get ⟨0, xs, 0⟩ j
    have e2 : Fn.nd ⟨0, xs, 0⟩ j = xs.getD j Nn.z := rfl
    rw [e2] at e
    simp only at e
    rw [e, add_plain, Nat.zero_add]
    exact ⟨P, m, c2, (ho.cell _).trans a1, (ho.cell _).trans a2, (ho.cell _).trans a3, rd_of_row a4⟩
theorem nodeInfo : (Try.prog.info? 41).map (fun i => (i.zero, i.size, i.bytes)) = some (some (.agg #[.int .i64 0, .int .i64 0, .slice none 0 0]), 3, 40) := by kernel_rfl
theorem app_nd (w : World) (ty base : Nat) (v : Value) (xs : List Nn) (h : OutN w base v xs) (g2 c : Nat) (x : Nn) (P : Option Addr) (m c1 : Nat) (h0 : w.cell? ⟨g2, 0, none⟩ = some (.int .i64 (x.kind : Int))) (h1 : w.cell? ⟨g2, 1, none⟩ = some (.int .i64 (x.k : Int))) (h2 : w.cell? ⟨g2, 2, none⟩ = some (.slice P m c1)) (F : w.ownsRow base 3 1 (.slice P m c1) m (VI (ints x.args))) (hn : xs.length ≤ 1000000) (hbase : base ≤ w.heap.size) :
    ∃ v' w', (Builtin.append_ #[22, 22] ty #[v, .slice (some ⟨g2, 0, none⟩) 1 c]).run Try.prog w = .ok v' w' ∧ OutN w' base v' (xs ++ [x]) ∧ w.grownBy w' v.ownBlock ∧ (v'.ownBlock = v.ownBlock ∨ v'.ownBlock = some w.heap.size) := by
  obtain ⟨cur, hR, hE⟩ := id h
  obtain ⟨i, hi, hz, hs, hby⟩ := info_parts' nodeInfo
  obtain ⟨v', w', cur', hrun, hR', hT, hM, hg, ho⟩ := run_app1 (P := Try.prog) w base 22 ty 41 i _ 3 40 Try.underlying22 hi hz hs hby rfl (by decide) (by decide) v xs.length cur hR ⟨g2, 0, none⟩ c [.int .i64 (x.kind : Int), .int .i64 (x.k : Int), .slice P m c1] rfl
    (fun j u hu => by
      match j, hu with
      | 0, hu => simp at hu; subst hu; exact h0
      | 1, hu => simp at hu; subst hu; exact h1
      | 2, hu => simp at hu; subst hu; exact h2) (fun u hu => by simp at hu; rcases hu with rfl | rfl | rfl <;> rfl) hn hbase
  have hfar : ∀ g, v.ownBlock = some g → g < base ∨ ∃ cur, Own w g 41 cur := fun g e => .inr (h.blk g e).2.2
  have hsz := hR.size
  have hcl : (cur.toList.take (xs.length * 3)).length = xs.length * 3 := by
    rw [List.length_take, Array.length_toList]
    exact Nat.min_eq_left hsz
  have hget : ∀ k, k < (xs.length + 1) * 3 → cur'[k]? = (cur.toList.take (xs.length * 3) ++ [.int .i64 (x.kind : Int), .int .i64 (x.k : Int), .slice P m c1])[k]? := by
    intro k hk
    rw [← hT, List.getElem?_take, if_pos hk, Array.getElem?_toList]
  refine ⟨v', w', hrun, ⟨cur', by rw [List.length_append]; exact hR', fun k hk => ?_⟩, hg, ho⟩
  rw [List.length_append, List.length_singleton] at hk
  by_cases hl : k < xs.length
  · obtain ⟨P3, m3, c3, q1, q2, q3, q4⟩ := hE k hl
    have old : ∀ j, j < 3 → cur'[k * 3 + j]? = cur[k * 3 + j]? := by
      intro j hj
      have a1 : k * 3 + j < (xs.length + 1) * 3 := by omega
      have a2 : k * 3 + j < (cur.toList.take (xs.length * 3)).length := by rw [hcl]; omega
      have a3 : k * 3 + j < xs.length * 3 := by omega
      rw [hget _ a1, List.getElem?_append_left a2, List.getElem?_take, if_pos a3, Array.getElem?_toList]
    rw [getD_snoc_l xs x Nn.z hl]
    exact ⟨P3, m3, c3, (old 0 (by decide)).trans q1, (old 1 (by decide)).trans q2, (old 2 (by decide)).trans q3, row_by q4 hg hfar⟩
  · obtain rfl : k = xs.length := by omega
    have new : ∀ j, j < 3 → cur'[xs.length * 3 + j]? = ([Value.int .i64 (x.kind : Int), .int .i64 (x.k : Int), .slice P m c1] : List Value)[j]? := by
      intro j hj
      have a1 : xs.length * 3 + j < (xs.length + 1) * 3 := by omega
      have a2 : (cur.toList.take (xs.length * 3)).length ≤ xs.length * 3 + j := by rw [hcl]; omega
      rw [hget _ a1, List.getElem?_append_right a2, hcl]
      congr 1
      omega
    rw [getD_snoc_r xs x Nn.z]
    exact ⟨P, m, c1, new 0 (by decide), new 1 (by decide), new 2 (by decide), row_by F hg hfar⟩
theorem wpList_app_nd {w : World} {ops : Array Oper} {rest : List Oper} {o : Oper} {a : Act} {Q : Exit → Act → World → Prop} (hgd : o.guard = none) (s_ x_ : Operand)
    (ho : o.op = .call { callee := .builtin .append, args := #[s_, x_], argTypes := #[22, 22] })
    (base : Nat) (v : Value) (xs : List Nn) (hs : a.eval s_ = v) (h : OutN w base v xs) (g2 c : Nat) (hx : a.eval x_ = .slice (some ⟨g2, 0, none⟩) 1 c) (x : Nn) (P : Option Addr) (m c1 : Nat) (h0 : w.cell? ⟨g2, 0, none⟩ = some (.int .i64 (x.kind : Int))) (h1 : w.cell? ⟨g2, 1, none⟩ = some (.int .i64 (x.k : Int))) (h2 : w.cell? ⟨g2, 2, none⟩ = some (.slice P m c1)) (F : w.ownsRow base 3 1 (.slice P m c1) m (VI (ints x.args))) (hn : xs.length ≤ 1000000) (hbase : base ≤ w.heap.size)
    (hk : ∀ v' w', OutN w' base v' (xs ++ [x]) → w.grownBy w' v.ownBlock → (v'.ownBlock = v.ownBlock ∨ v'.ownBlock = some w.heap.size) → wpList Try.prog ops Q rest (a.put o.dst v') w') : wpList Try.prog ops Q (o :: rest) a w := by
  refine wpList_plain hgd fun K hK => ?_
  obtain ⟨v', w', hrun, h2, h3, h4⟩ := app_nd w o.type base v xs h g2 c x P m c1 h0 h1 h2 F hn hbase
  unfold Oper.wp
  simp [execOp, ho, resolve, invoke, builtin, hs, hx, hrun, Result.andThen]
  exact hK _ _ (hk v' w' h2 h3 h4)
theorem step_app_nd {w : World} {ops : Array Oper} {o : Oper} {a : Act} {K : Act → World → Prop} {Q : Exit → Act → World → Prop} {E : Prop} (hgd : o.guard = none) (s_ x_ : Operand)
    (ho : o.op = .call { callee := .builtin .append, args := #[s_, x_], argTypes := #[22, 22] })
    (base : Nat) (v : Value) (xs : List Nn) (hs : a.eval s_ = v) (h : OutN w base v xs) (g2 c : Nat) (hx : a.eval x_ = .slice (some ⟨g2, 0, none⟩) 1 c) (x : Nn) (P : Option Addr) (m c1 : Nat) (h0 : w.cell? ⟨g2, 0, none⟩ = some (.int .i64 (x.kind : Int))) (h1 : w.cell? ⟨g2, 1, none⟩ = some (.int .i64 (x.k : Int))) (h2 : w.cell? ⟨g2, 2, none⟩ = some (.slice P m c1)) (F : w.ownsRow base 3 1 (.slice P m c1) m (VI (ints x.args))) (hn : xs.length ≤ 1000000) (hbase : base ≤ w.heap.size)
    (hk : ∀ v' w', OutN w' base v' (xs ++ [x]) → w.grownBy w' v.ownBlock → (v'.ownBlock = v.ownBlock ∨ v'.ownBlock = some w.heap.size) → K (a.put o.dst v') w') : if Region.wanted o (yielded ops a.tmps) = true then Oper.wp Try.prog o a w K Q else E := by
  have hw : Region.wanted o (yielded ops a.tmps) = true := by simp [Region.wanted, hgd]
  rw [if_pos hw]
  obtain ⟨v', w', hrun, h2, h3, h4⟩ := app_nd w o.type base v xs h g2 c x P m c1 h0 h1 h2 F hn hbase
  unfold Oper.wp
  simp [execOp, ho, resolve, invoke, builtin, hs, hx, hrun, Result.andThen]
  exact hk _ _ h2 h3 h4
end Go.Proofs.Ytmkogcaafkobaaa.Fm
