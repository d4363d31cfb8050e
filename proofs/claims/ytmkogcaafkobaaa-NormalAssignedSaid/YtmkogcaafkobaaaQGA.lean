/-
  What the program's functions that rewrite formulas return.
-/
import Derived.Test.YtmkogcaafkobaaaJGA
import Derived.Test.YtmkogcaafkobaaaKr
namespace Go.Proofs.Ytmkogcaafkobaaa.Fm
open Go.RowKit Go.Proofs.Ytmkogcaafkobaaa.Sb
set_option linter.unusedVariables false
set_option maxRecDepth 100000
/-- what the program returns that makes the formula g, or finds it too large -/
def MadeP (g : Fn) (e : Ending) (w' : World) : Prop :=
  (g.nodes.length ≤ 128 ∧ ∃ A' c', e = .returned (.tuple #[.agg #[.int .i64 (g.vars : Int), .slice A' g.nodes.length c', .int .i64 (g.top : Int)], .nilIface]) ∧ RdN w' A' g.nodes.length c' (rawL g.nodes)) ∨
  (128 < g.nodes.length ∧ e = .returned (.tuple #[.agg #[.int .i64 0, .slice none 0 0, .int .i64 0], errV 4]))
/-- the same, and where the nodes lie -/
def MadeD (b : Nat) (g : Fn) (e : Ending) (w' : World) : Prop :=
  (g.nodes.length ≤ 128 ∧ ∃ A' c', e = .returned (.tuple #[.agg #[.int .i64 (g.vars : Int), .slice A' g.nodes.length c', .int .i64 (g.top : Int)], .nilIface]) ∧ OutN w' b (.slice A' g.nodes.length c') g.nodes) ∨
  (128 < g.nodes.length ∧ e = .returned (.tuple #[.agg #[.int .i64 0, .slice none 0 0, .int .i64 0], errV 4]))
theorem MadeD.p {b : Nat} {g : Fn} {e : Ending} {w' : World} (h : MadeD b g e w') : MadeP g e w' := by
  rcases h with ⟨h1, A', c', h2, h3⟩ | h
  · exact .inl ⟨h1, A', c', h2, h3.rd.2⟩
  · exact .inr h
end Go.Proofs.Ytmkogcaafkobaaa.Fm
/-
  Drafts: a formula that grows node by node, behind a pointer; events, replaced and add of the program.
-/
namespace Go.Proofs.Ytmkogcaafkobaaa.Fm
open Go.RowKit Go.Proofs.Ytmkogcaafkobaaa.Sb
set_option linter.unusedVariables false
set_option maxRecDepth 100000
/-- the block of the nodes of the draft at b -/
def rowAt (w : World) (b : Nat) : Option Nat := (w.cell? ⟨b, 1, none⟩).bind Value.ownBlock
/-- of what was there only the draft at b and its nodes have turned -/
def Dk (b : Nat) (w w' : World) : Prop := w.heap.size ≤ w'.heap.size ∧ ∀ g, g < w.heap.size → g ≠ b → rowAt w b ≠ some g → w'.heap[g]? = w.heap[g]? ∧ rowAt w' b ≠ some g
theorem Dk.refl (b : Nat) (w : World) : Dk b w w := ⟨Nat.le_refl _, fun g _ _ h => ⟨rfl, h⟩⟩
theorem Dk.trans {b : Nat} {w1 w2 w3 : World} (h : Dk b w1 w2) (k : Dk b w2 w3) : Dk b w1 w3 :=
  ⟨Nat.le_trans h.1 k.1, fun g h1 h2 h3 => by
    obtain ⟨a1, a2⟩ := h.2 g h1 h2 h3
    obtain ⟨b1, b2⟩ := k.2 g (Nat.lt_of_lt_of_le h1 h.1) h2 a2
    exact ⟨b1.trans a1, b2⟩⟩
theorem rowAt_on {w w' : World} {b : Nat} (hb : b < w.heap.size) (h : On w w') : rowAt w' b = rowAt w b := by
  unfold rowAt
  rw [Below.cell h (p := ⟨b, 1, none⟩) hb]
theorem Dk.of_on {b : Nat} {w w' : World} (hb : b < w.heap.size) (h : On w w') : Dk b w w' :=
  ⟨h.size, fun g h1 h2 h3 => ⟨h.block g h1, by rw [rowAt_on hb h]; exact h3⟩⟩
/-- a block that is neither the draft nor its nodes -/
def Aw (b : Nat) (w : World) (g : Nat) (t : TypeId) (cur : Array Value) : Prop := Own w g t cur ∧ g ≠ b ∧ rowAt w b ≠ some g
theorem Aw.dk {b g : Nat} {w w' : World} {t : TypeId} {cur : Array Value} (h : Aw b w g t cur) (k : Dk b w w') : Aw b w' g t cur := by
  obtain ⟨a1, a2⟩ := k.2 g h.1.lt h.2.1 h.2.2
  exact ⟨a1.trans h.1, h.2.1, a2⟩
theorem own_type {w : World} {g : Nat} {t t' : TypeId} {c c' : Array Value} (h : Own w g t c) (h' : Own w g t' c') : t = t' := by
  unfold Own at h h'
  rw [h] at h'
  injection h' with h'
  injection h' with _ e _
/-- a row of nodes of the call's own, whose rows of arguments are none of the blocks Z -/
def OutZ (Z : Nat → Prop) (w : World) (base : Nat) (v : Value) (xs : List Nn) : Prop :=
  ∃ cur, RowOf w base 41 3 v xs.length cur ∧ ∀ k, k < xs.length → ∃ (P : Option Addr) (m c : Nat), cur[k * 3]? = some (.int .i64 ((xs.getD k Nn.z).kind : Int)) ∧ cur[k * 3 + 1]? = some (.int .i64 ((xs.getD k Nn.z).k : Int)) ∧ cur[k * 3 + 2]? = some (.slice P m c) ∧ w.ownsRow base 3 1 (.slice P m c) m (VI (ints (xs.getD k Nn.z).args)) ∧ ∀ g, (Value.slice P m c).ownBlock = some g → ¬ Z g
theorem OutZ.out {Z : Nat → Prop} {w : World} {base : Nat} {v : Value} {xs : List Nn} (h : OutZ Z w base v xs) : OutN w base v xs := by
  obtain ⟨cur, h1, h2⟩ := h
  exact ⟨cur, h1, fun k hk => by obtain ⟨P, m, c, a1, a2, a3, a4, _⟩ := h2 k hk; exact ⟨P, m, c, a1, a2, a3, a4⟩⟩
theorem OutZ.nil (Z : Nat → Prop) (w : World) (base : Nat) : OutZ Z w base (.slice none 0 0) [] := ⟨#[], RowOf.nil _ _ _ _, fun k h => by simp at h⟩
theorem OutZ.on {Z : Nat → Prop} {w w' : World} {base : Nat} {v : Value} {xs : List Nn} (h : OutZ Z w base v xs) (k : On w w') : OutZ Z w' base v xs := by
  obtain ⟨cur, h1, h2⟩ := h
  refine ⟨cur, h1.on k, fun i hi => ?_⟩
  obtain ⟨P, m, c, a1, a2, a3, a4, a5⟩ := h2 i hi
  exact ⟨P, m, c, a1, a2, a3, row_on a4 k, a5⟩
theorem row_blk {w : World} {base : Nat} {e : TypeId} {v : Value} {n : Nat} {xs : List Value} (h : w.ownsRow base e 1 v n xs) {g : Nat} (hg : v.ownBlock = some g) : base ≤ g ∧ g < w.heap.size ∧ ∃ cur, Own w g e cur := by
  rcases h.2 with ⟨rfl, _⟩ | ⟨g', cap, cur, rfl, hb, hh, _⟩
  · simp [Value.ownBlock] at hg
  · simp [Value.ownBlock] at hg
    subst hg
    exact ⟨hb, Own.lt hh, cur, hh⟩
/-- a block has turned that is no block of nodes, and no row of ints that nodes may have; the blocks Z' are of Z or new -/
theorem OutZ.by_ {Z Z' : Nat → Prop} {w w' : World} {base : Nat} {v : Value} {xs : List Nn} {row : Option Nat} (h : OutZ Z w base v xs) (k : w.grownBy w' row) (hr : ∀ g, row = some g → g < base ∨ ∃ t cur, Own w g t cur ∧ t ≠ 41 ∧ (t = 3 → Z g)) (hz : ∀ g, Z' g → Z g ∨ w.heap.size ≤ g) : OutZ Z' w' base v xs := by
  obtain ⟨cur, h1, h2⟩ := h
  refine ⟨cur, h1.same fun b hb => ?_, fun i hi => ?_⟩
  · obtain ⟨a1, a2, a3⟩ := h1.lt b hb
    refine k.block b a2 fun e => ?_
    rcases hr b e.symm with h5 | ⟨t, c, h3, h4, _⟩
    · omega
    · exact h4 (own_type h3 a3)
  · obtain ⟨P, m, c, a1, a2, a3, a4, a5⟩ := h2 i hi
    refine ⟨P, m, c, a1, a2, a3, ?_, fun g hg => ?_⟩
    · refine ⟨a4.1, ?_⟩
      rcases a4.2 with h6 | ⟨g, cap, cur2, hv, hb, hh, h7⟩
      · exact .inl h6
      · refine .inr ⟨g, cap, cur2, hv, hb, (k.block g (Own.lt hh) fun e => ?_).trans hh, h7⟩
        rcases hr g e.symm with h5 | ⟨t, c9, h3, h4, h5⟩
        · omega
        · have := own_type h3 (show Own w g 3 cur2 from hh)
          exact a5 g (by rw [hv]; rfl) (h5 this)
    · intro hz'
      rcases hz g hz' with h6 | h6
      · exact a5 g hg h6
      · have := (row_blk a4 hg).2.1; omega
theorem app_ndZ (Z : Nat → Prop) (w : World) (ty base : Nat) (v : Value) (xs : List Nn) (h : OutZ Z w base v xs) (g2 c : Nat) (x : Nn) (P : Option Addr) (m c1 : Nat) (h0 : w.cell? ⟨g2, 0, none⟩ = some (.int .i64 (x.kind : Int))) (h1 : w.cell? ⟨g2, 1, none⟩ = some (.int .i64 (x.k : Int))) (h2 : w.cell? ⟨g2, 2, none⟩ = some (.slice P m c1)) (F : w.ownsRow base 3 1 (.slice P m c1) m (VI (ints x.args))) (hFZ : ∀ g, (Value.slice P m c1).ownBlock = some g → ¬ Z g) (hn : xs.length ≤ 1000000) (hbase : base ≤ w.heap.size) :
    ∃ v' w', (Builtin.append_ #[22, 22] ty #[v, .slice (some ⟨g2, 0, none⟩) 1 c]).run Try.prog w = .ok v' w' ∧ OutZ Z w' base v' (xs ++ [x]) ∧ w.grownBy w' v.ownBlock ∧ (v'.ownBlock = v.ownBlock ∨ v'.ownBlock = some w.heap.size) := by
  obtain ⟨cur, hR, hE⟩ := id h
  obtain ⟨i, hi, hz, hs, hby⟩ := info_parts' nodeInfo
  obtain ⟨v', w', cur', hrun, hR', hT, hM, hg, ho⟩ := run_app1 (P := Try.prog) w base 22 ty 41 i _ 3 40 Try.underlying22 hi hz hs hby rfl (by decide) (by decide) v xs.length cur hR ⟨g2, 0, none⟩ c [.int .i64 (x.kind : Int), .int .i64 (x.k : Int), .slice P m c1] rfl
    (fun j u hu => by
      match j, hu with
      | 0, hu => simp at hu; subst hu; exact h0
      | 1, hu => simp at hu; subst hu; exact h1
      | 2, hu => simp at hu; subst hu; exact h2) (fun u hu => by simp at hu; rcases hu with rfl | rfl | rfl <;> rfl) hn hbase
  have hfar : ∀ g, v.ownBlock = some g → g < base ∨ ∃ cur, Own w g 41 cur := fun g e => .inr (h.out.blk g e).2.2
  have hsz := hR.size
  have hcl : (cur.toList.take (xs.length * 3)).length = xs.length * 3 := by
    rw [List.length_take, Array.length_toList]
    exact Nat.min_eq_left hsz
  have hget : ∀ k, k < (xs.length + 1) * 3 → cur'[k]? = (cur.toList.take (xs.length * 3) ++ [.int .i64 (x.kind : Int), .int .i64 (x.k : Int), .slice P m c1])[k]? := by
    intro k hk
    rw [← hT, List.getElem?_take, if_pos hk, Array.getElem?_toList]
  refine ⟨v', w', hrun, ⟨cur', by rw [List.length_append]; exact hR', fun k hk => ?_⟩, hg, ho⟩
  rw [List.length_append, List.length_singleton] at hk
  by_cases hl : k < xs.length
  · obtain ⟨P3, m3, c3, q1, q2, q3, q4, q5⟩ := hE k hl
    have old : ∀ j, j < 3 → cur'[k * 3 + j]? = cur[k * 3 + j]? := by
      intro j hj
      have a1 : k * 3 + j < (xs.length + 1) * 3 := by omega
      have a2 : k * 3 + j < (cur.toList.take (xs.length * 3)).length := by rw [hcl]; omega
      have a3 : k * 3 + j < xs.length * 3 := by omega
      rw [hget _ a1, List.getElem?_append_left a2, List.getElem?_take, if_pos a3, Array.getElem?_toList]
    rw [getD_snoc_l xs x Nn.z hl]
    exact ⟨P3, m3, c3, (old 0 (by decide)).trans q1, (old 1 (by decide)).trans q2, (old 2 (by decide)).trans q3, row_by q4 hg hfar, q5⟩
  · obtain rfl : k = xs.length := by omega
    have new : ∀ j, j < 3 → cur'[xs.length * 3 + j]? = ([Value.int .i64 (x.kind : Int), .int .i64 (x.k : Int), .slice P m c1] : List Value)[j]? := by
      intro j hj
      have a1 : xs.length * 3 + j < (xs.length + 1) * 3 := by omega
      have a2 : (cur.toList.take (xs.length * 3)).length ≤ xs.length * 3 + j := by rw [hcl]; omega
      rw [hget _ a1, List.getElem?_append_right a2, hcl]
      congr 1
      omega
    rw [getD_snoc_r xs x Nn.z]
    exact ⟨P, m, c1, new 0 (by decide), new 1 (by decide), new 2 (by decide), row_by F hg hfar, hFZ⟩
theorem wpList_app_ndZ {w : World} {ops : Array Oper} {rest : List Oper} {o : Oper} {a : Act} {Q : Exit → Act → World → Prop} (hgd : o.guard = none) (s_ x_ : Operand)
    (ho : o.op = .call { callee := .builtin .append, args := #[s_, x_], argTypes := #[22, 22] })
    (Z : Nat → Prop) (base : Nat) (v : Value) (xs : List Nn) (hs : a.eval s_ = v) (h : OutZ Z w base v xs) (g2 c : Nat) (hx : a.eval x_ = .slice (some ⟨g2, 0, none⟩) 1 c) (x : Nn) (P : Option Addr) (m c1 : Nat) (h0 : w.cell? ⟨g2, 0, none⟩ = some (.int .i64 (x.kind : Int))) (h1 : w.cell? ⟨g2, 1, none⟩ = some (.int .i64 (x.k : Int))) (h2 : w.cell? ⟨g2, 2, none⟩ = some (.slice P m c1)) (F : w.ownsRow base 3 1 (.slice P m c1) m (VI (ints x.args))) (hFZ : ∀ g, (Value.slice P m c1).ownBlock = some g → ¬ Z g) (hn : xs.length ≤ 1000000) (hbase : base ≤ w.heap.size)
    (hk : ∀ v' w', OutZ Z w' base v' (xs ++ [x]) → w.grownBy w' v.ownBlock → (v'.ownBlock = v.ownBlock ∨ v'.ownBlock = some w.heap.size) → wpList Try.prog ops Q rest (a.put o.dst v') w') : wpList Try.prog ops Q (o :: rest) a w := by
  refine wpList_plain hgd fun K hK => ?_
  obtain ⟨v', w', hrun, h2, h3, h4⟩ := app_ndZ Z w o.type base v xs h g2 c x P m c1 h0 h1 h2 F hFZ hn hbase
  unfold Oper.wp
  simp [execOp, ho, resolve, invoke, builtin, hs, hx, hrun, Result.andThen]
  exact hK _ _ (hk v' w' h2 h3 h4)
/-- the draft at b in memory: so many events, the nodes xs; all of it is newer than wa; the rows of arguments are none of the blocks Z -/
structure Dr (wa : World) (Z : Nat → Prop) (w : World) (b V : Nat) (xs : List Nn) : Prop where
  on : On wa w
  hab : wa.heap.size ≤ b
  zlt : ∀ g, Z g → g < w.heap.size
  st : ∃ v, Own w b 56 #[.int .i64 (V : Int), v] ∧ OutZ Z w wa.heap.size v xs
section
variable {wa w w' : World} {Z Z' : Nat → Prop} {b V : Nat} {xs : List Nn}
theorem Dr.to (h : Dr wa Z w b V xs) (k : On w w') : Dr wa Z w' b V xs := by
  obtain ⟨v, h1, h2⟩ := h.st
  exact ⟨h.on.trans k, h.hab, fun g hg => Nat.lt_of_lt_of_le (h.zlt g hg) k.size, v, h1.on k, h2.on k⟩
theorem Dr.lt (h : Dr wa Z w b V xs) : b < w.heap.size := by
  obtain ⟨v, h1, _⟩ := h.st
  exact h1.lt
/-- another block turns: a row of ints of Z, say -/
theorem Dr.by_ (h : Dr wa Z w b V xs) {row : Option Nat} (k : w.grownBy w' row) (hr : ∀ g, row = some g → wa.heap.size ≤ g ∧ ∃ t cur, Own w g t cur ∧ t ≠ 56 ∧ t ≠ 41 ∧ (t = 3 → Z g)) (hz : ∀ g, Z' g → Z g ∨ (w.heap.size ≤ g ∧ g < w'.heap.size)) : Dr wa Z' w' b V xs := by
  obtain ⟨v, h1, h2⟩ := h.st
  refine ⟨on_by h.on k (fun g hg => (hr g hg).1), h.hab, fun g hg => ?_, v, own_by h1 k (fun g hg e => ?_), h2.by_ k (fun g hg => ?_) (fun g hg => (hz g hg).imp id And.left)⟩
  · rcases hz g hg with h3 | h3
    · exact Nat.lt_of_lt_of_le (h.zlt g h3) k.size
    · exact h3.2
  · obtain ⟨_, t, cur, a1, a2, _⟩ := hr g hg
    subst e
    exact a2 (own_type a1 h1)
  · obtain ⟨_, t, cur, a1, _, a3, a4⟩ := hr g hg
    exact .inr ⟨t, cur, a1, a3, a4⟩
theorem Dr.re (h : Dr wa Z w b V xs) (hz : ∀ g, Z' g → Z g) : Dr wa Z' w b V xs := h.by_ (World.grownBy.refl w none) (fun g e => by cases e) (fun g hg => .inl (hz g hg))
/-- a row of ints that grows, one of Z -/
theorem Dr.app (h : Dr wa Z w b V xs) {v : Value} {n : Nat} {l : List Value} (r : w.ownsRow wa.heap.size 3 1 v n l) (k : w.grownBy w' v.ownBlock) (hv : ∀ g, v.ownBlock = some g → Z g) (hz : ∀ g, Z' g → Z g ∨ (w.heap.size ≤ g ∧ g < w'.heap.size)) : Dr wa Z' w' b V xs :=
  h.by_ k (fun g hg => by obtain ⟨a1, a2, c, a3⟩ := row_blk r hg; exact ⟨a1, _, c, a3, by decide, by decide, fun _ => hv g hg⟩) hz
/-- a store into a block of other things -/
theorem Dr.set_ (h : Dr wa Z w b V xs) {g : Nat} {t : TypeId} {cur : Array Value} (o : Own w g t cur) (hg : wa.heap.size ≤ g) (h1 : t ≠ 56) (h2 : t ≠ 41) (h3 : t = 3 → Z g) (i : Nat) (u : Value) : Dr wa Z (w.setCell ⟨g, i, none⟩ u) b V xs :=
  h.by_ (row := some g) ((Only.refl g w).set_ i u) (fun g' e => by cases e; exact ⟨hg, t, cur, o, h1, h2, h3⟩) (fun _ h => .inl h)
theorem Dr.row (h : Dr wa Z w b V xs) {g : Nat} (hg : rowAt w b = some g) : wa.heap.size ≤ g ∧ g < w.heap.size ∧ ∃ cur, Own w g 41 cur := by
  obtain ⟨v, h1, h2⟩ := h.st
  unfold rowAt at hg
  rw [(own2 h1).2] at hg
  exact h2.out.blk g hg
/-- blocks of other types are away -/
theorem Dr.aw (h : Dr wa Z w b V xs) {g : Nat} {t : TypeId} {cur : Array Value} (o : Own w g t cur) (h1 : t ≠ 56) (h2 : t ≠ 41) : Aw b w g t cur := by
  refine ⟨o, fun e => ?_, fun e => ?_⟩
  · obtain ⟨v, h3, _⟩ := h.st
    subst e
    exact h1 (own_type o h3)
  · obtain ⟨_, _, c, h3⟩ := h.row e
    exact h2 (own_type o h3)
/-- blocks that are newer than the draft's -/
theorem Dr.new_aw (h : Dr wa Z w b V xs) (k : On w w') {g : Nat} {t : TypeId} {cur : Array Value} (o : Own w' g t cur) (hg : w.heap.size ≤ g) : Aw b w' g t cur := by
  refine ⟨o, fun e => ?_, fun e => ?_⟩
  · have := h.lt; omega
  · rw [rowAt_on h.lt k] at e
    have := (h.row e).2.1; omega
theorem Dr.ints (h : Dr wa Z w b V xs) (k : Dk b w w') {base : Nat} {v : Value} {n : Nat} {l : List Value} (r : w.ownsRow base 3 1 v n l) : w'.ownsRow base 3 1 v n l := by
  refine ⟨r.1, ?_⟩
  rcases r.2 with h2 | ⟨g, cap, cur, hv, hb, hh, h3⟩
  · exact .inl h2
  · exact .inr ⟨g, cap, cur, hv, hb, ((h.aw (show Own w g 3 cur from hh) (by decide) (by decide)).dk k).1, h3⟩
/-- memory of before the draft -/
theorem Dr.rd (h : Dr wa Z w b V xs) {A : Option Addr} {n c : Nat} {l : List Nd} (r : RdN wa A n c l) : RdN w A n c l := r.on h.on
/-- rows of what is new are none of Z -/
theorem Dr.fresh (h : Dr wa Z w b V xs) {v : Value} {n : Nat} {l : List Value} (r : w'.ownsRow w.heap.size 3 1 v n l) : ∀ g, v.ownBlock = some g → ¬ Z g := fun g hg hz => by
  have := (row_blk r hg).1
  have := h.zlt g hz
  omega
end
theorem owns_lit (w : World) (base : Nat) (hb : base ≤ w.heap.size) (t : TypeId) (l : List Value) (hl : l.length ≤ 1000) : (w.alloc (.cells l.toArray t)).ownsRow base t 1 (.slice (some ⟨w.heap.size, 0, none⟩) l.length l.length) l.length l :=
  ⟨by simp, .inr ⟨w.heap.size, l.length, l.toArray, rfl, hb, Own.new _ _ _, Nat.le_refl _, by unfold maxLen; omega, by simp, by simp⟩⟩
/-- a whole block of ints as a row -/
theorem owns_blk {w : World} {base g : Nat} {t : TypeId} {l : List Value} (h : Own w g t l.toArray) (hb : base ≤ g) {n : Nat} (hn : l.length = n) (hl : n ≤ 100000) : w.ownsRow base t 1 (.slice (some ⟨g, 0, none⟩) n n) n l :=
  ⟨by omega, .inr ⟨g, n, l.toArray, rfl, hb, h, Nat.le_refl _, by unfold maxLen; omega, by simp [hn], by rw [← hn]; simp⟩⟩
set_option maxHeartbeats 4000000 in
theorem events_any (w : World) (v : Nat) (hv : v ≤ 24) :
    Calls Try.prog 21 #[.int .i64 (v : Int)] w fun e w' => ∃ g, e = .returned (.slice (some ⟨g, 0, none⟩) v v) ∧ w.heap.size ≤ g ∧ Own w' g 3 (VI (ints (List.range v))).toArray ∧ On w w' := by
  have hmk := run_mkI v (by omega) w
  obtain ⟨g, hg⟩ : ∃ g, w.heap.size = g := ⟨_, rfl⟩
  obtain ⟨w2, hw2⟩ : ∃ w2, w.alloc (.cells (VI (ints (List.replicate v 0))).toArray 3) = w2 := ⟨_, rfl⟩
  have OG : Own w2 g 3 (VI (ints (List.replicate v 0))).toArray := by rw [← hw2, ← hg]; exact Own.new _ _ _
  have P2 : On w w2 := by rw [← hw2]; exact (On.refl w).alloc _
  rw [hg, hw2] at hmk
  have H2 := Lib.hid (And.intro OG P2)
  clear OG P2
  go_enter Try.func21, Try.ntmps21
  go_wp2
  clear hmk hw2
  go_loopw [9] (fun i wr => ∃ t : Nat, t ≤ v ∧ i = .int .i64 (t : Int) ∧ On w wr ∧ Own wr g 3 (VI (ints (List.range t ++ List.replicate (v - t) 0))).toArray) (fun i _ => v - (intOf i).toNat)
  case atStart => exact ⟨0, by omega, rfl, H2.out.2, by simpa using H2.out.1⟩
  case round =>
    obtain ⟨t, ht, rfl, hon, hG⟩ := hrel
    by_cases hlt : t < v
    · have d0 := own_atI hG (i := t) (by simp; omega)
      have d1 := hG.frozen t
      obtain ⟨k, hk⟩ : ∃ k, v - t = k + 1 := ⟨v - t - 1, by omega⟩
      have HG := Lib.hid hG
      clear hG
      go_wp2
      go_roundw
      case rel =>
        refine ⟨t + 1, by omega, by go_num, On.setCell hon (p := ⟨g, t, none⟩) (by show w.heap.size ≤ g; omega) _, ?_⟩
        exact own_setI HG.out t rfl (by rw [hk, show v - (t + 1) = k by omega]; exact range_set t k)
      case measure => simp [intOf] <;> omega
    · obtain rfl : t = v := by omega
      have e : List.range t ++ List.replicate (t - t) 0 = List.range t := by simp
      rw [e] at hG
      have HG := Lib.hid hG
      clear hG e
      go_wp2
      go_ret
      exact ⟨g, rfl, by omega, HG.out, hon⟩
/-- what stands for the arguments, in new memory -/
theorem repl_any (w : World) (base : Nat) (hbase : base ≤ w.heap.size) (A : Option Addr) (n c : Nat) (args : List Nat) (h : Rd w A n c (VI (ints args))) (B : Option Addr) (m d : Nat) (nums : List Int) (h2 : Rd w B m d (VI nums)) (ha : ∀ a ∈ args, a < m) (hn : n ≤ 1000) :
    Calls Try.prog 24 #[.slice A n c, .slice B m d] w fun e w' => ∃ P c', e = .returned (.slice P n c') ∧ w'.ownsRow base 3 1 (.slice P n c') n (VI (renZ nums args)) ∧ On w w' := by
  have hl : args.length = n := by have := VI_len h; rwa [ints_length] at this
  have hm : nums.length = m := VI_len h2
  have hcap := h.cap
  have hmax := h.max
  have hcap2 := h2.cap
  have hmax2 := h2.max
  have HL := Lib.hid (And.intro hl hm)
  have HR := Lib.hid (And.intro h h2)
  have HA := Lib.hid ha
  clear hl h h2 ha hm
  go_enter Try.func24, Try.ntmps24
  go_wp2
  go_loopw [10, 5] (fun i v wr => ∃ t : Nat, t ≤ n ∧ i = .int .i64 (t : Int) ∧ wr.ownsRow base 3 1 v t (VI (renZ nums (args.take t))) ∧ On w wr ∧ (v.ownBlock = none ∨ ∃ k, v.ownBlock = some k ∧ w.heap.size ≤ k)) (fun i _ _ => n - (intOf i).toNat)
  case atStart => exact ⟨0, by omega, rfl, row_nil _ _ _, On.refl _, .inl rfl⟩
  case round =>
    obtain ⟨t, ht, rfl, hrow, hon, hob⟩ := hrel
    obtain ⟨A4, c4, rfl⟩ := row_form hrow
    have HROW := Lib.hid (And.intro hrow hob)
    clear hrow hob
    by_cases hlt : t < n
    · have hl2 : t < args.length := by rw [HL.out.1]; exact hlt
      obtain ⟨ad, rfl, hb, hc⟩ := VI_at (HR.out.1.on hon) hlt
      rw [ints_getD hl2] at hc
      have ham := HA.out _ (getD_memN hl2)
      have htk := take_args hl2
      obtain ⟨a, hae⟩ : ∃ a, args.getD t 0 = a := ⟨_, rfl⟩
      rw [hae] at hc ham htk
      obtain ⟨ad2, rfl, hb2, hc2⟩ := VI_at (HR.out.2.on hon) ham
      obtain ⟨z, hz⟩ : ∃ z, nums.getD a 0 = z := ⟨_, rfl⟩
      rw [hz] at hc2
      have hsz := hon.size
      have HT := Lib.hid (And.intro htk hz)
      clear htk hz hae hl2
      go_wp2_with (at_builtin; refine wpList_app rfl (.tmp 14) (.tmp 19) 39 rfl base 3 (.int .i64 0) 8 Try.underlying39 infoi rfl (by decide) (.slice A4 t c4) _ (VI (renZ nums (args.take t))) rfl (row_alloc HROW.out.1 _) (some ⟨wr.heap.size, 0, none⟩) 1 1 [.int .i64 z] rfl (rd_one _ _ _) (by simp [Value.oneCell']) (by omega) (by simp; omega) ?_; intro v' w5 hown5 hgrow5 hor5)
      go_roundw
      case rel =>
        refine ⟨t + 1, by omega, by go_num, ?_, on_by (hon.alloc _) hgrow5 (fun k hk => ?_), ?_⟩
        · rw [HT.out.1]
          have e : VI (renZ nums (args.take t ++ [a])) = VI (renZ nums (args.take t)) ++ [.int .i64 z] := by
            rw [← HT.out.2]; simp [VI, renZ]
          rw [e]; exact hown5
        · rcases HROW.out.2 with e | ⟨k', e, hk'⟩
          · rw [e] at hk; cases hk
          · rw [e] at hk; injection hk with hk; omega
        · rcases hor5 with e | e
          · rw [e]; exact HROW.out.2
          · exact .inr ⟨_, e, by simp; omega⟩
      case measure => simp [intOf] <;> omega
    · obtain rfl : t = n := by omega
      have e : args.take t = args := List.take_of_length_le (by rw [HL.out.1]; omega)
      have hr := HROW.out.1
      rw [e] at hr
      go_wp2
      go_ret
      exact ⟨A4, c4, rfl, hr, hon⟩
set_option maxHeartbeats 4000000 in
theorem dadd_any (wa : World) (Z : Nat → Prop) (w : World) (b V : Nat) (xs : List Nn) (D : Dr wa Z w b V xs) (hV : V ≤ 24) (hl : xs.length ≤ 100000) (x : Nn) (P : Option Addr) (m c : Nat) (F : w.ownsRow wa.heap.size 3 1 (.slice P m c) m (VI (ints x.args))) (hFZ : ∀ g, (Value.slice P m c).ownBlock = some g → ¬ Z g) :
    Calls Try.prog 22 #[.pointer (some ⟨b, 0, none⟩), .int .i64 (x.kind : Int), .int .i64 (x.k : Int), .slice P m c] w fun e w' => e = .returned (.int .i64 ((V + xs.length : Nat) : Int)) ∧ Dr wa Z w' b V (xs ++ [x]) ∧ Dk b w w' := by
  obtain ⟨v, O, U⟩ := D.st
  obtain ⟨A0, c0, rfl, hc0, hm0⟩ := U.out.form
  have hwa := D.on.size
  have hab := D.hab
  have hblk := U.out.blk
  have hrow : rowAt w b = (Value.slice A0 xs.length c0).ownBlock := by unfold rowAt; rw [(own2 O).2]; rfl
  obtain ⟨p, hp⟩ : ∃ p, w.heap.size = p := ⟨_, rfl⟩
  obtain ⟨w4, hw4⟩ : ∃ w4, w.alloc (.cells #[.int .i64 (x.kind : Int), .int .i64 (x.k : Int), .slice P m c] 41) = w4 := ⟨_, rfl⟩
  have N4 : Own w4 p 41 #[.int .i64 (x.kind : Int), .int .i64 (x.k : Int), .slice P m c] := by rw [← hw4, ← hp]; exact Own.new _ _ _
  have P4 : On w w4 := by rw [← hw4]; exact (On.refl w).alloc _
  have O4 := O.on P4
  have U4 := U.on P4
  have F4 := owns_on F P4
  obtain ⟨n0, n1, n2⟩ := own3 N4
  obtain ⟨r0, r1⟩ := own2 O
  obtain ⟨s0, s1⟩ := own2 O4
  have hsz4 : wa.heap.size ≤ w4.heap.size := by have := P4.size; omega
  have H4 := Lib.hid (And.intro U4 (And.intro F4 (And.intro O4 P4)))
  have HD := Lib.hid (And.intro D (And.intro hblk hrow))
  clear D O U N4 P4 O4 U4 F4 F hblk hrow
  go_enter Try.func22, Try.ntmps22
  go_wp2_with (
    at_builtin
    (try rw [hp]); (try rw [hw4])
    refine wpList_app_ndZ rfl (.tmp 13) (.tmp 18) rfl Z wa.heap.size (.slice A0 xs.length c0) xs rfl H4.out.1 p 1 rfl x P m c n0 n1 n2 H4.out.2.1 hFZ (by omega) hsz4 ?_
    intro v' w5 U5 G5 E5
    have O5 := own_by H4.out.2.2.1 G5 (fun k hk e => by have := (HD.out.2.1 k hk).2.2; obtain ⟨cur, hcur⟩ := this; subst e; exact absurd (own_type (hcur.on H4.out.2.2.2) H4.out.2.2.1) (by decide))
    obtain ⟨t0, t1⟩ := own2 O5
    have f1 := O5.frozen 1
    obtain ⟨A5, c5, rfl, hc5, hm5⟩ := U5.out.form
    have hlen : (xs ++ [x]).length = xs.length + 1 := by rw [List.length_append]; rfl
    rw [hlen] at U5 hc5 E5 ⊢
    obtain ⟨w6, hw6⟩ : ∃ w6, w5.setCell ⟨b, 1, none⟩ (.slice A5 (xs.length + 1) c5) = w6 := ⟨_, rfl⟩
    have O6 : Own w6 b 56 #[.int .i64 (V : Int), .slice A5 (xs.length + 1) c5] := by rw [← hw6]; exact O5.set_ 1 _
    obtain ⟨y0, y1⟩ := own2 O6
    rw [← hw6] at y0 y1)
  have hfin : Dr wa Z w6 b V (xs ++ [x]) ∧ Dk b w w6 := by
    have ho : Only b w5 w6 := by rw [← hw6]; exact (Only.refl b w5).set_ 1 _
    refine ⟨⟨?_, HD.out.1.hab, fun g hg => ?_, _, O6, ?_⟩, ?_, fun g h1 h2 h3 => ⟨?_, ?_⟩⟩
    · exact (on_by (HD.out.1.on.trans H4.out.2.2.2) G5 (fun k hk => (HD.out.2.1 k hk).1)).only ho HD.out.1.hab
    · have := HD.out.1.zlt g hg; have := H4.out.2.2.2.size; have := G5.size; have := ho.size; omega
    · exact U5.by_ (row := some b) ho (fun g e => by cases e; exact .inr ⟨_, _, O5, by decide, fun h => absurd h (by decide)⟩) (fun g hg => .inl hg)
    · have := H4.out.2.2.2.size; have := G5.size; have := ho.size; omega
    · have e1 : w6.heap[g]? = w5.heap[g]? := ho.block g (by have := H4.out.2.2.2.size; have := G5.size; omega) (by intro e; injection e with e; exact h2 e)
      have e2 : w5.heap[g]? = w4.heap[g]? := G5.block g (by have := H4.out.2.2.2.size; omega) (fun e => h3 (HD.out.2.2.trans e.symm))
      exact e1.trans (e2.trans (H4.out.2.2.2.block g h1))
    · have e : rowAt w6 b = (Value.slice A5 (xs.length + 1) c5).ownBlock := by unfold rowAt; rw [(own2 O6).2]; rfl
      rw [e]
      rcases E5 with e5 | e5
      · rw [e5, ← HD.out.2.2]; exact h3
      · rw [e5]; intro e6; injection e6 with e6; have := H4.out.2.2.2.size; omega
  have HE := Lib.hid hfin
  rw [hw6] at y0 y1
  clear U5 O6 G5 E5 O5 t0 t1 f1 hw6 r0 r1 s0 s1 n0 n1 n2 hw4 hfin
  go_quiet (fail)
  all_goals go_wp2
  all_goals go_ret
  all_goals exact ⟨by go_num, HE.out.1.to ((On.refl _).drewN _), HE.out.2.trans (Dk.of_on HE.out.1.lt ((On.refl _).drewN _))⟩
end Go.Proofs.Ytmkogcaafkobaaa.Fm
/-
  Drafts: nodes with arguments that are written out; twoAnds and whole of the program.
-/
namespace Go.Proofs.Ytmkogcaafkobaaa.Fm
open Go.RowKit Go.Proofs.Ytmkogcaafkobaaa.Sb
set_option linter.unusedVariables false
set_option maxRecDepth 100000
theorem dadd0 (wa : World) (Z : Nat → Prop) (w : World) (b V : Nat) (xs : List Nn) (D : Dr wa Z w b V xs) (hV : V ≤ 24) (hl : xs.length ≤ 100000) (r : Nat) (hr : V + xs.length = r) (kd k : Nat) (zd zk : Int) (hd : zd = (kd : Int)) (hk : zk = (k : Int)) :
    Calls Try.prog 22 #[.pointer (some ⟨b, 0, none⟩), .int .i64 zd, .int .i64 zk, .slice none 0 0] w fun e w' => e = .returned (.int .i64 (r : Int)) ∧ Dr wa Z w' b V (xs ++ [⟨kd, k, []⟩]) ∧ Dk b w w' := by
  subst hd; subst hk; subst hr
  exact dadd_any wa Z w b V xs D hV hl ⟨kd, k, []⟩ none 0 0 (row_nil _ _ _) (fun g e => by simp [Value.ownBlock] at e)
theorem dadd1 (wa : World) (Z : Nat → Prop) (w w4 : World) (b V : Nat) (xs : List Nn) (D : Dr wa Z w b V xs) (hV : V ≤ 24) (hl : xs.length ≤ 100000) (r : Nat) (hr : V + xs.length = r) (kd k : Nat) (zd zk : Int) (hd : zd = (kd : Int)) (hk : zk = (k : Int)) (a : Nat) (hw4 : w.alloc (.cells #[.int .i64 (a : Int)] 3) = w4) :
    Calls Try.prog 22 #[.pointer (some ⟨b, 0, none⟩), .int .i64 zd, .int .i64 zk, .slice (some ⟨w.heap.size, 0, none⟩) 1 1] w4 fun e w' => e = .returned (.int .i64 (r : Int)) ∧ Dr wa Z w' b V (xs ++ [⟨kd, k, [a]⟩]) ∧ Dk b w w' := by
  subst hd; subst hk; subst hr
  have P4 : On w w4 := by rw [← hw4]; exact (On.refl w).alloc _
  have F0 : w4.ownsRow w.heap.size 3 1 (.slice (some ⟨w.heap.size, 0, none⟩) 1 1) 1 (VI (ints [a])) := by
    rw [← hw4]
    exact owns_lit w w.heap.size (Nat.le_refl _) 3 [.int .i64 (a : Int)] (by simp)
  have F := row_low F0 D.on.size
  refine (dadd_any wa Z w4 b V xs (D.to P4) hV hl ⟨kd, k, [a]⟩ _ 1 1 F (D.fresh F0)).mono ?_
  rintro e w5 ⟨h1, h2, h3⟩
  exact ⟨h1, h2, (Dk.of_on D.lt P4).trans h3⟩
theorem dadd2 (wa : World) (Z : Nat → Prop) (w w4 : World) (b V : Nat) (xs : List Nn) (D : Dr wa Z w b V xs) (hV : V ≤ 24) (hl : xs.length ≤ 100000) (r : Nat) (hr : V + xs.length = r) (kd k : Nat) (zd zk : Int) (hd : zd = (kd : Int)) (hk : zk = (k : Int)) (a c : Nat) (hw4 : w.alloc (.cells #[.int .i64 (a : Int), .int .i64 (c : Int)] 3) = w4) :
    Calls Try.prog 22 #[.pointer (some ⟨b, 0, none⟩), .int .i64 zd, .int .i64 zk, .slice (some ⟨w.heap.size, 0, none⟩) 2 2] w4 fun e w' => e = .returned (.int .i64 (r : Int)) ∧ Dr wa Z w' b V (xs ++ [⟨kd, k, [a, c]⟩]) ∧ Dk b w w' := by
  subst hd; subst hk; subst hr
  have P4 : On w w4 := by rw [← hw4]; exact (On.refl w).alloc _
  have F0 : w4.ownsRow w.heap.size 3 1 (.slice (some ⟨w.heap.size, 0, none⟩) 2 2) 2 (VI (ints [a, c])) := by
    rw [← hw4]
    exact owns_lit w w.heap.size (Nat.le_refl _) 3 [.int .i64 (a : Int), .int .i64 (c : Int)] (by simp)
  have F := row_low F0 D.on.size
  refine (dadd_any wa Z w4 b V xs (D.to P4) hV hl ⟨kd, k, [a, c]⟩ _ 2 2 F (D.fresh F0)).mono ?_
  rintro e w5 ⟨h1, h2, h3⟩
  exact ⟨h1, h2, (Dk.of_on D.lt P4).trans h3⟩
theorem lit2_eq (w : World) (a c : Int) : ∃ w4, w.alloc (.cells #[.int .i64 a, .int .i64 c] 3) = w4 := ⟨_, rfl⟩
theorem lit1_eq (w : World) (a : Int) : ∃ w4, w.alloc (.cells #[.int .i64 a] 3) = w4 := ⟨_, rfl⟩
set_option maxHeartbeats 4000000 in
theorem dtwo_any (wa : World) (Z : Nat → Prop) (w : World) (b V : Nat) (xs : List Nn) (D : Dr wa Z w b V xs) (hV : V ≤ 24) (hl : xs.length ≤ 90000) (r : Nat) (hr : V + xs.length = r) (r2 : Nat) (hr2 : r + 2 = r2) (a1 a2 a3 a4 : Nat) :
    Calls Try.prog 53 #[.pointer (some ⟨b, 0, none⟩), .int .i64 (a1 : Int), .int .i64 (a2 : Int), .int .i64 (a3 : Int), .int .i64 (a4 : Int)] w fun e w' => e = .returned (.int .i64 (r2 : Int)) ∧ Dr wa Z w' b V (xs ++ [⟨2, 0, [a1, a2]⟩, ⟨2, 0, [a3, a4]⟩, ⟨3, 0, [r, r + 1]⟩]) ∧ Dk b w w' := by
  obtain ⟨w4, hw4⟩ := lit2_eq w (a1 : Int) (a2 : Int)
  have hC := dadd2 wa Z w w4 b V xs D hV (by omega) r hr 2 0 2 0 rfl rfl a1 a2 hw4
  clear D
  go_enter Try.func53, Try.ntmps53
  go_wp2_with fail
  refine hC.mono ?_
  rintro e w5 ⟨rfl, D5, K5⟩
  clear hC hw4
  have hl1 : (xs ++ [(⟨2, 0, [a1, a2]⟩ : Nn)]).length = xs.length + 1 := by rw [List.length_append]; rfl
  obtain ⟨w6, hw6⟩ := lit2_eq w5 (a3 : Int) (a4 : Int)
  obtain ⟨n2, hn2⟩ : ∃ n2, r + 1 = n2 := ⟨_, rfl⟩
  have hC := dadd2 wa Z w5 w6 b V _ D5 hV (by omega) n2 (by omega) 2 0 2 0 rfl rfl a3 a4 hw6
  clear D5
  go_wp2_with fail
  refine hC.mono ?_
  rintro e w7 ⟨rfl, D7, K7⟩
  clear hC hw6
  have hl2 : (xs ++ [(⟨2, 0, [a1, a2]⟩ : Nn)] ++ [(⟨2, 0, [a3, a4]⟩ : Nn)]).length = xs.length + 2 := by rw [List.length_append, hl1]; rfl
  obtain ⟨w8, hw8⟩ := lit2_eq w7 (r : Int) (n2 : Int)
  have hC := dadd2 wa Z w7 w8 b V _ D7 hV (by omega) r2 (by omega) 3 0 3 0 rfl rfl r n2 hw8
  clear D7
  go_wp2_with fail
  refine hC.mono ?_
  rintro e w9 ⟨rfl, D9, K9⟩
  clear hC hw8
  go_wp2
  go_ret
  refine ⟨rfl, ?_, K5.trans (K7.trans K9)⟩
  rw [List.append_assoc, List.append_assoc, ← hn2] at D9
  exact D9
set_option maxHeartbeats 4000000 in
theorem dwhole_any (wa : World) (Z : Nat → Prop) (w : World) (b V : Nat) (xs : List Nn) (D : Dr wa Z w b V xs) (hV : V ≤ 24) (t : Nat) :
    Calls Try.prog 39 #[.pointer (some ⟨b, 0, none⟩), .int .i64 (t : Int)] w fun e w' => MadeD wa.heap.size ⟨V, xs, t⟩ e w' ∧ On w w' := by
  obtain ⟨v, O, U⟩ := D.st
  obtain ⟨A0, c0, rfl, hc0, hm0⟩ := U.out.form
  obtain ⟨q, hq⟩ : ∃ q, w.heap.size = q := ⟨_, rfl⟩
  obtain ⟨w1, hw1⟩ : ∃ w1, w.alloc (.cells #[.int .i64 0, .slice none 0 0, .int .i64 0] 24) = w1 := ⟨_, rfl⟩
  have C1 : Own w1 q 24 #[.int .i64 0, .slice none 0 0, .int .i64 0] := by rw [← hw1, ← hq]; exact Own.new _ _ _
  have P1 : On w w1 := by rw [← hw1]; exact (On.refl w).alloc _
  have R1 := U.out
  obtain ⟨s0, s1⟩ := own2 (O.on P1)
  obtain ⟨d0, d1, d2⟩ := own3 C1
  have e0 := C1.frozen 0
  have e1 := C1.frozen 1
  have e2 := C1.frozen 2
  have hne : (⟨b, 0, none⟩ : Addr).block ≠ q := by have := O.lt; show b ≠ q; omega
  obtain ⟨n, hn⟩ : ∃ n, xs.length = n := ⟨_, rfl⟩
  rw [hn] at hc0 s1
  have HO := Lib.hid (And.intro C1 (And.intro P1 (And.intro R1 hn)))
  by_cases hl : 128 < n
  · clear D O U C1 P1 R1 hn
    go_enter Try.func39, Try.ntmps39
    go_wp2
    have OF := ((HO.out.1.set_ 0 (.int .i64 0)).set_ 1 (.slice none 0 0)).set_ 2 (.int .i64 0)
    obtain ⟨x0, x1, x2⟩ := own3 (show Own _ q 24 #[.int .i64 0, .slice none 0 0, .int .i64 0] from OF)
    have P8 := On.setCell (On.setCell (On.setCell HO.out.2.1 (p := ⟨q, 0, none⟩) (by show w.heap.size ≤ q; omega) (.int .i64 0)) (p := ⟨q, 1, none⟩) (by show w.heap.size ≤ q; omega) (.slice none 0 0)) (p := ⟨q, 2, none⟩) (by show w.heap.size ≤ q; omega) (.int .i64 0)
    refine bodyPost_ret (v := .tuple #[.agg #[.int .i64 0, .slice none 0 0, .int .i64 0], errV 4]) (by simp [results, Try.results39, go_sem, x0, x1, x2, errV]) rfl ⟨.inr ⟨by show 128 < xs.length; rw [HO.out.2.2.2]; exact hl, rfl⟩, P8⟩
  · clear D O U C1 P1 R1 hn
    go_enter Try.func39, Try.ntmps39
    go_upto_region 3 with fail
    go_region
    all_goals go_wp2
    have OF := ((HO.out.1.set_ 0 (.int .i64 (V : Int))).set_ 1 (.slice A0 n c0)).set_ 2 (.int .i64 (t : Int))
    obtain ⟨x0, x1, x2⟩ := own3 (show Own _ q 24 #[.int .i64 (V : Int), .slice A0 n c0, .int .i64 (t : Int)] from OF)
    have P8 := On.setCell (On.setCell (On.setCell HO.out.2.1 (p := ⟨q, 0, none⟩) (by show w.heap.size ≤ q; omega) (.int .i64 (V : Int))) (p := ⟨q, 1, none⟩) (by show w.heap.size ≤ q; omega) (.slice A0 n c0)) (p := ⟨q, 2, none⟩) (by show w.heap.size ≤ q; omega) (.int .i64 (t : Int))
    refine bodyPost_ret (v := .tuple #[.agg #[.int .i64 (V : Int), .slice A0 n c0, .int .i64 (t : Int)], .nilIface]) (by simp [results, Try.results39, go_sem, x0, x1, x2]) rfl ⟨.inl ⟨by show xs.length ≤ 128; rw [HO.out.2.2.2]; omega, A0, c0, ?_, ?_⟩, P8.drew⟩
    · rw [HO.out.2.2.2]
    · exact HO.out.2.2.1.on P8.drew
end Go.Proofs.Ytmkogcaafkobaaa.Fm
/-
  Drafts: the dual of a node.
-/
namespace Go.Proofs.Ytmkogcaafkobaaa.Fm
open Go.RowKit Go.Proofs.Ytmkogcaafkobaaa.Sb
set_option linter.unusedVariables false
set_option maxRecDepth 100000
set_option linter.unusedSimpArgs false
theorem daddR (wa : World) (Z : Nat → Prop) (w : World) (b V : Nat) (xs : List Nn) (D : Dr wa Z w b V xs) (hV : V ≤ 24) (hl : xs.length ≤ 100000) (r : Nat) (hr : V + xs.length = r) (kd k : Nat) (zd zk : Int) (hd : zd = (kd : Int)) (hk : zk = (k : Int)) (l : List Nat) (P : Option Addr) (m c : Nat) (F : w.ownsRow wa.heap.size 3 1 (.slice P m c) m (VI (ints l))) (hFZ : ∀ g, (Value.slice P m c).ownBlock = some g → ¬ Z g) :
    Calls Try.prog 22 #[.pointer (some ⟨b, 0, none⟩), .int .i64 zd, .int .i64 zk, .slice P m c] w fun e w' => e = .returned (.int .i64 (r : Int)) ∧ Dr wa Z w' b V (xs ++ [⟨kd, k, l⟩]) ∧ Dk b w w' := by
  subst hd; subst hk; subst hr
  exact dadd_any wa Z w b V xs D hV hl ⟨kd, k, l⟩ P m c F hFZ
set_option maxHeartbeats 4000000 in
theorem ddual_any (wa : World) (Z : Nat → Prop) (w : World) (b V : Nat) (xs : List Nn) (D : Dr wa Z w b V xs) (hV : V ≤ 24) (hl : xs.length ≤ 90000) (r : Nat) (hr : V + xs.length = r) (x : Nn) (hkd : x.kind ≤ 5) (hk0 : x.kind = 0 → x.k ≤ 1 ∧ x.args = []) (hk4 : x.kind = 4 → 1 ≤ x.k ∧ x.k ≤ x.args.length) (hm16 : x.args.length ≤ 16) (Q : Value) (l : List Nat) (hll : l.length = x.args.length) (P : Option Addr) (m c : Nat) (F : w.ownsRow wa.heap.size 3 1 (.slice P m c) m (VI (ints l))) (hFZ : ∀ g, (Value.slice P m c).ownBlock = some g → ¬ Z g) :
    Calls Try.prog 42 #[.pointer (some ⟨b, 0, none⟩), .agg #[.int .i64 (x.kind : Int), .int .i64 (x.k : Int), Q], .slice P m c] w fun e w' => e = .returned (.int .i64 ((r + (duN r x l).length - 1 : Nat) : Int)) ∧ Dr wa Z w' b V (xs ++ duN r x l) ∧ Dk b w w' := by
  have hm : l.length = m := by have := VI_len (rd_of_row F); rwa [ints_length] at this
  have hcap := (rd_of_row F).cap
  have hmax := (rd_of_row F).max
  obtain ⟨kd, k, ar⟩ := x
  simp only at hkd hk0 hk4 hm16 hll ⊢
  obtain ⟨q, hq⟩ : ∃ q, w.heap.size = q := ⟨_, rfl⟩
  have main : ∀ w1 : World, w.alloc (.cells #[.int .i64 (kd : Int), .int .i64 (k : Int), Q] 41) = w1 → Dr wa Z w1 b V xs ∧ Aw b w1 q 41 #[.int .i64 (kd : Int), .int .i64 (k : Int), Q] ∧ w1.ownsRow wa.heap.size 3 1 (.slice P m c) m (VI (ints l)) ∧ Dk b w w1 := by
    intro w1 h1
    have P1 : On w w1 := by rw [← h1]; exact (On.refl w).alloc _
    have O1 : Own w1 q 41 #[.int .i64 (kd : Int), .int .i64 (k : Int), Q] := by rw [← h1, ← hq]; exact Own.new _ _ _
    exact ⟨D.to P1, D.new_aw P1 O1 (by omega), owns_on F P1, Dk.of_on D.lt P1⟩
  clear D F
  have hkc : kd = 0 ∨ kd = 1 ∨ kd = 2 ∨ kd = 3 ∨ kd = 4 ∨ kd = 5 := by omega
  rcases hkc with rfl | rfl | rfl | rfl | rfl | rfl
  · obtain ⟨hk, rfl⟩ := hk0 rfl
    have hkk : k = 0 ∨ k = 1 := by omega
    rcases hkk with rfl | rfl
    · obtain ⟨w1, hw1⟩ : ∃ w1, w.alloc (.cells #[.int .i64 ((0 : Nat) : Int), .int .i64 (((0 : Nat) : Int) : Int), Q] 41) = w1 := ⟨_, rfl⟩
      obtain ⟨D1, A1, F1, K1⟩ := main w1 hw1
      simp only [show ((0 : Nat) : Int) = 0 from rfl, show ((1 : Nat) : Int) = 1 from rfl, show ((2 : Nat) : Int) = 2 from rfl, show ((3 : Nat) : Int) = 3 from rfl, show ((4 : Nat) : Int) = 4 from rfl, show ((5 : Nat) : Int) = 5 from rfl] at hw1 A1 ⊢
      obtain ⟨n0, n1, n2⟩ := own3 A1.1
      have HA := Lib.hid (And.intro A1 (And.intro K1 (And.intro D1 F1)))
      clear A1 main K1
      go_enter Try.func42, Try.ntmps42
      go_wp2_with fail
      refine (dadd0 wa Z w1 b V xs D1 hV (by omega) r hr 0 1 0 1 rfl rfl).mono ?_
      rintro e w2 ⟨rfl, D2, K2⟩
      clear D1 F1
      go_wp2
      go_ret
      exact ⟨by simp [duN], by simpa [duN] using D2, HA.out.2.1.trans K2⟩
    · obtain ⟨w1, hw1⟩ : ∃ w1, w.alloc (.cells #[.int .i64 ((0 : Nat) : Int), .int .i64 (((1 : Nat) : Int) : Int), Q] 41) = w1 := ⟨_, rfl⟩
      obtain ⟨D1, A1, F1, K1⟩ := main w1 hw1
      simp only [show ((0 : Nat) : Int) = 0 from rfl, show ((1 : Nat) : Int) = 1 from rfl, show ((2 : Nat) : Int) = 2 from rfl, show ((3 : Nat) : Int) = 3 from rfl, show ((4 : Nat) : Int) = 4 from rfl, show ((5 : Nat) : Int) = 5 from rfl] at hw1 A1 ⊢
      obtain ⟨n0, n1, n2⟩ := own3 A1.1
      have HA := Lib.hid (And.intro A1 (And.intro K1 (And.intro D1 F1)))
      clear A1 main K1
      go_enter Try.func42, Try.ntmps42
      go_wp2_with fail
      refine (dadd0 wa Z w1 b V xs D1 hV (by omega) r hr 0 0 0 0 rfl rfl).mono ?_
      rintro e w2 ⟨rfl, D2, K2⟩
      clear D1 F1
      go_wp2
      go_ret
      exact ⟨by simp [duN], by simpa [duN] using D2, HA.out.2.1.trans K2⟩
  · obtain ⟨w1, hw1⟩ : ∃ w1, w.alloc (.cells #[.int .i64 ((1 : Nat) : Int), .int .i64 (k : Int), Q] 41) = w1 := ⟨_, rfl⟩
    obtain ⟨D1, A1, F1, K1⟩ := main w1 hw1
    simp only [show ((0 : Nat) : Int) = 0 from rfl, show ((1 : Nat) : Int) = 1 from rfl, show ((2 : Nat) : Int) = 2 from rfl, show ((3 : Nat) : Int) = 3 from rfl, show ((4 : Nat) : Int) = 4 from rfl, show ((5 : Nat) : Int) = 5 from rfl] at hw1 A1 ⊢
    obtain ⟨n0, n1, n2⟩ := own3 A1.1
    have HA := Lib.hid (And.intro A1 (And.intro K1 (And.intro D1 F1)))
    clear A1 main K1
    go_enter Try.func42, Try.ntmps42
    go_wp2_with fail
    refine (daddR wa Z w1 b V xs D1 hV (by omega) r hr 1 0 1 0 rfl rfl l P m c F1 hFZ).mono ?_
    rintro e w2 ⟨rfl, D2, K2⟩
    have A2 := HA.out.1.dk K2
    obtain ⟨m0, m1, m2⟩ := own3 A2.1
    clear D1 F1
    go_wp2
    go_ret
    exact ⟨by simp [duN], by simpa [duN] using D2, HA.out.2.1.trans K2⟩
  · obtain ⟨w1, hw1⟩ : ∃ w1, w.alloc (.cells #[.int .i64 ((2 : Nat) : Int), .int .i64 (k : Int), Q] 41) = w1 := ⟨_, rfl⟩
    obtain ⟨D1, A1, F1, K1⟩ := main w1 hw1
    simp only [show ((0 : Nat) : Int) = 0 from rfl, show ((1 : Nat) : Int) = 1 from rfl, show ((2 : Nat) : Int) = 2 from rfl, show ((3 : Nat) : Int) = 3 from rfl, show ((4 : Nat) : Int) = 4 from rfl, show ((5 : Nat) : Int) = 5 from rfl] at hw1 A1 ⊢
    obtain ⟨n0, n1, n2⟩ := own3 A1.1
    have HA := Lib.hid (And.intro A1 (And.intro K1 (And.intro D1 F1)))
    clear A1 main K1
    go_enter Try.func42, Try.ntmps42
    go_wp2_with fail
    refine (daddR wa Z w1 b V xs D1 hV (by omega) r hr 3 0 3 0 rfl rfl l P m c F1 hFZ).mono ?_
    rintro e w2 ⟨rfl, D2, K2⟩
    clear D1 F1
    go_wp2
    go_ret
    exact ⟨by simp [duN], by simpa [duN] using D2, HA.out.2.1.trans K2⟩
  · obtain ⟨w1, hw1⟩ : ∃ w1, w.alloc (.cells #[.int .i64 ((3 : Nat) : Int), .int .i64 (k : Int), Q] 41) = w1 := ⟨_, rfl⟩
    obtain ⟨D1, A1, F1, K1⟩ := main w1 hw1
    simp only [show ((0 : Nat) : Int) = 0 from rfl, show ((1 : Nat) : Int) = 1 from rfl, show ((2 : Nat) : Int) = 2 from rfl, show ((3 : Nat) : Int) = 3 from rfl, show ((4 : Nat) : Int) = 4 from rfl, show ((5 : Nat) : Int) = 5 from rfl] at hw1 A1 ⊢
    obtain ⟨n0, n1, n2⟩ := own3 A1.1
    have HA := Lib.hid (And.intro A1 (And.intro K1 (And.intro D1 F1)))
    clear A1 main K1
    go_enter Try.func42, Try.ntmps42
    go_wp2_with fail
    refine (daddR wa Z w1 b V xs D1 hV (by omega) r hr 2 0 2 0 rfl rfl l P m c F1 hFZ).mono ?_
    rintro e w2 ⟨rfl, D2, K2⟩
    clear D1 F1
    go_wp2
    go_ret
    exact ⟨by simp [duN], by simpa [duN] using D2, HA.out.2.1.trans K2⟩
  · obtain ⟨hk1, hk2⟩ := hk4 rfl
    obtain ⟨kk, hkk⟩ : ∃ kk, l.length - k + 1 = kk := ⟨_, rfl⟩
    have hki : (m : Int) - (k : Int) + 1 = (kk : Int) := by omega
    have hkm : k ≤ m := by omega
    have hm2 : m ≤ 16 := by omega
    obtain ⟨w1, hw1⟩ : ∃ w1, w.alloc (.cells #[.int .i64 ((4 : Nat) : Int), .int .i64 (k : Int), Q] 41) = w1 := ⟨_, rfl⟩
    obtain ⟨D1, A1, F1, K1⟩ := main w1 hw1
    simp only [show ((0 : Nat) : Int) = 0 from rfl, show ((1 : Nat) : Int) = 1 from rfl, show ((2 : Nat) : Int) = 2 from rfl, show ((3 : Nat) : Int) = 3 from rfl, show ((4 : Nat) : Int) = 4 from rfl, show ((5 : Nat) : Int) = 5 from rfl] at hw1 A1 ⊢
    obtain ⟨n0, n1, n2⟩ := own3 A1.1
    have HA := Lib.hid (And.intro A1 (And.intro K1 (And.intro D1 F1)))
    clear A1 main K1
    go_enter Try.func42, Try.ntmps42
    go_wp2_with fail
    refine (daddR wa Z w1 b V xs D1 hV (by omega) r hr 4 kk 4 kk rfl rfl l P m c F1 hFZ).mono ?_
    rintro e w2 ⟨rfl, D2, K2⟩
    clear D1 F1
    go_wp2
    go_ret
    exact ⟨by simp [duN], by simpa [duN, hkk] using D2, HA.out.2.1.trans K2⟩
  · by_cases hev : m % 2 = 0
    · have hev2 : (m : Int) % 2 = 0 := by omega
      obtain ⟨w1, hw1⟩ : ∃ w1, w.alloc (.cells #[.int .i64 ((5 : Nat) : Int), .int .i64 (k : Int), Q] 41) = w1 := ⟨_, rfl⟩
      obtain ⟨D1, A1, F1, K1⟩ := main w1 hw1
      simp only [show ((0 : Nat) : Int) = 0 from rfl, show ((1 : Nat) : Int) = 1 from rfl, show ((2 : Nat) : Int) = 2 from rfl, show ((3 : Nat) : Int) = 3 from rfl, show ((4 : Nat) : Int) = 4 from rfl, show ((5 : Nat) : Int) = 5 from rfl] at hw1 A1 ⊢
      obtain ⟨n0, n1, n2⟩ := own3 A1.1
      have HA := Lib.hid (And.intro A1 (And.intro K1 (And.intro D1 F1)))
      clear A1 main K1
      go_enter Try.func42, Try.ntmps42
      go_wp2_with fail
      refine (daddR wa Z w1 b V xs D1 hV (by omega) r hr 5 0 5 0 rfl rfl l P m c F1 hFZ).mono ?_
      rintro e w2 ⟨rfl, D2, K2⟩
      have A2 := HA.out.1.dk K2
      obtain ⟨m0, m1, m2⟩ := own3 A2.1
      have hl1 : (xs ++ [(⟨5, 0, l⟩ : Nn)]).length = xs.length + 1 := by rw [List.length_append]; rfl
      obtain ⟨w3, hw3⟩ := lit1_eq w2 (r : Int)
      obtain ⟨r1, hr1⟩ : ∃ r1, r + 1 = r1 := ⟨_, rfl⟩
      have hC := dadd1 wa Z w2 w3 b V _ D2 hV (by omega) r1 (by omega) 1 0 1 0 rfl rfl r hw3
      clear D1 F1 D2
      go_wp2_with fail
      refine hC.mono ?_
      rintro e w4 ⟨rfl, D4, K4⟩
      clear hC hw3
      go_wp2
      go_ret
      have hdu : duN r ⟨5, k, ar⟩ l = [⟨5, 0, l⟩, ⟨1, 0, [r]⟩] := by simp [duN, hm, hev]
      rw [hdu]
      refine ⟨by rw [← hr1]; rfl, ?_, HA.out.2.1.trans (K2.trans K4)⟩
      rw [List.append_assoc] at D4
      exact D4
    · have hev2 : (m : Int) % 2 = 1 := by omega
      obtain ⟨w1, hw1⟩ : ∃ w1, w.alloc (.cells #[.int .i64 ((5 : Nat) : Int), .int .i64 (k : Int), Q] 41) = w1 := ⟨_, rfl⟩
      obtain ⟨D1, A1, F1, K1⟩ := main w1 hw1
      simp only [show ((0 : Nat) : Int) = 0 from rfl, show ((1 : Nat) : Int) = 1 from rfl, show ((2 : Nat) : Int) = 2 from rfl, show ((3 : Nat) : Int) = 3 from rfl, show ((4 : Nat) : Int) = 4 from rfl, show ((5 : Nat) : Int) = 5 from rfl] at hw1 A1 ⊢
      obtain ⟨n0, n1, n2⟩ := own3 A1.1
      have HA := Lib.hid (And.intro A1 (And.intro K1 (And.intro D1 F1)))
      clear A1 main K1
      go_enter Try.func42, Try.ntmps42
      go_wp2_with fail
      refine (daddR wa Z w1 b V xs D1 hV (by omega) r hr 5 0 5 0 rfl rfl l P m c F1 hFZ).mono ?_
      rintro e w2 ⟨rfl, D2, K2⟩
      have A2 := HA.out.1.dk K2
      obtain ⟨m0, m1, m2⟩ := own3 A2.1
      clear D1 F1
      go_wp2
      go_ret
      exact ⟨by simp [duN, hm, hev], by simpa [duN, hm, hev] using D2, HA.out.2.1.trans K2⟩
end Go.Proofs.Ytmkogcaafkobaaa.Fm
/-
  Drafts: what is below an argument.
-/
namespace Go.Proofs.Ytmkogcaafkobaaa.Fm
open Go.RowKit Go.Proofs.Ytmkogcaafkobaaa.Sb
set_option linter.unusedVariables false
set_option maxRecDepth 100000
set_option maxHeartbeats 8000000 in
theorem dbelow_any {N : Nat} (hN : N ≤ 30000) (wa : World) (Z : Nat → Prop) (w : World) (b V : Nat) (xs : List Nn) (D : Dr wa Z w b V xs) (t : Nat) (hf : WFb N ⟨V, xs, t⟩) :
    Calls Try.prog 43 #[.pointer (some ⟨b, 0, none⟩), .int .i64 (t : Int)] w fun e w' => ∃ g, e = .returned (.slice (some ⟨g, 0, none⟩) (V + xs.length) (V + xs.length)) ∧ Own w' g 4 (VB (bel ⟨V, xs, t⟩)).toArray ∧ w.heap.size ≤ g ∧ On w w' := by
  obtain ⟨v, O, U⟩ := D.st
  obtain ⟨A, c, rfl, hcap, hmax⟩ := U.out.form
  have h := U.out.rd.2
  obtain ⟨n, hn⟩ : ∃ n, xs.length = n := ⟨_, rfl⟩
  obtain ⟨f, hfe⟩ : ∃ f : Fn, (⟨V, xs, t⟩ : Fn) = f := ⟨_, rfl⟩
  rw [hfe] at hf ⊢
  have hfn : f.nodes.length = n := by rw [← hfe]; exact hn
  have hfv : f.vars = V := by rw [← hfe]
  have hft : f.top = t := by rw [← hfe]
  have hfl : rawL xs = rawL f.nodes := by rw [← hfe]
  rw [hn] at O hcap h ⊢
  rw [hfl] at h
  have hv := hf.1
  have hn128 := hf.2.1
  have htop := hf.2.2.2
  rw [hfn] at hn128 htop
  rw [hfv] at hv
  rw [hft, hfv] at htop
  have hq := O.lt
  have hmk := run_mkB (V + n) (by omega) w.drew
  obtain ⟨g, hg⟩ : ∃ g, w.heap.size = g := ⟨_, rfl⟩
  have hgd : w.drew.heap.size = g := hg
  obtain ⟨w2, hw2⟩ : ∃ w2, w.drew.alloc (.cells (VB (List.replicate (V + n) false)).toArray 4) = w2 := ⟨_, rfl⟩
  have OG : Own w2 g 4 (VB (List.replicate (V + n) false)).toArray := by rw [← hw2, ← hg]; exact Own.new _ _ _
  have P2 : On w w2 := by rw [← hw2]; exact (On.refl w).drew.alloc _
  have O2 := O.on P2
  rw [hgd, hw2, Int.natCast_add] at hmk
  have hgq : b < g := by omega
  obtain ⟨r0, r1⟩ := own2 O
  obtain ⟨s0, s1⟩ := own2 O2
  have d0 := own_atB OG (i := t) (by rw [List.length_replicate]; exact htop)
  have d1 := OG.frozen t
  have O3 := own_setB OG t true
  have eb : (List.replicate (V + n) false).set t true = belD f 0 := by rw [belD, hfn, hfv, hft]
  rw [eb] at O3
  obtain ⟨w3, hw3⟩ : ∃ w3, w2.setCell ⟨g, t, none⟩ (.bool true) = w3 := ⟨_, rfl⟩
  rw [hw3] at O3
  have O4 : Own w3 b 56 #[.int .i64 (V : Int), .slice A n c] := by rw [← hw3]; exact O2.far (p := ⟨g, t, none⟩) (by show b ≠ g; omega) (.bool true)
  have P3 : On w w3 := by rw [← hw3]; exact On.setCell P2 (p := ⟨g, t, none⟩) (by show w.heap.size ≤ g; omega) (.bool true)
  obtain ⟨t0, t1⟩ := own2 O4
  have H2 := Lib.hid (And.intro O3 (And.intro O4 P3))
  have HR := Lib.hid h
  have HN := Lib.hid (And.intro hfn (And.intro hfv hft))
  have HF := Lib.hid hf
  clear h hf O P2 OG O2 O3 O4 P3 eb hfn hfv hft hfl hfe D U
  go_enter Try.func43, Try.ntmps43
  go_upto_region 1 with fail
  go_region
  all_goals go_wp2
  clear r0 r1 s0 s1 d0 d1 t0 t1 hmk hw2 hw3
  go_loopw [6] (fun i wr => ∃ (d : Nat) (z : Int), d ≤ n ∧ i = .int .i64 z ∧ z = (n : Int) - 1 - (d : Int) ∧ On w wr ∧ Own wr g 4 (VB (belD f d)).toArray ∧ Own wr b 56 #[.int .i64 (V : Int), .slice A n c]) (fun i _ => (intOf i + 1).toNat)
  case atStart => exact ⟨0, (n : Int) - 1, by omega, by go_num, by omega, H2.out.2.2, H2.out.1, H2.out.2.1⟩
  case round =>
    obtain ⟨d, z, hd, rfl, hz, hon, hG, hQ⟩ := hrel
    obtain ⟨wo, hwo⟩ : ∃ wo, wo = wr := ⟨_, rfl⟩
    subst hwo
    obtain ⟨r0, r1⟩ := own2 hQ
    by_cases hlt : d < n
    · obtain ⟨i, hi⟩ : ∃ i, n = d + 1 + i := ⟨n - d - 1, by omega⟩
      have hzi : z = (i : Int) := by omega
      clear hz
      subst hzi
      have hid : f.nodes.length - 1 - d = i := by rw [HN.out.1]; omega
      have hstep : belD f (d + 1) = if (belD f d).getD (V + i) false = true then mkA (belD f d) (f.nd i).args else belD f d := by rw [belD, hid, HN.out.2.1]
      have hml : (belD f d).length = V + n := by rw [belD_len, HN.out.1, HN.out.2.1]
      have m0 := own_atB hG (i := V + i) (by rw [hml]; omega)
      obtain ⟨M, hM⟩ : ∃ M, belD f d = M := ⟨_, rfl⟩
      rw [hM] at hstep hml m0 hG
      have HI := Lib.hid hi
      have HS := Lib.hid (And.intro hstep hml)
      have hin : (i : Int) < (n : Int) := by omega
      by_cases hb : M.getD (V + i) false = true
      · rw [hb] at m0
        obtain ⟨ad, rfl, hbl, P, m, k, hc0, hc1, hc2', hRA⟩ := HR.out.at_ i (by omega)
        have hc2 := (Below.cell hon (p := ⟨(ad.add (i * 3)).block, (ad.add (i * 3)).off + 2, none⟩) (by show (Addr.add _ _).block < _; rw [block_of_add]; exact hbl)).trans hc2'
        rw [raw_get] at hRA
        have hm : (f.nd i).args.length = m := by have := VI_len hRA; unfold Nn.raw at this; rwa [ints_length] at this
        have harg : ∀ a ∈ (f.nd i).args, a < V + i := fun a ha => by have := HF.out.arg (by rw [HN.out.1]; omega) ha; rwa [HN.out.2.1] at this
        have hm16 : m ≤ 16 := by rw [← hm]; exact HF.out.len (by rw [HN.out.1]; omega)
        obtain ⟨args, hargs⟩ : ∃ args, (f.nd i).args = args := ⟨_, rfl⟩
        have hcapA := hRA.cap
        have hmaxA := hRA.max
        have hRA' : Rd w P m k (VI (ints (f.nd i).args)) := hRA
        rw [hargs] at hm harg hRA'
        have HRA := Lib.hid hRA'
        have HM := Lib.hid hm
        have HA := Lib.hid (And.intro harg hargs)
        have HG := Lib.hid (And.intro hG hQ)
        clear hRA hRA' hm harg hargs hG hQ hc0 hc1 hc2' hstep hml hi
        go_wp2
        clear hc2 m0 r0 r1
        go_loopw [51] (fun j wx => ∃ t : Nat, t ≤ m ∧ j = .int .i64 (t : Int) ∧ On w wx ∧ Own wx g 4 (VB (mkA M (args.take t))).toArray ∧ Own wx b 56 #[.int .i64 (V : Int), .slice (some ad) n c]) (fun j _ => m - (intOf j).toNat)
        case atStart => exact ⟨0, by omega, rfl, hon, HG.out.1, HG.out.2⟩
        case round =>
          obtain ⟨t, ht, rfl, hon3, hG2, hQ2⟩ := hrel
          by_cases hlt2 : t < m
          · obtain ⟨ad2, rfl, hb2, hc⟩ := VI_at (HRA.out.on hon3) hlt2
            have hl2 : t < args.length := by rw [HM.out]; exact hlt2
            rw [ints_getD hl2] at hc
            have ha := HA.out.1 _ (getD_memN hl2)
            have htk := take_args hl2
            obtain ⟨a, hae⟩ : ∃ a, args.getD t 0 = a := ⟨_, rfl⟩
            rw [hae] at hc ha htk
            have e0 := own_atB hG2 (i := a) (by rw [mkA_len, HS.out.2]; omega)
            have e1 := hG2.frozen a
            have O3 := own_setB hG2 a true
            rw [← mkA_snoc, ← htk] at O3
            have HO := Lib.hid (And.intro O3 (hQ2.far (p := ⟨g, a, none⟩) (by show b ≠ g; omega) (.bool true)))
            clear hae htk O3 hG2 hQ2 hl2
            go_wp2
            go_roundw
            case rel => exact ⟨t + 1, by omega, by go_num, On.setCell hon3 (p := ⟨g, a, none⟩) (by show w.heap.size ≤ g; omega) _, HO.out.1, HO.out.2⟩
            case measure => simp [intOf] <;> omega
          · obtain rfl : t = m := by omega
            have hfin : mkA M (args.take t) = belD f (d + 1) := by
              rw [HS.out.1, if_pos hb, HA.out.2, List.take_of_length_le (by rw [HM.out]; omega)]
            rw [hfin] at hG2
            have HG2 := Lib.hid (And.intro hG2 hQ2)
            clear hG2 hQ2 hfin
            go_wp2
            go_roundw
            case rel => exact ⟨d + 1, (i : Int) - 1, by have := HI.out; omega, by go_num, by have := HI.out; omega, hon3, HG2.out.1, HG2.out.2⟩
            case measure => simp [intOf] <;> omega
      · rw [Bool.eq_false_iff.2 hb] at m0
        have hfin : M = belD f (d + 1) := by rw [HS.out.1, if_neg hb]
        rw [hfin] at hG
        have HG2 := Lib.hid (And.intro hG hQ)
        clear hG hQ hfin hstep hml hi
        go_wp2
        go_roundw
        case rel => exact ⟨d + 1, (i : Int) - 1, by have := HI.out; omega, by go_num, by have := HI.out; omega, hon, HG2.out.1, HG2.out.2⟩
        case measure => simp [intOf] <;> omega
    · obtain rfl : d = n := by omega
      have hzi : z = -1 := by omega
      clear hz
      subst hzi
      have hfull : belD f d = bel f := by unfold bel; rw [HN.out.1]
      rw [hfull] at hG
      clear hQ hfull r0 r1
      go_wp2
      go_ret
      exact ⟨g, rfl, hG, by omega, hon⟩
end Go.Proofs.Ytmkogcaafkobaaa.Fm
