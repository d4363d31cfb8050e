/-
  Values in memory: a slice that reads as a list of values, what stays of it when the world goes on, rows that a call makes, append. No statement of the program.
-/
import Derived.Test.YthamjboppnlpdaaProg
import Derived.Below
import Derived.Laws.OwnMore
import Derived.Deep.AppendLies
import Derived.Deep.Draws
import Derived.Laws.Rows
import Derived.WalkKit
import Derived.Lib.Hide
import Derived.Maps.AppendAt
import Derived.Laws.AppendOwnNone
import Derived.Deep.OwnRows
import Derived.OwnWalk
import Derived.RegionTactic
import Derived.Deep.QuietTactic
import Derived.BigQuiet
import Derived.WalkSpells
namespace Go.Proofs.Ythamjboppnlpdaa.Sb
open Go.RowKit
set_option linter.unusedVariables false
theorem block_of_add (a : Addr) (n : Nat) : (a.add n).block = a.block := by unfold Addr.add; split <;> rfl
theorem add_nil (a : Addr) : a.add 0 = a := by unfold Addr.add; simp
theorem add_of_add (a : Addr) (i j : Nat) : (a.add i).add j = a.add (i + j) := by
  unfold Addr.add
  by_cases hi : i = 0 <;> by_cases hj : j = 0 <;> simp [hi, hj, Nat.add_assoc]

/-- '.. and what was there before stands': the world w' goes on from w -/
def On (w w' : World) : Prop := Below w.heap.size w w'

theorem On.refl (w : World) : On w w := Below.refl _ _
theorem On.trans {a b c : World} (h : On a b) (k : On b c) : On a c := Below.trans h (Below.mono k h.size)
theorem On.drew {a b : World} (h : On a b) : On a b.drew := Below.drew h
theorem On.drewN {a b : World} (h : On a b) (n : Nat) : On a (b.drewN n) := ⟨h.os, h.tape, h.output, h.size, h.block⟩
theorem On.alloc {a b : World} (h : On a b) (o : Obj) : On a (b.alloc o) := Below.alloc h h.size o
theorem On.setCell {a b : World} (h : On a b) {p : Addr} (hp : a.heap.size ≤ p.block) (u : Value) : On a (b.setCell p u) := Below.setCell h hp u
theorem On.size {a b : World} (h : On a b) : a.heap.size ≤ b.heap.size := Below.size h
theorem On.below {a b : World} (h : On a b) : Below a.heap.size a b := h

/-- the slice value '.slice A n c' reads as the values vs -/
def Rd (w : World) (A : Option Addr) (n c : Nat) (vs : List Value) : Prop :=
  vs.length = n ∧ n ≤ c ∧ c ≤ 9223372036854775807 ∧ (A = none → c = 0) ∧ (0 < n → ∃ ad, A = some ad ∧ ad.block < w.heap.size ∧ ∀ j u, vs[j]? = some u → w.cell? (ad.add j) = some u)
section
variable {w w' : World} {n c : Nat} {A : Option Addr} {xs : List Value}
theorem Rd.len (h : Rd w A n c xs) : xs.length = n := h.1
theorem Rd.cap (h : Rd w A n c xs) : n ≤ c := h.2.1
theorem Rd.max (h : Rd w A n c xs) : c ≤ 9223372036854775807 := h.2.2.1
theorem Rd.none_ (h : Rd w A n c xs) : A = none → c = 0 := h.2.2.2.1
theorem Rd.nil_ (w : World) : Rd w none 0 0 [] := ⟨rfl, by omega, by omega, fun _ => rfl, fun h => absurd h (by omega)⟩
theorem Rd.at_ (h : Rd w A n c xs) (k : Nat) (u : Value) (hk : xs[k]? = some u) : ∃ ad, A = some ad ∧ ad.block < w.heap.size ∧ w.cell? (ad.add k) = some u := by
  have hl : k < n := by
    rw [← h.1]; rcases Nat.lt_or_ge k xs.length with h1 | h1
    · exact h1
    · rw [List.getElem?_eq_none h1] at hk; cases hk
  obtain ⟨ad, e, hb, hc⟩ := h.2.2.2.2 (by omega)
  exact ⟨ad, e, hb, hc k u hk⟩
theorem Rd.keep (h : Rd w A n c xs) (hs : w.heap.size ≤ w'.heap.size) (hk : ∀ p : Addr, p.block < w.heap.size → w'.cell? p = w.cell? p) : Rd w' A n c xs :=
  ⟨h.1, h.2.1, h.2.2.1, h.none_, fun hn => by
    obtain ⟨ad, e, hb, hc⟩ := h.2.2.2.2 hn
    exact ⟨ad, e, by omega, fun j u hj => (hk _ (by rw [block_of_add]; exact hb)).trans (hc j u hj)⟩⟩
theorem Rd.on (h : Rd w A n c xs) (hb : On w w') : Rd w' A n c xs := h.keep hb.size fun _ hp => Below.cell hb hp
theorem Rd.drew (h : Rd w A n c xs) : Rd w.drew A n c xs := h
theorem Rd.drewN (h : Rd w A n c xs) (k : Nat) : Rd (w.drewN k) A n c xs := h
theorem Rd.alloc (h : Rd w A n c xs) (o : Obj) : Rd (w.alloc o) A n c xs := h.on ((On.refl w).alloc o)
theorem Rd.take (h : Rd w A n c xs) {k : Nat} (hk : k ≤ n) : Rd w A k c (xs.take k) := by
  refine ⟨by rw [List.length_take, h.1]; omega, by have := h.2.1; omega, h.2.2.1, h.none_, fun hn => ?_⟩
  obtain ⟨ad, e, hb, hc⟩ := h.2.2.2.2 (by omega)
  refine ⟨ad, e, hb, fun j u hj => hc j u ?_⟩
  rw [List.getElem?_take] at hj
  split at hj
  · exact hj
  · cases hj
/-- where a[k:] begins -/
def cutA (A : Option Addr) (c k : Nat) : Option Addr := if c = k then A else A.map (·.add k)
/-- a[k:] -/
theorem Rd.cut (h : Rd w A n c xs) {k : Nat} (hk : k ≤ n) : Rd w (cutA A c k) (n - k) (c - k) (xs.drop k) := by
  unfold cutA
  have hcap := h.2.1
  have hmx := h.2.2.1
  refine ⟨by rw [List.length_drop, h.1], by omega, by omega, ?_, fun hn => ?_⟩
  · intro he
    by_cases hck : c = k
    · omega
    · rw [if_neg hck] at he
      have := h.none_ (by cases A with | none => rfl | some a => cases he)
      omega
  obtain ⟨ad, rfl, hb, hcell⟩ := h.2.2.2.2 (by omega)
  rw [if_neg (by omega)]
  refine ⟨ad.add k, rfl, by rw [block_of_add]; exact hb, fun j u hj => ?_⟩
  rw [add_of_add]
  rw [List.getElem?_drop] at hj
  exact hcell _ _ hj
end
theorem add_plain (g o j : Nat) : (⟨g, o, none⟩ : Addr).add j = ⟨g, o + j, none⟩ := by
  unfold Addr.add; by_cases h : j = 0 <;> simp [h]
/-- block g is just the cells cur, none of them frozen -/
def Own (w : World) (g : Nat) (t : TypeId) (cur : Array Value) : Prop := w.heap[g]? = some (.cells cur t (0, 0))
/-- the world w' goes on from w; of what was there only block g has turned -/
def Only (g : Nat) (w w' : World) : Prop := w.grownBy w' (some g)
section
variable {w w' w'' : World} {g : Nat} {t : TypeId} {cur cur' : Array Value}
theorem Own.lt (h : Own w g t cur) : g < w.heap.size := by
  rcases Nat.lt_or_ge g w.heap.size with hlt | hge
  · exact hlt
  · unfold Own at h; rw [Array.getElem?_eq_none hge] at h; cases h
theorem Own.cell (h : Own w g t cur) (i : Nat) : w.cell? ⟨g, i, none⟩ = cur[i]? := cell_of_row w g i cur t (0, 0) h
theorem Own.frozen (h : Own w g t cur) (i : Nat) : w.frozen? ⟨g, i, none⟩ = false := by
  unfold Own at h
  simp [World.frozen?, h]
theorem Own.new (w : World) (t : TypeId) (cur : Array Value) : Own (w.alloc (.cells cur t)) w.heap.size t cur := heap_alloc_new w _
theorem Own.drew (h : Own w g t cur) : Own w.drew g t cur := h
theorem Own.drewN (h : Own w g t cur) (n : Nat) : Own (w.drewN n) g t cur := h
theorem Own.alloc (h : Own w g t cur) (o : Obj) : Own (w.alloc o) g t cur := (Below.heap_alloc w o g h.lt).trans h
theorem Own.set_ (h : Own w g t cur) (i : Nat) (u : Value) : Own (w.setCell ⟨g, i, none⟩ u) g t (cur.setIfInBounds i u) := by
  unfold Own at h ⊢
  simp [World.setCell, Array.getElem?_modify, h]
theorem Own.far (h : Own w g t cur) {p : Addr} (hp : g ≠ p.block) (u : Value) : Own (w.setCell p u) g t cur := (Below.heap_setCell w p u g hp).trans h
theorem Own.on (h : Own w g t cur) (hb : On w w') : Own w' g t cur := (hb.block g h.lt).trans h
theorem Own.only {g' : Nat} (h : Own w g t cur) (hb : Only g' w w') (hg : g ≠ g') : Own w' g t cur := (hb.block g h.lt (by simp; omega)).trans h
theorem Only.refl (g : Nat) (w : World) : Only g w w := World.grownBy.refl w _
theorem Only.trans {a b c : World} (h : Only g a b) (k : Only g b c) : Only g a c := World.grownBy.trans h k
theorem Only.size {a b : World} (h : Only g a b) : a.heap.size ≤ b.heap.size := World.grownBy.size h
theorem Only.drew {a b : World} (h : Only g a b) : Only g a b.drew := ⟨h.os, h.tape, h.output, h.size, h.block⟩
theorem Only.drewN {a b : World} (h : Only g a b) (n : Nat) : Only g a (b.drewN n) := ⟨h.os, h.tape, h.output, h.size, h.block⟩
theorem Only.on {a b : World} (h : On a b) : Only g a b := ⟨h.os, h.tape, h.output, h.size, fun i hi _ => h.block i hi⟩
theorem Only.then {a b c : World} (h : Only g a b) (k : On b c) : Only g a c := h.trans (Only.on k)
theorem Only.alloc {a b : World} (h : Only g a b) (o : Obj) : Only g a (b.alloc o) := h.then ((On.refl b).alloc o)
theorem Only.set_ {a b : World} (h : Only g a b) (i : Nat) (u : Value) : Only g a (b.setCell ⟨g, i, none⟩ u) :=
  h.trans ⟨rfl, rfl, rfl, by simp [World.setCell], fun k _ hne => Below.heap_setCell _ _ _ _ (by intro e; subst e; exact hne rfl)⟩
/-- what only touches a block that is newer than a goes on from a -/
theorem On.only {a b c : World} (h : On a b) (k : Only g b c) (hg : a.heap.size ≤ g) : On a c := Below.grown h k h.size (fun k e => by cases e; exact hg)
theorem rd_of_row {base : Nat} {e : TypeId} {A : Option Addr} {c n : Nat} {xs : List Value} (h : w.ownsRow base e 1 (.slice A n c) n xs) : Rd w A n c xs := by
  have hl : xs.length = n := by have := h.1; omega
  rcases h.2 with ⟨hv, h0⟩ | ⟨g, cap, cur, hv, hb, hh, hcap, hmax, hsz, htake⟩
  · injection hv with h1 h2 h3
    subst h1; subst h3; subst h0
    exact ⟨hl, by omega, by omega, fun _ => rfl, fun h => absurd h (by omega)⟩
  · injection hv with h1 h2 h3
    subst h1; subst h3
    refine ⟨hl, hcap, by unfold maxLen at hmax; exact hmax, fun e => (by cases e), fun hn => ⟨_, rfl, (Array.getElem?_eq_some_iff.1 hh).1, fun j u hj => ?_⟩⟩
    rw [add_plain, cell_of_row w _ _ cur e (0, 0) hh, Nat.zero_add]
    rw [← htake, List.getElem?_take] at hj
    split at hj
    · simpa using hj
    · cases hj
end
theorem row_form {w : World} {base : Nat} {e : TypeId} {v : Value} {n : Nat} {xs : List Value} (h : w.ownsRow base e 1 v n xs) : ∃ A c, v = .slice A n c := by
  rcases h.2 with ⟨rfl, rfl⟩ | ⟨g, cap, cur, rfl, _⟩
  · exact ⟨_, _, rfl⟩
  · exact ⟨_, _, rfl⟩

theorem info_parts' {P : Program} {e : TypeId} {z : Value} {s b : Nat} (h : (P.info? e).map (fun i => (i.zero, i.size, i.bytes)) = some (some z, s, b)) : ∃ i, P.info? e = some i ∧ i.zero = some z ∧ i.size = s ∧ i.bytes = b := by
  obtain ⟨i, hi, hz⟩ := Option.map_eq_some_iff.1 h
  simp only [Prod.mk.injEq] at hz
  exact ⟨i, hi, hz.1, hz.2.1, hz.2.2⟩

section
variable {P : Program}
/-- append of values from a slice to a row of the call's own -/
theorem run_app (w : World) (base : Nat) (t ty e : TypeId) (z : Value) (bytes : Nat) (ht : P.underlying t = some (.slice e)) (hinfo : (P.info? e).map (fun i => (i.zero, i.size, i.bytes)) = some (some z, 1, bytes)) (hzs : z.cells.size = 1) (hb8 : bytes ≤ 16)
    (v : Value) (n : Nat) (xs : List Value) (hown : w.ownsRow base e 1 v n xs)
    (A : Option Addr) (m c : Nat) (news : List Value) (hr : Rd w A m c news) (h1 : ∀ u ∈ news, u.oneCell' = true)
    (hsm : n + m ≤ 1000000000) (hbase : base ≤ w.heap.size) :
    ∃ v' w', (Builtin.append_ #[t, t] ty #[v, .slice A m c]).run P w = .ok v' w' ∧ w'.ownsRow base e 1 v' (n + m) (xs ++ news) ∧ w.grownBy w' v.ownBlock ∧ (v'.ownBlock = v.ownBlock ∨ v'.ownBlock = some w.heap.size) := by
  obtain ⟨i, hi, hz, hs, hby⟩ := info_parts' hinfo
  rcases A with _ | ad
  · have hc0 := hr.none_ rfl
    have hm0 : m = 0 := by have := hr.cap; omega
    subst hc0; subst hm0
    obtain rfl := List.eq_nil_of_length_eq_zero hr.len
    refine ⟨v, w, run_append_owned_none (P := P) (w := w) base t ty e i 1 ht hi v n _ hown, by simpa using hown, World.grownBy.refl w _, .inl rfl⟩
  · have hcell : ∀ j u, news[j]? = some u → w.cell? (ad.add j) = some u := by
      intro j u hj
      obtain ⟨ad', e', _, hc'⟩ := hr.at_ j u hj
      cases e'
      exact hc'
    obtain ⟨v', w', hrun, h2, h3, _, h5⟩ := run_append_own_at (P := P) w base t ty e i z 1 bytes ht hi hz hs hby hzs (by decide) v n _ hown ad m c news (by rw [hr.len]; omega) hcell h1
      (by unfold maxLen; omega) (by have : (n + m) * bytes ≤ (n + m) * 16 := Nat.mul_le_mul_left _ hb8; omega) hbase
    exact ⟨v', w', hrun, h2, h3, h5⟩
theorem wpList_app {w : World} {ops : Array Oper} {rest : List Oper} {o : Oper} {a : Act} {Q : Exit → Act → World → Prop} (hgd : Region.wanted o (yielded ops a.tmps) = true) (s x : Operand) (t : TypeId)
    (ho : o.op = .call { callee := .builtin .append, args := #[s, x], argTypes := #[t, t] })
    (base : Nat) (e : TypeId) (z : Value) (bytes : Nat) (ht : P.underlying t = some (.slice e)) (hinfo : (P.info? e).map (fun i => (i.zero, i.size, i.bytes)) = some (some z, 1, bytes)) (hzs : z.cells.size = 1) (hb8 : bytes ≤ 16)
    (v : Value) (n : Nat) (xs : List Value) (hs : a.eval s = v) (hown : w.ownsRow base e 1 v n xs)
    (A : Option Addr) (m c : Nat) (news : List Value) (hx : a.eval x = .slice A m c) (hr : Rd w A m c news) (h1 : ∀ u ∈ news, u.oneCell' = true)
    (hsm : n + m ≤ 1000000000) (hbase : base ≤ w.heap.size)
    (h : ∀ v' w', w'.ownsRow base e 1 v' (n + m) (xs ++ news) → w.grownBy w' v.ownBlock → (v'.ownBlock = v.ownBlock ∨ v'.ownBlock = some w.heap.size) → wpList P ops Q rest (a.put o.dst v') w') : wpList P ops Q (o :: rest) a w := by
  refine wpList_step fun K hK => ?_
  rw [if_pos hgd]
  obtain ⟨v', w', hrun, h2, h3, h4⟩ := run_app (P := P) w base t o.type e z bytes ht hinfo hzs hb8 v n xs hown A m c news hr h1 hsm hbase
  unfold Oper.wp
  simp [execOp, ho, resolve, invoke, builtin, hs, hx, hrun, Result.andThen]
  exact hK _ _ (h v' w' h2 h3 h4)
theorem step_app {w : World} {ops : Array Oper} {o : Oper} {a : Act} {K : Act → World → Prop} {Q : Exit → Act → World → Prop} {E : Prop} (hgd : o.guard = none) (s x : Operand) (t : TypeId)
    (ho : o.op = .call { callee := .builtin .append, args := #[s, x], argTypes := #[t, t] })
    (base : Nat) (e : TypeId) (z : Value) (bytes : Nat) (ht : P.underlying t = some (.slice e)) (hinfo : (P.info? e).map (fun i => (i.zero, i.size, i.bytes)) = some (some z, 1, bytes)) (hzs : z.cells.size = 1) (hb8 : bytes ≤ 16)
    (v : Value) (n : Nat) (xs : List Value) (hs : a.eval s = v) (hown : w.ownsRow base e 1 v n xs)
    (A : Option Addr) (m c : Nat) (news : List Value) (hx : a.eval x = .slice A m c) (hr : Rd w A m c news) (h1 : ∀ u ∈ news, u.oneCell' = true)
    (hsm : n + m ≤ 1000000000) (hbase : base ≤ w.heap.size)
    (h : ∀ v' w', w'.ownsRow base e 1 v' (n + m) (xs ++ news) → w.grownBy w' v.ownBlock → (v'.ownBlock = v.ownBlock ∨ v'.ownBlock = some w.heap.size) → K (a.put o.dst v') w') :
    if Region.wanted o (yielded ops a.tmps) = true then Oper.wp P o a w K Q else E := by
  have hw : Region.wanted o (yielded ops a.tmps) = true := by simp [Region.wanted, hgd]
  rw [if_pos hw]
  obtain ⟨v', w', hrun, h2, h3, h4⟩ := run_app (P := P) w base t o.type e z bytes ht hinfo hzs hb8 v n xs hown A m c news hr h1 hsm hbase
  unfold Oper.wp
  simp [execOp, ho, resolve, invoke, builtin, hs, hx, hrun, Result.andThen]
  exact h _ _ h2 h3 h4
end
/-- a literal of one value -/
theorem rd_one (w : World) (t : TypeId) (u : Value) : Rd (w.alloc (.cells #[u] t)) (some ⟨w.heap.size, 0, none⟩) 1 1 [u] := by
  refine ⟨rfl, by omega, by omega, fun e => (by cases e), fun _ => ⟨_, rfl, by simp, fun j x hj => ?_⟩⟩
  rw [add_plain, (Own.new w t #[u]).cell, Nat.zero_add]
  match j, hj with
  | 0, h => simpa using h
/-- the empty row that make([]T, 0, c) makes, and nil -/
theorem row_nil (w : World) (base : Nat) (e : TypeId) : w.ownsRow base e 1 (.slice none 0 0) 0 [] := ⟨rfl, .inl ⟨rfl, rfl⟩⟩
theorem row_made (w : World) (e : TypeId) (cur : Array Value) (c : Nat) (hc : cur.size = c) (hm : c ≤ 1000000000) : (w.alloc (.cells cur e)).ownsRow w.heap.size e 1 (.slice (some ⟨w.heap.size, 0, none⟩) 0 c) 0 [] :=
  ⟨rfl, .inr ⟨w.heap.size, c, cur, rfl, Nat.le_refl _, heap_alloc_new w _, Nat.zero_le _, by unfold maxLen; omega, by omega, by simp⟩⟩
/-- what a row keeps when other blocks turn -/
theorem row_on {w w' : World} {base : Nat} {e : TypeId} {v : Value} {n : Nat} {xs : List Value} (h : w.ownsRow base e 1 v n xs) (k : On w w') : w'.ownsRow base e 1 v n xs := by
  refine ⟨h.1, ?_⟩
  rcases h.2 with h2 | ⟨g, cap, cur, hv, hb, hh, h3⟩
  · exact .inl h2
  · exact .inr ⟨g, cap, cur, hv, hb, (k.block g (Array.getElem?_eq_some_iff.1 hh).1).trans hh, h3⟩
theorem row_alloc {w : World} {base : Nat} {e : TypeId} {v : Value} {n : Nat} {xs : List Value} (h : w.ownsRow base e 1 v n xs) (o : Obj) : (w.alloc o).ownsRow base e 1 v n xs := row_on h ((On.refl w).alloc o)
/-- what goes on when a row of the call's own grows -/
theorem on_row {a b c : World} {e : TypeId} {v : Value} {n base : Nat} {xs : List Value} (h : On a b) (hr : b.ownsRow base e 1 v n xs) (hb : a.heap.size ≤ base) (k : b.grownBy c v.ownBlock) : On a c := by
  refine Below.grown h k h.size (fun g e => ?_)
  rcases hr.2 with ⟨rfl, _⟩ | ⟨g', cap, cur, rfl, hb', _⟩
  · simp [Value.ownBlock] at e
  · simp [Value.ownBlock] at e; omega
/-- the ints of a list -/
def VI (xs : List Int) : List Value := xs.map (Value.int .i64)
theorem VI_length (xs : List Int) : (VI xs).length = xs.length := by simp [VI]
theorem VI_one (xs : List Int) : ∀ u ∈ VI xs, u.oneCell' = true := by
  intro u hu
  obtain ⟨x, _, rfl⟩ := List.mem_map.1 hu
  rfl
theorem VI_append (xs ys : List Int) : VI (xs ++ ys) = VI xs ++ VI ys := by simp [VI]
theorem VI_get {xs : List Int} {j : Nat} (h : j < xs.length) : (VI xs)[j]? = some (.int .i64 (xs.getD j 0)) := by
  simp [VI, h]
/-- the numbers as ints -/
def ints (l : List Nat) : List Int := l.map fun (i : Nat) => (i : Int)
theorem ints_length (l : List Nat) : (ints l).length = l.length := by simp [ints]
theorem infoi : (Try.prog.info? 3).map (fun i => (i.zero, i.size, i.bytes)) = some (some (.int .i64 0), 1, 8) := by kernel_rfl
/-- make([]int, 0, c) -/
theorem run_mk (c : Nat) (h : c ≤ 1000000) (w : World) :
    (Instr.makeSlice 91 (.int .i64 0) (.int .i64 (c : Int))).run Try.prog w = .ok (.slice (some ⟨w.heap.size, 0, none⟩) 0 c) (w.alloc (.cells (madeCells #[.int .i64 0] c) 3)) := by
  obtain ⟨i, hi, hz, hs, hb⟩ := info_parts' infoi
  have hr : _ = Result.ok (Value.slice (some ⟨w.heap.size, 0, none⟩) 0 c) (w.alloc (.cells (madeCells #[.int .i64 0] (c * i.size)) 3)) := run_make (P := Try.prog) w 91 3 i (.int .i64 0) Try.underlying91 hi hz .i64 .i64 0 (c : Int) (Int.le_refl _) (by omega) (by rw [hb]; omega) (by omega)
  rw [hs, Nat.mul_one] at hr
  exact hr
theorem row_mk (w : World) (c : Nat) (h : c ≤ 1000000) : (w.alloc (.cells (madeCells #[.int .i64 0] c) 3)).ownsRow w.heap.size 3 1 (.slice (some ⟨w.heap.size, 0, none⟩) 0 c) 0 [] :=
  row_made w _ _ c (size_madeCells _ _) (by omega)
/-- an error as a value -/
def errV (c : Nat) : Value := if c = 0 then .nilIface else .iface 62 (.int .i64 (c : Int))
theorem errV_zero : errV 0 = .nilIface := rfl
theorem errV_pos (c : Nat) (h : c ≠ 0) : errV c = .iface 62 (.int .i64 (c : Int)) := if_neg h
theorem VI_snoc (l : List Nat) (x : Nat) : VI (ints (l ++ [x])) = VI (ints l) ++ [.int .i64 (x : Int)] := by simp [VI, ints]
end Go.Proofs.Ythamjboppnlpdaa.Sb
