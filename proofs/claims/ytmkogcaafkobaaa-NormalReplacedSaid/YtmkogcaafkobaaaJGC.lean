/-
  Dual of the specification.
-/
import Derived.Test.YtmkogcaafkobaaaJGA
namespace Go.Proofs.Ytmkogcaafkobaaa.Fm
open Go.RowKit Go.Proofs.Ytmkogcaafkobaaa.Sb
set_option linter.unusedVariables false
set_option maxRecDepth 100000
theorem du_mem {l : List Nn} {i : Nat} (h : i < l.length) : l.getD i Nn.z = ndL l i := rfl
/-- the args of a node that is built: the numbers of x's arguments -/
theorem ren_take {now l : List Nat} {s : Nat} (h : s < l.length) : ints (ren now (l.take (s + 1))) = ints (ren now (l.take s)) ++ [((now.getD (l.getD s 0) 0 : Nat) : Int)] := by
  rw [take_args h]
  unfold ren
  rw [List.map_append, List.map_cons, List.map_nil, ints_snoc]
theorem VI_snocI (l : List Int) (x : Int) : VI (l ++ [x]) = VI l ++ [.int .i64 x] := by simp [VI]
end Go.Proofs.Ytmkogcaafkobaaa.Fm
/-
  Formulas in which events are replaced: joined of the specification.
-/
namespace Go.Proofs.Ytmkogcaafkobaaa.Fm
open Go.RowKit Go.Proofs.Ytmkogcaafkobaaa.Sb
set_option linter.unusedVariables false
set_option maxRecDepth 100000
/-- a formula under way: its box in block b, the nodes o so far -/
structure Bx (wa w : World) (base b : Nat) (V : Int) (o : List Nn) (v : Value) : Prop where
  on : On wa w
  box : Own w b 24 #[.int .i64 V, v, .int .i64 0]
  out : OutN w base v o
  hb : b < base
  hab : wa.heap.size ≤ b
theorem Bx.to {wa w w' : World} {base b : Nat} {V : Int} {o : List Nn} {v : Value} (h : Bx wa w base b V o v) (k : On w w') : Bx wa w' base b V o v :=
  ⟨h.on.trans k, h.box.on k, h.out.on k, h.hb, h.hab⟩
theorem Bx.blk {wa w : World} {base b : Nat} {V : Int} {o : List Nn} {v : Value} (h : Bx wa w base b V o v) : ∀ k, v.ownBlock = some k → base ≤ k ∧ k < w.heap.size ∧ ∃ cur, Own w k 41 cur := h.out.blk
structure Gx (wa w : World) (base b : Nat) (V : Int) (o : List Nn) (v v0 : Value) : Prop where
  on : On wa w
  box : Own w b 24 #[.int .i64 V, v0, .int .i64 0]
  out : OutN w base v o
  hb : b < base
  hab : wa.heap.size ≤ b
theorem Bx.grow {wa w w' : World} {base b : Nat} {V : Int} {o o' : List Nn} {v v' : Value} (h : Bx wa w base b V o v) (k : w.grownBy w' v.ownBlock) (h' : OutN w' base v' o') : Gx wa w' base b V o' v' v := by
  have hk := h.blk
  have h1 := h.hb
  have h3 := h.hab
  exact ⟨on_by h.on k (fun b hb => by have := (hk b hb).1; omega), own_by h.box k (fun b hb => by have := (hk b hb).1; omega), h', h.hb, h.hab⟩
theorem Gx.cells {wa w : World} {base b : Nat} {V : Int} {o : List Nn} {v v0 : Value} (h : Gx wa w base b V o v v0) :
    w.cell? ⟨b, 0, none⟩ = some (.int .i64 V) ∧ w.cell? ⟨b, 1, none⟩ = some v0 ∧ w.cell? ⟨b, 2, none⟩ = some (.int .i64 0) ∧ w.frozen? ⟨b, 0, none⟩ = false ∧ w.frozen? ⟨b, 1, none⟩ = false ∧ w.frozen? ⟨b, 2, none⟩ = false :=
  ⟨(own3 h.box).1, (own3 h.box).2.1, (own3 h.box).2.2, h.box.frozen 0, h.box.frozen 1, h.box.frozen 2⟩
theorem Gx.stored {wa w : World} {base b : Nat} {V : Int} {o : List Nn} {v v0 : Value} (h : Gx wa w base b V o v v0) : Bx wa (((w.setCell ⟨b, 0, none⟩ (.int .i64 V)).setCell ⟨b, 1, none⟩ v).setCell ⟨b, 2, none⟩ (.int .i64 0)) base b V o v := by
  have hb := h.hb
  exact ⟨On.setCell (On.setCell (On.setCell h.on (p := ⟨b, 0, none⟩) h.hab _) (p := ⟨b, 1, none⟩) h.hab _) (p := ⟨b, 2, none⟩) h.hab _, ((h.box.set_ 0 _).set_ 1 _).set_ 2 _, ((h.out.far (p := ⟨b, 0, none⟩) hb _).far (p := ⟨b, 1, none⟩) hb _).far (p := ⟨b, 2, none⟩) hb _, h.hb, h.hab⟩
theorem row_far {w : World} {base : Nat} {v : Value} {n : Nat} {xs : List Value} (h : w.ownsRow base 3 1 v n xs) {p : Addr} (hp : p.block < base) (u : Value) : (w.setCell p u).ownsRow base 3 1 v n xs :=
  row_by h (row := some p.block) ⟨rfl, rfl, rfl, by simp [World.setCell], fun k _ hne => Below.heap_setCell _ _ _ _ (fun e => hne (by rw [e]))⟩ (fun g e => by cases e; exact .inl hp)
theorem okN_len {m : Nat} {x : Nn} (h : okN m x) : x.args.length ≤ 16 := by
  obtain ⟨_, h0, _, h2, _⟩ := h
  by_cases hk : x.kind = 0
  · rw [(h0 hk).1]; simp
  · exact (h2 hk).2
theorem rawL_get {l : List Nn} {i : Nat} (hi : i < l.length) : (rawL l).getD i Nd.z = (ndL l i).raw := raw_get ⟨0, l, 0⟩ i
theorem take_nd {l : List Nn} {i : Nat} (h : i < l.length) : l.take (i + 1) = l.take i ++ [ndL l i] := by
  unfold ndL
  rw [List.take_add_one]; simp [h]
/-- the numbers so far -/
def jev (v k : Nat) (events : List Nat) (i : Nat) : List Nat := events ++ (List.range i).map fun j => v + k + j
theorem jev_succ (v k : Nat) (events : List Nat) (i : Nat) : jev v k events (i + 1) = jev v k events i ++ [v + k + i] := by
  unfold jev; rw [List.range_succ]; simp
theorem jev_len (v k : Nat) (events : List Nat) (i : Nat) : (jev v k events i).length = events.length + i := by simp [jev]
theorem jev_full (v : Nat) (first : List Nn) (events : List Nat) (n : Nat) : jev v first.length events n = jnow v first events n := rfl
end Go.Proofs.Ytmkogcaafkobaaa.Fm
