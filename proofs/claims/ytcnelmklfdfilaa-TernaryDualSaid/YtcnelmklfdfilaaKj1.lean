/-
  TernaryDual's region: the nodes with two negations, in whatever order.
-/
import Derived.Test.YtcnelmklfdfilaaKb
import Derived.Test.YtcnelmklfdfilaaKi
import Derived.Test.YtcnelmklfdfilaaRi
namespace Go.Proofs.Ytcnelmklfdfilaa.Fm
open Go.RowKit Go.Proofs.Ytcnelmklfdfilaa.Sb Go.Proofs.Ytcnelmklfdfilaa.Rg
set_option linter.unusedVariables false
set_option maxRecDepth 100000
theorem owns_on {w w' : World} {base s : Nat} {e : TypeId} {v : Value} {n : Nat} {xs : List Value} (h : w.ownsRow base e s v n xs) (k : On w w') : w'.ownsRow base e s v n xs := by
  refine ⟨h.1, ?_⟩
  rcases h.2 with h2 | ⟨g, cap, cur, hv, hb, hh, h3⟩
  · exact .inl h2
  · exact .inr ⟨g, cap, cur, hv, hb, (k.block g (Array.getElem?_eq_some_iff.1 hh).1).trans hh, h3⟩
theorem owns_kn {w w' : World} {p : Array Value → TypeId → Prop} {base s : Nat} {e : TypeId} {v : Value} {n : Nat} {xs : List Value} (h : w.ownsRow base e s v n xs) (k : Kn p w w') (hp : ∀ cur, ¬ p cur e) : w'.ownsRow base e s v n xs := by
  refine ⟨h.1, ?_⟩
  rcases h.2 with h2 | ⟨g, cap, cur, hv, hb, hh, h3⟩
  · exact .inl h2
  · exact .inr ⟨g, cap, cur, hv, hb, k.own hh (hp cur), h3⟩
/-- a row of the call's own that grows: what turns is a block of its type -/
theorem kn_row {w w' : World} {p : Array Value → TypeId → Prop} {base s : Nat} {e : TypeId} {v : Value} {n : Nat} {xs : List Value} (h : w.ownsRow base e s v n xs) (k : w.grownBy w' v.ownBlock) (hp : ∀ cur, p cur e) : Kn p w w' := by
  rcases h.2 with ⟨rfl, _⟩ | ⟨g, cap, cur, rfl, hb, hh, h3⟩
  · exact ⟨k.size, fun b hb => .inl (k.block b hb (by simp [Value.ownBlock]))⟩
  · exact Kn.only (show Only g w w' from k) hh (hp cur)
theorem owns_onb {a b c : World} {e : TypeId} {s : Nat} {v : Value} {n base : Nat} {xs : List Value} (h : On a b) (hr : b.ownsRow base e s v n xs) (hb : a.heap.size ≤ base) (k : b.grownBy c v.ownBlock) : On a c := by
  refine Below.grown h k h.size (fun g e => ?_)
  rcases hr.2 with ⟨rfl, _⟩ | ⟨g', cap, cur, rfl, hb', _⟩
  · simp [Value.ownBlock] at e
  · simp [Value.ownBlock] at e; omega
theorem does_app {P : Program} {Q : Exit → Act → World → Prop} {W0 : World} {F : Nat → (Tmp → Value) → World → Prop} {K : Nat → World → World → Prop} {i : Nat} {o : Oper} {a : Act} {w : World} (s x : Operand) (t : TypeId)
    (ho : o.op = .call { callee := .builtin .append, args := #[s, x], argTypes := #[t, t] })
    (base : Nat) (e : TypeId) (z : Value) (size bytes : Nat) (ht : P.underlying t = some (.slice e)) (hinfo : (P.info? e).map (fun i => (i.zero, i.size, i.bytes)) = some (some z, size, bytes)) (hzs : z.cells.size = size) (hsz : 0 < size) (hb8 : bytes ≤ 1000)
    (v : Value) (n : Nat) (xs : List Value) (hs : a.eval s = v) (hown : w.ownsRow base e size v n xs)
    (A : Option Addr) (m c : Nat) (news : List Value) (hx : a.eval x = .slice A m c) (hr : Src w size A m c news) (h1 : ∀ u ∈ news, u.oneCell' = true)
    (hsm : n + m ≤ 1000000000) (hbase : base ≤ w.heap.size)
    (h : ∀ v' w', w'.ownsRow base e size v' (n + m) (xs ++ news) → w.grownBy w' v.ownBlock → On W0 w' ∧ K i w w' ∧ F i (slv (a.put o.dst v')) w') : Does P Q W0 F K i o a w := by
  obtain ⟨v', w', hrun, h2, h3, h4⟩ := run_appC (P := P) w base t o.type e z size bytes ht hinfo hzs hsz hb8 v n xs hown A m c news hr h1 hsm hbase
  obtain ⟨q1, q2, q3⟩ := h v' w' h2 h3
  refine does_value (v := v') (w' := w') ?_ q1 q2 q3
  simp [execOp, ho, resolve, invoke, builtin, hs, hx, hrun, Result.andThen]
/-- a literal of two nodes -/
theorem src_two (w : World) (g : Nat) (cells : List Value) (hl : cells.length = 6) (h : Own w g 57 cells.toArray) : Src w 3 (some ⟨g, 0, none⟩) 2 2 cells := by
  refine ⟨by rw [hl], fun e => (by cases e), fun ad e j u hj => ?_⟩
  injection e with e
  subst e
  rw [add_plain, h.cell, Nat.zero_add]
  simpa using hj
section
variable (W0 : World) (q : Nat) (V T N : Int) (A : Option Addr) (n c : Nat) (cells : List Value)
/-- what the operations of the region leave -/
def DF (i : Nat) (f : Tmp → Value) (w : World) : Prop :=
  match i with
  | 0 => f 50 = .pointer (some ⟨q, 0, none⟩)
  | 1 => f 51 = .int .i64 V
  | 2 => ∃ a, f 52 = .slice (some ⟨a, 0, none⟩) 0 0 ∧ W0.heap.size ≤ a ∧ Own w a 57 #[]
  | 3 => f 53 = .pointer (some ⟨q, 1, none⟩)
  | 4 => f 54 = .slice A n c
  | 5 => w.ownsRow W0.heap.size 57 3 (f 55) n cells
  | 6 => f 56 = .pointer (some ⟨q, 2, none⟩)
  | 7 => f 57 = .int .i64 T
  | 8 => ∃ b, f 58 = .slice (some ⟨b, 0, none⟩) 1 1 ∧ Own w b 3 #[.int .i64 T]
  | 9 => ∃ b, f 59 = .agg #[.int .i64 1, .int .i64 0, .slice (some ⟨b, 0, none⟩) 1 1] ∧ Own w b 3 #[.int .i64 T]
  | 10 => f 60 = .int .i64 N
  | 11 => ∃ b, f 61 = .slice (some ⟨b, 0, none⟩) 1 1 ∧ Own w b 3 #[.int .i64 N]
  | 12 => ∃ b, f 62 = .agg #[.int .i64 1, .int .i64 0, .slice (some ⟨b, 0, none⟩) 1 1] ∧ Own w b 3 #[.int .i64 N]
  | 13 => ∃ d b b', f 63 = .slice (some ⟨d, 0, none⟩) 2 2 ∧ Own w d 57 #[.int .i64 1, .int .i64 0, .slice (some ⟨b, 0, none⟩) 1 1, .int .i64 1, .int .i64 0, .slice (some ⟨b', 0, none⟩) 1 1] ∧ Own w b 3 #[.int .i64 T] ∧ Own w b' 3 #[.int .i64 N]
  | 14 => ∃ b b', w.ownsRow W0.heap.size 57 3 (f 64) (n + 2) (cells ++ [.int .i64 1, .int .i64 0, .slice (some ⟨b, 0, none⟩) 1 1, .int .i64 1, .int .i64 0, .slice (some ⟨b', 0, none⟩) 1 1]) ∧ Own w b 3 #[.int .i64 T] ∧ Own w b' 3 #[.int .i64 N]
  | 15 => f 65 = .int .i64 N
  | 16 => f 66 = .agg #[.int .i64 V, f 64, .int .i64 N] ∧ ∃ B m k, f 64 = .slice B m k
  | 17 => ∃ g, f 10 = .pointer (some ⟨g, 0, none⟩) ∧ W0.heap.size ≤ g ∧ Own w g 24 #[.int .i64 0, .slice none 0 0, .int .i64 0]
  | 18 => ∃ g, f 10 = .pointer (some ⟨g, 0, none⟩) ∧ W0.heap.size ≤ g ∧ Own w g 24 #[.int .i64 V, f 64, .int .i64 N]
  | _ => True
/-- at which operation a fact ends -/
def exD (i : Nat) : Nat := if i = 2 then 5 else if i = 5 then 14 else if i = 13 then 14 else if i = 17 then 18 else 100
/-- what an operation may turn -/
def KD (i : Nat) (w w' : World) : Prop := if i = 5 then Kn (fun cur _ => cur = #[]) w w' else if i = 14 then Kn (fun _ t => t = 57) w w' else if i = 18 then Kn (fun _ t => t = 24) w w' else On w w'
theorem KD.of_on {i : Nat} {w w' : World} (h : On w w') : KD i w w' := by
  unfold KD
  split
  · exact Kn.of_on h
  split
  · exact Kn.of_on h
  split
  · exact Kn.of_on h
  · exact h
theorem lt19 {j : Nat} (h : j < 19) : j = 0 ∨ j = 1 ∨ j = 2 ∨ j = 3 ∨ j = 4 ∨ j = 5 ∨ j = 6 ∨ j = 7 ∨ j = 8 ∨ j = 9 ∨ j = 10 ∨ j = 11 ∨ j = 12 ∨ j = 13 ∨ j = 14 ∨ j = 15 ∨ j = 16 ∨ j = 17 ∨ j = 18 := by omega
theorem DF.on {j : Nat} (hj : j < 19) {f : Tmp → Value} {w w' : World} (k : On w w') (h : DF W0 q V T N A n c cells j f w) : DF W0 q V T N A n c cells j f w' := by
  rcases lt19 hj with rfl | rfl | rfl | rfl | rfl | rfl | rfl | rfl | rfl | rfl | rfl | rfl | rfl | rfl | rfl | rfl | rfl | rfl | rfl
  · exact h
  · exact h
  · obtain ⟨a, h1, h2, h3⟩ := h; exact ⟨a, h1, h2, h3.on k⟩
  · exact h
  · exact h
  · exact owns_on h k
  · exact h
  · exact h
  · obtain ⟨b, h1, h2⟩ := h; exact ⟨b, h1, h2.on k⟩
  · obtain ⟨b, h1, h2⟩ := h; exact ⟨b, h1, h2.on k⟩
  · exact h
  · obtain ⟨b, h1, h2⟩ := h; exact ⟨b, h1, h2.on k⟩
  · obtain ⟨b, h1, h2⟩ := h; exact ⟨b, h1, h2.on k⟩
  · obtain ⟨d, b, b', h1, h2, h3, h4⟩ := h; exact ⟨d, b, b', h1, h2.on k, h3.on k, h4.on k⟩
  · obtain ⟨b, b', h2, h3, h4⟩ := h; exact ⟨b, b', owns_on h2 k, h3.on k, h4.on k⟩
  · exact h
  · exact h
  · obtain ⟨g, h1, h2, h3⟩ := h; exact ⟨g, h1, h2, h3.on k⟩
  · obtain ⟨g, h1, h2, h3⟩ := h; exact ⟨g, h1, h2, h3.on k⟩
/-- the facts that live while the first append is carried out -/
theorem DF.empty {j : Nat} (hj : j < 19) (hn : j ≠ 2 ∧ j ≠ 5 ∧ j ≠ 14 ∧ j ≠ 16 ∧ j ≠ 18) {f : Tmp → Value} {w w' : World} (k : Kn (fun cur _ => cur = #[]) w w') (h : DF W0 q V T N A n c cells j f w) : DF W0 q V T N A n c cells j f w' := by
  have ne : ∀ (x : Value) (l : List Value), ¬ (x :: l).toArray = #[] := fun x l e => by simp at e
  rcases lt19 hj with rfl | rfl | rfl | rfl | rfl | rfl | rfl | rfl | rfl | rfl | rfl | rfl | rfl | rfl | rfl | rfl | rfl | rfl | rfl
  · exact h
  · exact h
  · exact absurd rfl hn.1
  · exact h
  · exact h
  · exact absurd rfl hn.2.1
  · exact h
  · exact h
  · obtain ⟨b, h1, h2⟩ := h; exact ⟨b, h1, k.own h2 (ne _ _)⟩
  · obtain ⟨b, h1, h2⟩ := h; exact ⟨b, h1, k.own h2 (ne _ _)⟩
  · exact h
  · obtain ⟨b, h1, h2⟩ := h; exact ⟨b, h1, k.own h2 (ne _ _)⟩
  · obtain ⟨b, h1, h2⟩ := h; exact ⟨b, h1, k.own h2 (ne _ _)⟩
  · obtain ⟨d, b, b', h1, h2, h3, h4⟩ := h; exact ⟨d, b, b', h1, k.own h2 (ne _ _), k.own h3 (ne _ _), k.own h4 (ne _ _)⟩
  · exact absurd rfl hn.2.2.1
  · exact h
  · exact absurd rfl hn.2.2.2.1
  · obtain ⟨g, h1, h2, h3⟩ := h; exact ⟨g, h1, h2, k.own h3 (ne _ _)⟩
  · exact absurd rfl hn.2.2.2.2
/-- the facts that live while the second append is carried out -/
theorem DF.node {j : Nat} (hj : j < 19) (hn : j ≠ 2 ∧ j ≠ 5 ∧ j ≠ 13 ∧ j ≠ 14 ∧ j ≠ 16 ∧ j ≠ 18) {f : Tmp → Value} {w w' : World} (k : Kn (fun _ t => t = 57) w w') (h : DF W0 q V T N A n c cells j f w) : DF W0 q V T N A n c cells j f w' := by
  have ni : ¬ 3 = 57 := by decide
  have nf : ¬ 24 = 57 := by decide
  rcases lt19 hj with rfl | rfl | rfl | rfl | rfl | rfl | rfl | rfl | rfl | rfl | rfl | rfl | rfl | rfl | rfl | rfl | rfl | rfl | rfl
  · exact h
  · exact h
  · exact absurd rfl hn.1
  · exact h
  · exact h
  · exact absurd rfl hn.2.1
  · exact h
  · exact h
  · obtain ⟨b, h1, h2⟩ := h; exact ⟨b, h1, k.own h2 ni⟩
  · obtain ⟨b, h1, h2⟩ := h; exact ⟨b, h1, k.own h2 ni⟩
  · exact h
  · obtain ⟨b, h1, h2⟩ := h; exact ⟨b, h1, k.own h2 ni⟩
  · obtain ⟨b, h1, h2⟩ := h; exact ⟨b, h1, k.own h2 ni⟩
  · exact absurd rfl hn.2.2.1
  · exact absurd rfl hn.2.2.2.1
  · exact h
  · exact absurd rfl hn.2.2.2.2.1
  · obtain ⟨g, h1, h2, h3⟩ := h; exact ⟨g, h1, h2, k.own h3 nf⟩
  · exact absurd rfl hn.2.2.2.2.2
/-- the facts that live while the box is written -/
theorem DF.form {j : Nat} (hj : j < 19) (hn : j ≠ 2 ∧ j ≠ 5 ∧ j ≠ 13 ∧ j ≠ 17 ∧ j ≠ 18) {f : Tmp → Value} {w w' : World} (k : Kn (fun _ t => t = 24) w w') (h : DF W0 q V T N A n c cells j f w) : DF W0 q V T N A n c cells j f w' := by
  have ni : ¬ 3 = 24 := by decide
  have nf : ¬ 57 = 24 := by decide
  rcases lt19 hj with rfl | rfl | rfl | rfl | rfl | rfl | rfl | rfl | rfl | rfl | rfl | rfl | rfl | rfl | rfl | rfl | rfl | rfl | rfl
  · exact h
  · exact h
  · exact absurd rfl hn.1
  · exact h
  · exact h
  · exact absurd rfl hn.2.1
  · exact h
  · exact h
  · obtain ⟨b, h1, h2⟩ := h; exact ⟨b, h1, k.own h2 ni⟩
  · obtain ⟨b, h1, h2⟩ := h; exact ⟨b, h1, k.own h2 ni⟩
  · exact h
  · obtain ⟨b, h1, h2⟩ := h; exact ⟨b, h1, k.own h2 ni⟩
  · obtain ⟨b, h1, h2⟩ := h; exact ⟨b, h1, k.own h2 ni⟩
  · exact absurd rfl hn.2.2.1
  · obtain ⟨b, b', h2, h3, h4⟩ := h; exact ⟨b, b', owns_kn h2 k (fun _ => nf), k.own h3 ni, k.own h4 ni⟩
  · exact h
  · exact h
  · exact absurd rfl hn.2.2.2.1
  · exact absurd rfl hn.2.2.2.2
/-- which slots the facts speak of -/
theorem DF.dep {j : Nat} (hj : j < 19) {f f' : Tmp → Value} {w : World} (hd : f (if j = 18 then 10 else 50 + j) = f' (if j = 18 then 10 else 50 + j)) (h10 : 17 ≤ j → f 10 = f' 10) (h64 : 14 ≤ j → j ≠ 15 → j ≠ 17 → f 64 = f' 64) (h : DF W0 q V T N A n c cells j f w) : DF W0 q V T N A n c cells j f' w := by
  rcases lt19 hj with rfl | rfl | rfl | rfl | rfl | rfl | rfl | rfl | rfl | rfl | rfl | rfl | rfl | rfl | rfl | rfl | rfl | rfl | rfl
  case inr.inr.inr.inr.inr.inr.inr.inr.inr.inr.inr.inr.inr.inr.inr.inr.inr.inr =>
    obtain ⟨g, h1, h2, h3⟩ := h
    rw [h10 (by omega)] at h1
    rw [h64 (by omega) (by omega) (by omega)] at h3
    exact ⟨g, h1, h2, h3⟩
  case inr.inr.inr.inr.inr.inr.inr.inr.inr.inr.inr.inr.inr.inr.inr.inr.inr.inl =>
    obtain ⟨g, h1, h2, h3⟩ := h
    rw [h10 (by omega)] at h1
    exact ⟨g, h1, h2, h3⟩
  case inr.inr.inr.inr.inr.inr.inr.inr.inr.inr.inr.inr.inr.inr.inr.inr.inl =>
    have e : f 66 = f' 66 := hd
    have h' : f 66 = .agg #[.int .i64 V, f 64, .int .i64 N] ∧ ∃ B m k, f 64 = .slice B m k := h
    rw [e, h64 (by omega) (by omega) (by omega)] at h'
    exact h'
  all_goals
    simp only [DF, Nat.reduceAdd, reduceIte, Nat.reduceEqDiff] at h hd ⊢
    first | exact h | (rw [hd] at h; exact h) | (simp only [hd] at h; exact h)
end
end Go.Proofs.Ytcnelmklfdfilaa.Fm
