/-
  Dual of the program.
-/
import Derived.Test.YtmkogcaafkobaaaQGC
import Derived.Test.YtmkogcaafkobaaaQGB
import Derived.Test.YtmkogcaafkobaaaJr
import Derived.Test.YtmkogcaafkobaaaJGC
namespace Go.Proofs.Ytmkogcaafkobaaa.Fm
open Go.RowKit Go.Proofs.Ytmkogcaafkobaaa.Sb Go.Proofs.Ytmkogcaafkobaaa.Rgv
set_option linter.unusedVariables false
set_option linter.unusedSimpArgs false
set_option maxRecDepth 100000
def DU (wa : World) (Y : Nat → Prop) (W0 : World) (b : Nat) (V : Nat) (o : List Nn) (o2 : List Nn) (res : Int) (zn : List Int) (PS : Option Addr) (ns : Nat) (cS : Nat) (kd : Nat) (kq : Nat) (ar : List Nat) (PA : Option Addr) (m : Nat) (cA : Nat) (p : Nat) (i : Nat) (f : Tmp → Value) (w : World) : Prop :=
  match i with
  | 0 => f 28 = Value.slice PS ns cS
  | 1 => f 29 = .agg #[.int .i64 (kd : Int), .int .i64 (kq : Int), .slice PA m cA]
  | 2 => f 30 = .pointer (some ⟨p, 2, none⟩)
  | 3 => f 31 = .slice PA m cA
  | 4 => f 32 = Value.slice PS ns cS
  | 5 => ∃ W1 : World, (∃ P c, f 33 = .slice P m c ∧ W1.ownsRow wa.heap.size 3 1 (.slice P m c) m (VI (renZ zn ar)) ∧ ∀ g, (Value.slice P m c).ownBlock = some g → ¬ ((Value.slice PS ns cS).ownBlock = some g ∨ Y g)) ∧ On W1 w
  | 6 => ∃ W1 : World, (f 34 = .int .i64 res ∧ Dr wa (fun g => (Value.slice PS ns cS).ownBlock = some g ∨ Y g) W1 b V o2 ∧ W1.ownsRow wa.heap.size 3 1 (Value.slice PS ns cS) ns (VI zn) ∧ KP W0 W1 b wa (Value.slice PS ns cS)) ∧ On W1 w
  | 7 => ∃ W1 : World, (∃ e : Nat, f 35 = .slice (some ⟨e, 0, none⟩) 1 1 ∧ Own W1 e 3 #[.int .i64 res]) ∧ On W1 w
  | 8 => ∃ W1 : World, (∃ PT cT, f 36 = .slice PT (ns + 1) cT ∧ Dr wa (fun g => (Value.slice PT (ns + 1) cT).ownBlock = some g ∨ Y g) W1 b V o2 ∧ W1.ownsRow wa.heap.size 3 1 (.slice PT (ns + 1) cT) (ns + 1) (VI (zn ++ [res])) ∧ KP W0 W1 b wa (Value.slice PS ns cS) ∧ NB W0 (Value.slice PS ns cS) (.slice PT (ns + 1) cT)) ∧ On W1 w
  | 9 => ∃ W1 : World, (∃ PT cT, f 6 = .slice PT (ns + 1) cT ∧ Dr wa (fun g => (Value.slice PT (ns + 1) cT).ownBlock = some g ∨ Y g) W1 b V o2 ∧ W1.ownsRow wa.heap.size 3 1 (.slice PT (ns + 1) cT) (ns + 1) (VI (zn ++ [res])) ∧ KP W0 W1 b wa (Value.slice PS ns cS) ∧ NB W0 (Value.slice PS ns cS) (.slice PT (ns + 1) cT)) ∧ On W1 w
  | 10 => ∃ W1 : World, (Dr wa (fun g => (Value.slice PS ns cS).ownBlock = some g ∨ Y g) W1 b V o ∧ Own W1 p 41 #[.int .i64 (kd : Int), .int .i64 (kq : Int), .slice PA m cA] ∧ W1.ownsRow wa.heap.size 3 1 (Value.slice PS ns cS) ns (VI zn) ∧ KP W0 W1 b wa (Value.slice PS ns cS)) ∧ On W1 w
  | _ => True
def DUEx (i : Nat) : Nat := if i = 5 then 6 else if i = 6 then 8 else if i = 7 then 8 else if i = 10 then 6 else 100
def DUK (wa : World) (Y : Nat → Prop) (W0 : World) (b : Nat) (V : Nat) (o : List Nn) (o2 : List Nn) (res : Int) (zn : List Int) (PS : Option Addr) (ns : Nat) (cS : Nat) (kd : Nat) (kq : Nat) (ar : List Nat) (PA : Option Addr) (m : Nat) (cA : Nat) (p : Nat) (i : Nat) (w w' : World) : Prop := if i = 6 ∨ i = 8 then (True → True) else On w w'
theorem DUK.on (wa : World) (Y : Nat → Prop) (W0 : World) (b : Nat) (V : Nat) (o : List Nn) (o2 : List Nn) (res : Int) (zn : List Int) (PS : Option Addr) (ns : Nat) (cS : Nat) (kd : Nat) (kq : Nat) (ar : List Nat) (PA : Option Addr) (m : Nat) (cA : Nat) (p : Nat) {i : Nat} {w w' : World} (h : ¬ (i = 6 ∨ i = 8)) (k9 : On w w') : DUK wa Y W0 b V o o2 res zn PS ns cS kd kq ar PA m cA p i w w' := by unfold DUK; rw [if_neg h]; exact k9
theorem DUK.sp (wa : World) (Y : Nat → Prop) (W0 : World) (b : Nat) (V : Nat) (o : List Nn) (o2 : List Nn) (res : Int) (zn : List Int) (PS : Option Addr) (ns : Nat) (cS : Nat) (kd : Nat) (kq : Nat) (ar : List Nat) (PA : Option Addr) (m : Nat) (cA : Nat) (p : Nat) {i : Nat} {w w' : World} (h : i = 6 ∨ i = 8) (k9 : True → True) : DUK wa Y W0 b V o o2 res zn PS ns cS kd kq ar PA m cA p i w w' := by unfold DUK; rw [if_pos h]; exact k9
theorem DU.cases {j : Nat} (h : j < 11) : j = 0 ∨ j = 1 ∨ j = 2 ∨ j = 3 ∨ j = 4 ∨ j = 5 ∨ j = 6 ∨ j = 7 ∨ j = 8 ∨ j = 9 ∨ j = 10 := by omega
theorem DU.on (wa : World) (Y : Nat → Prop) (W0 : World) (b : Nat) (V : Nat) (o : List Nn) (o2 : List Nn) (res : Int) (zn : List Int) (PS : Option Addr) (ns : Nat) (cS : Nat) (kd : Nat) (kq : Nat) (ar : List Nat) (PA : Option Addr) (m : Nat) (cA : Nat) (p : Nat) {j : Nat} (hj : j < 11) {f : Tmp → Value} {w w' : World} (k9 : On w w') (h : DU wa Y W0 b V o o2 res zn PS ns cS kd kq ar PA m cA p j f w) : DU wa Y W0 b V o o2 res zn PS ns cS kd kq ar PA m cA p j f w' := by
  rcases DU.cases hj with rfl | rfl | rfl | rfl | rfl | rfl | rfl | rfl | rfl | rfl | rfl
  · exact h
  · exact h
  · exact h
  · exact h
  · exact h
  · obtain ⟨W1, h1, h2⟩ := (show ∃ W1 : World, (∃ P c, f 33 = .slice P m c ∧ W1.ownsRow wa.heap.size 3 1 (.slice P m c) m (VI (renZ zn ar)) ∧ ∀ g, (Value.slice P m c).ownBlock = some g → ¬ ((Value.slice PS ns cS).ownBlock = some g ∨ Y g)) ∧ On W1 w from h)
    exact ⟨W1, h1, h2.trans k9⟩
  · obtain ⟨W1, h1, h2⟩ := (show ∃ W1 : World, (f 34 = .int .i64 res ∧ Dr wa (fun g => (Value.slice PS ns cS).ownBlock = some g ∨ Y g) W1 b V o2 ∧ W1.ownsRow wa.heap.size 3 1 (Value.slice PS ns cS) ns (VI zn) ∧ KP W0 W1 b wa (Value.slice PS ns cS)) ∧ On W1 w from h)
    exact ⟨W1, h1, h2.trans k9⟩
  · obtain ⟨W1, h1, h2⟩ := (show ∃ W1 : World, (∃ e : Nat, f 35 = .slice (some ⟨e, 0, none⟩) 1 1 ∧ Own W1 e 3 #[.int .i64 res]) ∧ On W1 w from h)
    exact ⟨W1, h1, h2.trans k9⟩
  · obtain ⟨W1, h1, h2⟩ := (show ∃ W1 : World, (∃ PT cT, f 36 = .slice PT (ns + 1) cT ∧ Dr wa (fun g => (Value.slice PT (ns + 1) cT).ownBlock = some g ∨ Y g) W1 b V o2 ∧ W1.ownsRow wa.heap.size 3 1 (.slice PT (ns + 1) cT) (ns + 1) (VI (zn ++ [res])) ∧ KP W0 W1 b wa (Value.slice PS ns cS) ∧ NB W0 (Value.slice PS ns cS) (.slice PT (ns + 1) cT)) ∧ On W1 w from h)
    exact ⟨W1, h1, h2.trans k9⟩
  · obtain ⟨W1, h1, h2⟩ := (show ∃ W1 : World, (∃ PT cT, f 6 = .slice PT (ns + 1) cT ∧ Dr wa (fun g => (Value.slice PT (ns + 1) cT).ownBlock = some g ∨ Y g) W1 b V o2 ∧ W1.ownsRow wa.heap.size 3 1 (.slice PT (ns + 1) cT) (ns + 1) (VI (zn ++ [res])) ∧ KP W0 W1 b wa (Value.slice PS ns cS) ∧ NB W0 (Value.slice PS ns cS) (.slice PT (ns + 1) cT)) ∧ On W1 w from h)
    exact ⟨W1, h1, h2.trans k9⟩
  · obtain ⟨W1, h1, h2⟩ := (show ∃ W1 : World, (Dr wa (fun g => (Value.slice PS ns cS).ownBlock = some g ∨ Y g) W1 b V o ∧ Own W1 p 41 #[.int .i64 (kd : Int), .int .i64 (kq : Int), .slice PA m cA] ∧ W1.ownsRow wa.heap.size 3 1 (Value.slice PS ns cS) ns (VI zn) ∧ KP W0 W1 b wa (Value.slice PS ns cS)) ∧ On W1 w from h)
    exact ⟨W1, h1, h2.trans k9⟩
theorem DU.dep (wa : World) (Y : Nat → Prop) (W0 : World) (b : Nat) (V : Nat) (o : List Nn) (o2 : List Nn) (res : Int) (zn : List Int) (PS : Option Addr) (ns : Nat) (cS : Nat) (kd : Nat) (kq : Nat) (ar : List Nat) (PA : Option Addr) (m : Nat) (cA : Nat) (p : Nat) {j : Nat} (hj : j < 11) {f f' : Tmp → Value} {w : World} (hd : ∀ d, d ∈ (match j with | 0 => [28] | 1 => [29] | 2 => [30] | 3 => [31] | 4 => [32] | 5 => [33] | 6 => [34] | 7 => [35] | 8 => [36] | 9 => [6] | 10 => [] | _ => []) → f d = f' d) (h : DU wa Y W0 b V o o2 res zn PS ns cS kd kq ar PA m cA p j f w) : DU wa Y W0 b V o o2 res zn PS ns cS kd kq ar PA m cA p j f' w := by
  rcases DU.cases hj with rfl | rfl | rfl | rfl | rfl | rfl | rfl | rfl | rfl | rfl | rfl
  · have h' : f 28 = Value.slice PS ns cS := h
    simp only [hd 28 (by simp)] at h'
    exact h'
  · have h' : f 29 = .agg #[.int .i64 (kd : Int), .int .i64 (kq : Int), .slice PA m cA] := h
    simp only [hd 29 (by simp)] at h'
    exact h'
  · have h' : f 30 = .pointer (some ⟨p, 2, none⟩) := h
    simp only [hd 30 (by simp)] at h'
    exact h'
  · have h' : f 31 = .slice PA m cA := h
    simp only [hd 31 (by simp)] at h'
    exact h'
  · have h' : f 32 = Value.slice PS ns cS := h
    simp only [hd 32 (by simp)] at h'
    exact h'
  · have h' : ∃ W1 : World, (∃ P c, f 33 = .slice P m c ∧ W1.ownsRow wa.heap.size 3 1 (.slice P m c) m (VI (renZ zn ar)) ∧ ∀ g, (Value.slice P m c).ownBlock = some g → ¬ ((Value.slice PS ns cS).ownBlock = some g ∨ Y g)) ∧ On W1 w := h
    simp only [hd 33 (by simp)] at h'
    exact h'
  · have h' : ∃ W1 : World, (f 34 = .int .i64 res ∧ Dr wa (fun g => (Value.slice PS ns cS).ownBlock = some g ∨ Y g) W1 b V o2 ∧ W1.ownsRow wa.heap.size 3 1 (Value.slice PS ns cS) ns (VI zn) ∧ KP W0 W1 b wa (Value.slice PS ns cS)) ∧ On W1 w := h
    simp only [hd 34 (by simp)] at h'
    exact h'
  · have h' : ∃ W1 : World, (∃ e : Nat, f 35 = .slice (some ⟨e, 0, none⟩) 1 1 ∧ Own W1 e 3 #[.int .i64 res]) ∧ On W1 w := h
    simp only [hd 35 (by simp)] at h'
    exact h'
  · have h' : ∃ W1 : World, (∃ PT cT, f 36 = .slice PT (ns + 1) cT ∧ Dr wa (fun g => (Value.slice PT (ns + 1) cT).ownBlock = some g ∨ Y g) W1 b V o2 ∧ W1.ownsRow wa.heap.size 3 1 (.slice PT (ns + 1) cT) (ns + 1) (VI (zn ++ [res])) ∧ KP W0 W1 b wa (Value.slice PS ns cS) ∧ NB W0 (Value.slice PS ns cS) (.slice PT (ns + 1) cT)) ∧ On W1 w := h
    simp only [hd 36 (by simp)] at h'
    exact h'
  · have h' : ∃ W1 : World, (∃ PT cT, f 6 = .slice PT (ns + 1) cT ∧ Dr wa (fun g => (Value.slice PT (ns + 1) cT).ownBlock = some g ∨ Y g) W1 b V o2 ∧ W1.ownsRow wa.heap.size 3 1 (.slice PT (ns + 1) cT) (ns + 1) (VI (zn ++ [res])) ∧ KP W0 W1 b wa (Value.slice PS ns cS) ∧ NB W0 (Value.slice PS ns cS) (.slice PT (ns + 1) cT)) ∧ On W1 w := h
    simp only [hd 6 (by simp)] at h'
    exact h'
  · have h' : ∃ W1 : World, (Dr wa (fun g => (Value.slice PS ns cS).ownBlock = some g ∨ Y g) W1 b V o ∧ Own W1 p 41 #[.int .i64 (kd : Int), .int .i64 (kq : Int), .slice PA m cA] ∧ W1.ownsRow wa.heap.size 3 1 (Value.slice PS ns cS) ns (VI zn) ∧ KP W0 W1 b wa (Value.slice PS ns cS)) ∧ On W1 w := h
    exact h'
end Go.Proofs.Ytmkogcaafkobaaa.Fm
/-
  Push of the program.
-/
namespace Go.Proofs.Ytmkogcaafkobaaa.Fm
open Go.RowKit Go.Proofs.Ytmkogcaafkobaaa.Sb Go.Proofs.Ytmkogcaafkobaaa.Rgv
set_option linter.unusedVariables false
set_option linter.unusedSimpArgs false
set_option maxRecDepth 100000
theorem row_byI {w w' : World} {base g0 : Nat} {m c : Nat} {n : Nat} {l : List Value} {row : Option Nat} (h : w.ownsRow base 3 1 (.slice (some ⟨g0, 0, none⟩) m c) n l) (k : w.grownBy w' row) (hr : row ≠ some g0) : w'.ownsRow base 3 1 (.slice (some ⟨g0, 0, none⟩) m c) n l := by
  refine ⟨h.1, ?_⟩
  rcases h.2 with h2 | ⟨g, cap, cur, hv, hb, hh, h3⟩
  · exact .inl h2
  · refine .inr ⟨g, cap, cur, hv, hb, own_by (show Own w g 3 cur from hh) k (fun b' e e2 => hr ?_), h3⟩
    injection hv with e3
    injection e3 with e3
    injection e3 with e3
    rw [e, e2, e3]
theorem row_byI' {w w' : World} {base : Nat} {v : Value} {n : Nat} {l : List Value} {row : Option Nat} (h : w.ownsRow base 3 1 v n l) (k : w.grownBy w' row) (hr : ∀ g, v.ownBlock = some g → row ≠ some g) : w'.ownsRow base 3 1 v n l := by
  refine ⟨h.1, ?_⟩
  rcases h.2 with h2 | ⟨g, cap, cur, hv, hb, hh, h3⟩
  · exact .inl h2
  · exact .inr ⟨g, cap, cur, hv, hb, own_by (show Own w g 3 cur from hh) k (fun b' e e2 => hr g (by rw [hv]; rfl) (by rw [e, e2])), h3⟩
def DQ (wa : World) (b : Nat) (V : Nat) (o : List Nn) (o2 : List Nn) (p1 : Nat) (p2 : Nat) (yy : List Nat) (nn : List Nat) (PS : Option Addr) (PN : Option Addr) (ns : Nat) (cS : Nat) (cN : Nat) (kd : Nat) (kq : Nat) (ar : List Nat) (PA : Option Addr) (m : Nat) (cA : Nat) (p : Nat) (i : Nat) (f : Tmp → Value) (w : World) : Prop :=
  match i with
  | 0 => f 45 = .agg #[.int .i64 (kd : Int), .int .i64 (kq : Int), .slice PA m cA]
  | 1 => f 46 = .pointer (some ⟨p, 2, none⟩)
  | 2 => f 47 = .slice PA m cA
  | 3 => f 48 = Value.slice PS ns cS
  | 4 => ∃ W1 : World, (∃ P c, f 49 = .slice P m c ∧ W1.ownsRow wa.heap.size 3 1 (.slice P m c) m (VI (ints (ren yy ar))) ∧ ∀ g, (Value.slice P m c).ownBlock = some g → ¬ ((Value.slice PS ns cS).ownBlock = some g ∨ (Value.slice PN ns cN).ownBlock = some g)) ∧ On W1 w
  | 5 => f 50 = .pointer (some ⟨p, 2, none⟩)
  | 6 => f 51 = .slice PA m cA
  | 7 => f 52 = Value.slice PN ns cN
  | 8 => ∃ W1 : World, (∃ P c, f 53 = .slice P m c ∧ W1.ownsRow wa.heap.size 3 1 (.slice P m c) m (VI (ints (ren nn ar))) ∧ ∀ g, (Value.slice P m c).ownBlock = some g → ¬ ((Value.slice PS ns cS).ownBlock = some g ∨ (Value.slice PN ns cN).ownBlock = some g)) ∧ On W1 w
  | 9 => ∃ W1 : World, (f 54 = .tuple #[.int .i64 (p1 : Int), .int .i64 (p2 : Int)] ∧ Dr wa (fun g => (Value.slice PS ns cS).ownBlock = some g ∨ (Value.slice PN ns cN).ownBlock = some g) W1 b V o2 ∧ W1.ownsRow wa.heap.size 3 1 (Value.slice PS ns cS) ns (VI (ints yy)) ∧ W1.ownsRow wa.heap.size 3 1 (Value.slice PN ns cN) ns (VI (ints nn))) ∧ On W1 w
  | 10 => f 44 = .tuple #[.int .i64 (p1 : Int), .int .i64 (p2 : Int)]
  | 11 => f 55 = .int .i64 (p1 : Int)
  | 12 => f 56 = .int .i64 (p2 : Int)
  | 13 => f 11 = .int .i64 (p1 : Int)
  | 14 => f 12 = .int .i64 (p2 : Int)
  | 15 => ∃ W1 : World, (Dr wa (fun g => (Value.slice PS ns cS).ownBlock = some g ∨ (Value.slice PN ns cN).ownBlock = some g) W1 b V o ∧ Own W1 p 41 #[.int .i64 (kd : Int), .int .i64 (kq : Int), .slice PA m cA] ∧ W1.ownsRow wa.heap.size 3 1 (Value.slice PS ns cS) ns (VI (ints yy)) ∧ W1.ownsRow wa.heap.size 3 1 (Value.slice PN ns cN) ns (VI (ints nn))) ∧ On W1 w
  | _ => True
def DQEx (i : Nat) : Nat := if i = 4 then 9 else if i = 8 then 9 else if i = 15 then 9 else 100
def DQK (wa : World) (b : Nat) (V : Nat) (o : List Nn) (o2 : List Nn) (p1 : Nat) (p2 : Nat) (yy : List Nat) (nn : List Nat) (PS : Option Addr) (PN : Option Addr) (ns : Nat) (cS : Nat) (cN : Nat) (kd : Nat) (kq : Nat) (ar : List Nat) (PA : Option Addr) (m : Nat) (cA : Nat) (p : Nat) (i : Nat) (w w' : World) : Prop := if i = 9 then (True → True) else On w w'
theorem DQK.on (wa : World) (b : Nat) (V : Nat) (o : List Nn) (o2 : List Nn) (p1 : Nat) (p2 : Nat) (yy : List Nat) (nn : List Nat) (PS : Option Addr) (PN : Option Addr) (ns : Nat) (cS : Nat) (cN : Nat) (kd : Nat) (kq : Nat) (ar : List Nat) (PA : Option Addr) (m : Nat) (cA : Nat) (p : Nat) {i : Nat} {w w' : World} (h : ¬ (i = 9)) (k9 : On w w') : DQK wa b V o o2 p1 p2 yy nn PS PN ns cS cN kd kq ar PA m cA p i w w' := by unfold DQK; rw [if_neg h]; exact k9
theorem DQK.sp (wa : World) (b : Nat) (V : Nat) (o : List Nn) (o2 : List Nn) (p1 : Nat) (p2 : Nat) (yy : List Nat) (nn : List Nat) (PS : Option Addr) (PN : Option Addr) (ns : Nat) (cS : Nat) (cN : Nat) (kd : Nat) (kq : Nat) (ar : List Nat) (PA : Option Addr) (m : Nat) (cA : Nat) (p : Nat) {i : Nat} {w w' : World} (h : i = 9) (k9 : True → True) : DQK wa b V o o2 p1 p2 yy nn PS PN ns cS cN kd kq ar PA m cA p i w w' := by unfold DQK; rw [if_pos h]; exact k9
theorem DQ.cases {j : Nat} (h : j < 16) : j = 0 ∨ j = 1 ∨ j = 2 ∨ j = 3 ∨ j = 4 ∨ j = 5 ∨ j = 6 ∨ j = 7 ∨ j = 8 ∨ j = 9 ∨ j = 10 ∨ j = 11 ∨ j = 12 ∨ j = 13 ∨ j = 14 ∨ j = 15 := by omega
theorem DQ.on (wa : World) (b : Nat) (V : Nat) (o : List Nn) (o2 : List Nn) (p1 : Nat) (p2 : Nat) (yy : List Nat) (nn : List Nat) (PS : Option Addr) (PN : Option Addr) (ns : Nat) (cS : Nat) (cN : Nat) (kd : Nat) (kq : Nat) (ar : List Nat) (PA : Option Addr) (m : Nat) (cA : Nat) (p : Nat) {j : Nat} (hj : j < 16) {f : Tmp → Value} {w w' : World} (k9 : On w w') (h : DQ wa b V o o2 p1 p2 yy nn PS PN ns cS cN kd kq ar PA m cA p j f w) : DQ wa b V o o2 p1 p2 yy nn PS PN ns cS cN kd kq ar PA m cA p j f w' := by
  rcases DQ.cases hj with rfl | rfl | rfl | rfl | rfl | rfl | rfl | rfl | rfl | rfl | rfl | rfl | rfl | rfl | rfl | rfl
  · exact h
  · exact h
  · exact h
  · exact h
  · obtain ⟨W1, h1, h2⟩ := (show ∃ W1 : World, (∃ P c, f 49 = .slice P m c ∧ W1.ownsRow wa.heap.size 3 1 (.slice P m c) m (VI (ints (ren yy ar))) ∧ ∀ g, (Value.slice P m c).ownBlock = some g → ¬ ((Value.slice PS ns cS).ownBlock = some g ∨ (Value.slice PN ns cN).ownBlock = some g)) ∧ On W1 w from h)
    exact ⟨W1, h1, h2.trans k9⟩
  · exact h
  · exact h
  · exact h
  · obtain ⟨W1, h1, h2⟩ := (show ∃ W1 : World, (∃ P c, f 53 = .slice P m c ∧ W1.ownsRow wa.heap.size 3 1 (.slice P m c) m (VI (ints (ren nn ar))) ∧ ∀ g, (Value.slice P m c).ownBlock = some g → ¬ ((Value.slice PS ns cS).ownBlock = some g ∨ (Value.slice PN ns cN).ownBlock = some g)) ∧ On W1 w from h)
    exact ⟨W1, h1, h2.trans k9⟩
  · obtain ⟨W1, h1, h2⟩ := (show ∃ W1 : World, (f 54 = .tuple #[.int .i64 (p1 : Int), .int .i64 (p2 : Int)] ∧ Dr wa (fun g => (Value.slice PS ns cS).ownBlock = some g ∨ (Value.slice PN ns cN).ownBlock = some g) W1 b V o2 ∧ W1.ownsRow wa.heap.size 3 1 (Value.slice PS ns cS) ns (VI (ints yy)) ∧ W1.ownsRow wa.heap.size 3 1 (Value.slice PN ns cN) ns (VI (ints nn))) ∧ On W1 w from h)
    exact ⟨W1, h1, h2.trans k9⟩
  · exact h
  · exact h
  · exact h
  · exact h
  · exact h
  · obtain ⟨W1, h1, h2⟩ := (show ∃ W1 : World, (Dr wa (fun g => (Value.slice PS ns cS).ownBlock = some g ∨ (Value.slice PN ns cN).ownBlock = some g) W1 b V o ∧ Own W1 p 41 #[.int .i64 (kd : Int), .int .i64 (kq : Int), .slice PA m cA] ∧ W1.ownsRow wa.heap.size 3 1 (Value.slice PS ns cS) ns (VI (ints yy)) ∧ W1.ownsRow wa.heap.size 3 1 (Value.slice PN ns cN) ns (VI (ints nn))) ∧ On W1 w from h)
    exact ⟨W1, h1, h2.trans k9⟩
theorem DQ.dep (wa : World) (b : Nat) (V : Nat) (o : List Nn) (o2 : List Nn) (p1 : Nat) (p2 : Nat) (yy : List Nat) (nn : List Nat) (PS : Option Addr) (PN : Option Addr) (ns : Nat) (cS : Nat) (cN : Nat) (kd : Nat) (kq : Nat) (ar : List Nat) (PA : Option Addr) (m : Nat) (cA : Nat) (p : Nat) {j : Nat} (hj : j < 16) {f f' : Tmp → Value} {w : World} (hd : ∀ d, d ∈ (match j with | 0 => [45] | 1 => [46] | 2 => [47] | 3 => [48] | 4 => [49] | 5 => [50] | 6 => [51] | 7 => [52] | 8 => [53] | 9 => [54] | 10 => [44] | 11 => [55] | 12 => [56] | 13 => [11] | 14 => [12] | 15 => [] | _ => []) → f d = f' d) (h : DQ wa b V o o2 p1 p2 yy nn PS PN ns cS cN kd kq ar PA m cA p j f w) : DQ wa b V o o2 p1 p2 yy nn PS PN ns cS cN kd kq ar PA m cA p j f' w := by
  rcases DQ.cases hj with rfl | rfl | rfl | rfl | rfl | rfl | rfl | rfl | rfl | rfl | rfl | rfl | rfl | rfl | rfl | rfl
  · have h' : f 45 = .agg #[.int .i64 (kd : Int), .int .i64 (kq : Int), .slice PA m cA] := h
    simp only [hd 45 (by simp)] at h'
    exact h'
  · have h' : f 46 = .pointer (some ⟨p, 2, none⟩) := h
    simp only [hd 46 (by simp)] at h'
    exact h'
  · have h' : f 47 = .slice PA m cA := h
    simp only [hd 47 (by simp)] at h'
    exact h'
  · have h' : f 48 = Value.slice PS ns cS := h
    simp only [hd 48 (by simp)] at h'
    exact h'
  · have h' : ∃ W1 : World, (∃ P c, f 49 = .slice P m c ∧ W1.ownsRow wa.heap.size 3 1 (.slice P m c) m (VI (ints (ren yy ar))) ∧ ∀ g, (Value.slice P m c).ownBlock = some g → ¬ ((Value.slice PS ns cS).ownBlock = some g ∨ (Value.slice PN ns cN).ownBlock = some g)) ∧ On W1 w := h
    simp only [hd 49 (by simp)] at h'
    exact h'
  · have h' : f 50 = .pointer (some ⟨p, 2, none⟩) := h
    simp only [hd 50 (by simp)] at h'
    exact h'
  · have h' : f 51 = .slice PA m cA := h
    simp only [hd 51 (by simp)] at h'
    exact h'
  · have h' : f 52 = Value.slice PN ns cN := h
    simp only [hd 52 (by simp)] at h'
    exact h'
  · have h' : ∃ W1 : World, (∃ P c, f 53 = .slice P m c ∧ W1.ownsRow wa.heap.size 3 1 (.slice P m c) m (VI (ints (ren nn ar))) ∧ ∀ g, (Value.slice P m c).ownBlock = some g → ¬ ((Value.slice PS ns cS).ownBlock = some g ∨ (Value.slice PN ns cN).ownBlock = some g)) ∧ On W1 w := h
    simp only [hd 53 (by simp)] at h'
    exact h'
  · have h' : ∃ W1 : World, (f 54 = .tuple #[.int .i64 (p1 : Int), .int .i64 (p2 : Int)] ∧ Dr wa (fun g => (Value.slice PS ns cS).ownBlock = some g ∨ (Value.slice PN ns cN).ownBlock = some g) W1 b V o2 ∧ W1.ownsRow wa.heap.size 3 1 (Value.slice PS ns cS) ns (VI (ints yy)) ∧ W1.ownsRow wa.heap.size 3 1 (Value.slice PN ns cN) ns (VI (ints nn))) ∧ On W1 w := h
    simp only [hd 54 (by simp)] at h'
    exact h'
  · have h' : f 44 = .tuple #[.int .i64 (p1 : Int), .int .i64 (p2 : Int)] := h
    simp only [hd 44 (by simp)] at h'
    exact h'
  · have h' : f 55 = .int .i64 (p1 : Int) := h
    simp only [hd 55 (by simp)] at h'
    exact h'
  · have h' : f 56 = .int .i64 (p2 : Int) := h
    simp only [hd 56 (by simp)] at h'
    exact h'
  · have h' : f 11 = .int .i64 (p1 : Int) := h
    simp only [hd 11 (by simp)] at h'
    exact h'
  · have h' : f 12 = .int .i64 (p2 : Int) := h
    simp only [hd 12 (by simp)] at h'
    exact h'
  · have h' : ∃ W1 : World, (Dr wa (fun g => (Value.slice PS ns cS).ownBlock = some g ∨ (Value.slice PN ns cN).ownBlock = some g) W1 b V o ∧ Own W1 p 41 #[.int .i64 (kd : Int), .int .i64 (kq : Int), .slice PA m cA] ∧ W1.ownsRow wa.heap.size 3 1 (Value.slice PS ns cS) ns (VI (ints yy)) ∧ W1.ownsRow wa.heap.size 3 1 (Value.slice PN ns cN) ns (VI (ints nn))) ∧ On W1 w := h
    exact h'
set_option maxHeartbeats 4000000 in
theorem npush_bad (w : World) (vars top : Int) (A : Option Addr) (n c : Nat) (xs : List Nd) (h : RdN w A n c xs) (hv : I64 vars) (ht : I64 top) (hbad : chk vars xs top ≠ 0) :
    Calls Try.prog 9 #[.agg #[.int .i64 vars, .slice A n c, .int .i64 top]] w fun e w' => e = .returned (.tuple #[.agg #[.int .i64 0, .slice none 0 0, .int .i64 0], errV (chk vars xs top)]) ∧ On w w' := by
  obtain ⟨q, hq⟩ : ∃ q, w.heap.size = q := ⟨_, rfl⟩
  obtain ⟨w0, hw0⟩ : ∃ w0, (w.alloc (.cells #[.int .i64 vars, .slice A n c, .int .i64 top] 24)).alloc (.cells #[.int .i64 0, .slice none 0 0, .int .i64 0] 24) = w0 := ⟨_, rfl⟩
  have O0 : Own w0 q 24 #[.int .i64 vars, .slice A n c, .int .i64 top] := by rw [← hw0, ← hq]; exact (Own.new _ _ _).alloc _
  have C0 : Own w0 (q + 1) 24 #[.int .i64 0, .slice none 0 0, .int .i64 0] := by
    rw [← hw0, ← hq]
    have := Own.new (w.alloc (.cells #[.int .i64 vars, .slice A n c, .int .i64 top] 24)) 24 #[.int .i64 0, .slice none 0 0, .int .i64 0]
    simpa using this
  have P0 : On w w0 := by rw [← hw0]; exact ((On.refl w).alloc _).alloc _
  obtain ⟨r0, r1, r2⟩ := own3 O0
  have hC := check_any w0 vars top A n c xs (h.on P0) hv ht
  obtain ⟨er, her⟩ : ∃ er, chk vars xs top = er := ⟨_, rfl⟩
  rw [her] at hC hbad ⊢
  rw [errV_pos er hbad] at hC ⊢
  have HO := Lib.hid (And.intro C0 P0)
  clear O0 C0 P0 h hv ht her
  go_enter Try.func9, Try.ntmps9
  go_wp2_with fail
  refine hC.mono ?_
  rintro e w1 ⟨rfl, P1⟩
  clear hC r0 r1 r2 hw0
  have C1 := HO.out.1.on P1
  have P1' := HO.out.2.trans P1
  obtain ⟨e0, e1, e2⟩ := own3 C1
  have g0 := C1.frozen 0
  have g1 := C1.frozen 1
  have g2 := C1.frozen 2
  have OF := ((C1.set_ 0 (.int .i64 0)).set_ 1 (.slice none 0 0)).set_ 2 (.int .i64 0)
  obtain ⟨x0, x1, x2⟩ := own3 (show Own _ (q + 1) 24 #[.int .i64 0, .slice none 0 0, .int .i64 0] from OF)
  have P9 := On.setCell (On.setCell (On.setCell P1' (p := ⟨q + 1, 0, none⟩) (by show w.heap.size ≤ q + 1; omega) (.int .i64 0)) (p := ⟨q + 1, 1, none⟩) (by show w.heap.size ≤ q + 1; omega) (.slice none 0 0)) (p := ⟨q + 1, 2, none⟩) (by show w.heap.size ≤ q + 1; omega) (.int .i64 0)
  have HZ := Lib.hid P9
  clear OF P9 C1 P1'
  go_wp2
  exact bodyPost_ret (v := .tuple #[.agg #[.int .i64 0, .slice none 0 0, .int .i64 0], .iface 43 (.int .i64 (er : Int))]) (by simp [results, Try.results9, go_sem, x0, x1, x2]) rfl ⟨rfl, HZ.out⟩
set_option maxHeartbeats 16000000 in
theorem npush_ok (w : World) (f : Fn) (hf : WF f) (A : Option Addr) (n c : Nat) (h : RdN w A n c (rawL f.nodes)) :
    Calls Try.prog 9 #[.agg #[.int .i64 (f.vars : Int), .slice A n c, .int .i64 (f.top : Int)]] w fun e w' => MadeP (push f) e w' ∧ On w w' := by
  have hn : f.nodes.length = n := by have := h.len; rwa [raw_len] at this
  have hcap := h.cap
  have hmax := h.max
  have hv := hf.1
  have hn128 : f.nodes.length ≤ 128 := hf.2.1
  have htop := hf.2.2.2
  rw [hn] at hn128 htop
  obtain ⟨q, hq⟩ : ∃ q, w.heap.size = q := ⟨_, rfl⟩
  obtain ⟨w0, hw0⟩ : ∃ w0, (w.alloc (.cells #[.int .i64 (f.vars : Int), .slice A n c, .int .i64 (f.top : Int)] 24)).alloc (.cells #[.int .i64 0, .slice none 0 0, .int .i64 0] 24) = w0 := ⟨_, rfl⟩
  have O0 : Own w0 q 24 #[.int .i64 (f.vars : Int), .slice A n c, .int .i64 (f.top : Int)] := by rw [← hw0, ← hq]; exact (Own.new _ _ _).alloc _
  have C0 : Own w0 (q + 1) 24 #[.int .i64 0, .slice none 0 0, .int .i64 0] := by
    rw [← hw0, ← hq]
    have := Own.new (w.alloc (.cells #[.int .i64 (f.vars : Int), .slice A n c, .int .i64 (f.top : Int)] 24)) 24 #[.int .i64 0, .slice none 0 0, .int .i64 0]
    simpa using this
  have P0 : On w w0 := by rw [← hw0]; exact ((On.refl w).alloc _).alloc _
  obtain ⟨r0, r1, r2⟩ := own3 O0
  have hC := check_any w0 (f.vars : Int) (f.top : Int) A n c _ (h.on P0) (by unfold I64; omega) (by unfold I64; omega)
  rw [chk_ok hf, errV_zero] at hC
  have HO := Lib.hid (And.intro O0 (And.intro C0 (And.intro P0 h)))
  have HF := Lib.hid (And.intro hf hn)
  obtain ⟨V, hVV⟩ : ∃ V, f.vars = V := ⟨_, rfl⟩
  obtain ⟨tp, htp⟩ : ∃ tp, f.top = tp := ⟨_, rfl⟩
  rw [hVV] at hv htop hC r0 HO hw0 ⊢
  rw [htp] at htop hC r2 HO hw0 ⊢
  clear O0 C0 P0 h hf hn
  go_enter Try.func9, Try.ntmps9
  go_wp2_with fail
  refine hC.mono ?_
  rintro e w5 ⟨rfl, P5⟩
  clear hC r0 r1 r2 hw0
  have O5 := HO.out.1.on P5
  obtain ⟨q0, q1, q2⟩ := own3 O5
  obtain ⟨b, hb⟩ : ∃ b, w5.heap.size = b := ⟨_, rfl⟩
  obtain ⟨wd1, hd1⟩ : ∃ wd1, w5.alloc (.cells #[.int .i64 0, .slice none 0 0] 56) = wd1 := ⟨_, rfl⟩
  have Bd1 : Own wd1 b 56 #[.int .i64 0, .slice none 0 0] := by rw [← hd1, ← hb]; exact Own.new _ _ _
  have Pd1 : On w5 wd1 := by rw [← hd1]; exact (On.refl w5).alloc _
  obtain ⟨wd, hd2⟩ : ∃ wd, (wd1.setCell ⟨b, 0, none⟩ (.int .i64 (V : Int))).setCell ⟨b, 1, none⟩ (.slice none 0 0) = wd := ⟨_, rfl⟩
  have Bd2 : Own wd b 56 #[.int .i64 (V : Int), .slice none 0 0] := by rw [← hd2]; exact (Bd1.set_ 0 _).set_ 1 _
  have Pd2 : On w5 wd := by rw [← hd2]; exact On.setCell (On.setCell Pd1 (p := ⟨b, 0, none⟩) (by show w5.heap.size ≤ b; omega) _) (p := ⟨b, 1, none⟩) (by show w5.heap.size ≤ b; omega) _
  obtain ⟨y0, y1⟩ := own2 Bd1
  have z0 := Bd1.frozen 0
  have z1 := Bd1.frozen 1
  have D0 : Dr w5 (fun _ => False) wd b V [] := ⟨Pd2, by omega, fun _ h => h.elim, _, Bd2, OutZ.nil _ _ _⟩
  clear Bd1 Pd1 Bd2
  have O6 := O5.on Pd2
  obtain ⟨t0, t1, t2⟩ := own3 O6
  have hC := events_any wd V hv
  have H5 := Lib.hid (And.intro P5 (And.intro O5 (And.intro D0 O6)))
  clear O5 O6 D0 Pd2 P5
  go_wp2_with fail
  refine hC.mono ?_
  rintro e wl ⟨gs, rfl, hgs, hG, Pl⟩
  clear hC y0 y1 z0 z1 hd1 hd2 q0 q1 q2 t0 t1 t2
  have Dl0 := H5.out.2.2.1.by_ (row := none) (Z' := fun g => (Value.slice (some ⟨gs, 0, none⟩) V V).ownBlock = some g ∨ False) (gb_on Pl none) (fun _ e => by cases e) (fun g1 e => by
    rcases e with e | e
    · injection e with e; subst e; exact .inr ⟨hgs, hG.lt⟩
    · exact e.elim)
  have hd := H5.out.2.2.1.on.size
  have Sl := owns_blk (base := w5.heap.size) hG (by omega) (n := V) (by rw [VI_length, ints_length, List.length_range]) (by omega)
  have Ol := H5.out.2.1.on Dl0.on
  obtain ⟨q0, q1, q2⟩ := own3 Ol
  have HS := Lib.hid (And.intro Dl0 Sl)
  have hdl : w5.heap.size ≤ wl.heap.size := Dl0.on.size
  clear Dl0 Sl hG Ol
  go_wp2
  clear q0 q1 q2
  go_loopw [27, 7] (fun i nv wr => ∃ k : Nat, k ≤ V ∧ i = .int .i64 (k : Int) ∧ ∃ PN cN, nv = .slice PN k cN ∧ Dr w5 (fun g => (Value.slice (some ⟨gs, 0, none⟩) V V).ownBlock = some g ∨ (Value.slice PN k cN).ownBlock = some g) wr b V (nots k) ∧ wr.ownsRow w5.heap.size 3 1 (.slice (some ⟨gs, 0, none⟩) V V) V (VI (ints (List.range V))) ∧ wr.ownsRow w5.heap.size 3 1 (.slice PN k cN) k (VI (ints ((List.range k).map fun j => V + j))) ∧ ((Value.slice PN k cN).ownBlock ≠ some gs)) (fun i _ _ => V - (intOf i).toNat)
  case atStart => exact ⟨0, by omega, rfl, none, 0, rfl, HS.out.1.re (fun g hg => by rcases hg with h | h; exact .inl h; simp [Value.ownBlock] at h), HS.out.2, row_nil _ _ _, by simp [Value.ownBlock]⟩
  case round =>
    obtain ⟨k, hk, rfl, PN, cN, rfl, D1, S1, T1, hne1⟩ := hrel
    obtain ⟨wo, hwo⟩ : ∃ wo, wo = wr := ⟨_, rfl⟩
    subst hwo
    by_cases hlt : k < V
    · obtain ⟨w4, hw4⟩ := lit1_eq wo (k : Int)
      obtain ⟨r, hr⟩ : ∃ r, V + (nots k).length = r := ⟨_, rfl⟩
      have hrk : V + k = r := by rw [← hr, nots_len]
      have hC := dadd1 w5 _ wo w4 b V (nots k) D1 hv (by rw [nots_len]; omega) r hr 1 0 1 0 rfl rfl k hw4
      have HD := Lib.hid (And.intro D1 (And.intro S1 (And.intro T1 (And.intro hne1 hrk))))
      have hszo := D1.on.size
      clear D1 S1 T1 hne1 hr
      go_wp2_with fail
      refine hC.mono ?_
      rintro e w6 ⟨rfl, D6, K6⟩
      clear hC hw4
      have S6 := HD.out.1.ints K6 HD.out.2.1
      have T6 := HD.out.1.ints K6 HD.out.2.2.1
      have hsz6 := D6.on.size
      have H6 := Lib.hid (And.intro D6 (And.intro S6 T6))
      clear D6 S6 T6 K6
      go_wp2_with (at_builtin; refine wpList_app rfl (.tmp 30) (.tmp 34) 39 rfl w5.heap.size 3 (.int .i64 0) 8 Try.underlying39 infoi rfl (by decide) (.slice PN k cN) _ _ rfl (row_alloc H6.out.2.2 _) (some ⟨w6.heap.size, 0, none⟩) 1 1 [.int .i64 (r : Int)] rfl (rd_one _ _ _) (by simp [Value.oneCell']) (by omega) (by simp; omega) ?_; intro v7 w7 h7 g7 e7)
      go_roundw
      case rel =>
        obtain ⟨PT, cT, rfl⟩ := row_form h7
        have hs7 := row_blk (row_alloc H6.out.2.1 (.cells #[.int .i64 (r : Int)] 3)) (g := gs) rfl
        refine ⟨k + 1, by omega, by go_num, PT, cT, rfl, ?_, ?_, ?_, ?_⟩
        · have := (H6.out.1.to ((On.refl _).alloc (.cells #[.int .i64 (r : Int)] 3))).app (row_alloc H6.out.2.2 _) g7 (fun g e => .inr e) (Z' := fun g => (Value.slice (some ⟨gs, 0, none⟩) V V).ownBlock = some g ∨ (Value.slice PT (k + 1) cT).ownBlock = some g) (fun g e => by
            rcases e with e | e
            · exact .inl (.inl e)
            · rcases e7 with e2 | e2
              · exact .inl (.inr (e2.symm.trans e))
              · rw [e2] at e; injection e with e; subst e
                exact .inr ⟨Nat.le_refl _, (row_blk h7 e2).2.1⟩)
          have en : nots k ++ [⟨1, 0, [k]⟩] = nots (k + 1) := by simp [nots, List.range_succ]
          rwa [en] at this
        · refine row_byI (row_alloc H6.out.2.1 _) g7 (fun e => ?_)
          exact HD.out.2.2.2.1 (e ▸ rfl)
        · have e2 : VI (ints ((List.range (k + 1)).map fun j => V + j)) = VI (ints ((List.range k).map fun j => V + j)) ++ [.int .i64 (r : Int)] := by
            rw [List.range_succ, List.map_append, List.map_cons, List.map_nil, ints_snoc, HD.out.2.2.2.2]; simp [VI]
          rw [e2]; exact h7
        · rcases e7 with e | e
          · rw [e]; exact HD.out.2.2.2.1
          · rw [e]; intro e2; injection e2 with e2; have := hs7.2.1; omega
      case measure => simp [intOf] <;> omega
    · obtain rfl : k = V := by omega
      have eP0 : puTo f 0 = ⟨nots k, List.range k, (List.range k).map fun j => k + j⟩ := by unfold puTo; rw [hVV]
      have O1 := H5.out.2.1.on D1.on
      obtain ⟨q0, q1, q2⟩ := own3 O1
      have HD := Lib.hid (And.intro D1 (And.intro S1 (And.intro T1 (And.intro hne1 eP0))))
      clear D1 S1 T1 hne1 eP0 O1
      go_wp2
      clear q0 q1 q2
      go_loopw [40, 6, 7] (fun i sv nv wr => ∃ j : Nat, j ≤ n ∧ i = .int .i64 (j : Int) ∧ ∃ PS cS PN cN, sv = .slice PS (k + j) cS ∧ nv = .slice PN (k + j) cN ∧ Dr w5 (fun g => (Value.slice PS (k + j) cS).ownBlock = some g ∨ (Value.slice PN (k + j) cN).ownBlock = some g) wr b k (puTo f j).o ∧ wr.ownsRow w5.heap.size 3 1 (.slice PS (k + j) cS) (k + j) (VI (ints (puTo f j).y)) ∧ wr.ownsRow w5.heap.size 3 1 (.slice PN (k + j) cN) (k + j) (VI (ints (puTo f j).n)) ∧ (∀ g, (Value.slice PS (k + j) cS).ownBlock = some g → (Value.slice PN (k + j) cN).ownBlock ≠ some g)) (fun i _ _ _ => n - (intOf i).toNat)
      case atStart => exact ⟨0, by omega, rfl, some ⟨gs, 0, none⟩, k, PN, cN, rfl, rfl, by rw [HD.out.2.2.2.2]; exact HD.out.1, by rw [HD.out.2.2.2.2]; exact HD.out.2.1, by rw [HD.out.2.2.2.2]; exact HD.out.2.2.1, fun g e => by injection e with e; subst e; exact HD.out.2.2.2.1⟩
      case round =>
        obtain ⟨i, hi, rfl, PS, cS, PN, cN, rfl, rfl, D0', S0', T0', hne⟩ := hrel
        obtain ⟨wo2, hwo2⟩ : ∃ wo2, wo2 = wr := ⟨_, rfl⟩
        subst hwo2
        by_cases hlt : i < n
        · have P51 := H5.out.1.trans D0'.on
          have Pw1 := HO.out.2.2.1.trans P51
          obtain ⟨ad, rfl, hb9, PA, m, cA, hc0', hc1', hc2', hRA⟩ := HO.out.2.2.2.at_ i hlt
          rw [raw_get] at hc0' hc1' hRA
          have hbk : (ad.add (i * 3)).block < w.heap.size := by rw [block_of_add]; exact hb9
          have hc0 := (Below.cell Pw1 hbk).trans hc0'
          have hc1 := (Below.cell Pw1 (p := ⟨(ad.add (i * 3)).block, (ad.add (i * 3)).off + 1, none⟩) hbk).trans hc1'
          have hc2 := (Below.cell Pw1 (p := ⟨(ad.add (i * 3)).block, (ad.add (i * 3)).off + 2, none⟩) hbk).trans hc2'
          have hm : (f.nd i).args.length = m := by have := VI_len hRA; unfold Nn.raw at this; rwa [ints_length] at this
          have hok := HF.out.1.2.2.1 i (by rw [HF.out.2]; exact hlt)
          rw [hVV] at hok
          have hm16 : m ≤ 16 := by rw [← hm]; exact okN_len hok
          have harg : ∀ a ∈ (f.nd i).args, a < k + i := hok.2.2.2.2.1
          obtain ⟨⟨kd, kq, ar⟩, hx⟩ : ∃ x, f.nd i = x := ⟨_, rfl⟩
          rw [hx] at hc0 hc1 hRA hm harg hok
          simp only at hm harg
          have hA' : Rd w PA m cA (VI (ints ar)) := hRA
          replace hc0 := (show _ = some (Value.int .i64 (kd : Int)) from hc0)
          replace hc1 := (show _ = some (Value.int .i64 (kq : Int)) from hc1)
          have hs : puTo f (i + 1) = puS k (puTo f i) (f.nd i) := by rw [← hVV]; rfl
          have hol := puTo_len (N := 128) HF.out.1 i (by rw [HF.out.2]; exact hi)
          rw [hVV] at hol
          obtain ⟨⟨o, yy, nn⟩, hpu⟩ : ∃ z, puTo f i = z := ⟨_, rfl⟩
          rw [hpu, hx] at hs
          rw [hpu] at D0' S0' T0' hol
          simp only at hs D0' S0' T0' hol
          obtain ⟨⟨o2, p1, p2⟩, hpn⟩ : ∃ z, puN k o ⟨kd, kq, ar⟩ (ren yy ar) (ren nn ar) = z := ⟨_, rfl⟩
          have hs2 : puTo f (i + 1) = ⟨o2, yy ++ [p1], nn ++ [p2]⟩ := by rw [hs]; unfold puS; simp only; rw [hpn]
          obtain ⟨ns, hns⟩ : ∃ ns, k + i = ns := ⟨_, rfl⟩
          rw [hns] at D0' S0' T0' harg hne ⊢
          have hcall : ∀ (W : World) (D : Dr w5 (fun g => (Value.slice PS ns cS).ownBlock = some g ∨ (Value.slice PN ns cN).ownBlock = some g) W b k o) (PX PY : Option Addr) (cX cY : Nat) (FX : W.ownsRow w5.heap.size 3 1 (.slice PX m cX) m (VI (ints (ren yy ar)))) (FY : W.ownsRow w5.heap.size 3 1 (.slice PY m cY) m (VI (ints (ren nn ar)))) (hX : ∀ g, (Value.slice PX m cX).ownBlock = some g → ¬ ((Value.slice PS ns cS).ownBlock = some g ∨ (Value.slice PN ns cN).ownBlock = some g)) (hY : ∀ g, (Value.slice PY m cY).ownBlock = some g → ¬ ((Value.slice PS ns cS).ownBlock = some g ∨ (Value.slice PN ns cN).ownBlock = some g)), Calls Try.prog 23 #[.pointer (some ⟨b, 0, none⟩), .agg #[.int .i64 (kd : Int), .int .i64 (kq : Int), .slice PA m cA], .slice PX m cX, .slice PY m cY] W fun e w' => e = .returned (.tuple #[.int .i64 (p1 : Int), .int .i64 (p2 : Int)]) ∧ Dr w5 (fun g => (Value.slice PS ns cS).ownBlock = some g ∨ (Value.slice PN ns cN).ownBlock = some g) w' b k o2 ∧ Dk b W w' := by
            intro W D PX PY cX cY FX FY hX hY
            have hC := dpush_any w5 _ W b k o D hv (by omega) ⟨kd, kq, ar⟩ (.inr trivial) hok.1 (fun e => ⟨(hok.2.1 e).2, (hok.2.1 e).1⟩) (fun e => (hok.2.2.2.1 e).1) hok.2.2.2.2.2.1 hok.2.2.2.2.2.2 (by simp only; omega) (.slice PA m cA) PX PY m cX cY hm _ _ FX FY hX hY
            rw [hpn] at hC
            exact hC
          have hcall := Lib.hid hcall
          have HX := Lib.hid (And.intro hs2 hne)
          have HA := Lib.hid (And.intro hA' (And.intro hm harg))
          obtain ⟨p, hp⟩ : ∃ p, wo2.heap.size = p := ⟨_, rfl⟩
          obtain ⟨wb, hwb⟩ : ∃ wb, wo2.alloc (.cells #[.int .i64 0, .int .i64 0, .slice none 0 0] 41) = wb := ⟨_, rfl⟩
          have Nb : Own wb p 41 #[.int .i64 0, .int .i64 0, .slice none 0 0] := by rw [← hwb, ← hp]; exact Own.new _ _ _
          have Pb : On wo2 wb := by rw [← hwb]; exact (On.refl wo2).alloc _
          obtain ⟨wc, hwc⟩ : ∃ wc, ((wb.setCell ⟨p, 0, none⟩ (.int .i64 (kd : Int))).setCell ⟨p, 1, none⟩ (.int .i64 (kq : Int))).setCell ⟨p, 2, none⟩ (.slice PA m cA) = wc := ⟨_, rfl⟩
          have Nc : Own wc p 41 #[.int .i64 (kd : Int), .int .i64 (kq : Int), .slice PA m cA] := by rw [← hwc]; exact ((Nb.set_ 0 _).set_ 1 _).set_ 2 _
          have Pc : On wo2 wc := by rw [← hwc]; exact On.setCell (On.setCell (On.setCell Pb (p := ⟨p, 0, none⟩) (by show wo2.heap.size ≤ p; omega) _) (p := ⟨p, 1, none⟩) (by show wo2.heap.size ≤ p; omega) _) (p := ⟨p, 2, none⟩) (by show wo2.heap.size ≤ p; omega) _
          obtain ⟨x0, x1, x2⟩ := own3 Nb
          have f0 := Nb.frozen 0
          have f1 := Nb.frozen 1
          have f2 := Nb.frozen 2
          clear Nb Pb
          have D0 := D0'.to Pc
          have S0 := owns_on S0' Pc
          have T0 := owns_on T0' Pc
          have N0 := Nc
          clear hs hs2 hpn hpu hA' hRA hm harg hok hc0' hc1' hc2' hx D0' S0' T0' Nc Pc hne
          have H0 := Lib.hid (And.intro D0 (And.intro N0 (And.intro S0 T0)))
          clear D0 N0 S0 T0
          go_upto_region 15 with fail
          (try rw [hwc])
          obtain ⟨w9s, hw9s⟩ : ∃ w9s, wc = w9s := ⟨_, rfl⟩
          have D0 := H0.out.1
          have N0 := H0.out.2.1
          have S0 := H0.out.2.2.1
          have T0 := H0.out.2.2.2
          rw [hw9s] at D0 N0 S0 T0 ⊢
          have hA : ∀ W, On w5 W → Rd W PA m cA (VI (ints ar)) := fun W k => HA.out.1.on (HO.out.2.2.1.trans (H5.out.1.trans k))
          have harM : ∀ a ∈ ar, a < ns := HA.out.2.2
          clear hc0 hc1 hc2 x0 x1 x2 f0 f1 f2 hwb hwc
          refine wp_region_w (by kernel_rfl) 16 (DQ w5 b k o o2 p1 p2 yy nn PS PN ns cS cN kd kq ar PA m cA p) DQEx (DQK w5 b k o o2 p1 p2 yy nn PS PN ns cS cN kd kq ar PA m cA p) [none, none, none, none, none, none, none, none, none, none, none, some 11, some 12, none, none, none, none, none, none, none, none, none, none, none, none, none, none, none, none, none, none, none, none, none, none, none, none, none, none, none, none, none, none, none, some 44, some 45, some 46, some 47, some 48, some 49, some 50, some 51, some 52, some 53, some 54, some 55, some 56, none, none, none, none, none, none, none, none, none, none, none, none, none, none, none, none, none] (by kernel_rfl) (by kernel_rfl) (by kernel_rfl) rfl ?rgDepDQ ?rgKeepDQ (by decide) ?rgInitDQ ?rgOpsDQ ?rgDoneDQ
          case rgDepDQ =>
            intro j9 f1 f2 W hj hd h
            refine DQ.dep w5 b k o o2 p1 p2 yy nn PS PN ns cS cN kd kq ar PA m cA p hj ?_ h
            rcases DQ.cases hj with rfl | rfl | rfl | rfl | rfl | rfl | rfl | rfl | rfl | rfl | rfl | rfl | rfl | rfl | rfl | rfl <;> first | (intro d hm; simp at hm; done) | (intro d hm; simp at hm; (try rcases hm with rfl | rfl) <;> (try subst hm) <;> exact hd _ (by kernel_rfl))
          case rgKeepDQ =>
            intro i9 j9 f1 W W' hi hj hij hex hw1 hw2 hk h
            unfold DQK at hk
            by_cases h9 : i9 = 9
            · subst h9
              rw [if_pos (by decide)] at hk
              rcases DQ.cases hj with rfl | rfl | rfl | rfl | rfl | rfl | rfl | rfl | rfl | rfl | rfl | rfl | rfl | rfl | rfl | rfl
              · exact h
              · exact h
              · exact h
              · exact h
              · exact absurd rfl hex
              · exact h
              · exact h
              · exact h
              · exact absurd rfl hex
              · exact absurd rfl hij
              · exact h
              · exact h
              · exact h
              · exact h
              · exact h
              · exact absurd rfl hex
            rw [if_neg (by omega)] at hk
            exact DQ.on w5 b k o o2 p1 p2 yy nn PS PN ns cS cN kd kq ar PA m cA p hj hk h
          case rgInitDQ =>
            intro j9 h1 h2
            have h1' : 15 ≤ j9 := h1
            have h2' : j9 < 16 := h2
            obtain rfl : j9 = 15 := by omega
            · exact ⟨_, ⟨D0, N0, S0, T0⟩, (On.refl _).drew⟩
          case rgOpsDQ =>
            refine ⟨?_, ?_, ?_, ?_, ?_, ?_, ?_, ?_, ?_, ?_, ?_, ?_, ?_, ?_, ?_, trivial⟩
            · refine fun a W hp => ob_yes rfl (does_value (w' := W) (v := .agg #[.int .i64 (kd : Int), .int .i64 (kq : Int), .slice PA m cA]) (do_value ?_) (DQK.on w5 b k o o2 p1 p2 yy nn PS PN ns cS cN kd kq ar PA m cA p (by decide) (On.refl W)) (val_eq (by rw [hp.tsize]; exact (show (45 : Nat) < 74 by decide))))
              obtain ⟨W1, ⟨D1, N1, S1, T1⟩, k1⟩ : ∃ W1 : World, (Dr w5 (fun g => (Value.slice PS ns cS).ownBlock = some g ∨ (Value.slice PN ns cN).ownBlock = some g) W1 b k o ∧ Own W1 p 41 #[.int .i64 (kd : Int), .int .i64 (kq : Int), .slice PA m cA] ∧ W1.ownsRow w5.heap.size 3 1 (Value.slice PS ns cS) ns (VI (ints yy)) ∧ W1.ownsRow w5.heap.size 3 1 (Value.slice PN ns cN) ns (VI (ints nn))) ∧ On W1 W := hp.fact 15 (by decide) (.inl (by decide)) (.inr (.inr (by kernel_rfl)))
              obtain ⟨q0, q1, q2⟩ := own3 (N1.on k1)
              clear D1 N1 S1 T1
              (try simp only [List.map_toArray, List.map_cons, List.map_nil])
              rw [show a.eval (.tmp 10) = .pointer (some ⟨p, 0, none⟩) from hp.same 10 (by kernel_rfl)]
              go_simp
              all_goals (rw [IntKind.wrap_i64]; omega)
            · refine fun a W hp => ob_yes rfl (does_value (w' := W) (v := .pointer (some ⟨p, 2, none⟩)) (do_value ?_) (DQK.on w5 b k o o2 p1 p2 yy nn PS PN ns cS cN kd kq ar PA m cA p (by decide) (On.refl W)) (val_eq (by rw [hp.tsize]; exact (show (46 : Nat) < 74 by decide))))
              (try simp only [List.map_toArray, List.map_cons, List.map_nil])
              rw [show a.eval (.tmp 10) = .pointer (some ⟨p, 0, none⟩) from hp.same 10 (by kernel_rfl)]
              go_simp
              all_goals (rw [IntKind.wrap_i64]; omega)
            · refine fun a W hp => ob_yes rfl (does_value (w' := W) (v := .slice PA m cA) (do_value ?_) (DQK.on w5 b k o o2 p1 p2 yy nn PS PN ns cS cN kd kq ar PA m cA p (by decide) (On.refl W)) (val_eq (by rw [hp.tsize]; exact (show (47 : Nat) < 74 by decide))))
              obtain ⟨W1, ⟨D1, N1, S1, T1⟩, k1⟩ : ∃ W1 : World, (Dr w5 (fun g => (Value.slice PS ns cS).ownBlock = some g ∨ (Value.slice PN ns cN).ownBlock = some g) W1 b k o ∧ Own W1 p 41 #[.int .i64 (kd : Int), .int .i64 (kq : Int), .slice PA m cA] ∧ W1.ownsRow w5.heap.size 3 1 (Value.slice PS ns cS) ns (VI (ints yy)) ∧ W1.ownsRow w5.heap.size 3 1 (Value.slice PN ns cN) ns (VI (ints nn))) ∧ On W1 W := hp.fact 15 (by decide) (.inl (by decide)) (.inr (.inr (by kernel_rfl)))
              obtain ⟨q0, q1, q2⟩ := own3 (N1.on k1)
              clear D1 N1 S1 T1
              (try simp only [List.map_toArray, List.map_cons, List.map_nil])
              rw [show a.eval (.tmp 46) = .pointer (some ⟨p, 2, none⟩) from hp.fact 1 (by decide) (.inr (by kernel_rfl)) (.inl (by decide))]
              go_simp
              all_goals (rw [IntKind.wrap_i64]; omega)
            · refine fun a W hp => ob_yes rfl (does_value (w' := W) (v := a.eval (.tmp 6)) rfl (DQK.on w5 b k o o2 p1 p2 yy nn PS PN ns cS cN kd kq ar PA m cA p (by decide) (On.refl W)) ((val_eq (by rw [hp.tsize]; exact (show (48 : Nat) < 74 by decide))).trans (show a.eval (.tmp 6) = Value.slice PS ns cS from hp.same 6 (by kernel_rfl))))
            · refine fun a W hp => ob_yes rfl ?_
              obtain ⟨W1, ⟨D1, N1, S1, T1⟩, k1⟩ : ∃ W1 : World, (Dr w5 (fun g => (Value.slice PS ns cS).ownBlock = some g ∨ (Value.slice PN ns cN).ownBlock = some g) W1 b k o ∧ Own W1 p 41 #[.int .i64 (kd : Int), .int .i64 (kq : Int), .slice PA m cA] ∧ W1.ownsRow w5.heap.size 3 1 (Value.slice PS ns cS) ns (VI (ints yy)) ∧ W1.ownsRow w5.heap.size 3 1 (Value.slice PN ns cN) ns (VI (ints nn))) ∧ On W1 W := hp.fact 15 (by decide) (.inl (by decide)) (.inr (.inr (by kernel_rfl)))
              have D := D1.to k1
              have S := owns_on S1 k1
              have e47 := (show a.eval (.tmp 47) = .slice PA m cA from hp.fact 2 (by decide) (.inr (by kernel_rfl)) (.inl (by decide)))
              have e48 := (show a.eval (.tmp 48) = Value.slice PS ns cS from hp.fact 3 (by decide) (.inr (by kernel_rfl)) (.inl (by decide)))
              simp only [Act.eval, Array.getD_eq_getD_getElem?] at e47 e48
              unfold Does
              go_simp
              (try rw [e47, e48])
              refine (repl_any W W.heap.size (Nat.le_refl _) PA m cA ar (hA W D.on) _ ns cS (ints yy) (rd_of_row S) harM (by omega)).mono ?_
              rintro e w9 ⟨P9, c9, rfl, hrow, hP9⟩
              refine ⟨⟨_, rfl⟩, DQK.on w5 b k o o2 p1 p2 yy nn PS PN ns cS cN kd kq ar PA m cA p (by decide) (hP9), ?_⟩
              rw [renZ_ints] at hrow
              exact ⟨w9, ⟨P9, c9, val_eq (by rw [hp.tsize]; exact (show (49 : Nat) < 74 by decide)), row_low hrow D.on.size, D.fresh hrow⟩, On.refl _⟩
            · refine fun a W hp => ob_yes rfl (does_value (w' := W) (v := .pointer (some ⟨p, 2, none⟩)) (do_value ?_) (DQK.on w5 b k o o2 p1 p2 yy nn PS PN ns cS cN kd kq ar PA m cA p (by decide) (On.refl W)) (val_eq (by rw [hp.tsize]; exact (show (50 : Nat) < 74 by decide))))
              (try simp only [List.map_toArray, List.map_cons, List.map_nil])
              rw [show a.eval (.tmp 10) = .pointer (some ⟨p, 0, none⟩) from hp.same 10 (by kernel_rfl)]
              go_simp
              all_goals (rw [IntKind.wrap_i64]; omega)
            · refine fun a W hp => ob_yes rfl (does_value (w' := W) (v := .slice PA m cA) (do_value ?_) (DQK.on w5 b k o o2 p1 p2 yy nn PS PN ns cS cN kd kq ar PA m cA p (by decide) (On.refl W)) (val_eq (by rw [hp.tsize]; exact (show (51 : Nat) < 74 by decide))))
              obtain ⟨W1, ⟨D1, N1, S1, T1⟩, k1⟩ : ∃ W1 : World, (Dr w5 (fun g => (Value.slice PS ns cS).ownBlock = some g ∨ (Value.slice PN ns cN).ownBlock = some g) W1 b k o ∧ Own W1 p 41 #[.int .i64 (kd : Int), .int .i64 (kq : Int), .slice PA m cA] ∧ W1.ownsRow w5.heap.size 3 1 (Value.slice PS ns cS) ns (VI (ints yy)) ∧ W1.ownsRow w5.heap.size 3 1 (Value.slice PN ns cN) ns (VI (ints nn))) ∧ On W1 W := hp.fact 15 (by decide) (.inl (by decide)) (.inr (.inr (by kernel_rfl)))
              obtain ⟨q0, q1, q2⟩ := own3 (N1.on k1)
              clear D1 N1 S1 T1
              (try simp only [List.map_toArray, List.map_cons, List.map_nil])
              rw [show a.eval (.tmp 50) = .pointer (some ⟨p, 2, none⟩) from hp.fact 5 (by decide) (.inr (by kernel_rfl)) (.inl (by decide))]
              go_simp
              all_goals (rw [IntKind.wrap_i64]; omega)
            · refine fun a W hp => ob_yes rfl (does_value (w' := W) (v := a.eval (.tmp 7)) rfl (DQK.on w5 b k o o2 p1 p2 yy nn PS PN ns cS cN kd kq ar PA m cA p (by decide) (On.refl W)) ((val_eq (by rw [hp.tsize]; exact (show (52 : Nat) < 74 by decide))).trans (show a.eval (.tmp 7) = Value.slice PN ns cN from hp.same 7 (by kernel_rfl))))
            · refine fun a W hp => ob_yes rfl ?_
              obtain ⟨W1, ⟨D1, N1, S1, T1⟩, k1⟩ : ∃ W1 : World, (Dr w5 (fun g => (Value.slice PS ns cS).ownBlock = some g ∨ (Value.slice PN ns cN).ownBlock = some g) W1 b k o ∧ Own W1 p 41 #[.int .i64 (kd : Int), .int .i64 (kq : Int), .slice PA m cA] ∧ W1.ownsRow w5.heap.size 3 1 (Value.slice PS ns cS) ns (VI (ints yy)) ∧ W1.ownsRow w5.heap.size 3 1 (Value.slice PN ns cN) ns (VI (ints nn))) ∧ On W1 W := hp.fact 15 (by decide) (.inl (by decide)) (.inr (.inr (by kernel_rfl)))
              have D := D1.to k1
              have S := owns_on T1 k1
              have e51 := (show a.eval (.tmp 51) = .slice PA m cA from hp.fact 6 (by decide) (.inr (by kernel_rfl)) (.inl (by decide)))
              have e52 := (show a.eval (.tmp 52) = Value.slice PN ns cN from hp.fact 7 (by decide) (.inr (by kernel_rfl)) (.inl (by decide)))
              simp only [Act.eval, Array.getD_eq_getD_getElem?] at e51 e52
              unfold Does
              go_simp
              (try rw [e51, e52])
              refine (repl_any W W.heap.size (Nat.le_refl _) PA m cA ar (hA W D.on) _ ns cN (ints nn) (rd_of_row S) harM (by omega)).mono ?_
              rintro e w9 ⟨P9, c9, rfl, hrow, hP9⟩
              refine ⟨⟨_, rfl⟩, DQK.on w5 b k o o2 p1 p2 yy nn PS PN ns cS cN kd kq ar PA m cA p (by decide) (hP9), ?_⟩
              rw [renZ_ints] at hrow
              exact ⟨w9, ⟨P9, c9, val_eq (by rw [hp.tsize]; exact (show (53 : Nat) < 74 by decide)), row_low hrow D.on.size, D.fresh hrow⟩, On.refl _⟩
            · refine fun a W hp => ob_yes rfl ?_
              obtain ⟨W1, ⟨D1, N1, S1, T1⟩, k1⟩ : ∃ W1 : World, (Dr w5 (fun g => (Value.slice PS ns cS).ownBlock = some g ∨ (Value.slice PN ns cN).ownBlock = some g) W1 b k o ∧ Own W1 p 41 #[.int .i64 (kd : Int), .int .i64 (kq : Int), .slice PA m cA] ∧ W1.ownsRow w5.heap.size 3 1 (Value.slice PS ns cS) ns (VI (ints yy)) ∧ W1.ownsRow w5.heap.size 3 1 (Value.slice PN ns cN) ns (VI (ints nn))) ∧ On W1 W := hp.fact 15 (by decide) (.inl (by decide)) (.inr (.inl rfl))
              have D := D1.to k1
              have S := owns_on S1 k1
              have T := owns_on T1 k1
              obtain ⟨W2, ⟨PX, cX, gX, hrX, hzX⟩, k2⟩ : ∃ W2 : World, (∃ P c, slv a 49 = .slice P m c ∧ W2.ownsRow w5.heap.size 3 1 (.slice P m c) m (VI (ints (ren yy ar))) ∧ ∀ g, (Value.slice P m c).ownBlock = some g → ¬ ((Value.slice PS ns cS).ownBlock = some g ∨ (Value.slice PN ns cN).ownBlock = some g)) ∧ On W2 W := hp.fact 4 (by decide) (.inr (by kernel_rfl)) (.inr (.inl rfl))
              have hRX := owns_on hrX k2
              clear hrX k2
              obtain ⟨W2, ⟨PY, cY, gY, hrY, hzY⟩, k2⟩ : ∃ W2 : World, (∃ P c, slv a 53 = .slice P m c ∧ W2.ownsRow w5.heap.size 3 1 (.slice P m c) m (VI (ints (ren nn ar))) ∧ ∀ g, (Value.slice P m c).ownBlock = some g → ¬ ((Value.slice PS ns cS).ownBlock = some g ∨ (Value.slice PN ns cN).ownBlock = some g)) ∧ On W2 W := hp.fact 8 (by decide) (.inr (by kernel_rfl)) (.inr (.inl rfl))
              have hRY := owns_on hrY k2
              have eX : a.eval (.tmp 49) = .slice PX m cX := gX
              have eY : a.eval (.tmp 53) = .slice PY m cY := gY
              have e5 := (show a.eval (.tmp 5) = .pointer (some ⟨b, 0, none⟩) from hp.same 5 (by kernel_rfl))
              have e45 := (show a.eval (.tmp 45) = .agg #[.int .i64 (kd : Int), .int .i64 (kq : Int), .slice PA m cA] from hp.fact 0 (by decide) (.inr (by kernel_rfl)) (.inl (by decide)))
              simp only [Act.eval, Array.getD_eq_getD_getElem?] at e5 e45 eX eY
              unfold Does
              go_simp
              (try rw [e5, e45, eX, eY])
              refine (hcall.out W D PX PY cX cY hRX hRY hzX hzY).mono ?_
              rintro e w9 ⟨rfl, D9, K9⟩
              refine ⟨⟨_, rfl⟩, DQK.sp w5 b k o o2 p1 p2 yy nn PS PN ns cS cN kd kq ar PA m cA p (by decide) (id), ?_⟩
              exact ⟨w9, ⟨val_eq (by rw [hp.tsize]; exact (show (54 : Nat) < 74 by decide)), D9, D.ints K9 S, D.ints K9 T⟩, On.refl _⟩
            · refine fun a W hp => ?_
              obtain ⟨W2, ⟨g54, _⟩, k2⟩ : ∃ W2 : World, (slv a 54 = .tuple #[.int .i64 (p1 : Int), .int .i64 (p2 : Int)] ∧ Dr w5 (fun g => (Value.slice PS ns cS).ownBlock = some g ∨ (Value.slice PN ns cN).ownBlock = some g) W2 b k o2 ∧ W2.ownsRow w5.heap.size 3 1 (Value.slice PS ns cS) ns (VI (ints yy)) ∧ W2.ownsRow w5.heap.size 3 1 (Value.slice PN ns cN) ns (VI (ints nn))) ∧ On W2 W := hp.fact 9 (by decide) (.inr (by kernel_rfl)) (.inl (by decide))
              exact ob_yes rfl (does_value (w' := W) (v := slv a 54) rfl (DQK.on w5 b k o o2 p1 p2 yy nn PS PN ns cS cN kd kq ar PA m cA p (by decide) (On.refl W)) ((val_eq (by rw [hp.tsize]; exact (show (44 : Nat) < 74 by decide))).trans g54))
            · refine fun a W hp => ob_yes rfl (does_value (w' := W) (v := .int .i64 (p1 : Int)) (do_value ?_) (DQK.on w5 b k o o2 p1 p2 yy nn PS PN ns cS cN kd kq ar PA m cA p (by decide) (On.refl W)) (val_eq (by rw [hp.tsize]; exact (show (55 : Nat) < 74 by decide))))
              (try simp only [List.map_toArray, List.map_cons, List.map_nil])
              rw [show a.eval (.tmp 44) = .tuple #[.int .i64 (p1 : Int), .int .i64 (p2 : Int)] from hp.fact 10 (by decide) (.inr (by kernel_rfl)) (.inl (by decide))]
              go_simp
              all_goals (rw [IntKind.wrap_i64]; omega)
            · refine fun a W hp => ob_yes rfl (does_value (w' := W) (v := .int .i64 (p2 : Int)) (do_value ?_) (DQK.on w5 b k o o2 p1 p2 yy nn PS PN ns cS cN kd kq ar PA m cA p (by decide) (On.refl W)) (val_eq (by rw [hp.tsize]; exact (show (56 : Nat) < 74 by decide))))
              (try simp only [List.map_toArray, List.map_cons, List.map_nil])
              rw [show a.eval (.tmp 44) = .tuple #[.int .i64 (p1 : Int), .int .i64 (p2 : Int)] from hp.fact 10 (by decide) (.inr (by kernel_rfl)) (.inl (by decide))]
              go_simp
              all_goals (rw [IntKind.wrap_i64]; omega)
            · refine fun a W hp => ob_yes rfl (does_value (w' := W) (v := a.eval (.tmp 55)) rfl (DQK.on w5 b k o o2 p1 p2 yy nn PS PN ns cS cN kd kq ar PA m cA p (by decide) (On.refl W)) ((val_eq (by rw [hp.tsize]; exact (show (11 : Nat) < 74 by decide))).trans (show a.eval (.tmp 55) = .int .i64 (p1 : Int) from hp.fact 11 (by decide) (.inr (by kernel_rfl)) (.inl (by decide)))))
            · refine fun a W hp => ob_yes rfl (does_value (w' := W) (v := a.eval (.tmp 56)) rfl (DQK.on w5 b k o o2 p1 p2 yy nn PS PN ns cS cN kd kq ar PA m cA p (by decide) (On.refl W)) ((val_eq (by rw [hp.tsize]; exact (show (12 : Nat) < 74 by decide))).trans (show a.eval (.tmp 56) = .int .i64 (p2 : Int) from hp.fact 12 (by decide) (.inr (by kernel_rfl)) (.inl (by decide)))))
          case rgDoneDQ =>
            intro fv w9 hf
            obtain ⟨W1, ⟨g54, D1, S1, T1⟩, k1⟩ : ∃ W1 : World, (fv 54 = .tuple #[.int .i64 (p1 : Int), .int .i64 (p2 : Int)] ∧ Dr w5 (fun g => (Value.slice PS ns cS).ownBlock = some g ∨ (Value.slice PN ns cN).ownBlock = some g) W1 b k o2 ∧ W1.ownsRow w5.heap.size 3 1 (Value.slice PS ns cS) ns (VI (ints yy)) ∧ W1.ownsRow w5.heap.size 3 1 (Value.slice PN ns cN) ns (VI (ints nn))) ∧ On W1 w9 := hf 9 (by decide) (by decide)
            have g11 : fv 11 = .int .i64 (p1 : Int) := hf 13 (by decide) (by decide)
            have g12 : fv 12 = .int .i64 (p2 : Int) := hf 14 (by decide) (by decide)
            clear hf
            simp only [fillL, g11, g12]
            have D9 := D1.to k1
            have S9 := owns_on S1 k1
            have T9 := owns_on T1 k1
            clear S1 T1 D1 k1 g54 g11 g12
            have hne := HX.out.2
            have HD9 := Lib.hid (And.intro D9 (And.intro S9 T9))
            have hsz9 := D9.on.size
            clear D9 S9 T9 D0 N0 S0 T0 hA harM
            have MIDX : ∀ (v1 : Value) (wa1 : World) (ha1 : wa1.ownsRow w5.heap.size 3 1 v1 (ns + 1) (VI (ints yy) ++ [.int .i64 (p1 : Int)])) (ga1 : (w9.alloc (.cells #[.int .i64 (p1 : Int)] 3)).grownBy wa1 (Value.slice PS ns cS).ownBlock) (ea1 : v1.ownBlock = (Value.slice PS ns cS).ownBlock ∨ v1.ownBlock = some (w9.alloc (.cells #[.int .i64 (p1 : Int)] 3)).heap.size), ∃ PT cT, v1 = .slice PT (ns + 1) cT ∧ Dr w5 (fun g => (Value.slice PT (ns + 1) cT).ownBlock = some g ∨ (Value.slice PN ns cN).ownBlock = some g) wa1 b k o2 ∧ wa1.ownsRow w5.heap.size 3 1 (.slice PN ns cN) ns (VI (ints nn)) ∧ (∀ g, (Value.slice PT (ns + 1) cT).ownBlock = some g → (Value.slice PN ns cN).ownBlock ≠ some g) ∧ wa1.ownsRow w5.heap.size 3 1 (.slice PT (ns + 1) cT) (ns + 1) (VI (ints (yy ++ [p1]))) := by
              intro v1 wa1 ha1 ga1 ea1
              obtain ⟨PT, cT, rfl⟩ := row_form ha1
              have hT := row_alloc HD9.out.2.2 (.cells #[.int .i64 (p1 : Int)] 3)
              refine ⟨PT, cT, rfl, ?_, ?_, ?_, ?_⟩
              · refine (HD9.out.1.to ((On.refl _).alloc (.cells #[.int .i64 (p1 : Int)] 3))).app (row_alloc HD9.out.2.1 _) ga1 (fun g e => .inl e) (fun g e => ?_)
                rcases e with e | e
                · rcases ea1 with e2 | e2
                  · exact .inl (.inl (e2.symm.trans e))
                  · rw [e2] at e; injection e with e; subst e
                    exact .inr ⟨Nat.le_refl _, (row_blk ha1 e2).2.1⟩
                · exact .inl (.inr e)
              · exact row_byI' hT ga1 (fun g e e2 => hne g e2 e)
              · intro g e
                rcases ea1 with e2 | e2
                · exact hne g (e2.symm.trans e)
                · intro e3
                  rw [e2] at e; injection e with e; subst e
                  have := (row_blk hT e3).2.1; omega
              · have e2 : VI (ints (yy ++ [p1])) = VI (ints yy) ++ [.int .i64 (p1 : Int)] := by rw [ints_snoc]; simp [VI]
                rw [e2]; exact ha1
            have MIDX := Lib.hid MIDX
            go_wp2_with (at_builtin; first | (refine wpList_app rfl (.tmp 57) (.tmp 59) 39 rfl w5.heap.size 3 (.int .i64 0) 8 Try.underlying39 infoi rfl (by decide) (.slice PS ns cS) _ _ rfl (row_alloc HD9.out.2.1 _) (some ⟨w9.heap.size, 0, none⟩) 1 1 [.int .i64 (p1 : Int)] rfl (rd_one _ _ _) (by simp [Value.oneCell']) (by omega) (by simp; omega) ?_; intro v1 wa1 ha1 ga1 ea1; obtain ⟨PT, cT, rfl, hMd⟩ := MIDX.out _ _ ha1 ga1 ea1; have HB := Lib.hid hMd; have hsza := hMd.1.on.size; clear hMd ha1 ga1 ea1) | (refine wpList_app rfl (.tmp 61) (.tmp 63) 39 rfl w5.heap.size 3 (.int .i64 0) 8 Try.underlying39 infoi rfl (by decide) (.slice PN ns cN) _ _ rfl (row_alloc HB.out.2.1 _) (some ⟨wa1.heap.size, 0, none⟩) 1 1 [.int .i64 (p2 : Int)] rfl (rd_one _ _ _) (by simp [Value.oneCell']) (by omega) (by simp; omega) ?_; intro v2 wa2 ha2 ga2 ea2))
            go_roundw
            case rel =>
              obtain ⟨PU, cU, rfl⟩ := row_form ha2
              have hS := row_alloc HB.out.2.2.2 (.cells #[.int .i64 (p2 : Int)] 3)
              refine ⟨i + 1, by omega, by go_num, PT, cT, PU, cU, by rw [← hns]; rfl, by rw [← hns]; rfl, ?_, ?_, ?_, ?_⟩
              · rw [HX.out.1, ← Nat.add_assoc, hns]
                refine (HB.out.1.to ((On.refl _).alloc (.cells #[.int .i64 (p2 : Int)] 3))).app (row_alloc HB.out.2.1 _) ga2 (fun g e => .inr e) (fun g e => ?_)
                rcases e with e | e
                · exact .inl (.inl e)
                · rcases ea2 with e2 | e2
                  · exact .inl (.inr (e2.symm.trans e))
                  · rw [e2] at e; injection e with e; subst e
                    exact .inr ⟨Nat.le_refl _, (row_blk ha2 e2).2.1⟩
              · rw [HX.out.1, ← Nat.add_assoc, hns]
                exact row_byI' hS ga2 (fun g e e2 => HB.out.2.2.1 g e e2)
              · rw [HX.out.1, ← Nat.add_assoc, hns]
                have e2 : VI (ints (nn ++ [p2])) = VI (ints nn) ++ [.int .i64 (p2 : Int)] := by rw [ints_snoc]; simp [VI]
                rw [e2]; exact ha2
              · rw [← Nat.add_assoc, hns]
                intro g e e3
                rcases ea2 with e2 | e2
                · exact HB.out.2.2.1 g e (e2.symm.trans e3)
                · rw [e2] at e3; injection e3 with e3; subst e3
                  have := (row_blk hS e).2.1; omega
            case measure => simp [intOf] <;> omega
        · obtain rfl : i = n := by omega
          have htm : tp < k + i := htop
          obtain ⟨gt', hgt⟩ : ∃ g, (puTo f i).y.getD tp 0 = g := ⟨_, rfl⟩
          obtain ⟨gS, rfl⟩ := row_some S0' (by omega)
          have hc := row_cellG S0' htm hgt
          have hTr : pushF f = ⟨k, (puTo f i).o, gt'⟩ := by unfold pushF; rw [HF.out.2, hVV, htp, hgt]
          have hwf := pushF_wf HF.out.1
          rw [hTr] at hwf
          have hC := dtrim_any (N := 12000) (by decide) w5 _ wo2 b k _ D0' gt' hwf
          rw [← hTr] at hC
          have hpp : trim (pushF f) = push f := rfl
          rw [hpp] at hC
          have O9 := H5.out.2.1.on D0'.on
          obtain ⟨q0, q1, q2⟩ := own3 O9
          have C9 := HO.out.2.1.on (H5.out.1.trans D0'.on)
          have hcap5 := (rd_of_row S0').cap
          have hmax5 := (rd_of_row S0').max
          have Pwo := HO.out.2.2.1.trans (H5.out.1.trans D0'.on)
          have hsz9 := D0'.on.size
          have HW := Lib.hid (And.intro C9 Pwo)
          clear D0' S0' T0' C9 Pwo hTr O9 hwf hne
          go_wp2_with fail
          refine hC.mono ?_
          rintro e w8 ⟨hMP, P8'⟩
          clear hC hc q0 q1 q2
          have C8 := HW.out.1.on P8'
          have P8 := HW.out.2.trans P8'
          have hqs : w.heap.size ≤ q + 1 := by omega
          have hqb : q + 1 < wo2.heap.size := HW.out.1.lt
          obtain ⟨e0, e1, e2⟩ := own3 C8
          have g0 := C8.frozen 0
          have g1 := C8.frozen 1
          have g2 := C8.frozen 2
          rcases hMP with ⟨hle, A', c', rfl, hRR⟩ | ⟨hgt2, rfl⟩
          · obtain ⟨tv, htv⟩ : ∃ z, (push f).vars = z := ⟨_, rfl⟩
            obtain ⟨tt, htt⟩ : ∃ z, (push f).top = z := ⟨_, rfl⟩
            obtain ⟨tn, htn⟩ : ∃ z, (push f).nodes.length = z := ⟨_, rfl⟩
            have HT := Lib.hid (And.intro htv (And.intro htt htn))
            rw [htv, htt, htn]
            rw [htn] at hRR hle
            clear htv htt htn
            have OF := ((C8.set_ 0 (.int .i64 (tv : Int))).set_ 1 (.slice A' tn c')).set_ 2 (.int .i64 (tt : Int))
            obtain ⟨x0, x1, x2⟩ := own3 (show Own _ (q + 1) 24 #[.int .i64 (tv : Int), .slice A' tn c', .int .i64 (tt : Int)] from OF)
            have P9 := On.setCell (On.setCell (On.setCell P8 (p := ⟨q + 1, 0, none⟩) hqs (.int .i64 (tv : Int))) (p := ⟨q + 1, 1, none⟩) hqs (.slice A' tn c')) (p := ⟨q + 1, 2, none⟩) hqs (.int .i64 (tt : Int))
            have R9 := ((hRR.far (p := ⟨q + 1, 0, none⟩) hqb (.int .i64 (tv : Int))).far (p := ⟨q + 1, 1, none⟩) hqb (.slice A' tn c')).far (p := ⟨q + 1, 2, none⟩) hqb (.int .i64 (tt : Int))
            have HZ := Lib.hid (And.intro hle (And.intro P9 R9))
            clear OF P9 hle C8 R9 hRR P8
            go_wp2
            refine bodyPost_ret (v := .tuple #[.agg #[.int .i64 (tv : Int), .slice A' tn c', .int .i64 (tt : Int)], .nilIface]) (by simp [results, Try.results9, go_sem, x0, x1, x2]) rfl ⟨.inl ?_, HZ.out.2.1⟩
            rw [HT.out.1, HT.out.2.1, HT.out.2.2]
            exact ⟨HZ.out.1, A', c', rfl, HZ.out.2.2.rd.2⟩
          · have OF := ((C8.set_ 0 (.int .i64 0)).set_ 1 (.slice none 0 0)).set_ 2 (.int .i64 0)
            obtain ⟨x0, x1, x2⟩ := own3 (show Own _ (q + 1) 24 #[.int .i64 0, .slice none 0 0, .int .i64 0] from OF)
            have P9 := On.setCell (On.setCell (On.setCell P8 (p := ⟨q + 1, 0, none⟩) hqs (.int .i64 0)) (p := ⟨q + 1, 1, none⟩) hqs (.slice none 0 0)) (p := ⟨q + 1, 2, none⟩) hqs (.int .i64 0)
            have HZ := Lib.hid (And.intro hgt2 P9)
            clear OF P9 hgt2 C8 P8
            rw [errV_pos 4 (by decide)]
            go_wp2
            refine bodyPost_ret (v := .tuple #[.agg #[.int .i64 0, .slice none 0 0, .int .i64 0], errV 4]) (by rw [errV_pos 4 (by decide)]; simp [results, Try.results9, go_sem, x0, x1, x2]) rfl ⟨.inr ⟨HZ.out.1, rfl⟩, HZ.out.2⟩
end Go.Proofs.Ytmkogcaafkobaaa.Fm
