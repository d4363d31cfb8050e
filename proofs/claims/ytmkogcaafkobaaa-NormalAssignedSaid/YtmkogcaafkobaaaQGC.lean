/-
  Drafts: trimmed.
-/
import Derived.Test.YtmkogcaafkobaaaQGA
import Derived.Test.YtmkogcaafkobaaaQGB
import Derived.Test.YtmkogcaafkobaaaFt
import Derived.Test.YtmkogcaafkobaaaJr
import Derived.Test.YtmkogcaafkobaaaJGC
namespace Go.Proofs.Ytmkogcaafkobaaa.Fm
open Go.RowKit Go.Proofs.Ytmkogcaafkobaaa.Sb Go.Proofs.Ytmkogcaafkobaaa.Rgv
set_option linter.unusedVariables false
set_option maxRecDepth 100000
theorem ints_set (l : List Nat) (i r : Nat) : (ints l).set i (r : Int) = ints (l.set i r) := by simp [ints, List.map_set]
def DT3 (wa : World) (b : Nat) (b7 : Nat) (V : Nat) (A0 : Option Addr) (n : Nat) (c0 : Nat) (M : Nat) (i : Nat) (f : Tmp → Value) (w : World) : Prop :=
  match i with
  | 0 => f 19 = .pointer (some ⟨b, 0, none⟩)
  | 1 => f 20 = .pointer (some ⟨b, 0, none⟩)
  | 2 => f 21 = .pointer (some ⟨b, 0, none⟩)
  | 3 => f 22 = .int .i64 (V : Int)
  | 4 => ∃ W1 : World, (∃ g, f 23 = .slice (some ⟨g, 0, none⟩) V V ∧ wa.heap.size ≤ g ∧ Own W1 g 3 (VI (ints (List.range V))).toArray ∧ Dr wa (fun g1 => g1 = g) W1 b7 V []) ∧ On W1 w
  | 5 => f 24 = .pointer (some ⟨b, 0, none⟩)
  | 6 => f 25 = .pointer (some ⟨b, 0, none⟩)
  | 7 => f 26 = .pointer (some ⟨b, 1, none⟩)
  | 8 => f 27 = .slice A0 n c0
  | 9 => f 28 = .int .i64 (n : Int)
  | 10 => ∃ W1 : World, (∃ gs cs : Nat, f 29 = .slice (some ⟨gs, 0, none⟩) M cs ∧ W1.ownsRow wa.heap.size 3 1 (.slice (some ⟨gs, 0, none⟩) M cs) M (VI (ints (List.range V ++ List.replicate n 0))) ∧ Dr wa (fun g1 => g1 = gs) W1 b7 V []) ∧ On W1 w
  | 11 => ∃ W1 : World, (∃ gs cs : Nat, f 8 = .slice (some ⟨gs, 0, none⟩) M cs ∧ W1.ownsRow wa.heap.size 3 1 (.slice (some ⟨gs, 0, none⟩) M cs) M (VI (ints (List.range V ++ List.replicate n 0))) ∧ Dr wa (fun g1 => g1 = gs) W1 b7 V []) ∧ On W1 w
  | 12 => ∃ W1 : World, (Dr wa (fun _ => False) W1 b7 V [] ∧ Own W1 b 56 #[.int .i64 (V : Int), .slice A0 n c0]) ∧ On W1 w
  | _ => True
def DT3Ex (i : Nat) : Nat := if i = 4 then 10 else if i = 10 then 11 else if i = 12 then 10 else 100
def DT3K (wa : World) (b : Nat) (b7 : Nat) (V : Nat) (A0 : Option Addr) (n : Nat) (c0 : Nat) (M : Nat) (i : Nat) (w w' : World) : Prop := if i = 10 then (True → True) else On w w'
theorem DT3K.on (wa : World) (b : Nat) (b7 : Nat) (V : Nat) (A0 : Option Addr) (n : Nat) (c0 : Nat) (M : Nat) {i : Nat} {w w' : World} (h : ¬ (i = 10)) (k9 : On w w') : DT3K wa b b7 V A0 n c0 M i w w' := by unfold DT3K; rw [if_neg h]; exact k9
theorem DT3K.sp (wa : World) (b : Nat) (b7 : Nat) (V : Nat) (A0 : Option Addr) (n : Nat) (c0 : Nat) (M : Nat) {i : Nat} {w w' : World} (h : i = 10) (k9 : True → True) : DT3K wa b b7 V A0 n c0 M i w w' := by unfold DT3K; rw [if_pos h]; exact k9
theorem DT3.cases {j : Nat} (h : j < 13) : j = 0 ∨ j = 1 ∨ j = 2 ∨ j = 3 ∨ j = 4 ∨ j = 5 ∨ j = 6 ∨ j = 7 ∨ j = 8 ∨ j = 9 ∨ j = 10 ∨ j = 11 ∨ j = 12 := by omega
theorem DT3.on (wa : World) (b : Nat) (b7 : Nat) (V : Nat) (A0 : Option Addr) (n : Nat) (c0 : Nat) (M : Nat) {j : Nat} (hj : j < 13) {f : Tmp → Value} {w w' : World} (k9 : On w w') (h : DT3 wa b b7 V A0 n c0 M j f w) : DT3 wa b b7 V A0 n c0 M j f w' := by
  rcases DT3.cases hj with rfl | rfl | rfl | rfl | rfl | rfl | rfl | rfl | rfl | rfl | rfl | rfl | rfl
  · exact h
  · exact h
  · exact h
  · exact h
  · obtain ⟨W1, h1, h2⟩ := (show ∃ W1 : World, (∃ g, f 23 = .slice (some ⟨g, 0, none⟩) V V ∧ wa.heap.size ≤ g ∧ Own W1 g 3 (VI (ints (List.range V))).toArray ∧ Dr wa (fun g1 => g1 = g) W1 b7 V []) ∧ On W1 w from h)
    exact ⟨W1, h1, h2.trans k9⟩
  · exact h
  · exact h
  · exact h
  · exact h
  · exact h
  · obtain ⟨W1, h1, h2⟩ := (show ∃ W1 : World, (∃ gs cs : Nat, f 29 = .slice (some ⟨gs, 0, none⟩) M cs ∧ W1.ownsRow wa.heap.size 3 1 (.slice (some ⟨gs, 0, none⟩) M cs) M (VI (ints (List.range V ++ List.replicate n 0))) ∧ Dr wa (fun g1 => g1 = gs) W1 b7 V []) ∧ On W1 w from h)
    exact ⟨W1, h1, h2.trans k9⟩
  · obtain ⟨W1, h1, h2⟩ := (show ∃ W1 : World, (∃ gs cs : Nat, f 8 = .slice (some ⟨gs, 0, none⟩) M cs ∧ W1.ownsRow wa.heap.size 3 1 (.slice (some ⟨gs, 0, none⟩) M cs) M (VI (ints (List.range V ++ List.replicate n 0))) ∧ Dr wa (fun g1 => g1 = gs) W1 b7 V []) ∧ On W1 w from h)
    exact ⟨W1, h1, h2.trans k9⟩
  · obtain ⟨W1, h1, h2⟩ := (show ∃ W1 : World, (Dr wa (fun _ => False) W1 b7 V [] ∧ Own W1 b 56 #[.int .i64 (V : Int), .slice A0 n c0]) ∧ On W1 w from h)
    exact ⟨W1, h1, h2.trans k9⟩
theorem DT3.dep (wa : World) (b : Nat) (b7 : Nat) (V : Nat) (A0 : Option Addr) (n : Nat) (c0 : Nat) (M : Nat) {j : Nat} (hj : j < 13) {f f' : Tmp → Value} {w : World} (hd : ∀ d, d ∈ (match j with | 0 => [19] | 1 => [20] | 2 => [21] | 3 => [22] | 4 => [23] | 5 => [24] | 6 => [25] | 7 => [26] | 8 => [27] | 9 => [28] | 10 => [29] | 11 => [8] | 12 => [] | _ => []) → f d = f' d) (h : DT3 wa b b7 V A0 n c0 M j f w) : DT3 wa b b7 V A0 n c0 M j f' w := by
  rcases DT3.cases hj with rfl | rfl | rfl | rfl | rfl | rfl | rfl | rfl | rfl | rfl | rfl | rfl | rfl
  · have h' : f 19 = .pointer (some ⟨b, 0, none⟩) := h
    simp only [hd 19 (by simp)] at h'
    exact h'
  · have h' : f 20 = .pointer (some ⟨b, 0, none⟩) := h
    simp only [hd 20 (by simp)] at h'
    exact h'
  · have h' : f 21 = .pointer (some ⟨b, 0, none⟩) := h
    simp only [hd 21 (by simp)] at h'
    exact h'
  · have h' : f 22 = .int .i64 (V : Int) := h
    simp only [hd 22 (by simp)] at h'
    exact h'
  · have h' : ∃ W1 : World, (∃ g, f 23 = .slice (some ⟨g, 0, none⟩) V V ∧ wa.heap.size ≤ g ∧ Own W1 g 3 (VI (ints (List.range V))).toArray ∧ Dr wa (fun g1 => g1 = g) W1 b7 V []) ∧ On W1 w := h
    simp only [hd 23 (by simp)] at h'
    exact h'
  · have h' : f 24 = .pointer (some ⟨b, 0, none⟩) := h
    simp only [hd 24 (by simp)] at h'
    exact h'
  · have h' : f 25 = .pointer (some ⟨b, 0, none⟩) := h
    simp only [hd 25 (by simp)] at h'
    exact h'
  · have h' : f 26 = .pointer (some ⟨b, 1, none⟩) := h
    simp only [hd 26 (by simp)] at h'
    exact h'
  · have h' : f 27 = .slice A0 n c0 := h
    simp only [hd 27 (by simp)] at h'
    exact h'
  · have h' : f 28 = .int .i64 (n : Int) := h
    simp only [hd 28 (by simp)] at h'
    exact h'
  · have h' : ∃ W1 : World, (∃ gs cs : Nat, f 29 = .slice (some ⟨gs, 0, none⟩) M cs ∧ W1.ownsRow wa.heap.size 3 1 (.slice (some ⟨gs, 0, none⟩) M cs) M (VI (ints (List.range V ++ List.replicate n 0))) ∧ Dr wa (fun g1 => g1 = gs) W1 b7 V []) ∧ On W1 w := h
    simp only [hd 29 (by simp)] at h'
    exact h'
  · have h' : ∃ W1 : World, (∃ gs cs : Nat, f 8 = .slice (some ⟨gs, 0, none⟩) M cs ∧ W1.ownsRow wa.heap.size 3 1 (.slice (some ⟨gs, 0, none⟩) M cs) M (VI (ints (List.range V ++ List.replicate n 0))) ∧ Dr wa (fun g1 => g1 = gs) W1 b7 V []) ∧ On W1 w := h
    simp only [hd 8 (by simp)] at h'
    exact h'
  · have h' : ∃ W1 : World, (Dr wa (fun _ => False) W1 b7 V [] ∧ Own W1 b 56 #[.int .i64 (V : Int), .slice A0 n c0]) ∧ On W1 w := h
    exact h'
def DT8 (wa : World) (b : Nat) (b7 : Nat) (V : Nat) (A0 : Option Addr) (n : Nat) (c0 : Nat) (M : Nat) (gs : Nat) (cs : Nat) (num : List Nat) (o : List Nn) (r : Nat) (kd : Nat) (kq : Nat) (ar : List Nat) (PA : Option Addr) (m : Nat) (cA : Nat) (p : Nat) (ii : Nat) (jj : Nat) (i : Nat) (f : Tmp → Value) (w : World) : Prop :=
  match i with
  | 0 => f 49 = .slice (some ⟨gs, 0, none⟩) M cs
  | 1 => f 50 = .pointer (some ⟨b, 0, none⟩)
  | 2 => f 51 = .pointer (some ⟨b, 0, none⟩)
  | 3 => f 52 = .pointer (some ⟨b, 0, none⟩)
  | 4 => f 53 = .int .i64 (V : Int)
  | 5 => f 54 = .int .i64 (ii : Int)
  | 6 => f 55 = .int .i64 (jj : Int)
  | 7 => f 56 = .pointer (some ⟨p, 0, none⟩)
  | 8 => f 57 = .int .i64 (kd : Int)
  | 9 => f 58 = .pointer (some ⟨p, 1, none⟩)
  | 10 => f 59 = .int .i64 (kq : Int)
  | 11 => f 60 = .pointer (some ⟨p, 2, none⟩)
  | 12 => f 61 = .slice PA m cA
  | 13 => f 62 = .slice (some ⟨gs, 0, none⟩) M cs
  | 14 => ∃ W1 : World, (∃ P c, f 63 = .slice P m c ∧ W1.ownsRow wa.heap.size 3 1 (.slice P m c) m (VI (ints (ren num ar))) ∧ ∀ g, (Value.slice P m c).ownBlock = some g → ¬ g = gs) ∧ On W1 w
  | 15 => ∃ W1 : World, (f 64 = .int .i64 (r : Int) ∧ Dr wa (fun g => g = gs) W1 b7 V (o ++ [(⟨kd, kq, ren num ar⟩ : Nn)]) ∧ W1.ownsRow wa.heap.size 3 1 (.slice (some ⟨gs, 0, none⟩) M cs) M (VI (ints num))) ∧ On W1 w
  | 16 => f 65 = .pointer (some ⟨gs, jj, none⟩)
  | 17 => ∃ W1 : World, (Dr wa (fun g => g = gs) W1 b7 V (o ++ [(⟨kd, kq, ren num ar⟩ : Nn)]) ∧ W1.ownsRow wa.heap.size 3 1 (.slice (some ⟨gs, 0, none⟩) M cs) M (VI (ints (num.set jj r)))) ∧ On W1 w
  | 18 => ∃ W1 : World, (Dr wa (fun g => g = gs) W1 b7 V o ∧ Own W1 p 41 #[.int .i64 (kd : Int), .int .i64 (kq : Int), .slice PA m cA] ∧ W1.ownsRow wa.heap.size 3 1 (.slice (some ⟨gs, 0, none⟩) M cs) M (VI (ints num))) ∧ On W1 w
  | 19 => Own w b 56 #[.int .i64 (V : Int), .slice A0 n c0]
  | _ => True
def DT8Ex (i : Nat) : Nat := if i = 14 then 15 else if i = 15 then 17 else if i = 18 then 15 else 100
def DT8K (wa : World) (b : Nat) (b7 : Nat) (V : Nat) (A0 : Option Addr) (n : Nat) (c0 : Nat) (M : Nat) (gs : Nat) (cs : Nat) (num : List Nat) (o : List Nn) (r : Nat) (kd : Nat) (kq : Nat) (ar : List Nat) (PA : Option Addr) (m : Nat) (cA : Nat) (p : Nat) (ii : Nat) (jj : Nat) (i : Nat) (w w' : World) : Prop := if i = 15 ∨ i = 17 then (Own w b 56 #[.int .i64 (V : Int), .slice A0 n c0] → Own w' b 56 #[.int .i64 (V : Int), .slice A0 n c0]) else On w w'
theorem DT8K.on (wa : World) (b : Nat) (b7 : Nat) (V : Nat) (A0 : Option Addr) (n : Nat) (c0 : Nat) (M : Nat) (gs : Nat) (cs : Nat) (num : List Nat) (o : List Nn) (r : Nat) (kd : Nat) (kq : Nat) (ar : List Nat) (PA : Option Addr) (m : Nat) (cA : Nat) (p : Nat) (ii : Nat) (jj : Nat) {i : Nat} {w w' : World} (h : ¬ (i = 15 ∨ i = 17)) (k9 : On w w') : DT8K wa b b7 V A0 n c0 M gs cs num o r kd kq ar PA m cA p ii jj i w w' := by unfold DT8K; rw [if_neg h]; exact k9
theorem DT8K.sp (wa : World) (b : Nat) (b7 : Nat) (V : Nat) (A0 : Option Addr) (n : Nat) (c0 : Nat) (M : Nat) (gs : Nat) (cs : Nat) (num : List Nat) (o : List Nn) (r : Nat) (kd : Nat) (kq : Nat) (ar : List Nat) (PA : Option Addr) (m : Nat) (cA : Nat) (p : Nat) (ii : Nat) (jj : Nat) {i : Nat} {w w' : World} (h : i = 15 ∨ i = 17) (k9 : Own w b 56 #[.int .i64 (V : Int), .slice A0 n c0] → Own w' b 56 #[.int .i64 (V : Int), .slice A0 n c0]) : DT8K wa b b7 V A0 n c0 M gs cs num o r kd kq ar PA m cA p ii jj i w w' := by unfold DT8K; rw [if_pos h]; exact k9
theorem DT8.cases {j : Nat} (h : j < 20) : j = 0 ∨ j = 1 ∨ j = 2 ∨ j = 3 ∨ j = 4 ∨ j = 5 ∨ j = 6 ∨ j = 7 ∨ j = 8 ∨ j = 9 ∨ j = 10 ∨ j = 11 ∨ j = 12 ∨ j = 13 ∨ j = 14 ∨ j = 15 ∨ j = 16 ∨ j = 17 ∨ j = 18 ∨ j = 19 := by omega
theorem DT8.on (wa : World) (b : Nat) (b7 : Nat) (V : Nat) (A0 : Option Addr) (n : Nat) (c0 : Nat) (M : Nat) (gs : Nat) (cs : Nat) (num : List Nat) (o : List Nn) (r : Nat) (kd : Nat) (kq : Nat) (ar : List Nat) (PA : Option Addr) (m : Nat) (cA : Nat) (p : Nat) (ii : Nat) (jj : Nat) {j : Nat} (hj : j < 20) {f : Tmp → Value} {w w' : World} (k9 : On w w') (h : DT8 wa b b7 V A0 n c0 M gs cs num o r kd kq ar PA m cA p ii jj j f w) : DT8 wa b b7 V A0 n c0 M gs cs num o r kd kq ar PA m cA p ii jj j f w' := by
  rcases DT8.cases hj with rfl | rfl | rfl | rfl | rfl | rfl | rfl | rfl | rfl | rfl | rfl | rfl | rfl | rfl | rfl | rfl | rfl | rfl | rfl | rfl
  · exact h
  · exact h
  · exact h
  · exact h
  · exact h
  · exact h
  · exact h
  · exact h
  · exact h
  · exact h
  · exact h
  · exact h
  · exact h
  · exact h
  · obtain ⟨W1, h1, h2⟩ := (show ∃ W1 : World, (∃ P c, f 63 = .slice P m c ∧ W1.ownsRow wa.heap.size 3 1 (.slice P m c) m (VI (ints (ren num ar))) ∧ ∀ g, (Value.slice P m c).ownBlock = some g → ¬ g = gs) ∧ On W1 w from h)
    exact ⟨W1, h1, h2.trans k9⟩
  · obtain ⟨W1, h1, h2⟩ := (show ∃ W1 : World, (f 64 = .int .i64 (r : Int) ∧ Dr wa (fun g => g = gs) W1 b7 V (o ++ [(⟨kd, kq, ren num ar⟩ : Nn)]) ∧ W1.ownsRow wa.heap.size 3 1 (.slice (some ⟨gs, 0, none⟩) M cs) M (VI (ints num))) ∧ On W1 w from h)
    exact ⟨W1, h1, h2.trans k9⟩
  · exact h
  · obtain ⟨W1, h1, h2⟩ := (show ∃ W1 : World, (Dr wa (fun g => g = gs) W1 b7 V (o ++ [(⟨kd, kq, ren num ar⟩ : Nn)]) ∧ W1.ownsRow wa.heap.size 3 1 (.slice (some ⟨gs, 0, none⟩) M cs) M (VI (ints (num.set jj r)))) ∧ On W1 w from h)
    exact ⟨W1, h1, h2.trans k9⟩
  · obtain ⟨W1, h1, h2⟩ := (show ∃ W1 : World, (Dr wa (fun g => g = gs) W1 b7 V o ∧ Own W1 p 41 #[.int .i64 (kd : Int), .int .i64 (kq : Int), .slice PA m cA] ∧ W1.ownsRow wa.heap.size 3 1 (.slice (some ⟨gs, 0, none⟩) M cs) M (VI (ints num))) ∧ On W1 w from h)
    exact ⟨W1, h1, h2.trans k9⟩
  · have h := (show Own w b 56 #[.int .i64 (V : Int), .slice A0 n c0] from h)
    exact h.on k9
theorem DT8.dep (wa : World) (b : Nat) (b7 : Nat) (V : Nat) (A0 : Option Addr) (n : Nat) (c0 : Nat) (M : Nat) (gs : Nat) (cs : Nat) (num : List Nat) (o : List Nn) (r : Nat) (kd : Nat) (kq : Nat) (ar : List Nat) (PA : Option Addr) (m : Nat) (cA : Nat) (p : Nat) (ii : Nat) (jj : Nat) {j : Nat} (hj : j < 20) {f f' : Tmp → Value} {w : World} (hd : ∀ d, d ∈ (match j with | 0 => [49] | 1 => [50] | 2 => [51] | 3 => [52] | 4 => [53] | 5 => [54] | 6 => [55] | 7 => [56] | 8 => [57] | 9 => [58] | 10 => [59] | 11 => [60] | 12 => [61] | 13 => [62] | 14 => [63] | 15 => [64] | 16 => [65] | 17 => [] | 18 => [] | 19 => [] | _ => []) → f d = f' d) (h : DT8 wa b b7 V A0 n c0 M gs cs num o r kd kq ar PA m cA p ii jj j f w) : DT8 wa b b7 V A0 n c0 M gs cs num o r kd kq ar PA m cA p ii jj j f' w := by
  rcases DT8.cases hj with rfl | rfl | rfl | rfl | rfl | rfl | rfl | rfl | rfl | rfl | rfl | rfl | rfl | rfl | rfl | rfl | rfl | rfl | rfl | rfl
  · have h' : f 49 = .slice (some ⟨gs, 0, none⟩) M cs := h
    simp only [hd 49 (by simp)] at h'
    exact h'
  · have h' : f 50 = .pointer (some ⟨b, 0, none⟩) := h
    simp only [hd 50 (by simp)] at h'
    exact h'
  · have h' : f 51 = .pointer (some ⟨b, 0, none⟩) := h
    simp only [hd 51 (by simp)] at h'
    exact h'
  · have h' : f 52 = .pointer (some ⟨b, 0, none⟩) := h
    simp only [hd 52 (by simp)] at h'
    exact h'
  · have h' : f 53 = .int .i64 (V : Int) := h
    simp only [hd 53 (by simp)] at h'
    exact h'
  · have h' : f 54 = .int .i64 (ii : Int) := h
    simp only [hd 54 (by simp)] at h'
    exact h'
  · have h' : f 55 = .int .i64 (jj : Int) := h
    simp only [hd 55 (by simp)] at h'
    exact h'
  · have h' : f 56 = .pointer (some ⟨p, 0, none⟩) := h
    simp only [hd 56 (by simp)] at h'
    exact h'
  · have h' : f 57 = .int .i64 (kd : Int) := h
    simp only [hd 57 (by simp)] at h'
    exact h'
  · have h' : f 58 = .pointer (some ⟨p, 1, none⟩) := h
    simp only [hd 58 (by simp)] at h'
    exact h'
  · have h' : f 59 = .int .i64 (kq : Int) := h
    simp only [hd 59 (by simp)] at h'
    exact h'
  · have h' : f 60 = .pointer (some ⟨p, 2, none⟩) := h
    simp only [hd 60 (by simp)] at h'
    exact h'
  · have h' : f 61 = .slice PA m cA := h
    simp only [hd 61 (by simp)] at h'
    exact h'
  · have h' : f 62 = .slice (some ⟨gs, 0, none⟩) M cs := h
    simp only [hd 62 (by simp)] at h'
    exact h'
  · have h' : ∃ W1 : World, (∃ P c, f 63 = .slice P m c ∧ W1.ownsRow wa.heap.size 3 1 (.slice P m c) m (VI (ints (ren num ar))) ∧ ∀ g, (Value.slice P m c).ownBlock = some g → ¬ g = gs) ∧ On W1 w := h
    simp only [hd 63 (by simp)] at h'
    exact h'
  · have h' : ∃ W1 : World, (f 64 = .int .i64 (r : Int) ∧ Dr wa (fun g => g = gs) W1 b7 V (o ++ [(⟨kd, kq, ren num ar⟩ : Nn)]) ∧ W1.ownsRow wa.heap.size 3 1 (.slice (some ⟨gs, 0, none⟩) M cs) M (VI (ints num))) ∧ On W1 w := h
    simp only [hd 64 (by simp)] at h'
    exact h'
  · have h' : f 65 = .pointer (some ⟨gs, jj, none⟩) := h
    simp only [hd 65 (by simp)] at h'
    exact h'
  · have h' : ∃ W1 : World, (Dr wa (fun g => g = gs) W1 b7 V (o ++ [(⟨kd, kq, ren num ar⟩ : Nn)]) ∧ W1.ownsRow wa.heap.size 3 1 (.slice (some ⟨gs, 0, none⟩) M cs) M (VI (ints (num.set jj r)))) ∧ On W1 w := h
    exact h'
  · have h' : ∃ W1 : World, (Dr wa (fun g => g = gs) W1 b7 V o ∧ Own W1 p 41 #[.int .i64 (kd : Int), .int .i64 (kq : Int), .slice PA m cA] ∧ W1.ownsRow wa.heap.size 3 1 (.slice (some ⟨gs, 0, none⟩) M cs) M (VI (ints num))) ∧ On W1 w := h
    exact h'
  · have h' : Own w b 56 #[.int .i64 (V : Int), .slice A0 n c0] := h
    exact h'
set_option maxHeartbeats 16000000 in
theorem dtrim_any {N : Nat} (hN : N ≤ 30000) (wa : World) (Z : Nat → Prop) (w : World) (b V : Nat) (xs : List Nn) (D : Dr wa Z w b V xs) (t : Nat) (hf : WFb N ⟨V, xs, t⟩) :
    Calls Try.prog 25 #[.pointer (some ⟨b, 0, none⟩), .int .i64 (t : Int)] w fun e w' => MadeD w.heap.size (trim ⟨V, xs, t⟩) e w' ∧ On w w' := by
  obtain ⟨q, hq⟩ : ∃ q, w.heap.size = q := ⟨_, rfl⟩
  obtain ⟨w1, hw1⟩ : ∃ w1, w.alloc (.cells #[.int .i64 0, .slice none 0 0, .int .i64 0] 24) = w1 := ⟨_, rfl⟩
  have C1 : Own w1 q 24 #[.int .i64 0, .slice none 0 0, .int .i64 0] := by rw [← hw1, ← hq]; exact Own.new _ _ _
  have P1 : On w w1 := by rw [← hw1]; exact (On.refl w).alloc _
  have hC := dbelow_any hN wa Z w1 b V xs (D.to P1) t hf
  obtain ⟨v, O, U⟩ := D.st
  obtain ⟨A0, c0, rfl, hc0, hm0⟩ := U.out.form
  have hRN := U.out.rd.2
  obtain ⟨f, hfe⟩ : ∃ f : Fn, (⟨V, xs, t⟩ : Fn) = f := ⟨_, rfl⟩
  obtain ⟨n, hn⟩ : ∃ n, xs.length = n := ⟨_, rfl⟩
  have hfn : f.nodes.length = n := by rw [← hfe]; exact hn
  have hfv : f.vars = V := by rw [← hfe]
  have hft : f.top = t := by rw [← hfe]
  have hfl : rawL xs = rawL f.nodes := by rw [← hfe]
  rw [hfl] at hRN
  rw [hfe] at hf hC ⊢
  rw [hn] at hC hRN hc0 O
  have hV := hf.1
  have hn30 := hf.2.1
  have htop := hf.2.2.2
  rw [hfn] at hn30 htop
  rw [hfv] at hV
  rw [hft, hfv] at htop
  have hbq := O.lt
  have HD := Lib.hid (And.intro (And.intro (O.on P1) C1) (And.intro (hRN.on P1) P1))
  have HF := Lib.hid (And.intro hf (And.intro hfn (And.intro hfv hft)))
  clear D O U C1 P1 hRN hf hfn hfv hft hfl hfe
  go_enter Try.func25, Try.ntmps25
  go_wp2_with fail
  refine hC.mono ?_
  rintro e w5 ⟨gM, rfl, hM, hgM, P5⟩
  clear hC hw1
  have O5 := HD.out.1.1.on P5
  obtain ⟨q0, q1⟩ := own2 O5
  obtain ⟨b7, hb7⟩ : ∃ b7, w5.heap.size = b7 := ⟨_, rfl⟩
  obtain ⟨w6, hw6⟩ : ∃ w6, (w5.alloc (.cells #[.int .i64 0, .slice none 0 0] 56)) = w6 := ⟨_, rfl⟩
  have B6 : Own w6 b7 56 #[.int .i64 0, .slice none 0 0] := by rw [← hw6, ← hb7]; exact Own.new _ _ _
  have P6 : On w5 w6 := by rw [← hw6]; exact (On.refl w5).alloc _
  obtain ⟨w7, hw7⟩ : ∃ w7, (w6.setCell ⟨b7, 0, none⟩ (.int .i64 (V : Int))).setCell ⟨b7, 1, none⟩ (.slice none 0 0) = w7 := ⟨_, rfl⟩
  have B7 : Own w7 b7 56 #[.int .i64 (V : Int), .slice none 0 0] := by rw [← hw7]; exact (B6.set_ 0 _).set_ 1 _
  have P7 : On w5 w7 := by rw [← hw7]; exact On.setCell (On.setCell P6 (p := ⟨b7, 0, none⟩) (by show w5.heap.size ≤ b7; omega) _) (p := ⟨b7, 1, none⟩) (by show w5.heap.size ≤ b7; omega) _
  obtain ⟨y0, y1⟩ := own2 B6
  have z0 := B6.frozen 0
  have z1 := B6.frozen 1
  have O7 := O5.on P7
  have D6 : Dr w5 (fun _ => False) w7 b7 V [] := ⟨P7, by omega, fun _ h => h.elim, _, B7, OutZ.nil _ _ _⟩
  obtain ⟨M, hMM⟩ : ∃ M, V + n = M := ⟨_, rfl⟩
  have hM1 : V + n = M := hMM
  rw [hMM]
  have hM0 : 0 < M := by omega
  have HM := Lib.hid (And.intro hM (And.intro O5 P5))
  clear B6 P6 B7 P7 O5 hM
  go_upto_region 3 with fail
  (try rw [hw7])
  have O6 := O7
  have hM := hM1
  clear q0 q1 y0 y1 z0 z1 hw6 hw7
  refine wp_region_w (by kernel_rfl) 13 (DT3 w5 b b7 V A0 n c0 M) DT3Ex (DT3K w5 b b7 V A0 n c0 M) [none, none, none, none, none, none, none, none, some 8, none, none, none, none, none, none, none, none, none, none, some 19, some 20, some 21, some 22, some 23, some 24, some 25, some 26, some 27, some 28, some 29, none, none, none, none, none, none, none, none, none, none, none, none, none, none, none, none, none, none, none, none, none, none, none, none, none, none, none, none, none, none, none, none, none, none, none, none, none, none, none, none, none, none, none, none] (by kernel_rfl) (by kernel_rfl) (by kernel_rfl) rfl ?rgDepDT3 ?rgKeepDT3 (by decide) ?rgInitDT3 ?rgOpsDT3 ?rgDoneDT3
  case rgDepDT3 =>
    intro j9 f1 f2 W hj hd h
    refine DT3.dep w5 b b7 V A0 n c0 M hj ?_ h
    rcases DT3.cases hj with rfl | rfl | rfl | rfl | rfl | rfl | rfl | rfl | rfl | rfl | rfl | rfl | rfl <;> first | (intro d hm; simp at hm; done) | (intro d hm; simp at hm; (try rcases hm with rfl | rfl) <;> (try subst hm) <;> exact hd _ (by kernel_rfl))
  case rgKeepDT3 =>
    intro i9 j9 f1 W W' hi hj hij hex hw1 hw2 hk h
    unfold DT3K at hk
    by_cases h10 : i9 = 10
    · subst h10
      rw [if_pos (by decide)] at hk
      rcases DT3.cases hj with rfl | rfl | rfl | rfl | rfl | rfl | rfl | rfl | rfl | rfl | rfl | rfl | rfl
      · exact h
      · exact h
      · exact h
      · exact h
      · exact absurd rfl hex
      · exact h
      · exact h
      · exact h
      · exact h
      · exact h
      · exact absurd rfl hij
      · exact absurd (hw1.symm.trans (show _ = true by kernel_rfl)) (by decide)
      · exact absurd rfl hex
    rw [if_neg (by omega)] at hk
    exact DT3.on w5 b b7 V A0 n c0 M hj hk h
  case rgInitDT3 =>
    intro j9 h1 h2
    have h1' : 12 ≤ j9 := h1
    have h2' : j9 < 13 := h2
    obtain rfl : j9 = 12 := by omega
    · exact ⟨_, ⟨D6, O6⟩, (On.refl _).drew⟩
  case rgOpsDT3 =>
    refine ⟨?_, ?_, ?_, ?_, ?_, ?_, ?_, ?_, ?_, ?_, ?_, ?_, trivial⟩
    · refine fun a W hp => ob_yes rfl (does_value (w' := W) (v := a.eval (.tmp 0)) rfl (DT3K.on w5 b b7 V A0 n c0 M (by decide) (On.refl W)) ((val_eq (by rw [hp.tsize]; exact (show (19 : Nat) < 74 by decide))).trans (show a.eval (.tmp 0) = .pointer (some ⟨b, 0, none⟩) from hp.same 0 (by kernel_rfl))))
    · refine fun a W hp => ob_yes rfl (does_value (w' := W) (v := .pointer (some ⟨b, 0, none⟩)) ?_ (DT3K.on w5 b b7 V A0 n c0 M (by decide) (On.refl W)) (val_eq (by rw [hp.tsize]; exact (show (20 : Nat) < 74 by decide))))
      have e := (show a.eval (.tmp 19) = .pointer (some ⟨b, 0, none⟩) from hp.fact 0 (by decide) (.inr (by kernel_rfl)) (.inl (by decide)))
      simp only [execOp]
      rw [e]
      go_simp
    · refine fun a W hp => ob_yes rfl (does_value (w' := W) (v := .pointer (some ⟨b, 0, none⟩)) (do_value ?_) (DT3K.on w5 b b7 V A0 n c0 M (by decide) (On.refl W)) (val_eq (by rw [hp.tsize]; exact (show (21 : Nat) < 74 by decide))))
      (try simp only [List.map_toArray, List.map_cons, List.map_nil])
      rw [show a.eval (.tmp 20) = .pointer (some ⟨b, 0, none⟩) from hp.fact 1 (by decide) (.inr (by kernel_rfl)) (.inl (by decide))]
      go_simp
      all_goals (rw [IntKind.wrap_i64]; omega)
    · refine fun a W hp => ob_yes rfl (does_value (w' := W) (v := .int .i64 (V : Int)) (do_value ?_) (DT3K.on w5 b b7 V A0 n c0 M (by decide) (On.refl W)) (val_eq (by rw [hp.tsize]; exact (show (22 : Nat) < 74 by decide))))
      obtain ⟨W1, ⟨D1, O1⟩, k1⟩ : ∃ W1 : World, (Dr w5 (fun _ => False) W1 b7 V [] ∧ Own W1 b 56 #[.int .i64 (V : Int), .slice A0 n c0]) ∧ On W1 W := hp.fact 12 (by decide) (.inl (by decide)) (.inr (.inr (by kernel_rfl)))
      obtain ⟨q0, q1⟩ := own2 (O1.on k1)
      clear D1 O1
      (try simp only [List.map_toArray, List.map_cons, List.map_nil])
      rw [show a.eval (.tmp 21) = .pointer (some ⟨b, 0, none⟩) from hp.fact 2 (by decide) (.inr (by kernel_rfl)) (.inl (by decide))]
      go_simp
      all_goals (rw [IntKind.wrap_i64]; omega)
    · refine fun a W hp => ob_yes rfl ?_
      obtain ⟨W1, ⟨D1, O1⟩, k1⟩ : ∃ W1 : World, (Dr w5 (fun _ => False) W1 b7 V [] ∧ Own W1 b 56 #[.int .i64 (V : Int), .slice A0 n c0]) ∧ On W1 W := hp.fact 12 (by decide) (.inl (by decide)) (.inr (.inr (by kernel_rfl)))
      have e22 := (show a.eval (.tmp 22) = .int .i64 (V : Int) from hp.fact 3 (by decide) (.inr (by kernel_rfl)) (.inl (by decide)))
      simp only [Act.eval, Array.getD_eq_getD_getElem?] at e22
      unfold Does
      go_simp
      (try rw [e22])
      refine (events_any W V hV).mono ?_
      rintro e w9 ⟨g, rfl, hg, hG, P9⟩
      refine ⟨⟨_, rfl⟩, DT3K.on w5 b b7 V A0 n c0 M (by decide) (P9), ?_⟩
      refine ⟨w9, ⟨g, val_eq (by rw [hp.tsize]; exact (show (23 : Nat) < 74 by decide)), ?_, hG, ?_⟩, On.refl _⟩
      · have := D1.on.size; have := k1.size; omega
      · exact (D1.to k1).by_ (row := none) (gb_on P9 none) (fun _ e => by cases e) (fun g1 e => by subst e; exact .inr ⟨hg, hG.lt⟩)
    · refine fun a W hp => ob_yes rfl (does_value (w' := W) (v := a.eval (.tmp 0)) rfl (DT3K.on w5 b b7 V A0 n c0 M (by decide) (On.refl W)) ((val_eq (by rw [hp.tsize]; exact (show (24 : Nat) < 74 by decide))).trans (show a.eval (.tmp 0) = .pointer (some ⟨b, 0, none⟩) from hp.same 0 (by kernel_rfl))))
    · refine fun a W hp => ob_yes rfl (does_value (w' := W) (v := .pointer (some ⟨b, 0, none⟩)) ?_ (DT3K.on w5 b b7 V A0 n c0 M (by decide) (On.refl W)) (val_eq (by rw [hp.tsize]; exact (show (25 : Nat) < 74 by decide))))
      have e := (show a.eval (.tmp 24) = .pointer (some ⟨b, 0, none⟩) from hp.fact 5 (by decide) (.inr (by kernel_rfl)) (.inl (by decide)))
      simp only [execOp]
      rw [e]
      go_simp
    · refine fun a W hp => ob_yes rfl (does_value (w' := W) (v := .pointer (some ⟨b, 1, none⟩)) (do_value ?_) (DT3K.on w5 b b7 V A0 n c0 M (by decide) (On.refl W)) (val_eq (by rw [hp.tsize]; exact (show (26 : Nat) < 74 by decide))))
      (try simp only [List.map_toArray, List.map_cons, List.map_nil])
      rw [show a.eval (.tmp 25) = .pointer (some ⟨b, 0, none⟩) from hp.fact 6 (by decide) (.inr (by kernel_rfl)) (.inl (by decide))]
      go_simp
      all_goals (rw [IntKind.wrap_i64]; omega)
    · refine fun a W hp => ob_yes rfl (does_value (w' := W) (v := .slice A0 n c0) (do_value ?_) (DT3K.on w5 b b7 V A0 n c0 M (by decide) (On.refl W)) (val_eq (by rw [hp.tsize]; exact (show (27 : Nat) < 74 by decide))))
      obtain ⟨W1, ⟨D1, O1⟩, k1⟩ : ∃ W1 : World, (Dr w5 (fun _ => False) W1 b7 V [] ∧ Own W1 b 56 #[.int .i64 (V : Int), .slice A0 n c0]) ∧ On W1 W := hp.fact 12 (by decide) (.inl (by decide)) (.inr (.inr (by kernel_rfl)))
      obtain ⟨q0, q1⟩ := own2 (O1.on k1)
      clear D1 O1
      (try simp only [List.map_toArray, List.map_cons, List.map_nil])
      rw [show a.eval (.tmp 26) = .pointer (some ⟨b, 1, none⟩) from hp.fact 7 (by decide) (.inr (by kernel_rfl)) (.inl (by decide))]
      go_simp
      all_goals (rw [IntKind.wrap_i64]; omega)
    · refine fun a W hp => ob_yes rfl (does_value (w' := W) (v := .int .i64 (n : Int)) (do_value ?_) (DT3K.on w5 b b7 V A0 n c0 M (by decide) (On.refl W)) (val_eq (by rw [hp.tsize]; exact (show (28 : Nat) < 74 by decide))))
      (try simp only [List.map_toArray, List.map_cons, List.map_nil])
      rw [show a.eval (.tmp 27) = .slice A0 n c0 from hp.fact 8 (by decide) (.inr (by kernel_rfl)) (.inl (by decide))]
      go_simp
      all_goals (rw [IntKind.wrap_i64]; omega)
    · refine fun a W hp => ?_
      obtain ⟨W1, ⟨g, g23, hg, hG, D1⟩, k1⟩ : ∃ W1 : World, (∃ g, slv a 23 = .slice (some ⟨g, 0, none⟩) V V ∧ w5.heap.size ≤ g ∧ Own W1 g 3 (VI (ints (List.range V))).toArray ∧ Dr w5 (fun g1 => g1 = g) W1 b7 V []) ∧ On W1 W := hp.fact 4 (by decide) (.inr (by kernel_rfl)) (.inr (.inl rfl))
      have g28 : a.eval (.tmp 28) = .int .i64 (n : Int) := hp.fact 9 (by decide) (.inr (by kernel_rfl)) (.inl (by decide))
      have row : W.ownsRow w5.heap.size 3 1 (.slice (some ⟨g, 0, none⟩) V V) V (VI (ints (List.range V))) := owns_blk (hG.on k1) hg (by rw [VI_length, ints_length, List.length_range]) (by omega)
      obtain ⟨i0, hi0, hz0, hs0, hb0⟩ := info_parts' infoi
      have D := D1.to k1
      obtain ⟨v', w9, hrun, hrow, hgb, hob⟩ := run_zeros (P := Try.prog) W w5.heap.size 39 3 39 3 i0 (.int .i64 0) .i64 .i64 Try.underlying39 Try.underlying3 hi0 hz0 rfl rfl hs0 (by omega) g V V _ row (Nat.le_refl _) n (by omega) D.on.size
      rw [hM] at hrow
      have hL : VI (ints (List.range V)) ++ List.replicate n (Value.int .i64 0) = VI (ints (List.range V ++ List.replicate n 0)) := by simp [VI, ints]
      rw [hL] at hrow
      obtain ⟨A9, cs, rfl⟩ := row_form hrow
      obtain ⟨gs, rfl⟩ := row_some hrow hM0
      have hgs : gs = g ∨ gs = W.heap.size := by
        rcases hob with e | e
        · exact .inl (by injection e)
        · exact .inr (by injection e)
      refine ob_yes rfl (doesv_app (.tmp 23) (.tmp 28) 39 3 rfl _ _ g23 g28 _ w9 hrun ⟨DT3K.sp w5 b b7 V A0 n c0 M (by decide) id, w9, ⟨gs, cs, val_eq (by rw [hp.tsize]; exact (show (29 : Nat) < 74 by decide)), hrow, ?_⟩, On.refl _⟩)
      refine D.app row hgb (fun g1 e => by injection e with e; exact e.symm) (fun g1 e => ?_)
      subst e
      rcases hgs with e | e
      · exact .inl e
      · exact .inr ⟨by omega, (row_own hrow).2.1⟩
    · refine fun a W hp => ?_
      obtain ⟨W1, ⟨gs, cs, g29, h1, h2⟩, k1⟩ : ∃ W1 : World, (∃ gs cs : Nat, slv a 29 = .slice (some ⟨gs, 0, none⟩) M cs ∧ W1.ownsRow w5.heap.size 3 1 (.slice (some ⟨gs, 0, none⟩) M cs) M (VI (ints (List.range V ++ List.replicate n 0))) ∧ Dr w5 (fun g1 => g1 = gs) W1 b7 V []) ∧ On W1 W := hp.fact 10 (by decide) (.inr (by kernel_rfl)) (.inr (.inl rfl))
      exact ob_yes rfl (does_value (w' := W) (v := slv a 29) rfl (DT3K.on w5 b b7 V A0 n c0 M (by decide) (On.refl W)) ⟨W1, ⟨gs, cs, (val_eq (by rw [hp.tsize]; exact (show (8 : Nat) < 74 by decide))).trans g29, h1, h2⟩, k1⟩)
  case rgDoneDT3 =>
    intro fv w9 hf
    obtain ⟨W1, ⟨gs, cs, g8, hrow, D1⟩, k1⟩ : ∃ W1 : World, (∃ gs cs : Nat, fv 8 = .slice (some ⟨gs, 0, none⟩) M cs ∧ W1.ownsRow w5.heap.size 3 1 (.slice (some ⟨gs, 0, none⟩) M cs) M (VI (ints (List.range V ++ List.replicate n 0))) ∧ Dr w5 (fun g1 => g1 = gs) W1 b7 V []) ∧ On W1 w9 := hf 11 (by decide) (by decide)
    clear hf
    simp only [fillL, g8]
    have D9 := D1.to k1
    have S9 := owns_on hrow k1
    clear hrow D1 k1 g8
    have O9 := HM.out.2.1.on D9.on
    obtain ⟨q0, q1⟩ := own2 O9
    have e0 : (List.range V ++ List.replicate n 0) = (trTo f 0).1 := by rw [trTo, HF.out.2.1, HF.out.2.2.1]
    rw [e0] at S9
    have HS := Lib.hid (And.intro D9 (And.intro S9 O9))
    clear D9 S9 O9 e0 D6 O6 O7
    go_wp2
    clear q0 q1
    go_loopw [35] (fun i wr => ∃ k : Nat, k ≤ n ∧ i = .int .i64 (k : Int) ∧ Dr w5 (fun g => g = gs) wr b7 V (trTo f k).2 ∧ wr.ownsRow w5.heap.size 3 1 (.slice (some ⟨gs, 0, none⟩) M cs) M (VI (ints (trTo f k).1))) (fun i _ => n - (intOf i).toNat)
    case atStart => exact ⟨0, by omega, rfl, HS.out.1, HS.out.2.1⟩
    case round =>
      obtain ⟨i, hi, rfl, D0', S0'⟩ := hrel
      obtain ⟨wo, hwo⟩ : ∃ wo, wo = wr := ⟨_, rfl⟩
      subst hwo
      have O0 := HM.out.2.1.on D0'.on
      obtain ⟨q0, q1⟩ := own2 O0
      have hon := HD.out.2.2.trans (HM.out.2.2.trans D0'.on)
      by_cases hlt : i < n
      · obtain ⟨ad, rfl, hb, PA, m, cA, hc0', hc1', hc2', hRA⟩ := HD.out.2.1.at_ i hlt
        rw [raw_get] at hc0' hc1' hRA
        have P51 := HM.out.2.2.trans D0'.on
        have hbk : (ad.add (i * 3)).block < w1.heap.size := by rw [block_of_add]; exact hb
        have hc0 := (Below.cell P51 hbk).trans hc0'
        have hc1 := (Below.cell P51 (p := ⟨(ad.add (i * 3)).block, (ad.add (i * 3)).off + 1, none⟩) hbk).trans hc1'
        have hc2 := (Below.cell P51 (p := ⟨(ad.add (i * 3)).block, (ad.add (i * 3)).off + 2, none⟩) hbk).trans hc2'
        have hm : (f.nd i).args.length = m := by have := VI_len hRA; unfold Nn.raw at this; rwa [ints_length] at this
        have hm16 : m ≤ 16 := by rw [← hm]; exact HF.out.1.len (by rw [HF.out.2.1]; exact hlt)
        have harg : ∀ a ∈ (f.nd i).args, a < V + i := fun a ha => by have := HF.out.1.arg (by rw [HF.out.2.1]; exact hlt) ha; rwa [HF.out.2.2.1] at this
        have hs : trTo f (i + 1) = if mk f (f.vars + i) = true then ((trTo f i).1.set (f.vars + i) (f.vars + (trTo f i).2.length), (trTo f i).2 ++ [renum (trTo f i).1 (f.nd i)]) else trTo f i := rfl
        rw [HF.out.2.2.1] at hs
        obtain ⟨hl1, hl2⟩ := trTo_len f i
        rw [HF.out.2.1, HF.out.2.2.1] at hl1
        have m0 := own_atB (HM.out.1.on D0'.on) (i := V + i) (by rw [bel_len, HF.out.2.1, HF.out.2.2.1]; omega)
        have hmk : (bel f).getD (V + i) false = mk f (V + i) := rfl
        rw [hmk] at m0
        obtain ⟨⟨num, o⟩, htr⟩ : ∃ z, trTo f i = z := ⟨_, rfl⟩
        rw [htr] at hs hl1 hl2 D0' S0'
        simp only at hs hl1 hl2 D0' S0'
        obtain ⟨⟨kd, kq, ar⟩, hx⟩ : ∃ x, f.nd i = x := ⟨_, rfl⟩
        rw [hx] at hc0 hc1 hRA hm harg hs
        simp only at hm harg
        have hA' : Rd w1 PA m cA (VI (ints ar)) := hRA
        replace hc0 := (show _ = some (Value.int .i64 (kd : Int)) from hc0)
        replace hc1 := (show _ = some (Value.int .i64 (kq : Int)) from hc1)
        obtain ⟨p, hp⟩ : ∃ p, wo.heap.size = p := ⟨_, rfl⟩
        obtain ⟨wb, hwb⟩ : ∃ wb, wo.alloc (.cells #[.int .i64 0, .int .i64 0, .slice none 0 0] 41) = wb := ⟨_, rfl⟩
        have Nb : Own wb p 41 #[.int .i64 0, .int .i64 0, .slice none 0 0] := by rw [← hwb, ← hp]; exact Own.new _ _ _
        have Pb : On wo wb := by rw [← hwb]; exact (On.refl wo).alloc _
        obtain ⟨wc, hwc⟩ : ∃ wc, ((wb.setCell ⟨p, 0, none⟩ (.int .i64 (kd : Int))).setCell ⟨p, 1, none⟩ (.int .i64 (kq : Int))).setCell ⟨p, 2, none⟩ (.slice PA m cA) = wc := ⟨_, rfl⟩
        have Nc : Own wc p 41 #[.int .i64 (kd : Int), .int .i64 (kq : Int), .slice PA m cA] := by rw [← hwc]; exact ((Nb.set_ 0 _).set_ 1 _).set_ 2 _
        have Pc : On wo wc := by rw [← hwc]; exact On.setCell (On.setCell (On.setCell Pb (p := ⟨p, 0, none⟩) (by show wo.heap.size ≤ p; omega) _) (p := ⟨p, 1, none⟩) (by show wo.heap.size ≤ p; omega) _) (p := ⟨p, 2, none⟩) (by show wo.heap.size ≤ p; omega) _
        obtain ⟨x0, x1, x2⟩ := own3 Nb
        have f0 := Nb.frozen 0
        have f1 := Nb.frozen 1
        have f2 := Nb.frozen 2
        have D0 := D0'.to Pc
        have S0 := owns_on S0' Pc
        have N0 := Nc
        have O0 := O0.on Pc
        have mc := own_atB (HM.out.1.on D0.on) (i := V + i) (by rw [bel_len, HF.out.2.1, HF.out.2.2.1]; omega)
        rw [hmk] at mc
        obtain ⟨u0, u1⟩ := own2 O0
        obtain ⟨jj, hjj⟩ : ∃ jj, V + i = jj := ⟨_, rfl⟩
        have hji : (V : Int) + (i : Int) = (jj : Int) := by omega
        have hjM : jj < M := by omega
        have HX := Lib.hid (And.intro hs (And.intro hl1 hl2))
        have H0 := Lib.hid (And.intro D0 (And.intro N0 (And.intro S0 O0)))
        have HA := Lib.hid (And.intro hA' (And.intro hm harg))
        rw [hjj] at mc m0
        by_cases hb1 : mk f jj = true
        · rw [hb1] at mc m0
          obtain ⟨r, hr⟩ : ∃ r, V + o.length = r := ⟨_, rfl⟩
          clear hs hl1 hl2 hA' hRA hm harg D0 N0 S0 O0 Nb Nc Pb Pc D0' S0' hc0' hc1' hc2' hx htr hmk m0
          go_upto_region 8 with fail
          (try rw [hwc])
          have D0 := H0.out.1
          have N0 := H0.out.2.1
          have S0 := H0.out.2.2.1
          have O0 := H0.out.2.2.2.drew
          have hA : ∀ W, On w5 W → Rd W PA m cA (VI (ints ar)) := fun W k => HA.out.1.on (HM.out.2.2.trans k)
          have harM : ∀ a ∈ ar, a < M := fun a ha => by have := HA.out.2.2 a ha; omega
          have O5 := HM.out.2.1
          have hol : o.length ≤ 90000 := by have := HX.out.2.2; omega
          clear hc0 hc1 hc2 q0 q1 x0 x1 x2 f0 f1 f2 u0 u1 mc hwb hwc
          refine wp_region_w (by kernel_rfl) 20 (DT8 w5 b b7 V (some ad) n c0 M gs cs num o r kd kq ar PA m cA p i jj) DT8Ex (DT8K w5 b b7 V (some ad) n c0 M gs cs num o r kd kq ar PA m cA p i jj) [none, none, none, none, none, none, none, none, none, none, none, none, none, none, none, none, none, none, none, none, none, none, none, none, none, none, none, none, none, none, none, none, none, none, none, none, none, none, none, none, none, none, none, none, none, none, none, none, none, some 49, some 50, some 51, some 52, some 53, some 54, some 55, some 56, some 57, some 58, some 59, some 60, some 61, some 62, some 63, some 64, some 65, none, none, none, none, none, none, none, none] (by kernel_rfl) (by kernel_rfl) (by kernel_rfl) rfl ?rgDepDT8 ?rgKeepDT8 (by decide) ?rgInitDT8 ?rgOpsDT8 ?rgDoneDT8
          case rgDepDT8 =>
            intro j9 f1 f2 W hj hd h
            refine DT8.dep w5 b b7 V (some ad) n c0 M gs cs num o r kd kq ar PA m cA p i jj hj ?_ h
            rcases DT8.cases hj with rfl | rfl | rfl | rfl | rfl | rfl | rfl | rfl | rfl | rfl | rfl | rfl | rfl | rfl | rfl | rfl | rfl | rfl | rfl | rfl <;> first | (intro d hm; simp at hm; done) | (intro d hm; simp at hm; (try rcases hm with rfl | rfl) <;> (try subst hm) <;> exact hd _ (by kernel_rfl))
          case rgKeepDT8 =>
            intro i9 j9 f1 W W' hi hj hij hex hw1 hw2 hk h
            unfold DT8K at hk
            by_cases h15 : i9 = 15
            · subst h15
              rw [if_pos (by decide)] at hk
              rcases DT8.cases hj with rfl | rfl | rfl | rfl | rfl | rfl | rfl | rfl | rfl | rfl | rfl | rfl | rfl | rfl | rfl | rfl | rfl | rfl | rfl | rfl
              · exact h
              · exact h
              · exact h
              · exact h
              · exact h
              · exact h
              · exact h
              · exact h
              · exact h
              · exact h
              · exact h
              · exact h
              · exact h
              · exact h
              · exact absurd rfl hex
              · exact absurd rfl hij
              · exact h
              · exact absurd (hw1.symm.trans (show _ = true by kernel_rfl)) (by decide)
              · exact absurd rfl hex
              · exact hk h
            by_cases h17 : i9 = 17
            · subst h17
              rw [if_pos (by decide)] at hk
              rcases DT8.cases hj with rfl | rfl | rfl | rfl | rfl | rfl | rfl | rfl | rfl | rfl | rfl | rfl | rfl | rfl | rfl | rfl | rfl | rfl | rfl | rfl
              · exact h
              · exact h
              · exact h
              · exact h
              · exact h
              · exact h
              · exact h
              · exact h
              · exact h
              · exact h
              · exact h
              · exact h
              · exact h
              · exact h
              · exact absurd (hw2.symm.trans (show _ = true by kernel_rfl)) (by decide)
              · exact absurd rfl hex
              · exact h
              · exact absurd rfl hij
              · exact absurd (hw2.symm.trans (show _ = true by kernel_rfl)) (by decide)
              · exact hk h
            rw [if_neg (by omega)] at hk
            exact DT8.on w5 b b7 V (some ad) n c0 M gs cs num o r kd kq ar PA m cA p i jj hj hk h
          case rgInitDT8 =>
            intro j9 h1 h2
            have h1' : 18 ≤ j9 := h1
            have h2' : j9 < 20 := h2
            obtain rfl | rfl : j9 = 18 ∨ j9 = 19 := by omega
            · exact ⟨_, ⟨D0, N0, S0⟩, (On.refl _).drew⟩
            · exact O0
          case rgOpsDT8 =>
            refine ⟨?_, ?_, ?_, ?_, ?_, ?_, ?_, ?_, ?_, ?_, ?_, ?_, ?_, ?_, ?_, ?_, ?_, ?_, trivial⟩
            · refine fun a W hp => ob_yes rfl (does_value (w' := W) (v := a.eval (.tmp 8)) rfl (DT8K.on w5 b b7 V (some ad) n c0 M gs cs num o r kd kq ar PA m cA p i jj (by decide) (On.refl W)) ((val_eq (by rw [hp.tsize]; exact (show (49 : Nat) < 74 by decide))).trans (show a.eval (.tmp 8) = .slice (some ⟨gs, 0, none⟩) M cs from hp.same 8 (by kernel_rfl))))
            · refine fun a W hp => ob_yes rfl (does_value (w' := W) (v := a.eval (.tmp 0)) rfl (DT8K.on w5 b b7 V (some ad) n c0 M gs cs num o r kd kq ar PA m cA p i jj (by decide) (On.refl W)) ((val_eq (by rw [hp.tsize]; exact (show (50 : Nat) < 74 by decide))).trans (show a.eval (.tmp 0) = .pointer (some ⟨b, 0, none⟩) from hp.same 0 (by kernel_rfl))))
            · refine fun a W hp => ob_yes rfl (does_value (w' := W) (v := .pointer (some ⟨b, 0, none⟩)) ?_ (DT8K.on w5 b b7 V (some ad) n c0 M gs cs num o r kd kq ar PA m cA p i jj (by decide) (On.refl W)) (val_eq (by rw [hp.tsize]; exact (show (51 : Nat) < 74 by decide))))
              have e := (show a.eval (.tmp 50) = .pointer (some ⟨b, 0, none⟩) from hp.fact 1 (by decide) (.inr (by kernel_rfl)) (.inl (by decide)))
              simp only [execOp]
              rw [e]
              go_simp
            · refine fun a W hp => ob_yes rfl (does_value (w' := W) (v := .pointer (some ⟨b, 0, none⟩)) (do_value ?_) (DT8K.on w5 b b7 V (some ad) n c0 M gs cs num o r kd kq ar PA m cA p i jj (by decide) (On.refl W)) (val_eq (by rw [hp.tsize]; exact (show (52 : Nat) < 74 by decide))))
              (try simp only [List.map_toArray, List.map_cons, List.map_nil])
              rw [show a.eval (.tmp 51) = .pointer (some ⟨b, 0, none⟩) from hp.fact 2 (by decide) (.inr (by kernel_rfl)) (.inl (by decide))]
              go_simp
              all_goals (rw [IntKind.wrap_i64]; omega)
            · refine fun a W hp => ob_yes rfl (does_value (w' := W) (v := .int .i64 (V : Int)) (do_value ?_) (DT8K.on w5 b b7 V (some ad) n c0 M gs cs num o r kd kq ar PA m cA p i jj (by decide) (On.refl W)) (val_eq (by rw [hp.tsize]; exact (show (53 : Nat) < 74 by decide))))
              have hO : Own W b 56 #[.int .i64 (V : Int), .slice (some ad) n c0] := hp.fact 19 (by decide) (.inl (by decide)) (.inl (by decide))
              obtain ⟨q0, q1⟩ := own2 hO
              (try simp only [List.map_toArray, List.map_cons, List.map_nil])
              rw [show a.eval (.tmp 52) = .pointer (some ⟨b, 0, none⟩) from hp.fact 3 (by decide) (.inr (by kernel_rfl)) (.inl (by decide))]
              go_simp
              all_goals (rw [IntKind.wrap_i64]; omega)
            · refine fun a W hp => ob_yes rfl (does_value (w' := W) (v := a.eval (.tmp 9)) rfl (DT8K.on w5 b b7 V (some ad) n c0 M gs cs num o r kd kq ar PA m cA p i jj (by decide) (On.refl W)) ((val_eq (by rw [hp.tsize]; exact (show (54 : Nat) < 74 by decide))).trans (show a.eval (.tmp 9) = .int .i64 (i : Int) from hp.same 9 (by kernel_rfl))))
            · refine fun a W hp => ob_yes rfl (does_value (w' := W) (v := .int .i64 (jj : Int)) (do_value ?_) (DT8K.on w5 b b7 V (some ad) n c0 M gs cs num o r kd kq ar PA m cA p i jj (by decide) (On.refl W)) (val_eq (by rw [hp.tsize]; exact (show (55 : Nat) < 74 by decide))))
              (try simp only [List.map_toArray, List.map_cons, List.map_nil])
              rw [show a.eval (.tmp 53) = .int .i64 (V : Int) from hp.fact 4 (by decide) (.inr (by kernel_rfl)) (.inl (by decide)), show a.eval (.tmp 54) = .int .i64 (i : Int) from hp.fact 5 (by decide) (.inr (by kernel_rfl)) (.inl (by decide))]
              go_simp
              all_goals (rw [IntKind.wrap_i64]; omega)
            · refine fun a W hp => ob_yes rfl (does_value (w' := W) (v := .pointer (some ⟨p, 0, none⟩)) (do_value ?_) (DT8K.on w5 b b7 V (some ad) n c0 M gs cs num o r kd kq ar PA m cA p i jj (by decide) (On.refl W)) (val_eq (by rw [hp.tsize]; exact (show (56 : Nat) < 74 by decide))))
              (try simp only [List.map_toArray, List.map_cons, List.map_nil])
              rw [show a.eval (.tmp 10) = .pointer (some ⟨p, 0, none⟩) from hp.same 10 (by kernel_rfl)]
              go_simp
              all_goals (rw [IntKind.wrap_i64]; omega)
            · refine fun a W hp => ob_yes rfl (does_value (w' := W) (v := .int .i64 (kd : Int)) (do_value ?_) (DT8K.on w5 b b7 V (some ad) n c0 M gs cs num o r kd kq ar PA m cA p i jj (by decide) (On.refl W)) (val_eq (by rw [hp.tsize]; exact (show (57 : Nat) < 74 by decide))))
              obtain ⟨W1, ⟨D1, N1, S1⟩, k1⟩ : ∃ W1 : World, (Dr w5 (fun g => g = gs) W1 b7 V o ∧ Own W1 p 41 #[.int .i64 (kd : Int), .int .i64 (kq : Int), .slice PA m cA] ∧ W1.ownsRow w5.heap.size 3 1 (.slice (some ⟨gs, 0, none⟩) M cs) M (VI (ints num))) ∧ On W1 W := hp.fact 18 (by decide) (.inl (by decide)) (.inr (.inr (by kernel_rfl)))
              obtain ⟨q0, q1, q2⟩ := own3 (N1.on k1)
              clear D1 N1 S1
              (try simp only [List.map_toArray, List.map_cons, List.map_nil])
              rw [show a.eval (.tmp 56) = .pointer (some ⟨p, 0, none⟩) from hp.fact 7 (by decide) (.inr (by kernel_rfl)) (.inl (by decide))]
              go_simp
              all_goals (rw [IntKind.wrap_i64]; omega)
            · refine fun a W hp => ob_yes rfl (does_value (w' := W) (v := .pointer (some ⟨p, 1, none⟩)) (do_value ?_) (DT8K.on w5 b b7 V (some ad) n c0 M gs cs num o r kd kq ar PA m cA p i jj (by decide) (On.refl W)) (val_eq (by rw [hp.tsize]; exact (show (58 : Nat) < 74 by decide))))
              (try simp only [List.map_toArray, List.map_cons, List.map_nil])
              rw [show a.eval (.tmp 10) = .pointer (some ⟨p, 0, none⟩) from hp.same 10 (by kernel_rfl)]
              go_simp
              all_goals (rw [IntKind.wrap_i64]; omega)
            · refine fun a W hp => ob_yes rfl (does_value (w' := W) (v := .int .i64 (kq : Int)) (do_value ?_) (DT8K.on w5 b b7 V (some ad) n c0 M gs cs num o r kd kq ar PA m cA p i jj (by decide) (On.refl W)) (val_eq (by rw [hp.tsize]; exact (show (59 : Nat) < 74 by decide))))
              obtain ⟨W1, ⟨D1, N1, S1⟩, k1⟩ : ∃ W1 : World, (Dr w5 (fun g => g = gs) W1 b7 V o ∧ Own W1 p 41 #[.int .i64 (kd : Int), .int .i64 (kq : Int), .slice PA m cA] ∧ W1.ownsRow w5.heap.size 3 1 (.slice (some ⟨gs, 0, none⟩) M cs) M (VI (ints num))) ∧ On W1 W := hp.fact 18 (by decide) (.inl (by decide)) (.inr (.inr (by kernel_rfl)))
              obtain ⟨q0, q1, q2⟩ := own3 (N1.on k1)
              clear D1 N1 S1
              (try simp only [List.map_toArray, List.map_cons, List.map_nil])
              rw [show a.eval (.tmp 58) = .pointer (some ⟨p, 1, none⟩) from hp.fact 9 (by decide) (.inr (by kernel_rfl)) (.inl (by decide))]
              go_simp
              all_goals (rw [IntKind.wrap_i64]; omega)
            · refine fun a W hp => ob_yes rfl (does_value (w' := W) (v := .pointer (some ⟨p, 2, none⟩)) (do_value ?_) (DT8K.on w5 b b7 V (some ad) n c0 M gs cs num o r kd kq ar PA m cA p i jj (by decide) (On.refl W)) (val_eq (by rw [hp.tsize]; exact (show (60 : Nat) < 74 by decide))))
              (try simp only [List.map_toArray, List.map_cons, List.map_nil])
              rw [show a.eval (.tmp 10) = .pointer (some ⟨p, 0, none⟩) from hp.same 10 (by kernel_rfl)]
              go_simp
              all_goals (rw [IntKind.wrap_i64]; omega)
            · refine fun a W hp => ob_yes rfl (does_value (w' := W) (v := .slice PA m cA) (do_value ?_) (DT8K.on w5 b b7 V (some ad) n c0 M gs cs num o r kd kq ar PA m cA p i jj (by decide) (On.refl W)) (val_eq (by rw [hp.tsize]; exact (show (61 : Nat) < 74 by decide))))
              obtain ⟨W1, ⟨D1, N1, S1⟩, k1⟩ : ∃ W1 : World, (Dr w5 (fun g => g = gs) W1 b7 V o ∧ Own W1 p 41 #[.int .i64 (kd : Int), .int .i64 (kq : Int), .slice PA m cA] ∧ W1.ownsRow w5.heap.size 3 1 (.slice (some ⟨gs, 0, none⟩) M cs) M (VI (ints num))) ∧ On W1 W := hp.fact 18 (by decide) (.inl (by decide)) (.inr (.inr (by kernel_rfl)))
              obtain ⟨q0, q1, q2⟩ := own3 (N1.on k1)
              clear D1 N1 S1
              (try simp only [List.map_toArray, List.map_cons, List.map_nil])
              rw [show a.eval (.tmp 60) = .pointer (some ⟨p, 2, none⟩) from hp.fact 11 (by decide) (.inr (by kernel_rfl)) (.inl (by decide))]
              go_simp
              all_goals (rw [IntKind.wrap_i64]; omega)
            · refine fun a W hp => ob_yes rfl (does_value (w' := W) (v := a.eval (.tmp 8)) rfl (DT8K.on w5 b b7 V (some ad) n c0 M gs cs num o r kd kq ar PA m cA p i jj (by decide) (On.refl W)) ((val_eq (by rw [hp.tsize]; exact (show (62 : Nat) < 74 by decide))).trans (show a.eval (.tmp 8) = .slice (some ⟨gs, 0, none⟩) M cs from hp.same 8 (by kernel_rfl))))
            · refine fun a W hp => ob_yes rfl ?_
              obtain ⟨W1, ⟨D1, N1, S1⟩, k1⟩ : ∃ W1 : World, (Dr w5 (fun g => g = gs) W1 b7 V o ∧ Own W1 p 41 #[.int .i64 (kd : Int), .int .i64 (kq : Int), .slice PA m cA] ∧ W1.ownsRow w5.heap.size 3 1 (.slice (some ⟨gs, 0, none⟩) M cs) M (VI (ints num))) ∧ On W1 W := hp.fact 18 (by decide) (.inl (by decide)) (.inr (.inr (by kernel_rfl)))
              have D := D1.to k1
              have S := owns_on S1 k1
              have hRd := rd_of_row S
              have e61 := (show a.eval (.tmp 61) = .slice PA m cA from hp.fact 12 (by decide) (.inr (by kernel_rfl)) (.inl (by decide)))
              have e62 := (show a.eval (.tmp 62) = .slice (some ⟨gs, 0, none⟩) M cs from hp.fact 13 (by decide) (.inr (by kernel_rfl)) (.inl (by decide)))
              simp only [Act.eval, Array.getD_eq_getD_getElem?] at e61 e62
              unfold Does
              go_simp
              (try rw [e61, e62])
              refine (repl_any W W.heap.size (Nat.le_refl _) PA m cA ar (hA W D.on) _ M cs (ints num) hRd harM (by omega)).mono ?_
              rintro e w9 ⟨P9, c9, rfl, hrow, hP9⟩
              refine ⟨⟨_, rfl⟩, DT8K.on w5 b b7 V (some ad) n c0 M gs cs num o r kd kq ar PA m cA p i jj (by decide) (hP9), ?_⟩
              rw [renZ_ints] at hrow
              refine ⟨w9, ⟨P9, c9, val_eq (by rw [hp.tsize]; exact (show (63 : Nat) < 74 by decide)), row_low hrow D.on.size, D.fresh hrow⟩, On.refl _⟩
            · refine fun a W hp => ob_yes rfl ?_
              obtain ⟨W1, ⟨D1, N1, S1⟩, k1⟩ : ∃ W1 : World, (Dr w5 (fun g => g = gs) W1 b7 V o ∧ Own W1 p 41 #[.int .i64 (kd : Int), .int .i64 (kq : Int), .slice PA m cA] ∧ W1.ownsRow w5.heap.size 3 1 (.slice (some ⟨gs, 0, none⟩) M cs) M (VI (ints num))) ∧ On W1 W := hp.fact 18 (by decide) (.inl (by decide)) (.inr (.inl rfl))
              have D := D1.to k1
              have S := owns_on S1 k1
              obtain ⟨W2, ⟨P9, c9, g63, hrow, hnz⟩, k2⟩ : ∃ W2 : World, (∃ P c, slv a 63 = .slice P m c ∧ W2.ownsRow w5.heap.size 3 1 (.slice P m c) m (VI (ints (ren num ar))) ∧ ∀ g, (Value.slice P m c).ownBlock = some g → ¬ g = gs) ∧ On W2 W := hp.fact 14 (by decide) (.inr (by kernel_rfl)) (.inr (.inl rfl))
              have e63 : a.eval (.tmp 63) = .slice P9 m c9 := g63
              have e7 := (show a.eval (.tmp 7) = .pointer (some ⟨b7, 0, none⟩) from hp.same 7 (by kernel_rfl))
              have e57 := (show a.eval (.tmp 57) = .int .i64 (kd : Int) from hp.fact 8 (by decide) (.inr (by kernel_rfl)) (.inl (by decide)))
              have e59 := (show a.eval (.tmp 59) = .int .i64 (kq : Int) from hp.fact 10 (by decide) (.inr (by kernel_rfl)) (.inl (by decide)))
              simp only [Act.eval, Array.getD_eq_getD_getElem?] at e57 e59 e63 e7
              unfold Does
              go_simp
              (try rw [e57, e59, e63, e7])
              refine (daddR w5 (fun g => g = gs) W b7 V o D hV (by omega) r hr kd kq _ _ rfl rfl (ren num ar) P9 m c9 (owns_on hrow k2) hnz).mono ?_
              rintro e w9 ⟨rfl, D9, K9⟩
              refine ⟨⟨_, rfl⟩, DT8K.sp w5 b b7 V (some ad) n c0 M gs cs num o r kd kq ar PA m cA p i jj (by decide) (fun _ => O5.on D9.on), ?_⟩
              exact ⟨w9, ⟨val_eq (by rw [hp.tsize]; exact (show (64 : Nat) < 74 by decide)), D9, D.ints K9 S⟩, On.refl _⟩
            · refine fun a W hp => ob_yes rfl (does_value (w' := W) (v := .pointer (some ⟨gs, jj, none⟩)) (do_value ?_) (DT8K.on w5 b b7 V (some ad) n c0 M gs cs num o r kd kq ar PA m cA p i jj (by decide) (On.refl W)) (val_eq (by rw [hp.tsize]; exact (show (65 : Nat) < 74 by decide))))
              (try simp only [List.map_toArray, List.map_cons, List.map_nil])
              rw [show a.eval (.tmp 49) = .slice (some ⟨gs, 0, none⟩) M cs from hp.fact 0 (by decide) (.inr (by kernel_rfl)) (.inl (by decide)), show a.eval (.tmp 55) = .int .i64 (jj : Int) from hp.fact 6 (by decide) (.inr (by kernel_rfl)) (.inl (by decide))]
              go_simp
              all_goals (rw [IntKind.wrap_i64]; omega)
            · refine fun a W hp => ?_
              obtain ⟨W1, ⟨g64, D1, S1⟩, k1⟩ : ∃ W1 : World, (slv a 64 = .int .i64 (r : Int) ∧ Dr w5 (fun g => g = gs) W1 b7 V (o ++ [(⟨kd, kq, ren num ar⟩ : Nn)]) ∧ W1.ownsRow w5.heap.size 3 1 (.slice (some ⟨gs, 0, none⟩) M cs) M (VI (ints num))) ∧ On W1 W := hp.fact 15 (by decide) (.inr (by kernel_rfl)) (.inr (.inl rfl))
              have hO : Own W b 56 #[.int .i64 (V : Int), .slice (some ad) n c0] := hp.fact 19 (by decide) (.inl (by decide)) (.inl (by decide))
              have D := D1.to k1
              have S := owns_on S1 k1
              obtain ⟨hgw, hgl, cur, hcur⟩ := row_own S
              have hc := row_cellG S hjM (v := num.getD jj 0) rfl
              have hfz := hcur.frozen jj
              refine ob_yes rfl (does_skip (w' := W.setCell ⟨gs, jj, none⟩ (.int .i64 (r : Int))) (do_unit ?_) (DT8K.sp w5 b b7 V (some ad) n c0 M gs cs num o r kd kq ar PA m cA p i jj (by decide) (fun h => h.far (p := ⟨gs, jj, none⟩) (by show b ≠ gs; have := O5.lt; omega) _)) ⟨_, ⟨?_, ?_⟩, On.refl _⟩)
              · rw [show a.eval (.tmp 65) = .pointer (some ⟨gs, jj, none⟩) from hp.fact 16 (by decide) (.inr (by kernel_rfl)) (.inl (by decide)), show a.eval (.tmp 64) = _ from g64]
                go_simp
              · exact D.set_ hcur hgw (by decide) (by decide) (fun _ => rfl) jj _
              · have := row_setZ S hjM (r : Int)
                rwa [ints_set] at this
          case rgDoneDT8 =>
            intro fv w9 hf
            obtain ⟨W1, ⟨D1, S1⟩, k1⟩ : ∃ W1 : World, (Dr w5 (fun g => g = gs) W1 b7 V (o ++ [(⟨kd, kq, ren num ar⟩ : Nn)]) ∧ W1.ownsRow w5.heap.size 3 1 (.slice (some ⟨gs, 0, none⟩) M cs) M (VI (ints (num.set jj r)))) ∧ On W1 w9 := hf 17 (by decide) (by decide)
            clear hf
            simp only [fillL]
            have D9 := D1.to k1
            have S9 := owns_on S1 k1
            clear S1 D1 k1
            have HD9 := Lib.hid (And.intro D9 S9)
            clear D9 S9 D0 N0 S0 O0 O5 hA harM
            go_wp2
            go_roundw
            case rel =>
              have e : trTo f (i + 1) = (num.set jj r, o ++ [⟨kd, kq, ren num ar⟩]) := by rw [HX.out.1, hjj, hr, if_pos hb1]; rfl
              exact ⟨i + 1, by omega, by go_num, by rw [e]; exact HD9.out.1, by rw [e]; exact HD9.out.2⟩
            case measure => simp [intOf] <;> omega
        · rw [Bool.eq_false_iff.2 hb1] at mc m0
          clear hs hl1 hl2 hA' hRA hm harg D0 N0 S0 O0 Nb Nc Pb Pc D0' S0' hc0' hc1' hc2' hx htr hmk m0
          go_wp2
          (try rw [hwc])
          go_roundw
          case rel =>
            have e : trTo f (i + 1) = (num, o) := by rw [HX.out.1, hjj, if_neg hb1]
            exact ⟨i + 1, by omega, by go_num, by rw [e]; exact H0.out.1, by rw [e]; exact H0.out.2.2.1⟩
          case measure => simp [intOf] <;> omega
      · obtain rfl : i = n := by omega
        have htM : t < M := by omega
        obtain ⟨gt', hgt⟩ : ∃ g, (trTo f i).1.getD t 0 = g := ⟨_, rfl⟩
        have hc := row_cellG S0' htM hgt
        have hTr : trim f = ⟨V, (trTo f i).2, gt'⟩ := by unfold trim; rw [HF.out.2.1, HF.out.2.2.1, HF.out.2.2.2, hgt]
        have hC := dwhole_any w5 (fun g => g = gs) wo b7 V _ D0' hV gt'
        rw [← hTr] at hC
        have HW := Lib.hid (And.intro D0' (And.intro hon (And.intro S0' hTr)))
        clear D0' S0' O0 hTr
        go_wp2_with fail
        refine hC.mono ?_
        rintro e w8 ⟨hMP, P8⟩
        clear hC hc q0 q1
        have C8 := HD.out.1.2.on (HM.out.2.2.trans (HW.out.1.on.trans P8))
        obtain ⟨c0', c1', c2'⟩ := own3 C8
        have g0 := C8.frozen 0
        have g1 := C8.frozen 1
        have g2 := C8.frozen 2
        have P8' := HW.out.2.1.trans P8
        have hqs : w.heap.size ≤ q := by omega
        rcases hMP with ⟨hle, A', c', rfl, hR⟩ | ⟨hgt2, rfl⟩
        · obtain ⟨tv, htv⟩ : ∃ z, (trim f).vars = z := ⟨_, rfl⟩
          obtain ⟨tt, htt⟩ : ∃ z, (trim f).top = z := ⟨_, rfl⟩
          obtain ⟨tn, htn⟩ : ∃ z, (trim f).nodes.length = z := ⟨_, rfl⟩
          have HT := Lib.hid (And.intro htv (And.intro htt htn))
          rw [htv, htt, htn]
          rw [htn] at hR hle
          clear htv htt htn
          have hq5 : q < w5.heap.size := by have := (HD.out.1.2.on HM.out.2.2).lt; exact this
          have OF := ((C8.set_ 0 (.int .i64 (tv : Int))).set_ 1 (.slice A' tn c')).set_ 2 (.int .i64 (tt : Int))
          obtain ⟨x0, x1, x2⟩ := own3 (show Own _ q 24 #[.int .i64 (tv : Int), .slice A' tn c', .int .i64 (tt : Int)] from OF)
          have P9 := On.setCell (On.setCell (On.setCell P8' (p := ⟨q, 0, none⟩) hqs (.int .i64 (tv : Int))) (p := ⟨q, 1, none⟩) hqs (.slice A' tn c')) (p := ⟨q, 2, none⟩) hqs (.int .i64 (tt : Int))
          have R9 := ((hR.far (p := ⟨q, 0, none⟩) hq5 (.int .i64 (tv : Int))).far (p := ⟨q, 1, none⟩) hq5 (.slice A' tn c')).far (p := ⟨q, 2, none⟩) hq5 (.int .i64 (tt : Int))
          have hw5 : w.heap.size ≤ w5.heap.size := by have := HD.out.2.2.size; have := HM.out.2.2.size; omega
          have HZ := Lib.hid (And.intro hle (And.intro P9 R9))
          clear OF P9 hle C8 R9 hR P8 P8'
          go_wp2
          refine bodyPost_ret (v := .tuple #[.agg #[.int .i64 (tv : Int), .slice A' tn c', .int .i64 (tt : Int)], .nilIface]) (by simp [results, Try.results25, go_sem, x0, x1, x2]) rfl ⟨.inl ?_, HZ.out.2.1⟩
          rw [HT.out.1, HT.out.2.1, HT.out.2.2]
          exact ⟨HZ.out.1, A', c', rfl, HZ.out.2.2.low hw5⟩
        · have OF := ((C8.set_ 0 (.int .i64 0)).set_ 1 (.slice none 0 0)).set_ 2 (.int .i64 0)
          obtain ⟨x0, x1, x2⟩ := own3 (show Own _ q 24 #[.int .i64 0, .slice none 0 0, .int .i64 0] from OF)
          have P9 := On.setCell (On.setCell (On.setCell P8' (p := ⟨q, 0, none⟩) hqs (.int .i64 0)) (p := ⟨q, 1, none⟩) hqs (.slice none 0 0)) (p := ⟨q, 2, none⟩) hqs (.int .i64 0)
          have HZ := Lib.hid (And.intro hgt2 P9)
          clear OF P9 hgt2 C8 P8 P8'
          rw [errV_pos 4 (by decide)]
          go_wp2
          refine bodyPost_ret (v := .tuple #[.agg #[.int .i64 0, .slice none 0 0, .int .i64 0], errV 4]) (by rw [errV_pos 4 (by decide)]; simp [results, Try.results25, go_sem, x0, x1, x2]) rfl ⟨.inr ⟨HZ.out.1, rfl⟩, HZ.out.2⟩
end Go.Proofs.Ytmkogcaafkobaaa.Fm
/-
  Drafts: a formula included.
-/
namespace Go.Proofs.Ytmkogcaafkobaaa.Fm
open Go.RowKit Go.Proofs.Ytmkogcaafkobaaa.Sb Go.Proofs.Ytmkogcaafkobaaa.Rgv
set_option linter.unusedVariables false
set_option linter.unusedSimpArgs false
set_option maxRecDepth 100000
theorem jev_jnow {v : Nat} {first : List Nn} {events : List Nat} {n i : Nat} (he : events.length = v) (hi : i ≤ n) {a : Nat} (ha : a < v + i) : (jev v first.length events i).getD a 0 = (jnow v first events n).getD a 0 := by
  by_cases hv : a < v
  · rw [jnow_event (by omega)]
    unfold jev
    exact getD_app _ _ _ (by omega)
  · obtain ⟨j, rfl⟩ : ∃ j, a = v + j := ⟨a - v, by omega⟩
    rw [jnow_node (by omega) he]
    unfold jev
    rw [← he, getD_appr]
    simp [show j < i by omega]
theorem jev_ren {v : Nat} {first : List Nn} {events : List Nat} {n i : Nat} (he : events.length = v) (hi : i ≤ n) {l : List Nat} (hl : ∀ a ∈ l, a < v + i) : ren (jev v first.length events i) l = ren (jnow v first events n) l := by
  unfold ren
  exact List.map_congr_left fun a ha => jev_jnow he hi (hl a ha)
/-- the nodes of f, where what stands for the events is so -/
def inclN (V : Nat) (first : List Nn) (events : List Nat) (f : Fn) : List Nn := f.nodes.map fun x => ⟨x.kind, x.k, ren (jnow V first events f.nodes.length) x.args⟩
def inclT (V : Nat) (first : List Nn) (events : List Nat) (f : Fn) (i : Nat) : List Nn := first ++ (f.nodes.take i).map fun x => ⟨x.kind, x.k, ren (jnow V first events f.nodes.length) x.args⟩
theorem inclT_zero (V : Nat) (first : List Nn) (events : List Nat) (f : Fn) : inclT V first events f 0 = first := by simp [inclT]
theorem inclT_len (V : Nat) (first : List Nn) (events : List Nat) (f : Fn) {i : Nat} (hi : i ≤ f.nodes.length) : (inclT V first events f i).length = first.length + i := by simp [inclT]; omega
theorem inclT_succ (V : Nat) (first : List Nn) (events : List Nat) (f : Fn) {i : Nat} (hi : i < f.nodes.length) : inclT V first events f (i + 1) = inclT V first events f i ++ [⟨(f.nd i).kind, (f.nd i).k, ren (jnow V first events f.nodes.length) (f.nd i).args⟩] := by
  unfold inclT
  rw [take_nd hi, List.map_append, List.append_assoc]; rfl
def DI (wa : World) (Y : Nat → Prop) (W0 : World) (b : Nat) (V : Nat) (o : List Nn) (o2 : List Nn) (res : Int) (zn : List Int) (PS : Option Addr) (ns : Nat) (cS : Nat) (kd : Nat) (kq : Nat) (ar : List Nat) (PA : Option Addr) (m : Nat) (cA : Nat) (p : Nat) (i : Nat) (f : Tmp → Value) (w : World) : Prop :=
  match i with
  | 0 => f 16 = Value.slice PS ns cS
  | 1 => f 17 = .pointer (some ⟨b, 0, none⟩)
  | 2 => f 18 = .pointer (some ⟨p, 0, none⟩)
  | 3 => f 19 = .int .i64 (kd : Int)
  | 4 => f 20 = .pointer (some ⟨p, 1, none⟩)
  | 5 => f 21 = .int .i64 (kq : Int)
  | 6 => f 22 = .pointer (some ⟨p, 2, none⟩)
  | 7 => f 23 = .slice PA m cA
  | 8 => f 24 = Value.slice PS ns cS
  | 9 => ∃ W1 : World, (∃ P c, f 25 = .slice P m c ∧ W1.ownsRow wa.heap.size 3 1 (.slice P m c) m (VI (renZ zn ar)) ∧ ∀ g, (Value.slice P m c).ownBlock = some g → ¬ ((Value.slice PS ns cS).ownBlock = some g ∨ Y g)) ∧ On W1 w
  | 10 => ∃ W1 : World, (f 26 = .int .i64 res ∧ Dr wa (fun g => (Value.slice PS ns cS).ownBlock = some g ∨ Y g) W1 b V o2 ∧ W1.ownsRow wa.heap.size 3 1 (Value.slice PS ns cS) ns (VI zn) ∧ KP W0 W1 b wa (Value.slice PS ns cS)) ∧ On W1 w
  | 11 => ∃ W1 : World, (∃ e : Nat, f 27 = .slice (some ⟨e, 0, none⟩) 1 1 ∧ Own W1 e 3 #[.int .i64 res]) ∧ On W1 w
  | 12 => ∃ W1 : World, (∃ PT cT, f 28 = .slice PT (ns + 1) cT ∧ Dr wa (fun g => (Value.slice PT (ns + 1) cT).ownBlock = some g ∨ Y g) W1 b V o2 ∧ W1.ownsRow wa.heap.size 3 1 (.slice PT (ns + 1) cT) (ns + 1) (VI (zn ++ [res])) ∧ KP W0 W1 b wa (Value.slice PS ns cS) ∧ NB W0 (Value.slice PS ns cS) (.slice PT (ns + 1) cT)) ∧ On W1 w
  | 13 => ∃ W1 : World, (∃ PT cT, f 2 = .slice PT (ns + 1) cT ∧ Dr wa (fun g => (Value.slice PT (ns + 1) cT).ownBlock = some g ∨ Y g) W1 b V o2 ∧ W1.ownsRow wa.heap.size 3 1 (.slice PT (ns + 1) cT) (ns + 1) (VI (zn ++ [res])) ∧ KP W0 W1 b wa (Value.slice PS ns cS) ∧ NB W0 (Value.slice PS ns cS) (.slice PT (ns + 1) cT)) ∧ On W1 w
  | 14 => ∃ W1 : World, (Dr wa (fun g => (Value.slice PS ns cS).ownBlock = some g ∨ Y g) W1 b V o ∧ Own W1 p 41 #[.int .i64 (kd : Int), .int .i64 (kq : Int), .slice PA m cA] ∧ W1.ownsRow wa.heap.size 3 1 (Value.slice PS ns cS) ns (VI zn) ∧ KP W0 W1 b wa (Value.slice PS ns cS)) ∧ On W1 w
  | _ => True
def DIEx (i : Nat) : Nat := if i = 9 then 10 else if i = 10 then 12 else if i = 11 then 12 else if i = 14 then 10 else 100
def DIK (wa : World) (Y : Nat → Prop) (W0 : World) (b : Nat) (V : Nat) (o : List Nn) (o2 : List Nn) (res : Int) (zn : List Int) (PS : Option Addr) (ns : Nat) (cS : Nat) (kd : Nat) (kq : Nat) (ar : List Nat) (PA : Option Addr) (m : Nat) (cA : Nat) (p : Nat) (i : Nat) (w w' : World) : Prop := if i = 10 ∨ i = 12 then (True → True) else On w w'
theorem DIK.on (wa : World) (Y : Nat → Prop) (W0 : World) (b : Nat) (V : Nat) (o : List Nn) (o2 : List Nn) (res : Int) (zn : List Int) (PS : Option Addr) (ns : Nat) (cS : Nat) (kd : Nat) (kq : Nat) (ar : List Nat) (PA : Option Addr) (m : Nat) (cA : Nat) (p : Nat) {i : Nat} {w w' : World} (h : ¬ (i = 10 ∨ i = 12)) (k9 : On w w') : DIK wa Y W0 b V o o2 res zn PS ns cS kd kq ar PA m cA p i w w' := by unfold DIK; rw [if_neg h]; exact k9
theorem DIK.sp (wa : World) (Y : Nat → Prop) (W0 : World) (b : Nat) (V : Nat) (o : List Nn) (o2 : List Nn) (res : Int) (zn : List Int) (PS : Option Addr) (ns : Nat) (cS : Nat) (kd : Nat) (kq : Nat) (ar : List Nat) (PA : Option Addr) (m : Nat) (cA : Nat) (p : Nat) {i : Nat} {w w' : World} (h : i = 10 ∨ i = 12) (k9 : True → True) : DIK wa Y W0 b V o o2 res zn PS ns cS kd kq ar PA m cA p i w w' := by unfold DIK; rw [if_pos h]; exact k9
theorem DI.cases {j : Nat} (h : j < 15) : j = 0 ∨ j = 1 ∨ j = 2 ∨ j = 3 ∨ j = 4 ∨ j = 5 ∨ j = 6 ∨ j = 7 ∨ j = 8 ∨ j = 9 ∨ j = 10 ∨ j = 11 ∨ j = 12 ∨ j = 13 ∨ j = 14 := by omega
theorem DI.on (wa : World) (Y : Nat → Prop) (W0 : World) (b : Nat) (V : Nat) (o : List Nn) (o2 : List Nn) (res : Int) (zn : List Int) (PS : Option Addr) (ns : Nat) (cS : Nat) (kd : Nat) (kq : Nat) (ar : List Nat) (PA : Option Addr) (m : Nat) (cA : Nat) (p : Nat) {j : Nat} (hj : j < 15) {f : Tmp → Value} {w w' : World} (k9 : On w w') (h : DI wa Y W0 b V o o2 res zn PS ns cS kd kq ar PA m cA p j f w) : DI wa Y W0 b V o o2 res zn PS ns cS kd kq ar PA m cA p j f w' := by
  rcases DI.cases hj with rfl | rfl | rfl | rfl | rfl | rfl | rfl | rfl | rfl | rfl | rfl | rfl | rfl | rfl | rfl
  · exact h
  · exact h
  · exact h
  · exact h
  · exact h
  · exact h
  · exact h
  · exact h
  · exact h
  · obtain ⟨W1, h1, h2⟩ := (show ∃ W1 : World, (∃ P c, f 25 = .slice P m c ∧ W1.ownsRow wa.heap.size 3 1 (.slice P m c) m (VI (renZ zn ar)) ∧ ∀ g, (Value.slice P m c).ownBlock = some g → ¬ ((Value.slice PS ns cS).ownBlock = some g ∨ Y g)) ∧ On W1 w from h)
    exact ⟨W1, h1, h2.trans k9⟩
  · obtain ⟨W1, h1, h2⟩ := (show ∃ W1 : World, (f 26 = .int .i64 res ∧ Dr wa (fun g => (Value.slice PS ns cS).ownBlock = some g ∨ Y g) W1 b V o2 ∧ W1.ownsRow wa.heap.size 3 1 (Value.slice PS ns cS) ns (VI zn) ∧ KP W0 W1 b wa (Value.slice PS ns cS)) ∧ On W1 w from h)
    exact ⟨W1, h1, h2.trans k9⟩
  · obtain ⟨W1, h1, h2⟩ := (show ∃ W1 : World, (∃ e : Nat, f 27 = .slice (some ⟨e, 0, none⟩) 1 1 ∧ Own W1 e 3 #[.int .i64 res]) ∧ On W1 w from h)
    exact ⟨W1, h1, h2.trans k9⟩
  · obtain ⟨W1, h1, h2⟩ := (show ∃ W1 : World, (∃ PT cT, f 28 = .slice PT (ns + 1) cT ∧ Dr wa (fun g => (Value.slice PT (ns + 1) cT).ownBlock = some g ∨ Y g) W1 b V o2 ∧ W1.ownsRow wa.heap.size 3 1 (.slice PT (ns + 1) cT) (ns + 1) (VI (zn ++ [res])) ∧ KP W0 W1 b wa (Value.slice PS ns cS) ∧ NB W0 (Value.slice PS ns cS) (.slice PT (ns + 1) cT)) ∧ On W1 w from h)
    exact ⟨W1, h1, h2.trans k9⟩
  · obtain ⟨W1, h1, h2⟩ := (show ∃ W1 : World, (∃ PT cT, f 2 = .slice PT (ns + 1) cT ∧ Dr wa (fun g => (Value.slice PT (ns + 1) cT).ownBlock = some g ∨ Y g) W1 b V o2 ∧ W1.ownsRow wa.heap.size 3 1 (.slice PT (ns + 1) cT) (ns + 1) (VI (zn ++ [res])) ∧ KP W0 W1 b wa (Value.slice PS ns cS) ∧ NB W0 (Value.slice PS ns cS) (.slice PT (ns + 1) cT)) ∧ On W1 w from h)
    exact ⟨W1, h1, h2.trans k9⟩
  · obtain ⟨W1, h1, h2⟩ := (show ∃ W1 : World, (Dr wa (fun g => (Value.slice PS ns cS).ownBlock = some g ∨ Y g) W1 b V o ∧ Own W1 p 41 #[.int .i64 (kd : Int), .int .i64 (kq : Int), .slice PA m cA] ∧ W1.ownsRow wa.heap.size 3 1 (Value.slice PS ns cS) ns (VI zn) ∧ KP W0 W1 b wa (Value.slice PS ns cS)) ∧ On W1 w from h)
    exact ⟨W1, h1, h2.trans k9⟩
theorem DI.dep (wa : World) (Y : Nat → Prop) (W0 : World) (b : Nat) (V : Nat) (o : List Nn) (o2 : List Nn) (res : Int) (zn : List Int) (PS : Option Addr) (ns : Nat) (cS : Nat) (kd : Nat) (kq : Nat) (ar : List Nat) (PA : Option Addr) (m : Nat) (cA : Nat) (p : Nat) {j : Nat} (hj : j < 15) {f f' : Tmp → Value} {w : World} (hd : ∀ d, d ∈ (match j with | 0 => [16] | 1 => [17] | 2 => [18] | 3 => [19] | 4 => [20] | 5 => [21] | 6 => [22] | 7 => [23] | 8 => [24] | 9 => [25] | 10 => [26] | 11 => [27] | 12 => [28] | 13 => [2] | 14 => [] | _ => []) → f d = f' d) (h : DI wa Y W0 b V o o2 res zn PS ns cS kd kq ar PA m cA p j f w) : DI wa Y W0 b V o o2 res zn PS ns cS kd kq ar PA m cA p j f' w := by
  rcases DI.cases hj with rfl | rfl | rfl | rfl | rfl | rfl | rfl | rfl | rfl | rfl | rfl | rfl | rfl | rfl | rfl
  · have h' : f 16 = Value.slice PS ns cS := h
    simp only [hd 16 (by simp)] at h'
    exact h'
  · have h' : f 17 = .pointer (some ⟨b, 0, none⟩) := h
    simp only [hd 17 (by simp)] at h'
    exact h'
  · have h' : f 18 = .pointer (some ⟨p, 0, none⟩) := h
    simp only [hd 18 (by simp)] at h'
    exact h'
  · have h' : f 19 = .int .i64 (kd : Int) := h
    simp only [hd 19 (by simp)] at h'
    exact h'
  · have h' : f 20 = .pointer (some ⟨p, 1, none⟩) := h
    simp only [hd 20 (by simp)] at h'
    exact h'
  · have h' : f 21 = .int .i64 (kq : Int) := h
    simp only [hd 21 (by simp)] at h'
    exact h'
  · have h' : f 22 = .pointer (some ⟨p, 2, none⟩) := h
    simp only [hd 22 (by simp)] at h'
    exact h'
  · have h' : f 23 = .slice PA m cA := h
    simp only [hd 23 (by simp)] at h'
    exact h'
  · have h' : f 24 = Value.slice PS ns cS := h
    simp only [hd 24 (by simp)] at h'
    exact h'
  · have h' : ∃ W1 : World, (∃ P c, f 25 = .slice P m c ∧ W1.ownsRow wa.heap.size 3 1 (.slice P m c) m (VI (renZ zn ar)) ∧ ∀ g, (Value.slice P m c).ownBlock = some g → ¬ ((Value.slice PS ns cS).ownBlock = some g ∨ Y g)) ∧ On W1 w := h
    simp only [hd 25 (by simp)] at h'
    exact h'
  · have h' : ∃ W1 : World, (f 26 = .int .i64 res ∧ Dr wa (fun g => (Value.slice PS ns cS).ownBlock = some g ∨ Y g) W1 b V o2 ∧ W1.ownsRow wa.heap.size 3 1 (Value.slice PS ns cS) ns (VI zn) ∧ KP W0 W1 b wa (Value.slice PS ns cS)) ∧ On W1 w := h
    simp only [hd 26 (by simp)] at h'
    exact h'
  · have h' : ∃ W1 : World, (∃ e : Nat, f 27 = .slice (some ⟨e, 0, none⟩) 1 1 ∧ Own W1 e 3 #[.int .i64 res]) ∧ On W1 w := h
    simp only [hd 27 (by simp)] at h'
    exact h'
  · have h' : ∃ W1 : World, (∃ PT cT, f 28 = .slice PT (ns + 1) cT ∧ Dr wa (fun g => (Value.slice PT (ns + 1) cT).ownBlock = some g ∨ Y g) W1 b V o2 ∧ W1.ownsRow wa.heap.size 3 1 (.slice PT (ns + 1) cT) (ns + 1) (VI (zn ++ [res])) ∧ KP W0 W1 b wa (Value.slice PS ns cS) ∧ NB W0 (Value.slice PS ns cS) (.slice PT (ns + 1) cT)) ∧ On W1 w := h
    simp only [hd 28 (by simp)] at h'
    exact h'
  · have h' : ∃ W1 : World, (∃ PT cT, f 2 = .slice PT (ns + 1) cT ∧ Dr wa (fun g => (Value.slice PT (ns + 1) cT).ownBlock = some g ∨ Y g) W1 b V o2 ∧ W1.ownsRow wa.heap.size 3 1 (.slice PT (ns + 1) cT) (ns + 1) (VI (zn ++ [res])) ∧ KP W0 W1 b wa (Value.slice PS ns cS) ∧ NB W0 (Value.slice PS ns cS) (.slice PT (ns + 1) cT)) ∧ On W1 w := h
    simp only [hd 2 (by simp)] at h'
    exact h'
  · have h' : ∃ W1 : World, (Dr wa (fun g => (Value.slice PS ns cS).ownBlock = some g ∨ Y g) W1 b V o ∧ Own W1 p 41 #[.int .i64 (kd : Int), .int .i64 (kq : Int), .slice PA m cA] ∧ W1.ownsRow wa.heap.size 3 1 (Value.slice PS ns cS) ns (VI zn) ∧ KP W0 W1 b wa (Value.slice PS ns cS)) ∧ On W1 w := h
    exact h'
set_option maxHeartbeats 16000000 in
theorem dincl_any (w5 : World) (Y : Nat → Prop) (w : World) (b V : Nat) (first : List Nn) (P0 : Option Addr) (c0 : Nat) (D : Dr w5 (fun g => (Value.slice P0 V c0).ownBlock = some g ∨ Y g) w b V first) (hv : V ≤ 24) (hfl : first.length ≤ 1000) (events : List Nat) (S : w.ownsRow w5.heap.size 3 1 (.slice P0 V c0) V (VI (ints events))) (f : Fn) (hf : WF f) (hVV : f.vars = V) (A : Option Addr) (n c : Nat) (h : RdN w5 A n c (rawL f.nodes)) :
    Calls Try.prog 38 #[.pointer (some ⟨b, 0, none⟩), .agg #[.int .i64 (V : Int), .slice A n c, .int .i64 (f.top : Int)], .slice P0 V c0] w fun e w' => e = .returned (.int .i64 ((jnow V first events f.nodes.length).getD f.top 0 : Nat)) ∧ Dr w5 Y w' b V (first ++ inclN V first events f) ∧ KP w w' b w5 (.slice P0 V c0) := by
  have hn : f.nodes.length = n := by have := h.len; rwa [raw_len] at this
  have hcap := h.cap
  have hmax := h.max
  have hel : events.length = V := by have := VI_len (rd_of_row S); rwa [ints_length] at this
  have hn128 : f.nodes.length ≤ 128 := hf.2.1
  have htop := hf.2.2.2
  rw [hn] at hn128 htop
  obtain ⟨q, hq⟩ : ∃ q, w.heap.size = q := ⟨_, rfl⟩
  obtain ⟨w0, hw0⟩ : ∃ w0, w.alloc (.cells #[.int .i64 (V : Int), .slice A n c, .int .i64 (f.top : Int)] 24) = w0 := ⟨_, rfl⟩
  have O0 : Own w0 q 24 #[.int .i64 (V : Int), .slice A n c, .int .i64 (f.top : Int)] := by rw [← hw0, ← hq]; exact Own.new _ _ _
  have Pw : On w w0 := by rw [← hw0]; exact (On.refl w).alloc _
  obtain ⟨tp, htp⟩ : ∃ tp, f.top = tp := ⟨_, rfl⟩
  rw [htp] at htop O0 hw0 ⊢
  rw [hVV] at htop
  obtain ⟨r0, r1, r2⟩ := own3 O0
  have K0 := (KP.refl w b w5 (.slice P0 V c0)).to D.lt Pw
  have hab := D.hab
  have hbq := D.lt
  have HS := Lib.hid (And.intro (D.to Pw) (And.intro (owns_on S Pw) (And.intro K0 (And.intro O0 hel))))
  have HF := Lib.hid (And.intro hf (And.intro hn h))
  clear D S O0 Pw K0 hf hn h hel
  go_enter Try.func38, Try.ntmps38
  go_wp2
  clear r0 r1 r2 hw0
  go_loopw [12, 2] (fun i sv wr => ∃ k : Nat, k ≤ n ∧ i = .int .i64 (k : Int) ∧ ∃ PS cS, sv = .slice PS (V + k) cS ∧ Dr w5 (fun g => (Value.slice PS (V + k) cS).ownBlock = some g ∨ Y g) wr b V (inclT V first events f k) ∧ wr.ownsRow w5.heap.size 3 1 (.slice PS (V + k) cS) (V + k) (VI (ints (jev V first.length events k))) ∧ KP w wr b w5 (.slice P0 V c0) ∧ NB w (.slice P0 V c0) (.slice PS (V + k) cS) ∧ Own wr q 24 #[.int .i64 (V : Int), .slice A n c, .int .i64 (tp : Int)]) (fun i _ _ => n - (intOf i).toNat)
  case atStart => exact ⟨0, by omega, rfl, P0, c0, rfl, by rw [inclT_zero]; exact HS.out.1, by rw [show jev V first.length events 0 = events by simp [jev]]; exact HS.out.2.1, HS.out.2.2.1, NB.refl _ _, HS.out.2.2.2.1⟩
  case round =>
    obtain ⟨i, hi, rfl, PS, cS, rfl, D0', S0', K0', B0', O0'⟩ := hrel
    obtain ⟨wo, hwo⟩ : ∃ wo, wo = wr := ⟨_, rfl⟩
    subst hwo
    by_cases hlt : i < n
    · have Pw1 := D0'.on
      obtain ⟨ad, rfl, hb9, PA, m, cA, hc0', hc1', hc2', hRA⟩ := HF.out.2.2.at_ i hlt
      rw [raw_get] at hc0' hc1' hRA
      have hbk : (ad.add (i * 3)).block < w5.heap.size := by rw [block_of_add]; exact hb9
      have hc0 := (Below.cell Pw1 hbk).trans hc0'
      have hc1 := (Below.cell Pw1 (p := ⟨(ad.add (i * 3)).block, (ad.add (i * 3)).off + 1, none⟩) hbk).trans hc1'
      have hc2 := (Below.cell Pw1 (p := ⟨(ad.add (i * 3)).block, (ad.add (i * 3)).off + 2, none⟩) hbk).trans hc2'
      have hm : (f.nd i).args.length = m := by have := VI_len hRA; unfold Nn.raw at this; rwa [ints_length] at this
      have hok := HF.out.1.2.2.1 i (by rw [HF.out.2.1]; exact hlt)
      rw [hVV] at hok
      have hm16 : m ≤ 16 := by rw [← hm]; exact okN_len hok
      have harg : ∀ a ∈ (f.nd i).args, a < V + i := hok.2.2.2.2.1
      obtain ⟨⟨kd, kq, ar⟩, hx⟩ : ∃ x, f.nd i = x := ⟨_, rfl⟩
      rw [hx] at hc0 hc1 hRA hm harg hok
      simp only at hm harg
      have hA' : Rd w5 PA m cA (VI (ints ar)) := hRA
      replace hc0 := (show _ = some (Value.int .i64 (kd : Int)) from hc0)
      replace hc1 := (show _ = some (Value.int .i64 (kq : Int)) from hc1)
      have hs := inclT_succ V first events f (show i < f.nodes.length by rw [HF.out.2.1]; exact hlt)
      have hjs := jev_succ V first.length events i
      have hol := inclT_len V first events f (show i ≤ f.nodes.length by rw [HF.out.2.1]; exact hi)
      rw [hx] at hs
      simp only at hs
      have hjr := jev_ren (first := first) (n := f.nodes.length) HS.out.2.2.2.2 (by rw [HF.out.2.1]; exact hi) harg
      obtain ⟨o, ho⟩ : ∃ o, inclT V first events f i = o := ⟨_, rfl⟩
      rw [ho] at hs D0' hol
      obtain ⟨now, hnow⟩ : ∃ now, jev V first.length events i = now := ⟨_, rfl⟩
      rw [hnow] at hjs hjr S0'
      obtain ⟨zn, hzn⟩ : ∃ zn, ints now = zn := ⟨_, rfl⟩
      rw [hzn] at S0'
      obtain ⟨r, hr⟩ : ∃ r, V + o.length = r := ⟨_, rfl⟩
      obtain ⟨l, hl⟩ : ∃ l, ren now ar = l := ⟨_, rfl⟩
      rw [← hjr, hl] at hs
      have hzl : renZ zn ar = ints l := by rw [← hzn, renZ_ints, hl]
      obtain ⟨o2, ho2⟩ : ∃ o2, o ++ [(⟨kd, kq, l⟩ : Nn)] = o2 := ⟨_, rfl⟩
      rw [ho2] at hs
      have hrr : V + first.length + i = r := by omega
      rw [hrr] at hjs
      obtain ⟨res, hres⟩ : ∃ res : Int, (r : Int) = res := ⟨_, rfl⟩
      obtain ⟨ns, hns⟩ : ∃ ns, V + i = ns := ⟨_, rfl⟩
      rw [hns] at D0' S0' B0' harg ⊢
      have hcall : ∀ (W : World) (D : Dr w5 (fun g => (Value.slice PS ns cS).ownBlock = some g ∨ Y g) W b V o) (P : Option Addr) (c : Nat) (F : W.ownsRow w5.heap.size 3 1 (.slice P m c) m (VI (renZ zn ar))) (hFZ : ∀ g, (Value.slice P m c).ownBlock = some g → ¬ ((Value.slice PS ns cS).ownBlock = some g ∨ Y g)), Calls Try.prog 22 #[.pointer (some ⟨b, 0, none⟩), .int .i64 (kd : Int), .int .i64 (kq : Int), .slice P m c] W fun e w' => e = .returned (.int .i64 res) ∧ Dr w5 (fun g => (Value.slice PS ns cS).ownBlock = some g ∨ Y g) w' b V o2 ∧ Dk b W w' := by
        intro W D P c F hFZ
        rw [hzl] at F
        rw [← hres, ← ho2]
        exact daddR w5 _ W b V o D hv (by omega) r hr kd kq _ _ rfl rfl l P m c F hFZ
      have hcall := Lib.hid hcall
      have HX := Lib.hid (And.intro hs (And.intro hjs (And.intro hres hzn)))
      have HA := Lib.hid (And.intro hA' (And.intro hm harg))
      have HK := Lib.hid (And.intro K0' (And.intro B0' O0'))
      obtain ⟨p, hp⟩ : ∃ p, wo.heap.size = p := ⟨_, rfl⟩
      obtain ⟨wb, hwb⟩ : ∃ wb, wo.alloc (.cells #[.int .i64 0, .int .i64 0, .slice none 0 0] 41) = wb := ⟨_, rfl⟩
      have Nb : Own wb p 41 #[.int .i64 0, .int .i64 0, .slice none 0 0] := by rw [← hwb, ← hp]; exact Own.new _ _ _
      have Pb : On wo wb := by rw [← hwb]; exact (On.refl wo).alloc _
      obtain ⟨wc, hwc⟩ : ∃ wc, ((wb.setCell ⟨p, 0, none⟩ (.int .i64 (kd : Int))).setCell ⟨p, 1, none⟩ (.int .i64 (kq : Int))).setCell ⟨p, 2, none⟩ (.slice PA m cA) = wc := ⟨_, rfl⟩
      have Nc : Own wc p 41 #[.int .i64 (kd : Int), .int .i64 (kq : Int), .slice PA m cA] := by rw [← hwc]; exact ((Nb.set_ 0 _).set_ 1 _).set_ 2 _
      have Pc : On wo wc := by rw [← hwc]; exact On.setCell (On.setCell (On.setCell Pb (p := ⟨p, 0, none⟩) (by show wo.heap.size ≤ p; omega) _) (p := ⟨p, 1, none⟩) (by show wo.heap.size ≤ p; omega) _) (p := ⟨p, 2, none⟩) (by show wo.heap.size ≤ p; omega) _
      obtain ⟨x0, x1, x2⟩ := own3 Nb
      have f0 := Nb.frozen 0
      have f1 := Nb.frozen 1
      have f2 := Nb.frozen 2
      clear Nb Pb
      have D0 := D0'.to Pc
      have S0 := owns_on S0' Pc
      have N0 := Nc
      have O1 := O0'.on Pc
      have hsz : wo.heap.size ≤ wc.heap.size := Pc.size
      have KW := (KP.refl wo b w5 (.slice PS ns cS)).to D0'.lt Pc
      have hqne : q ≠ b := by omega
      clear hs hjs hr hl ho2 hres hzn hzl hA' hRA hm harg hok hc0' hc1' hc2' hx ho hnow hjr D0' S0' Nc Pc K0' B0' O0'
      have H0 := Lib.hid (And.intro D0 (And.intro N0 (And.intro S0 (And.intro O1 (And.intro KW hsz)))))
      clear D0 N0 S0 O1 KW
      go_upto_region 4 with fail
      (try rw [hwc])
      obtain ⟨w9s, hw9s⟩ : ∃ w9s, wc = w9s := ⟨_, rfl⟩
      have D0 := H0.out.1
      have N0 := H0.out.2.1
      have S0 := H0.out.2.2.1
      rw [hw9s] at D0 N0 S0 ⊢
      have hA : ∀ W, On w5 W → Rd W PA m cA (VI (ints ar)) := fun W k => HA.out.1.on k
      have harM : ∀ a ∈ ar, a < ns := HA.out.2.2
      clear hc0 hc1 hc2 x0 x1 x2 f0 f1 f2 hwb hwc
      refine wp_region_w (by kernel_rfl) 15 (DI w5 Y w9s b V o o2 res zn PS ns cS kd kq ar PA m cA p) DIEx (DIK w5 Y w9s b V o o2 res zn PS ns cS kd kq ar PA m cA p) [none, none, some 2, none, none, none, none, none, none, none, none, none, none, none, none, none, some 16, some 17, some 18, some 19, some 20, some 21, some 22, some 23, some 24, some 25, some 26, some 27, some 28, none, none, none, none, none, none] (by kernel_rfl) (by kernel_rfl) (by kernel_rfl) rfl ?rgDepDI ?rgKeepDI (by decide) ?rgInitDI ?rgOpsDI ?rgDoneDI
      case rgDepDI =>
        intro j9 f1 f2 W hj hd h
        refine DI.dep w5 Y w9s b V o o2 res zn PS ns cS kd kq ar PA m cA p hj ?_ h
        rcases DI.cases hj with rfl | rfl | rfl | rfl | rfl | rfl | rfl | rfl | rfl | rfl | rfl | rfl | rfl | rfl | rfl <;> first | (intro d hm; simp at hm; done) | (intro d hm; simp at hm; (try rcases hm with rfl | rfl) <;> (try subst hm) <;> exact hd _ (by kernel_rfl))
      case rgKeepDI =>
        intro i9 j9 f1 W W' hi hj hij hex hw1 hw2 hk h
        unfold DIK at hk
        by_cases h10 : i9 = 10
        · subst h10
          rw [if_pos (by decide)] at hk
          rcases DI.cases hj with rfl | rfl | rfl | rfl | rfl | rfl | rfl | rfl | rfl | rfl | rfl | rfl | rfl | rfl | rfl
          · exact h
          · exact h
          · exact h
          · exact h
          · exact h
          · exact h
          · exact h
          · exact h
          · exact h
          · exact absurd rfl hex
          · exact absurd rfl hij
          · exact absurd (hw1.symm.trans (show _ = true by kernel_rfl)) (by decide)
          · exact absurd (hw1.symm.trans (show _ = true by kernel_rfl)) (by decide)
          · exact absurd (hw1.symm.trans (show _ = true by kernel_rfl)) (by decide)
          · exact absurd rfl hex
        by_cases h12 : i9 = 12
        · subst h12
          rw [if_pos (by decide)] at hk
          rcases DI.cases hj with rfl | rfl | rfl | rfl | rfl | rfl | rfl | rfl | rfl | rfl | rfl | rfl | rfl | rfl | rfl
          · exact h
          · exact h
          · exact h
          · exact h
          · exact h
          · exact h
          · exact h
          · exact h
          · exact h
          · exact absurd (hw2.symm.trans (show _ = true by kernel_rfl)) (by decide)
          · exact absurd rfl hex
          · exact absurd rfl hex
          · exact absurd rfl hij
          · exact absurd (hw1.symm.trans (show _ = true by kernel_rfl)) (by decide)
          · exact absurd (hw2.symm.trans (show _ = true by kernel_rfl)) (by decide)
        rw [if_neg (by omega)] at hk
        exact DI.on w5 Y w9s b V o o2 res zn PS ns cS kd kq ar PA m cA p hj hk h
      case rgInitDI =>
        intro j9 h1 h2
        have h1' : 14 ≤ j9 := h1
        have h2' : j9 < 15 := h2
        obtain rfl : j9 = 14 := by omega
        · exact ⟨_, ⟨D0, N0, S0, KP.refl _ _ _ _⟩, (On.refl _).drew⟩
      case rgOpsDI =>
        refine ⟨?_, ?_, ?_, ?_, ?_, ?_, ?_, ?_, ?_, ?_, ?_, ?_, ?_, ?_, trivial⟩
        · refine fun a W hp => ob_yes rfl (does_value (w' := W) (v := a.eval (.tmp 2)) rfl (DIK.on w5 Y w9s b V o o2 res zn PS ns cS kd kq ar PA m cA p (by decide) (On.refl W)) ((val_eq (by rw [hp.tsize]; exact (show (16 : Nat) < 35 by decide))).trans (show a.eval (.tmp 2) = Value.slice PS ns cS from hp.same 2 (by kernel_rfl))))
        · refine fun a W hp => ob_yes rfl (does_value (w' := W) (v := a.eval (.tmp 0)) rfl (DIK.on w5 Y w9s b V o o2 res zn PS ns cS kd kq ar PA m cA p (by decide) (On.refl W)) ((val_eq (by rw [hp.tsize]; exact (show (17 : Nat) < 35 by decide))).trans (show a.eval (.tmp 0) = .pointer (some ⟨b, 0, none⟩) from hp.same 0 (by kernel_rfl))))
        · refine fun a W hp => ob_yes rfl (does_value (w' := W) (v := .pointer (some ⟨p, 0, none⟩)) (do_value ?_) (DIK.on w5 Y w9s b V o o2 res zn PS ns cS kd kq ar PA m cA p (by decide) (On.refl W)) (val_eq (by rw [hp.tsize]; exact (show (18 : Nat) < 35 by decide))))
          (try simp only [List.map_toArray, List.map_cons, List.map_nil])
          rw [show a.eval (.tmp 8) = .pointer (some ⟨p, 0, none⟩) from hp.same 8 (by kernel_rfl)]
          go_simp
          all_goals (rw [IntKind.wrap_i64]; omega)
        · refine fun a W hp => ob_yes rfl (does_value (w' := W) (v := .int .i64 (kd : Int)) (do_value ?_) (DIK.on w5 Y w9s b V o o2 res zn PS ns cS kd kq ar PA m cA p (by decide) (On.refl W)) (val_eq (by rw [hp.tsize]; exact (show (19 : Nat) < 35 by decide))))
          obtain ⟨W1, ⟨D1, N1, S1, Q1⟩, k1⟩ : ∃ W1 : World, (Dr w5 (fun g => (Value.slice PS ns cS).ownBlock = some g ∨ Y g) W1 b V o ∧ Own W1 p 41 #[.int .i64 (kd : Int), .int .i64 (kq : Int), .slice PA m cA] ∧ W1.ownsRow w5.heap.size 3 1 (Value.slice PS ns cS) ns (VI zn) ∧ KP w9s W1 b w5 (Value.slice PS ns cS)) ∧ On W1 W := hp.fact 14 (by decide) (.inl (by decide)) (.inr (.inr (by kernel_rfl)))
          obtain ⟨q0, q1, q2⟩ := own3 (N1.on k1)
          clear D1 N1 S1
          (try simp only [List.map_toArray, List.map_cons, List.map_nil])
          rw [show a.eval (.tmp 18) = .pointer (some ⟨p, 0, none⟩) from hp.fact 2 (by decide) (.inr (by kernel_rfl)) (.inl (by decide))]
          go_simp
          all_goals (rw [IntKind.wrap_i64]; omega)
        · refine fun a W hp => ob_yes rfl (does_value (w' := W) (v := .pointer (some ⟨p, 1, none⟩)) (do_value ?_) (DIK.on w5 Y w9s b V o o2 res zn PS ns cS kd kq ar PA m cA p (by decide) (On.refl W)) (val_eq (by rw [hp.tsize]; exact (show (20 : Nat) < 35 by decide))))
          (try simp only [List.map_toArray, List.map_cons, List.map_nil])
          rw [show a.eval (.tmp 8) = .pointer (some ⟨p, 0, none⟩) from hp.same 8 (by kernel_rfl)]
          go_simp
          all_goals (rw [IntKind.wrap_i64]; omega)
        · refine fun a W hp => ob_yes rfl (does_value (w' := W) (v := .int .i64 (kq : Int)) (do_value ?_) (DIK.on w5 Y w9s b V o o2 res zn PS ns cS kd kq ar PA m cA p (by decide) (On.refl W)) (val_eq (by rw [hp.tsize]; exact (show (21 : Nat) < 35 by decide))))
          obtain ⟨W1, ⟨D1, N1, S1, Q1⟩, k1⟩ : ∃ W1 : World, (Dr w5 (fun g => (Value.slice PS ns cS).ownBlock = some g ∨ Y g) W1 b V o ∧ Own W1 p 41 #[.int .i64 (kd : Int), .int .i64 (kq : Int), .slice PA m cA] ∧ W1.ownsRow w5.heap.size 3 1 (Value.slice PS ns cS) ns (VI zn) ∧ KP w9s W1 b w5 (Value.slice PS ns cS)) ∧ On W1 W := hp.fact 14 (by decide) (.inl (by decide)) (.inr (.inr (by kernel_rfl)))
          obtain ⟨q0, q1, q2⟩ := own3 (N1.on k1)
          clear D1 N1 S1
          (try simp only [List.map_toArray, List.map_cons, List.map_nil])
          rw [show a.eval (.tmp 20) = .pointer (some ⟨p, 1, none⟩) from hp.fact 4 (by decide) (.inr (by kernel_rfl)) (.inl (by decide))]
          go_simp
          all_goals (rw [IntKind.wrap_i64]; omega)
        · refine fun a W hp => ob_yes rfl (does_value (w' := W) (v := .pointer (some ⟨p, 2, none⟩)) (do_value ?_) (DIK.on w5 Y w9s b V o o2 res zn PS ns cS kd kq ar PA m cA p (by decide) (On.refl W)) (val_eq (by rw [hp.tsize]; exact (show (22 : Nat) < 35 by decide))))
          (try simp only [List.map_toArray, List.map_cons, List.map_nil])
          rw [show a.eval (.tmp 8) = .pointer (some ⟨p, 0, none⟩) from hp.same 8 (by kernel_rfl)]
          go_simp
          all_goals (rw [IntKind.wrap_i64]; omega)
        · refine fun a W hp => ob_yes rfl (does_value (w' := W) (v := .slice PA m cA) (do_value ?_) (DIK.on w5 Y w9s b V o o2 res zn PS ns cS kd kq ar PA m cA p (by decide) (On.refl W)) (val_eq (by rw [hp.tsize]; exact (show (23 : Nat) < 35 by decide))))
          obtain ⟨W1, ⟨D1, N1, S1, Q1⟩, k1⟩ : ∃ W1 : World, (Dr w5 (fun g => (Value.slice PS ns cS).ownBlock = some g ∨ Y g) W1 b V o ∧ Own W1 p 41 #[.int .i64 (kd : Int), .int .i64 (kq : Int), .slice PA m cA] ∧ W1.ownsRow w5.heap.size 3 1 (Value.slice PS ns cS) ns (VI zn) ∧ KP w9s W1 b w5 (Value.slice PS ns cS)) ∧ On W1 W := hp.fact 14 (by decide) (.inl (by decide)) (.inr (.inr (by kernel_rfl)))
          obtain ⟨q0, q1, q2⟩ := own3 (N1.on k1)
          clear D1 N1 S1
          (try simp only [List.map_toArray, List.map_cons, List.map_nil])
          rw [show a.eval (.tmp 22) = .pointer (some ⟨p, 2, none⟩) from hp.fact 6 (by decide) (.inr (by kernel_rfl)) (.inl (by decide))]
          go_simp
          all_goals (rw [IntKind.wrap_i64]; omega)
        · refine fun a W hp => ob_yes rfl (does_value (w' := W) (v := a.eval (.tmp 2)) rfl (DIK.on w5 Y w9s b V o o2 res zn PS ns cS kd kq ar PA m cA p (by decide) (On.refl W)) ((val_eq (by rw [hp.tsize]; exact (show (24 : Nat) < 35 by decide))).trans (show a.eval (.tmp 2) = Value.slice PS ns cS from hp.same 2 (by kernel_rfl))))
        · refine fun a W hp => ob_yes rfl ?_
          obtain ⟨W1, ⟨D1, N1, S1, Q1⟩, k1⟩ : ∃ W1 : World, (Dr w5 (fun g => (Value.slice PS ns cS).ownBlock = some g ∨ Y g) W1 b V o ∧ Own W1 p 41 #[.int .i64 (kd : Int), .int .i64 (kq : Int), .slice PA m cA] ∧ W1.ownsRow w5.heap.size 3 1 (Value.slice PS ns cS) ns (VI zn) ∧ KP w9s W1 b w5 (Value.slice PS ns cS)) ∧ On W1 W := hp.fact 14 (by decide) (.inl (by decide)) (.inr (.inr (by kernel_rfl)))
          have D := D1.to k1
          have S := owns_on S1 k1
          have e23 := (show a.eval (.tmp 23) = .slice PA m cA from hp.fact 7 (by decide) (.inr (by kernel_rfl)) (.inl (by decide)))
          have e24 := (show a.eval (.tmp 24) = Value.slice PS ns cS from hp.fact 8 (by decide) (.inr (by kernel_rfl)) (.inl (by decide)))
          simp only [Act.eval, Array.getD_eq_getD_getElem?] at e23 e24
          unfold Does
          go_simp
          (try rw [e23, e24])
          refine (repl_any W W.heap.size (Nat.le_refl _) PA m cA ar (hA W D.on) _ ns cS zn (rd_of_row S) harM (by omega)).mono ?_
          rintro e w9 ⟨P9, c9, rfl, hrow, hP9⟩
          refine ⟨⟨_, rfl⟩, DIK.on w5 Y w9s b V o o2 res zn PS ns cS kd kq ar PA m cA p (by decide) (hP9), ?_⟩
          exact ⟨w9, ⟨P9, c9, val_eq (by rw [hp.tsize]; exact (show (25 : Nat) < 35 by decide)), row_low hrow D.on.size, D.fresh hrow⟩, On.refl _⟩
        · refine fun a W hp => ob_yes rfl ?_
          obtain ⟨W1, ⟨D1, N1, S1, Q1⟩, k1⟩ : ∃ W1 : World, (Dr w5 (fun g => (Value.slice PS ns cS).ownBlock = some g ∨ Y g) W1 b V o ∧ Own W1 p 41 #[.int .i64 (kd : Int), .int .i64 (kq : Int), .slice PA m cA] ∧ W1.ownsRow w5.heap.size 3 1 (Value.slice PS ns cS) ns (VI zn) ∧ KP w9s W1 b w5 (Value.slice PS ns cS)) ∧ On W1 W := hp.fact 14 (by decide) (.inl (by decide)) (.inr (.inl rfl))
          have D := D1.to k1
          have S := owns_on S1 k1
          obtain ⟨W2, ⟨P9, c9, g33, hrow, hnz⟩, k2⟩ : ∃ W2 : World, (∃ P c, slv a 25 = .slice P m c ∧ W2.ownsRow w5.heap.size 3 1 (.slice P m c) m (VI (renZ zn ar)) ∧ ∀ g, (Value.slice P m c).ownBlock = some g → ¬ ((Value.slice PS ns cS).ownBlock = some g ∨ Y g)) ∧ On W2 W := hp.fact 9 (by decide) (.inr (by kernel_rfl)) (.inr (.inl rfl))
          have erp : a.eval (.tmp 25) = .slice P9 m c9 := g33
          have e17 := (show a.eval (.tmp 17) = .pointer (some ⟨b, 0, none⟩) from hp.fact 1 (by decide) (.inr (by kernel_rfl)) (.inl (by decide)))
          have e19 := (show a.eval (.tmp 19) = .int .i64 (kd : Int) from hp.fact 3 (by decide) (.inr (by kernel_rfl)) (.inl (by decide)))
          have e21 := (show a.eval (.tmp 21) = .int .i64 (kq : Int) from hp.fact 5 (by decide) (.inr (by kernel_rfl)) (.inl (by decide)))
          simp only [Act.eval, Array.getD_eq_getD_getElem?] at e17 e19 e21 erp
          unfold Does
          go_simp
          (try rw [e17, e19, e21, erp])
          refine (hcall.out W D P9 c9 (owns_on hrow k2) hnz).mono ?_
          rintro e w9 ⟨rfl, D9, K9⟩
          refine ⟨⟨_, rfl⟩, DIK.sp w5 Y w9s b V o o2 res zn PS ns cS kd kq ar PA m cA p (by decide) (id), ?_⟩
          exact ⟨w9, ⟨val_eq (by rw [hp.tsize]; exact (show (26 : Nat) < 35 by decide)), D9, D.ints K9 S, (Q1.to D1.lt k1).dk D K9⟩, On.refl _⟩
        · refine fun a W hp => ?_
          obtain ⟨W1, ⟨gc, D1, S1, Q1⟩, k1⟩ : ∃ W1 : World, (slv a 26 = .int .i64 res ∧ Dr w5 (fun g => (Value.slice PS ns cS).ownBlock = some g ∨ Y g) W1 b V o2 ∧ W1.ownsRow w5.heap.size 3 1 (Value.slice PS ns cS) ns (VI zn) ∧ KP w9s W1 b w5 (Value.slice PS ns cS)) ∧ On W1 W := hp.fact 10 (by decide) (.inr (by kernel_rfl)) (.inr (.inr (by kernel_rfl)))
          refine ob_yes rfl (does_value (w' := W.alloc (.cells #[.int .i64 res] 3)) (v := .slice (some ⟨W.heap.size, 0, none⟩) 1 1) (do_value ?_) (DIK.on w5 Y w9s b V o o2 res zn PS ns cS kd kq ar PA m cA p (by decide) ((On.refl W).alloc _)) ⟨_, ⟨W.heap.size, val_eq (by rw [hp.tsize]; exact (show (27 : Nat) < 35 by decide)), Own.new _ _ _⟩, On.refl _⟩)
          (try simp only [List.map_toArray, List.map_cons, List.map_nil])
          rw [show a.eval (.tmp 26) = _ from gc]
          go_simp
        · refine fun a W hp => ?_
          obtain ⟨W1, ⟨gc, D1, S1, Q1⟩, k1⟩ : ∃ W1 : World, (slv a 26 = .int .i64 res ∧ Dr w5 (fun g => (Value.slice PS ns cS).ownBlock = some g ∨ Y g) W1 b V o2 ∧ W1.ownsRow w5.heap.size 3 1 (Value.slice PS ns cS) ns (VI zn) ∧ KP w9s W1 b w5 (Value.slice PS ns cS)) ∧ On W1 W := hp.fact 10 (by decide) (.inr (by kernel_rfl)) (.inr (.inl rfl))
          obtain ⟨W2, ⟨e9, ge, hE⟩, k2⟩ : ∃ W2 : World, (∃ e : Nat, slv a 27 = .slice (some ⟨e, 0, none⟩) 1 1 ∧ Own W2 e 3 #[.int .i64 res]) ∧ On W2 W := hp.fact 11 (by decide) (.inr (by kernel_rfl)) (.inr (.inl rfl))
          have D := D1.to k1
          have S := owns_on S1 k1
          have gs : a.eval (.tmp 16) = Value.slice PS ns cS := hp.fact 0 (by decide) (.inr (by kernel_rfl)) (.inl (by decide))
          have hRd : Rd W (some ⟨e9, 0, none⟩) 1 1 [.int .i64 res] := by
            have := rd_of_row (owns_blk (base := 0) (l := [.int .i64 res]) (hE.on k2) (by omega) (n := 1) rfl (by omega))
            exact this
          obtain ⟨v', w9, hrun, hrow, hgb, hob⟩ := run_app (P := Try.prog) W w5.heap.size 39 39 3 (.int .i64 0) 8 Try.underlying39 infoi rfl (by decide) (Value.slice PS ns cS) ns (VI zn) S (some ⟨e9, 0, none⟩) 1 1 [.int .i64 res] hRd (by simp [Value.oneCell']) (by omega) D.on.size
          have hL : VI zn ++ [Value.int .i64 res] = VI (zn ++ [res]) := by simp [VI]
          rw [hL] at hrow
          obtain ⟨PT, cT, rfl⟩ := row_form hrow
          refine ob_yes rfl (doesv_app (.tmp 16) (.tmp 27) 39 39 rfl _ _ gs ge _ w9 hrun ⟨DIK.sp w5 Y w9s b V o o2 res zn PS ns cS kd kq ar PA m cA p (by decide) id, w9, ⟨PT, cT, val_eq (by rw [hp.tsize]; exact (show (28 : Nat) < 35 by decide)), ?_, hrow, (Q1.to D1.lt k1).app D S hgb, fun g1 e => ?_⟩, On.refl _⟩)
          rotate_left
          · rcases hob with e2 | e2
            · exact .inl (e2.symm.trans e)
            · rw [e2] at e; injection e with e; subst e
              exact .inr (Q1.to D1.lt k1).1
          refine D.app S hgb (fun g1 e => .inl e) (fun g1 e => ?_)
          rcases e with e | e
          · rcases hob with e2 | e2
            · exact .inl (.inl (e2.symm.trans e))
            · rw [e2] at e; injection e with e; subst e
              exact .inr ⟨Nat.le_refl _, (row_blk hrow e2).2.1⟩
          · exact .inl (.inr e)
        · refine fun a W hp => ?_
          obtain ⟨W1, ⟨PT, cT, gt, h1, h2, h3⟩, k1⟩ : ∃ W1 : World, (∃ PT cT, slv a 28 = .slice PT (ns + 1) cT ∧ Dr w5 (fun g => (Value.slice PT (ns + 1) cT).ownBlock = some g ∨ Y g) W1 b V o2 ∧ W1.ownsRow w5.heap.size 3 1 (.slice PT (ns + 1) cT) (ns + 1) (VI (zn ++ [res])) ∧ KP w9s W1 b w5 (Value.slice PS ns cS) ∧ NB w9s (Value.slice PS ns cS) (.slice PT (ns + 1) cT)) ∧ On W1 W := hp.fact 12 (by decide) (.inr (by kernel_rfl)) (.inl (by decide))
          exact ob_yes rfl (does_value (w' := W) (v := slv a 28) rfl (DIK.on w5 Y w9s b V o o2 res zn PS ns cS kd kq ar PA m cA p (by decide) (On.refl W)) ⟨W1, ⟨PT, cT, (val_eq (by rw [hp.tsize]; exact (show (2 : Nat) < 35 by decide))).trans gt, h1, h2, h3⟩, k1⟩)
      case rgDoneDI =>
        intro fv w9 hf
        obtain ⟨W1, ⟨PT, cT, gt, hD, hrow, hK, hNB⟩, k1⟩ : ∃ W1 : World, (∃ PT cT, fv 2 = .slice PT (ns + 1) cT ∧ Dr w5 (fun g => (Value.slice PT (ns + 1) cT).ownBlock = some g ∨ Y g) W1 b V o2 ∧ W1.ownsRow w5.heap.size 3 1 (.slice PT (ns + 1) cT) (ns + 1) (VI (zn ++ [res])) ∧ KP w9s W1 b w5 (Value.slice PS ns cS) ∧ NB w9s (Value.slice PS ns cS) (.slice PT (ns + 1) cT)) ∧ On W1 w9 := hf 13 (by decide) (by decide)
        clear hf
        simp only [fillL, gt]
        have D9 := hD.to k1
        have S9 := owns_on hrow k1
        have K9 := hK.to hD.lt k1
        clear hrow hD k1 gt hK
        have O9 : Own w9 q 24 #[.int .i64 (V : Int), .slice (some ad) n c, .int .i64 (tp : Int)] := K9.2 q _ _ (hw9s ▸ H0.out.2.2.2.1) (by decide) (by decide) (fun h => absurd h (by decide))
        have K9b : KP wo w9 b w5 (.slice PS ns cS) := (hw9s ▸ H0.out.2.2.2.2.1 : KP wo w9s b w5 (.slice PS ns cS)).trans (NB.refl _ _) K9
        have HD9 := Lib.hid (And.intro D9 (And.intro S9 (And.intro (HK.out.1.trans HK.out.2.1 K9b) (HK.out.2.1.trans HK.out.1.1 (fun g e => (hNB g e).imp id (fun h2 => Nat.le_trans (hw9s ▸ H0.out.2.2.2.2.2) h2))))))
        clear D9 S9 K9 K9b hNB D0 N0 S0 hA harM
        go_wp2
        go_roundw
        case rel =>
          refine ⟨i + 1, by omega, by go_num, PT, cT, by rw [← hns]; rfl, by rw [HX.out.1, ← Nat.add_assoc, hns]; exact HD9.out.1, ?_, HD9.out.2.2.1, by rw [← Nat.add_assoc, hns]; exact HD9.out.2.2.2, O9⟩
          rw [HX.out.2.1, ← Nat.add_assoc, hns]
          have e2 : zn ++ [res] = ints (now ++ [r]) := by rw [ints_snoc, HX.out.2.2.2, HX.out.2.2.1]
          rw [← e2]; exact HD9.out.2.1
        case measure => simp [intOf] <;> omega
    · obtain rfl : i = n := by omega
      have htm : tp < V + i := htop
      obtain ⟨gt', hgt⟩ : ∃ g, (jev V first.length events i).getD tp 0 = g := ⟨_, rfl⟩
      obtain ⟨gS, rfl⟩ := row_some S0' (by omega)
      have hc := row_cellG S0' htm hgt
      obtain ⟨q0, q1, q2⟩ := own3 O0'
      have hcap5 := (rd_of_row S0').cap
      have hmax5 := (rd_of_row S0').max
      have hgt2 : (jnow V first events f.nodes.length).getD tp 0 = gt' := by rw [HF.out.2.1, ← jev_full]; exact hgt
      have hfin : inclT V first events f i = first ++ inclN V first events f := by unfold inclT inclN; rw [List.take_of_length_le (by rw [HF.out.2.1]; omega)]
      rw [hfin] at D0'
      have HZ := Lib.hid (And.intro (D0'.re (fun g hg => .inr hg)) (And.intro K0' hgt2))
      clear D0' S0' K0' B0' O0' hfin hgt2
      go_wp2
      go_ret
      exact ⟨by rw [HZ.out.2.2]; rfl, HZ.out.1, HZ.out.2.1⟩
end Go.Proofs.Ytmkogcaafkobaaa.Fm
