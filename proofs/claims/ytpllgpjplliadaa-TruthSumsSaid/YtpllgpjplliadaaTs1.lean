/-
  TruthSums' region: the nodes with a negation, in whatever order.
-/
import Derived.Test.YtpllgpjplliadaaRk
import Derived.Test.YtpllgpjplliadaaTn
namespace Go.Proofs.Ytpllgpjplliadaa.Fm
open Go.RowKit Go.Proofs.Ytpllgpjplliadaa.Sb Go.Proofs.Ytpllgpjplliadaa.Rg
set_option linter.unusedVariables false
set_option maxRecDepth 100000
section
variable (W0 : World) (q : Nat) (V : Int) (T : Int) (A : Option Addr) (n : Nat) (c : Nat) (cells : List Value)
/-- what the operations of the region leave -/
def DS (i : Nat) (f : Tmp → Value) (w : World) : Prop :=
  match i with
  | 0 => f 49 = .pointer (some ⟨q, 0, none⟩)
  | 1 => f 50 = .int .i64 V
  | 2 => ∃ a : Nat, f 51 = .slice (some ⟨a, 0, none⟩) 0 0 ∧ W0.heap.size ≤ a ∧ Own w a 57 #[]
  | 3 => f 52 = .pointer (some ⟨q, 1, none⟩)
  | 4 => f 53 = .slice A n c
  | 5 => w.ownsRow W0.heap.size 57 3 (f 54) n cells
  | 6 => f 55 = .pointer (some ⟨q, 2, none⟩)
  | 7 => f 56 = .int .i64 T
  | 8 => ∃ b : Nat, f 57 = .slice (some ⟨b, 0, none⟩) 1 1 ∧ Own w b 3 #[.int .i64 T]
  | 9 => ∃ b : Nat, f 58 = .agg #[.int .i64 1, .int .i64 0, .slice (some ⟨b, 0, none⟩) 1 1] ∧ Own w b 3 #[.int .i64 T]
  | 10 => ∃ d b : Nat, f 59 = .slice (some ⟨d, 0, none⟩) 1 1 ∧ Own w d 57 #[.int .i64 1, .int .i64 0, .slice (some ⟨b, 0, none⟩) 1 1] ∧ Own w b 3 #[.int .i64 T]
  | 11 => ∃ b : Nat, w.ownsRow W0.heap.size 57 3 (f 60) (n + 1) (cells ++ [.int .i64 1, .int .i64 0, .slice (some ⟨b, 0, none⟩) 1 1]) ∧ Own w b 3 #[.int .i64 T]
  | 12 => f 61 = .pointer (some ⟨q, 0, none⟩)
  | 13 => f 62 = .int .i64 V
  | 14 => f 63 = .pointer (some ⟨q, 1, none⟩)
  | 15 => f 64 = .slice A n c
  | 16 => f 65 = .int .i64 (n : Int)
  | 17 => f 66 = .int .i64 (V + (n : Int))
  | 18 => f 67 = .agg #[.int .i64 V, f 60, .int .i64 (V + (n : Int))] ∧ ∃ B m k, f 60 = .slice B m k
  | 19 => ∃ g : Nat, f 7 = .pointer (some ⟨g, 0, none⟩) ∧ W0.heap.size ≤ g ∧ Own w g 24 #[.int .i64 0, .slice none 0 0, .int .i64 0]
  | 20 => ∃ g : Nat, f 7 = .pointer (some ⟨g, 0, none⟩) ∧ W0.heap.size ≤ g ∧ Own w g 24 #[.int .i64 V, f 60, .int .i64 (V + (n : Int))]
  | _ => True
/-- at which operation a fact ends -/
def DSEx (i : Nat) : Nat := if i = 2 then 5 else if i = 5 then 11 else if i = 10 then 11 else if i = 19 then 20 else 100
/-- what an operation may turn -/
def DSK (i : Nat) (w w' : World) : Prop := if i = 5 then Kn (fun cur _ => cur = #[]) w w' else if i = 11 then Kn (fun _ t => t = 57) w w' else if i = 20 then Kn (fun _ t => t = 24) w w' else On w w'
theorem DSK.of_on {i : Nat} {w w' : World} (h : On w w') : DSK i w w' := by
  unfold DSK
  split
  · exact Kn.of_on h
  split
  · exact Kn.of_on h
  split
  · exact Kn.of_on h
  exact h
theorem DS.cases {j : Nat} (h : j < 21) : j = 0 ∨ j = 1 ∨ j = 2 ∨ j = 3 ∨ j = 4 ∨ j = 5 ∨ j = 6 ∨ j = 7 ∨ j = 8 ∨ j = 9 ∨ j = 10 ∨ j = 11 ∨ j = 12 ∨ j = 13 ∨ j = 14 ∨ j = 15 ∨ j = 16 ∨ j = 17 ∨ j = 18 ∨ j = 19 ∨ j = 20 := by omega
theorem DS.on {j : Nat} (hj : j < 21) {f : Tmp → Value} {w w' : World} (k : On w w') (h : DS W0 q V T A n c cells j f w) : DS W0 q V T A n c cells j f w' := by
  rcases DS.cases hj with rfl | rfl | rfl | rfl | rfl | rfl | rfl | rfl | rfl | rfl | rfl | rfl | rfl | rfl | rfl | rfl | rfl | rfl | rfl | rfl | rfl
  · exact h
  · exact h
  · obtain ⟨a, h0, h1, h2⟩ := h; exact ⟨a, h0, h1, h2.on k⟩
  · exact h
  · exact h
  · have h0 := h; exact owns_on h0 k
  · exact h
  · exact h
  · obtain ⟨b, h0, h1⟩ := h; exact ⟨b, h0, h1.on k⟩
  · obtain ⟨b, h0, h1⟩ := h; exact ⟨b, h0, h1.on k⟩
  · obtain ⟨d, b, h0, h1, h2⟩ := h; exact ⟨d, b, h0, h1.on k, h2.on k⟩
  · obtain ⟨b, h0, h1⟩ := h; exact ⟨b, owns_on h0 k, h1.on k⟩
  · exact h
  · exact h
  · exact h
  · exact h
  · exact h
  · exact h
  · obtain ⟨h0, h1⟩ := h; exact ⟨h0, h1⟩
  · obtain ⟨g, h0, h1, h2⟩ := h; exact ⟨g, h0, h1, h2.on k⟩
  · obtain ⟨g, h0, h1, h2⟩ := h; exact ⟨g, h0, h1, h2.on k⟩
theorem DS.at5 {j : Nat} (hj : j < 21) (hn : j ≠ 2 ∧ j ≠ 5 ∧ j ≠ 11 ∧ j ≠ 18 ∧ j ≠ 20) {f : Tmp → Value} {w w' : World} (k : Kn (fun cur _ => cur = #[]) w w') (h : DS W0 q V T A n c cells j f w) : DS W0 q V T A n c cells j f w' := by
  have ne : ∀ (x : Value) (l : List Value), ¬ (x :: l).toArray = #[] := fun x l e => by simp at e
  rcases DS.cases hj with rfl | rfl | rfl | rfl | rfl | rfl | rfl | rfl | rfl | rfl | rfl | rfl | rfl | rfl | rfl | rfl | rfl | rfl | rfl | rfl | rfl
  · exact h
  · exact h
  · exact absurd rfl hn.1
  · exact h
  · exact h
  · exact absurd rfl hn.2.1
  · exact h
  · exact h
  · obtain ⟨b, h0, h1⟩ := h; exact ⟨b, h0, k.own h1 (ne _ _)⟩
  · obtain ⟨b, h0, h1⟩ := h; exact ⟨b, h0, k.own h1 (ne _ _)⟩
  · obtain ⟨d, b, h0, h1, h2⟩ := h; exact ⟨d, b, h0, k.own h1 (ne _ _), k.own h2 (ne _ _)⟩
  · exact absurd rfl hn.2.2.1
  · exact h
  · exact h
  · exact h
  · exact h
  · exact h
  · exact h
  · exact absurd rfl hn.2.2.2.1
  · obtain ⟨g, h0, h1, h2⟩ := h; exact ⟨g, h0, h1, k.own h2 (ne _ _)⟩
  · exact absurd rfl hn.2.2.2.2
theorem DS.at11 {j : Nat} (hj : j < 21) (hn : j ≠ 2 ∧ j ≠ 5 ∧ j ≠ 10 ∧ j ≠ 11 ∧ j ≠ 18 ∧ j ≠ 20) {f : Tmp → Value} {w w' : World} (k : Kn (fun _ t => t = 57) w w') (h : DS W0 q V T A n c cells j f w) : DS W0 q V T A n c cells j f w' := by
  have ne : ∀ (x : Value) (l : List Value), ¬ (x :: l).toArray = #[] := fun x l e => by simp at e
  rcases DS.cases hj with rfl | rfl | rfl | rfl | rfl | rfl | rfl | rfl | rfl | rfl | rfl | rfl | rfl | rfl | rfl | rfl | rfl | rfl | rfl | rfl | rfl
  · exact h
  · exact h
  · exact absurd rfl hn.1
  · exact h
  · exact h
  · exact absurd rfl hn.2.1
  · exact h
  · exact h
  · obtain ⟨b, h0, h1⟩ := h; exact ⟨b, h0, k.own h1 (by decide)⟩
  · obtain ⟨b, h0, h1⟩ := h; exact ⟨b, h0, k.own h1 (by decide)⟩
  · exact absurd rfl hn.2.2.1
  · exact absurd rfl hn.2.2.2.1
  · exact h
  · exact h
  · exact h
  · exact h
  · exact h
  · exact h
  · exact absurd rfl hn.2.2.2.2.1
  · obtain ⟨g, h0, h1, h2⟩ := h; exact ⟨g, h0, h1, k.own h2 (by decide)⟩
  · exact absurd rfl hn.2.2.2.2.2
theorem DS.at20 {j : Nat} (hj : j < 21) (hn : j ≠ 2 ∧ j ≠ 5 ∧ j ≠ 10 ∧ j ≠ 19 ∧ j ≠ 20) {f : Tmp → Value} {w w' : World} (k : Kn (fun _ t => t = 24) w w') (h : DS W0 q V T A n c cells j f w) : DS W0 q V T A n c cells j f w' := by
  have ne : ∀ (x : Value) (l : List Value), ¬ (x :: l).toArray = #[] := fun x l e => by simp at e
  rcases DS.cases hj with rfl | rfl | rfl | rfl | rfl | rfl | rfl | rfl | rfl | rfl | rfl | rfl | rfl | rfl | rfl | rfl | rfl | rfl | rfl | rfl | rfl
  · exact h
  · exact h
  · exact absurd rfl hn.1
  · exact h
  · exact h
  · exact absurd rfl hn.2.1
  · exact h
  · exact h
  · obtain ⟨b, h0, h1⟩ := h; exact ⟨b, h0, k.own h1 (by decide)⟩
  · obtain ⟨b, h0, h1⟩ := h; exact ⟨b, h0, k.own h1 (by decide)⟩
  · exact absurd rfl hn.2.2.1
  · obtain ⟨b, h0, h1⟩ := h; exact ⟨b, owns_kn h0 k (fun _ => by decide), k.own h1 (by decide)⟩
  · exact h
  · exact h
  · exact h
  · exact h
  · exact h
  · exact h
  · obtain ⟨h0, h1⟩ := h; exact ⟨h0, h1⟩
  · exact absurd rfl hn.2.2.2.1
  · exact absurd rfl hn.2.2.2.2
theorem DS.dep {j : Nat} (hj : j < 21) {f f' : Tmp → Value} {w : World} (hd : ∀ d, d ∈ (match j with | 0 => [49] | 1 => [50] | 2 => [51] | 3 => [52] | 4 => [53] | 5 => [54] | 6 => [55] | 7 => [56] | 8 => [57] | 9 => [58] | 10 => [59] | 11 => [60] | 12 => [61] | 13 => [62] | 14 => [63] | 15 => [64] | 16 => [65] | 17 => [66] | 18 => [67, 60] | 19 => [7] | 20 => [7, 60] | _ => []) → f d = f' d) (h : DS W0 q V T A n c cells j f w) : DS W0 q V T A n c cells j f' w := by
  rcases DS.cases hj with rfl | rfl | rfl | rfl | rfl | rfl | rfl | rfl | rfl | rfl | rfl | rfl | rfl | rfl | rfl | rfl | rfl | rfl | rfl | rfl | rfl
  · have h' : f 49 = .pointer (some ⟨q, 0, none⟩) := h
    rw [hd 49 (by simp)] at h'
    exact h'
  · have h' : f 50 = .int .i64 V := h
    rw [hd 50 (by simp)] at h'
    exact h'
  · have h' : ∃ a : Nat, f 51 = .slice (some ⟨a, 0, none⟩) 0 0 ∧ W0.heap.size ≤ a ∧ Own w a 57 #[] := h
    rw [hd 51 (by simp)] at h'
    exact h'
  · have h' : f 52 = .pointer (some ⟨q, 1, none⟩) := h
    rw [hd 52 (by simp)] at h'
    exact h'
  · have h' : f 53 = .slice A n c := h
    rw [hd 53 (by simp)] at h'
    exact h'
  · have h' : w.ownsRow W0.heap.size 57 3 (f 54) n cells := h
    rw [hd 54 (by simp)] at h'
    exact h'
  · have h' : f 55 = .pointer (some ⟨q, 2, none⟩) := h
    rw [hd 55 (by simp)] at h'
    exact h'
  · have h' : f 56 = .int .i64 T := h
    rw [hd 56 (by simp)] at h'
    exact h'
  · have h' : ∃ b : Nat, f 57 = .slice (some ⟨b, 0, none⟩) 1 1 ∧ Own w b 3 #[.int .i64 T] := h
    rw [hd 57 (by simp)] at h'
    exact h'
  · have h' : ∃ b : Nat, f 58 = .agg #[.int .i64 1, .int .i64 0, .slice (some ⟨b, 0, none⟩) 1 1] ∧ Own w b 3 #[.int .i64 T] := h
    rw [hd 58 (by simp)] at h'
    exact h'
  · have h' : ∃ d b : Nat, f 59 = .slice (some ⟨d, 0, none⟩) 1 1 ∧ Own w d 57 #[.int .i64 1, .int .i64 0, .slice (some ⟨b, 0, none⟩) 1 1] ∧ Own w b 3 #[.int .i64 T] := h
    rw [hd 59 (by simp)] at h'
    exact h'
  · have h' : ∃ b : Nat, w.ownsRow W0.heap.size 57 3 (f 60) (n + 1) (cells ++ [.int .i64 1, .int .i64 0, .slice (some ⟨b, 0, none⟩) 1 1]) ∧ Own w b 3 #[.int .i64 T] := h
    rw [hd 60 (by simp)] at h'
    exact h'
  · have h' : f 61 = .pointer (some ⟨q, 0, none⟩) := h
    rw [hd 61 (by simp)] at h'
    exact h'
  · have h' : f 62 = .int .i64 V := h
    rw [hd 62 (by simp)] at h'
    exact h'
  · have h' : f 63 = .pointer (some ⟨q, 1, none⟩) := h
    rw [hd 63 (by simp)] at h'
    exact h'
  · have h' : f 64 = .slice A n c := h
    rw [hd 64 (by simp)] at h'
    exact h'
  · have h' : f 65 = .int .i64 (n : Int) := h
    rw [hd 65 (by simp)] at h'
    exact h'
  · have h' : f 66 = .int .i64 (V + (n : Int)) := h
    rw [hd 66 (by simp)] at h'
    exact h'
  · have h' : f 67 = .agg #[.int .i64 V, f 60, .int .i64 (V + (n : Int))] ∧ ∃ B m k, f 60 = .slice B m k := h
    rw [hd 67 (by simp)] at h'
    rw [hd 60 (by simp)] at h'
    exact h'
  · have h' : ∃ g : Nat, f 7 = .pointer (some ⟨g, 0, none⟩) ∧ W0.heap.size ≤ g ∧ Own w g 24 #[.int .i64 0, .slice none 0 0, .int .i64 0] := h
    rw [hd 7 (by simp)] at h'
    exact h'
  · have h' : ∃ g : Nat, f 7 = .pointer (some ⟨g, 0, none⟩) ∧ W0.heap.size ≤ g ∧ Own w g 24 #[.int .i64 V, f 60, .int .i64 (V + (n : Int))] := h
    rw [hd 7 (by simp)] at h'
    rw [hd 60 (by simp)] at h'
    exact h'
end
end Go.Proofs.Ytpllgpjplliadaa.Fm
