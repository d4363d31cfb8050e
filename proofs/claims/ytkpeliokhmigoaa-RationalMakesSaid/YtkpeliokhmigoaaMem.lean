/-
  Words in memory: a slice of uint32 that reads as a list of numbers ('Rd'), and what becomes of it when the world goes on. No statement of the program.
-/
import Derived.Test.YtkpeliokhmigoaaVal
import Derived.Test.YtkpeliokhmigoaaProg
import Derived.Below
import Derived.Laws.OwnMore
import Derived.Deep.AppendLies
import Derived.Deep.Draws
import Derived.Laws.Rows
import Derived.WalkKit
import Derived.Lib.Hide
namespace Go.Proofs.Ytkpeliokhmigoaa
open Go.RowKit
set_option linter.unusedVariables false
namespace Num

theorem block_of_add (a : Addr) (n : Nat) : (a.add n).block = a.block := by unfold Addr.add; split <;> rfl
theorem add_nil (a : Addr) : a.add 0 = a := by unfold Addr.add; simp
theorem add_of_add (a : Addr) (i j : Nat) : (a.add i).add j = a.add (i + j) := by
  unfold Addr.add
  by_cases hi : i = 0 <;> by_cases hj : j = 0 <;> simp [hi, hj, Nat.add_assoc]

/-- the slice value '.slice A n c' reads as the words xs -/
def Rd (w : World) (A : Option Addr) (n c : Nat) (xs : List Nat) : Prop :=
  xs.length = n ∧ n ≤ c ∧ c ≤ 9223372036854775807 ∧ Ok xs ∧ (A = none → c = 0) ∧ (0 < n → ∃ ad, A = some ad ∧ ad.block < w.heap.size ∧ ∀ j, j < n → w.cell? (ad.add j) = some (.int .u32 (gw xs j : Int)))

/-- '.. and what was there before stands': the world w' goes on from w -/
def On (w w' : World) : Prop := Below w.heap.size w w'

theorem On.refl (w : World) : On w w := Below.refl _ _
theorem On.trans {a b c : World} (h : On a b) (k : On b c) : On a c := Below.trans h (Below.mono k h.size)
theorem On.drew {a b : World} (h : On a b) : On a b.drew := Below.drew h
theorem On.drewN {a b : World} (h : On a b) (n : Nat) : On a (b.drewN n) := ⟨h.os, h.tape, h.output, h.size, h.block⟩
theorem On.alloc {a b : World} (h : On a b) (o : Obj) : On a (b.alloc o) := Below.alloc h h.size o
theorem On.setCell {a b : World} (h : On a b) {p : Addr} (hp : a.heap.size ≤ p.block) (u : Value) : On a (b.setCell p u) := Below.setCell h hp u
theorem On.size {a b : World} (h : On a b) : a.heap.size ≤ b.heap.size := Below.size h
theorem On.below {a b : World} (h : On a b) : Below a.heap.size a b := h

section
variable {w w' : World} {n c : Nat} {A : Option Addr} {xs : List Nat}
theorem Rd.len (h : Rd w A n c xs) : xs.length = n := h.1
theorem Rd.cap (h : Rd w A n c xs) : n ≤ c := h.2.1
theorem Rd.max (h : Rd w A n c xs) : c ≤ 9223372036854775807 := h.2.2.1
theorem Rd.ok (h : Rd w A n c xs) : Ok xs := h.2.2.2.1
theorem Rd.none_ (h : Rd w A n c xs) : A = none → c = 0 := h.2.2.2.2.1
theorem Rd.nil_ : Rd w none 0 0 [] := ⟨rfl, by omega, by omega, Ok.nil, fun _ => rfl, fun h => absurd h (by omega)⟩
theorem Rd.at_ (h : Rd w A n c xs) (k : Nat) (hk : k < n) : ∃ ad, A = some ad ∧ ad.block < w.heap.size ∧ w.cell? (ad.add k) = some (.int .u32 (gw xs k : Int)) := by
  obtain ⟨ad, e, hb, hc⟩ := h.2.2.2.2.2 (by omega)
  exact ⟨ad, e, hb, hc k hk⟩
theorem Rd.keep (h : Rd w A n c xs) (hs : w.heap.size ≤ w'.heap.size) (hk : ∀ p : Addr, p.block < w.heap.size → w'.cell? p = w.cell? p) : Rd w' A n c xs :=
  ⟨h.1, h.2.1, h.2.2.1, h.2.2.2.1, h.none_, fun hn => by
    obtain ⟨ad, e, hb, hc⟩ := h.2.2.2.2.2 hn
    exact ⟨ad, e, by omega, fun j hj => (hk _ (by rw [block_of_add]; exact hb)).trans (hc j hj)⟩⟩
theorem Rd.on (h : Rd w A n c xs) (hb : On w w') : Rd w' A n c xs := h.keep hb.size fun _ hp => Below.cell hb hp
theorem Rd.drew (h : Rd w A n c xs) : Rd w.drew A n c xs := h
theorem Rd.drewN (h : Rd w A n c xs) (k : Nat) : Rd (w.drewN k) A n c xs := h
theorem Rd.alloc (h : Rd w A n c xs) (o : Obj) : Rd (w.alloc o) A n c xs := h.on ((On.refl w).alloc o)
/-- a[:k] -/
theorem Rd.take (h : Rd w A n c xs) {k : Nat} (hk : k ≤ n) : Rd w A k c (xs.take k) := by
  refine ⟨by rw [List.length_take, h.1]; omega, by have := h.2.1; omega, h.2.2.1, h.ok.take k, h.none_, fun hn => ?_⟩
  obtain ⟨ad, e, hb, hc⟩ := h.2.2.2.2.2 (by omega)
  exact ⟨ad, e, hb, fun j hj => by rw [hc j (by omega), getD_take hj]⟩
/-- a[k:] -/
theorem Rd.cut (h : Rd w A n c xs) {k : Nat} (hk : k ≤ n) : Rd w (if c = k then A else A.map (·.add k)) (n - k) (c - k) (xs.drop k) := by
  have hcap := h.2.1
  have hmx := h.2.2.1
  refine ⟨by rw [List.length_drop, h.1], by omega, by omega, h.ok.drop k, ?_, fun hn => ?_⟩
  · intro he
    by_cases hck : c = k
    · omega
    · rw [if_neg hck] at he
      have := h.none_ (by cases A with | none => rfl | some a => cases he)
      omega
  obtain ⟨ad, rfl, hb, hcell⟩ := h.2.2.2.2.2 (by omega)
  rw [if_neg (by omega)]
  refine ⟨ad.add k, rfl, by rw [block_of_add]; exact hb, fun j hj => ?_⟩
  rw [add_of_add, getD_drop]
  exact hcell _ (by omega)
end

/-- a slice that reads as a clean list that is worth v, of at most L words -/
def Nm (w : World) (A : Option Addr) (n c v L : Nat) : Prop := ∃ xs, Rd w A n c xs ∧ Clean xs ∧ val xs = v ∧ n ≤ L
theorem Nm.on {w w' : World} {A : Option Addr} {n c v L : Nat} (h : Nm w A n c v L) (hb : On w w') : Nm w' A n c v L := by
  obtain ⟨xs, h1, h2⟩ := h
  exact ⟨xs, h1.on hb, h2⟩
/-- what a function that makes a number says: it returns a clean list worth v, of at most L words, and leaves what was there -/
def Gives (w : World) (v L : Nat) (e : Ending) (w' : World) : Prop := ∃ A n c, e = .returned (.slice A n c) ∧ Nm w' A n c v L ∧ On w w'
/-- the same with an error behind it -/
def Gives2 (w : World) (v L : Nat) (er : Value) (e : Ending) (w' : World) : Prop := ∃ A n c, e = .returned (.tuple #[.slice A n c, er]) ∧ Nm w' A n c v L ∧ On w w'
/-- the nil slice and an error -/
def Refuses (w : World) (er : Value) (e : Ending) (w' : World) : Prop := e = .returned (.tuple #[.slice none 0 0, er]) ∧ On w w'

theorem ret_slice {A : Option Addr} {a b c : Nat} (h : a = b) : Ending.returned (.slice A a c) = .returned (.slice A b c) := by rw [h]
theorem ret_int {k : IntKind} {a b : Int} (h : a = b) : Ending.returned (.int k a) = .returned (.int k b) := by rw [h]
end Num
end Go.Proofs.Ytkpeliokhmigoaa
