/-
  Texts of the lower functions, joined: Val, Mem, Own, Trim, Small, Cmp, Divw, Add, Sub, Shift, Shr, Bits, Mul, Base.
-/
import Derived.Test.YtkchpagjkgmpmaaGreatProg
import Derived.Below
import Derived.Laws.OwnMore
import Derived.Deep.AppendLies
import Derived.Deep.Draws
import Derived.Laws.Rows
import Derived.WalkKit
import Derived.Lib.Hide
import Derived.Maps.AppendAt
import Derived.Laws.AppendOwnNone
import Derived.Deep.OwnRows
import Derived.OwnWalk
import Derived.RegionTactic
import Derived.Deep.QuietTactic
import Derived.BigQuiet
import Derived.WalkSpells
import Derived.Lib.SliceRun
import Derived.Test.YtkchpagjkgmpmaaGreatShelf
import Derived.Laws.BitsAllLaws
namespace Go.Proofs.YtkchpagjkgmpmaaGreat
open Go.RowKit
set_option linter.unusedVariables false
namespace Num
section

/-- 2^32 -/
def BB : Nat := 4294967296
theorem BB_eq : BB = 4294967296 := rfl
theorem BB_pos : 0 < BB := by decide

/-- what a list of words is worth -/
def val : List Nat → Nat
  | [] => 0
  | x :: r => x + BB * val r

/-- every word is one -/
def Ok (l : List Nat) : Prop := ∀ u ∈ l, u < 4294967296

/-- how many words are left when the zeros at the end are dropped -/
def tl : List Nat → Nat
  | [] => 0
  | x :: r => if tl r = 0 then (if x = 0 then 0 else 1) else tl r + 1

/-- no zero at the end -/
def Clean (l : List Nat) : Prop := tl l = l.length

/-- word k of a list -/
def gw (l : List Nat) (k : Nat) : Nat := l.getD k 0
theorem gw_eq (l : List Nat) (k : Nat) : gw l k = l.getD k 0 := rfl

theorem val_append (a b : List Nat) : val (a ++ b) = val a + BB ^ a.length * val b := by
  induction a with
  | nil => simp [val]
  | cons x r ih => simp only [List.cons_append, val, ih, List.length_cons, Nat.pow_succ]; rw [Nat.mul_add, ← Nat.mul_assoc, Nat.mul_comm BB (BB ^ r.length), Nat.add_assoc]
theorem val_snoc (a : List Nat) (x : Nat) : val (a ++ [x]) = val a + BB ^ a.length * x := by rw [val_append]; simp [val]
theorem val_take_succ (l : List Nat) (k : Nat) (h : k < l.length) : val (l.take (k + 1)) = val (l.take k) + BB ^ k * gw l k := by
  rw [List.take_succ_eq_append_getElem h, val_snoc]; simp [gw, List.getD_eq_getElem?_getD, h, Nat.min_eq_left (Nat.le_of_lt h)]
theorem val_split (l : List Nat) (k : Nat) (h : k ≤ l.length) : val l = val (l.take k) + BB ^ k * val (l.drop k) := by
  conv => lhs; rw [← List.take_append_drop k l]
  rw [val_append, List.length_take, Nat.min_eq_left h]
theorem val_drop (l : List Nat) (k : Nat) (h : k < l.length) : val (l.drop k) = gw l k + BB * val (l.drop (k + 1)) := by
  rw [List.drop_eq_getElem_cons h]; simp [val, gw, List.getD_eq_getElem?_getD, h]
theorem val_lt {l : List Nat} (h : Ok l) : val l < BB ^ l.length := by
  induction l with
  | nil => simp [val]
  | cons x r ih =>
    have h1 : x < BB := h x (by simp)
    have h2 := ih (fun u hu => h u (by simp [hu]))
    simp only [val, List.length_cons, Nat.pow_succ]
    calc x + BB * val r < BB + BB * val r := by omega
      _ = BB * (val r + 1) := by rw [Nat.mul_add]; omega
      _ ≤ BB * BB ^ r.length := Nat.mul_le_mul_left _ h2
      _ = BB ^ r.length * BB := Nat.mul_comm _ _
theorem Ok.take {l : List Nat} (h : Ok l) (k : Nat) : Ok (l.take k) := fun u hu => h u (List.mem_of_mem_take hu)
theorem Ok.drop {l : List Nat} (h : Ok l) (k : Nat) : Ok (l.drop k) := fun u hu => h u (List.mem_of_mem_drop hu)
theorem Ok.append {l r : List Nat} (h : Ok l) (k : Ok r) : Ok (l ++ r) := fun u hu => by
  rcases List.mem_append.1 hu with h' | h'
  · exact h u h'
  · exact k u h'
theorem Ok.nil : Ok [] := fun _ h => by cases h
theorem Ok.one {x : Nat} (h : x < 4294967296) : Ok [x] := fun u hu => by simp at hu; omega
theorem Ok.cons {x : Nat} {l : List Nat} (h : x < 4294967296) (k : Ok l) : Ok (x :: l) := fun u hu => by
  rcases List.mem_cons.1 hu with rfl | h'
  · exact h
  · exact k u h'
theorem Ok.get {l : List Nat} (h : Ok l) (k : Nat) : gw l k < 4294967296 := by
  rw [gw_eq, List.getD_eq_getElem?_getD]
  rcases Nat.lt_or_ge k l.length with hk | hk
  · rw [List.getElem?_eq_getElem hk]; exact h _ (List.getElem_mem hk)
  · rw [List.getElem?_eq_none hk]; decide
theorem Ok.set {l : List Nat} (h : Ok l) (k x : Nat) (hx : x < 4294967296) : Ok (l.set k x) := fun u hu => by
  rcases List.mem_or_eq_of_mem_set hu with h' | h'
  · exact h u h'
  · omega

theorem tl_le (l : List Nat) : tl l ≤ l.length := by
  induction l with
  | nil => simp [tl]
  | cons x r ih => simp only [tl, List.length_cons]; split <;> (try split) <;> omega
theorem tl_snoc (l : List Nat) (x : Nat) : tl (l ++ [x]) = if x = 0 then tl l else l.length + 1 := by
  induction l with
  | nil => simp [tl]
  | cons y r ih =>
    simp only [List.cons_append, tl, ih, List.length_cons]
    by_cases hx : x = 0
    · simp [hx]
    · simp [hx]
/-- the step of the loop that looks for the last word that is not zero -/
theorem tl_take_zero (l : List Nat) (k : Nat) (h : k < l.length) (h0 : gw l k = 0) : tl (l.take (k + 1)) = tl (l.take k) := by
  rw [List.take_succ_eq_append_getElem h, tl_snoc]
  have : l[k] = 0 := by simpa [gw, List.getD_eq_getElem?_getD, h] using h0
  simp [this]
theorem tl_take_pos (l : List Nat) (k : Nat) (h : k < l.length) (h0 : gw l k ≠ 0) : tl (l.take (k + 1)) = k + 1 := by
  rw [List.take_succ_eq_append_getElem h, tl_snoc]
  have : l[k] ≠ 0 := by simpa [gw, List.getD_eq_getElem?_getD, h] using h0
  simp [this, Nat.min_eq_left (Nat.le_of_lt h)]
theorem tl_idem (l : List Nat) : tl (l.take (tl l)) = tl l := by
  induction l with
  | nil => simp [tl]
  | cons x r ih =>
    simp only [tl]
    by_cases h : tl r = 0
    · by_cases hx : x = 0 <;> simp [h, hx, tl]
    · simp [h, tl, ih]
theorem clean_take (l : List Nat) : Clean (l.take (tl l)) := by
  unfold Clean
  rw [tl_idem, List.length_take, Nat.min_eq_left (tl_le l)]
theorem clean_nil : Clean [] := rfl
theorem clean_snoc (l : List Nat) (x : Nat) (h : x ≠ 0) : Clean (l ++ [x]) := by unfold Clean; rw [tl_snoc]; simp [h]
theorem val_of_tl_zero (l : List Nat) (h : tl l = 0) : val l = 0 := by
  induction l with
  | nil => rfl
  | cons x r ih =>
    simp only [tl] at h
    split at h
    · split at h
      · rename_i h1 h2; simp [val, ih h1, h2]
      · cases h
    · omega
theorem val_take_tl (l : List Nat) : val (l.take (tl l)) = val l := by
  induction l with
  | nil => simp [tl]
  | cons x r ih =>
    simp only [tl]
    by_cases h : tl r = 0
    · have := val_of_tl_zero r h
      by_cases hx : x = 0 <;> simp [h, hx, val, this]
    · simp [h, val, ih]
/-- the greatest word of a clean list is not zero -/
theorem clean_last {l : List Nat} (h : Clean l) (k : Nat) (hk : l.length = k + 1) : gw l k ≠ 0 := by
  intro h0
  have h1 := tl_take_zero l k (by omega) h0
  rw [List.take_of_length_le (by omega)] at h1
  have h2 := tl_le (l.take k)
  have : (l.take k).length = k := by simp; omega
  unfold Clean at h
  omega
theorem clean_of_last {l : List Nat} (k : Nat) (hk : l.length = k + 1) (h : gw l k ≠ 0) : Clean l := by
  have h1 := tl_take_pos l k (by omega) h
  rw [List.take_of_length_le (by omega)] at h1
  unfold Clean
  omega
theorem clean_ge {l : List Nat} (h : Clean l) (k : Nat) (hk : l.length = k + 1) : BB ^ k ≤ val l := by
  have h1 := clean_last h k hk
  have h2 := val_split l k (by omega)
  rw [val_drop l k (by omega)] at h2
  have h3 : BB ^ k * 1 ≤ BB ^ k * (gw l k + BB * val (l.drop (k + 1))) := Nat.mul_le_mul_left _ (by omega)
  omega
/-- a bound on the worth bounds the length -/
theorem clean_len {l : List Nat} (h : Clean l) (k : Nat) (hv : val l < BB ^ k) : l.length ≤ k := by
  apply Nat.le_of_not_lt
  intro hk
  have h1 := clean_ge h (l.length - 1) (by omega)
  have h2 : BB ^ k ≤ BB ^ (l.length - 1) := Nat.pow_le_pow_right BB_pos (by omega)
  omega
theorem val_pos {l : List Nat} (h : Clean l) (hl : 0 < l.length) : 0 < val l := by
  have h1 := clean_ge h (l.length - 1) (by omega)
  have h2 : 0 < BB ^ (l.length - 1) := Nat.pow_pos BB_pos
  omega
theorem clean_tail {x : Nat} {r : List Nat} (h : Clean (x :: r)) : Clean r := by
  unfold Clean at h ⊢
  simp only [tl, List.length_cons] at h
  have := tl_le r
  split at h
  · split at h <;> omega
  · omega
/-- EQUAL WORTH, EQUAL LISTS -/
theorem val_inj {a b : List Nat} (ha : Ok a) (hb : Ok b) (ca : Clean a) (cb : Clean b) (h : val a = val b) : a = b := by
  induction a generalizing b with
  | nil =>
    cases b with
    | nil => rfl
    | cons y s => have := val_pos cb (by simp); simp [val] at h this; omega
  | cons x r ih =>
    cases b with
    | nil => have := val_pos ca (by simp); simp [val] at h this; omega
    | cons y s =>
      have hx : x < BB := ha x (by simp)
      have hy : y < BB := hb y (by simp)
      simp only [val] at h
      have hxy : x = y := by
        have h1 : (x + BB * val r) % BB = (y + BB * val s) % BB := by rw [h]
        rw [Nat.add_mul_mod_self_left, Nat.add_mul_mod_self_left, Nat.mod_eq_of_lt hx, Nat.mod_eq_of_lt hy] at h1
        exact h1
      subst hxy
      have h2 : val r = val s := Nat.eq_of_mul_eq_mul_left BB_pos (by omega)
      rw [ih (fun u hu => ha u (by simp [hu])) (fun u hu => hb u (by simp [hu])) (clean_tail ca) (clean_tail cb) h2]
/-- the longer clean list is worth more -/
theorem val_lt_of_len {a b : List Nat} (ha : Ok a) (cb : Clean b) (h : a.length < b.length) : val a < val b := by
  have h1 := val_lt ha
  have h2 := clean_ge cb (b.length - 1) (by omega)
  have h3 : BB ^ a.length ≤ BB ^ (b.length - 1) := Nat.pow_le_pow_right BB_pos (by omega)
  omega
/-- the first word from the top that differs decides -/
theorem val_lt_of_word {a b : List Nat} (ha : Ok a) (k : Nat) (hka : k < a.length) (hkb : k < b.length) (hd : val (a.drop (k + 1)) = val (b.drop (k + 1))) (hw : gw a k < gw b k) : val a < val b := by
  have h1 := val_split a k (by omega)
  have h2 := val_split b k (by omega)
  rw [val_drop a k hka] at h1
  rw [val_drop b k hkb, ← hd] at h2
  have h3 := val_lt (ha.take k)
  rw [List.length_take, Nat.min_eq_left (by omega)] at h3
  generalize val (a.drop (k + 1)) = t at *
  have h4 : BB ^ k * (gw a k + BB * t) + BB ^ k ≤ BB ^ k * (gw b k + BB * t) := by
    rw [← Nat.mul_succ]; exact Nat.mul_le_mul_left _ (by omega)
  omega
theorem getD_take {l : List Nat} {k j : Nat} (h : j < k) : gw (l.take k) j = gw l j := by
  simp [gw, List.getD_eq_getElem?_getD, h]
theorem getD_drop (l : List Nat) (k j : Nat) : gw (l.drop k) j = gw l (k + j) := by
  simp [gw, List.getD_eq_getElem?_getD, List.getElem?_drop]
theorem getD_ge {l : List Nat} {k : Nat} (h : l.length ≤ k) : gw l k = 0 := by
  simp [gw, List.getD_eq_getElem?_getD, List.getElem?_eq_none h]
/-- a list that is as long as it has to be, worth what one shorter is worth: zeros above -/
theorem tl_len_of_lt {l : List Nat} (k : Nat) (hv : val l < BB ^ k) : tl l ≤ k := by
  have h1 := clean_len (clean_take l) k (by rw [val_take_tl]; exact hv)
  rwa [List.length_take, Nat.min_eq_left (tl_le l)] at h1
theorem val_take_succ_any (l : List Nat) (k : Nat) : val (l.take (k + 1)) = val (l.take k) + BB ^ k * gw l k := by
  rcases Nat.lt_or_ge k l.length with h | h
  · exact val_take_succ l k h
  · rw [List.take_of_length_le (by omega), List.take_of_length_le h, getD_ge h]; simp
theorem set_take_succ (l : List Nat) (k x : Nat) (h : k < l.length) : val ((l.set k x).take (k + 1)) = val (l.take k) + BB ^ k * x := by
  rw [val_take_succ _ _ (by rw [List.length_set]; exact h)]
  have h1 : (l.set k x).take k = l.take k := by
    apply List.ext_getElem?
    intro j
    rw [List.getElem?_take, List.getElem?_take, List.getElem?_set]
    by_cases h : j < k
    · rw [if_pos h, if_pos h, if_neg (by omega)]
    · rw [if_neg h, if_neg h]
  have h2 : gw (l.set k x) k = x := by
    unfold gw; rw [List.getD_eq_getElem?_getD, List.getElem?_set]; simp [h]
  rw [h1, h2]
/-- what is cut off at a place from which on there are only zeros -/
theorem val_take_ge (l : List Nat) (k : Nat) (h : tl l ≤ k) : val (l.take k) = val l := by
  rcases Nat.lt_or_ge k l.length with hk | hk
  · have h1 := val_split l k (by omega)
    have h2 := val_split (l.take k) (tl l) (by rw [List.length_take]; omega)
    rw [List.take_take, Nat.min_eq_left h, val_take_tl] at h2
    omega
  · rw [List.take_of_length_le hk]
theorem val_replicate (n : Nat) : val (List.replicate n 0) = 0 := by
  induction n with
  | zero => rfl
  | succ n ih => simp [List.replicate_succ, val, ih]
end
section

theorem block_of_add (a : Addr) (n : Nat) : (a.add n).block = a.block := by unfold Addr.add; split <;> rfl
theorem add_nil (a : Addr) : a.add 0 = a := by unfold Addr.add; simp
theorem add_of_add (a : Addr) (i j : Nat) : (a.add i).add j = a.add (i + j) := by
  unfold Addr.add
  by_cases hi : i = 0 <;> by_cases hj : j = 0 <;> simp [hi, hj, Nat.add_assoc]

/-- the slice value '.slice A n c' reads as the words xs -/
def Rd (w : World) (A : Option Addr) (n c : Nat) (xs : List Nat) : Prop :=
  xs.length = n ∧ n ≤ c ∧ c ≤ 9223372036854775807 ∧ Ok xs ∧ (A = none → c = 0) ∧ (0 < n → ∃ ad, A = some ad ∧ ad.block < w.heap.size ∧ ∀ j, j < n → w.cell? (ad.add j) = some (.int .u32 (gw xs j : Int)))

/-- '.. and what was there before stands': the world w' goes on from w -/
def On (w w' : World) : Prop := Below w.heap.size w w'

theorem On.refl (w : World) : On w w := Below.refl _ _
theorem On.trans {a b c : World} (h : On a b) (k : On b c) : On a c := Below.trans h (Below.mono k h.size)
theorem On.drew {a b : World} (h : On a b) : On a b.drew := Below.drew h
theorem On.drewN {a b : World} (h : On a b) (n : Nat) : On a (b.drewN n) := ⟨h.os, h.tape, h.output, h.size, h.block⟩
theorem On.alloc {a b : World} (h : On a b) (o : Obj) : On a (b.alloc o) := Below.alloc h h.size o
theorem On.setCell {a b : World} (h : On a b) {p : Addr} (hp : a.heap.size ≤ p.block) (u : Value) : On a (b.setCell p u) := Below.setCell h hp u
theorem On.size {a b : World} (h : On a b) : a.heap.size ≤ b.heap.size := Below.size h
theorem On.below {a b : World} (h : On a b) : Below a.heap.size a b := h

section
variable {w w' : World} {n c : Nat} {A : Option Addr} {xs : List Nat}
theorem Rd.len (h : Rd w A n c xs) : xs.length = n := h.1
theorem Rd.cap (h : Rd w A n c xs) : n ≤ c := h.2.1
theorem Rd.max (h : Rd w A n c xs) : c ≤ 9223372036854775807 := h.2.2.1
theorem Rd.ok (h : Rd w A n c xs) : Ok xs := h.2.2.2.1
theorem Rd.none_ (h : Rd w A n c xs) : A = none → c = 0 := h.2.2.2.2.1
theorem Rd.nil_ : Rd w none 0 0 [] := ⟨rfl, by omega, by omega, Ok.nil, fun _ => rfl, fun h => absurd h (by omega)⟩
theorem Rd.at_ (h : Rd w A n c xs) (k : Nat) (hk : k < n) : ∃ ad, A = some ad ∧ ad.block < w.heap.size ∧ w.cell? (ad.add k) = some (.int .u32 (gw xs k : Int)) := by
  obtain ⟨ad, e, hb, hc⟩ := h.2.2.2.2.2 (by omega)
  exact ⟨ad, e, hb, hc k hk⟩
theorem Rd.keep (h : Rd w A n c xs) (hs : w.heap.size ≤ w'.heap.size) (hk : ∀ p : Addr, p.block < w.heap.size → w'.cell? p = w.cell? p) : Rd w' A n c xs :=
  ⟨h.1, h.2.1, h.2.2.1, h.2.2.2.1, h.none_, fun hn => by
    obtain ⟨ad, e, hb, hc⟩ := h.2.2.2.2.2 hn
    exact ⟨ad, e, by omega, fun j hj => (hk _ (by rw [block_of_add]; exact hb)).trans (hc j hj)⟩⟩
theorem Rd.on (h : Rd w A n c xs) (hb : On w w') : Rd w' A n c xs := h.keep hb.size fun _ hp => Below.cell hb hp
theorem Rd.drew (h : Rd w A n c xs) : Rd w.drew A n c xs := h
theorem Rd.drewN (h : Rd w A n c xs) (k : Nat) : Rd (w.drewN k) A n c xs := h
theorem Rd.alloc (h : Rd w A n c xs) (o : Obj) : Rd (w.alloc o) A n c xs := h.on ((On.refl w).alloc o)
/-- a[:k] -/
theorem Rd.take (h : Rd w A n c xs) {k : Nat} (hk : k ≤ n) : Rd w A k c (xs.take k) := by
  refine ⟨by rw [List.length_take, h.1]; omega, by have := h.2.1; omega, h.2.2.1, h.ok.take k, h.none_, fun hn => ?_⟩
  obtain ⟨ad, e, hb, hc⟩ := h.2.2.2.2.2 (by omega)
  exact ⟨ad, e, hb, fun j hj => by rw [hc j (by omega), getD_take hj]⟩
/-- a[k:] -/
theorem Rd.cut (h : Rd w A n c xs) {k : Nat} (hk : k ≤ n) : Rd w (if c = k then A else A.map (·.add k)) (n - k) (c - k) (xs.drop k) := by
  have hcap := h.2.1
  have hmx := h.2.2.1
  refine ⟨by rw [List.length_drop, h.1], by omega, by omega, h.ok.drop k, ?_, fun hn => ?_⟩
  · intro he
    by_cases hck : c = k
    · omega
    · rw [if_neg hck] at he
      have := h.none_ (by cases A with | none => rfl | some a => cases he)
      omega
  obtain ⟨ad, rfl, hb, hcell⟩ := h.2.2.2.2.2 (by omega)
  rw [if_neg (by omega)]
  refine ⟨ad.add k, rfl, by rw [block_of_add]; exact hb, fun j hj => ?_⟩
  rw [add_of_add, getD_drop]
  exact hcell _ (by omega)
end

/-- a slice that reads as a clean list that is worth v, of at most L words -/
def Nm (w : World) (A : Option Addr) (n c v L : Nat) : Prop := ∃ xs, Rd w A n c xs ∧ Clean xs ∧ val xs = v ∧ n ≤ L
theorem Nm.on {w w' : World} {A : Option Addr} {n c v L : Nat} (h : Nm w A n c v L) (hb : On w w') : Nm w' A n c v L := by
  obtain ⟨xs, h1, h2⟩ := h
  exact ⟨xs, h1.on hb, h2⟩
/-- what a function that makes a number says: it returns a clean list worth v, of at most L words, and leaves what was there -/
def Gives (w : World) (v L : Nat) (e : Ending) (w' : World) : Prop := ∃ A n c, e = .returned (.slice A n c) ∧ Nm w' A n c v L ∧ On w w'
/-- the same with an error behind it -/
def Gives2 (w : World) (v L : Nat) (er : Value) (e : Ending) (w' : World) : Prop := ∃ A n c, e = .returned (.tuple #[.slice A n c, er]) ∧ Nm w' A n c v L ∧ On w w'
/-- the nil slice and an error -/
def Refuses (w : World) (er : Value) (e : Ending) (w' : World) : Prop := e = .returned (.tuple #[.slice none 0 0, er]) ∧ On w w'

theorem ret_slice {A : Option Addr} {a b c : Nat} (h : a = b) : Ending.returned (.slice A a c) = .returned (.slice A b c) := by rw [h]
theorem ret_int {k : IntKind} {a b : Int} (h : a = b) : Ending.returned (.int k a) = .returned (.int k b) := by rw [h]
end
section

theorem add_plain (g o j : Nat) : (⟨g, o, none⟩ : Addr).add j = ⟨g, o + j, none⟩ := by
  unfold Addr.add; by_cases h : j = 0 <;> simp [h]

/-- block g is just the cells cur, none of them frozen -/
def Own (w : World) (g : Nat) (t : TypeId) (cur : Array Value) : Prop := w.heap[g]? = some (.cells cur t (0, 0))
/-- from place o on the cells are the words xs -/
def Has (cur : Array Value) (o : Nat) (xs : List Nat) : Prop := Ok xs ∧ ∀ j, j < xs.length → cur[o + j]? = some (.int .u32 (gw xs j : Int))
/-- the world w' goes on from w; of what was there only block g has turned -/
def Only (g : Nat) (w w' : World) : Prop := w.grownBy w' (some g)
/-- between place o and o + n only -/
def Same (cur cur' : Array Value) (o n : Nat) : Prop := cur'.size = cur.size ∧ ∀ k, k < o ∨ o + n ≤ k → cur'[k]? = cur[k]?

section
variable {w w' w'' : World} {g : Nat} {t : TypeId} {cur cur' : Array Value}
theorem Own.lt (h : Own w g t cur) : g < w.heap.size := by
  rcases Nat.lt_or_ge g w.heap.size with hlt | hge
  · exact hlt
  · unfold Own at h; rw [Array.getElem?_eq_none hge] at h; cases h
theorem Own.cell (h : Own w g t cur) (i : Nat) : w.cell? ⟨g, i, none⟩ = cur[i]? := cell_of_row w g i cur t (0, 0) h
theorem Own.frozen (h : Own w g t cur) (i : Nat) : w.frozen? ⟨g, i, none⟩ = false := by
  unfold Own at h
  simp [World.frozen?, h]
theorem Own.new (w : World) (t : TypeId) (cur : Array Value) : Own (w.alloc (.cells cur t)) w.heap.size t cur := heap_alloc_new w _
theorem Own.drew (h : Own w g t cur) : Own w.drew g t cur := h
theorem Own.drewN (h : Own w g t cur) (n : Nat) : Own (w.drewN n) g t cur := h
theorem Own.alloc (h : Own w g t cur) (o : Obj) : Own (w.alloc o) g t cur := (Below.heap_alloc w o g h.lt).trans h
theorem Own.set_ (h : Own w g t cur) (i : Nat) (u : Value) : Own (w.setCell ⟨g, i, none⟩ u) g t (cur.setIfInBounds i u) := by
  unfold Own at h ⊢
  simp [World.setCell, Array.getElem?_modify, h]
theorem Own.far (h : Own w g t cur) {p : Addr} (hp : g ≠ p.block) (u : Value) : Own (w.setCell p u) g t cur := (Below.heap_setCell w p u g hp).trans h
theorem Own.on (h : Own w g t cur) (hb : On w w') : Own w' g t cur := (hb.block g h.lt).trans h
theorem Own.only {g' : Nat} (h : Own w g t cur) (hb : Only g' w w') (hg : g ≠ g') : Own w' g t cur := (hb.block g h.lt (by simp; omega)).trans h
theorem Only.refl (g : Nat) (w : World) : Only g w w := World.grownBy.refl w _
theorem Only.trans {a b c : World} (h : Only g a b) (k : Only g b c) : Only g a c := World.grownBy.trans h k
theorem Only.size {a b : World} (h : Only g a b) : a.heap.size ≤ b.heap.size := World.grownBy.size h
theorem Only.drew {a b : World} (h : Only g a b) : Only g a b.drew := ⟨h.os, h.tape, h.output, h.size, h.block⟩
theorem Only.drewN {a b : World} (h : Only g a b) (n : Nat) : Only g a (b.drewN n) := ⟨h.os, h.tape, h.output, h.size, h.block⟩
theorem Only.on {a b : World} (h : On a b) : Only g a b := ⟨h.os, h.tape, h.output, h.size, fun i hi _ => h.block i hi⟩
theorem Only.then {a b c : World} (h : Only g a b) (k : On b c) : Only g a c := h.trans (Only.on k)
theorem Only.alloc {a b : World} (h : Only g a b) (o : Obj) : Only g a (b.alloc o) := h.then ((On.refl b).alloc o)
theorem Only.set_ {a b : World} (h : Only g a b) (i : Nat) (u : Value) : Only g a (b.setCell ⟨g, i, none⟩ u) :=
  h.trans ⟨rfl, rfl, rfl, by simp [World.setCell], fun k _ hne => Below.heap_setCell _ _ _ _ (by intro e; subst e; exact hne rfl)⟩
/-- what only touches a block that is newer than a goes on from a -/
theorem On.only {a b c : World} (h : On a b) (k : Only g b c) (hg : a.heap.size ≤ g) : On a c := Below.grown h k h.size (fun k e => by cases e; exact hg)
theorem Rd.only {A : Option Addr} {n c : Nat} {xs : List Nat} (h : Rd w A n c xs) (hb : Only g w w') (hg : ∀ ad, A = some ad → ad.block ≠ g) : Rd w' A n c xs := by
  refine ⟨h.1, h.2.1, h.2.2.1, h.2.2.2.1, h.none_, fun hn => ?_⟩
  obtain ⟨ad, e, hl, hc⟩ := h.2.2.2.2.2 hn
  refine ⟨ad, e, Nat.lt_of_lt_of_le hl hb.size, fun j hj => ?_⟩
  have hne := hg ad e
  exact (World.cell?_of_block (hb.block _ (by rw [block_of_add]; exact hl) (by rw [block_of_add]; simp; exact hne))).trans (hc j hj)

theorem Has.ok {o : Nat} {xs : List Nat} (h : Has cur o xs) : Ok xs := h.1
theorem Has.get {o : Nat} {xs : List Nat} (h : Has cur o xs) (j : Nat) (hj : j < xs.length) : cur[o + j]? = some (.int .u32 (gw xs j : Int)) := h.2 j hj
theorem Has.bound {o : Nat} {xs : List Nat} (h : Has cur o xs) (hx : 0 < xs.length) : o + xs.length ≤ cur.size := by
  have := h.2 (xs.length - 1) (by omega)
  have := (Array.getElem?_eq_some_iff.1 this).1
  omega
theorem gw_set (xs : List Nat) (j k x : Nat) (hj : j < xs.length) : gw (xs.set j x) k = if j = k then x else gw xs k := by
  unfold gw
  rw [List.getD_eq_getElem?_getD, List.getD_eq_getElem?_getD, List.getElem?_set]
  by_cases h : j = k
  · subst h; simp [hj]
  · simp [h]
theorem Has.set_ {o j x : Nat} {xs : List Nat} (h : Has cur o xs) (hj : j < xs.length) (hx : x < 4294967296) : Has (cur.setIfInBounds (o + j) (.int .u32 (x : Int))) o (xs.set j x) := by
  refine ⟨h.1.set j x hx, fun k hk => ?_⟩
  rw [List.length_set] at hk
  have hb := h.bound (by omega)
  rw [gw_set xs j k x hj, Array.getElem?_setIfInBounds]
  by_cases hjk : j = k
  · subst hjk; rw [if_pos rfl, if_pos (by omega), if_pos rfl]
  · rw [if_neg (by omega), if_neg hjk]; exact h.2 k hk
theorem Same.refl (cur : Array Value) (o n : Nat) : Same cur cur o n := ⟨rfl, fun _ _ => rfl⟩
theorem Same.set_ {cur'' : Array Value} {o n j : Nat} (h : Same cur cur'' o n) (hj : j < n) (u : Value) : Same cur (cur''.setIfInBounds (o + j) u) o n := by
  refine ⟨by simp [h.1], fun k hk => ?_⟩
  rw [Array.getElem?_setIfInBounds, if_neg (by omega)]
  exact h.2 k hk
theorem Same.trans {a b c : Array Value} {o n : Nat} (h : Same a b o n) (k : Same b c o n) : Same a c o n := ⟨k.1.trans h.1, fun i hi => (k.2 i hi).trans (h.2 i hi)⟩
theorem Same.wide {a b : Array Value} {o n o' n' : Nat} (h : Same a b o n) (h1 : o' ≤ o) (h2 : o + n ≤ o' + n') : Same a b o' n' := ⟨h.1, fun i hi => h.2 i (by omega)⟩
theorem Has.part {o i n : Nat} {xs : List Nat} (h : Has cur o xs) (hi : i + n ≤ xs.length) : Has cur (o + i) ((xs.drop i).take n) := by
  refine ⟨(h.1.drop i).take n, fun j hj => ?_⟩
  have hl : ((xs.drop i).take n).length = n := by rw [List.length_take, List.length_drop]; omega
  rw [hl] at hj
  rw [getD_take hj, getD_drop, Nat.add_assoc]
  exact h.2 (i + j) (by omega)
theorem Has.keep {o n i : Nat} {xs : List Nat} (h : Has cur i xs) (k : Same cur cur' o n) (hd : i + xs.length ≤ o ∨ o + n ≤ i) : Has cur' i xs :=
  ⟨h.1, fun j hj => (k.2 _ (by omega)).trans (h.2 j hj)⟩
theorem Has.append {o : Nat} {xs ys : List Nat} (h : Has cur o xs) (k : Has cur (o + xs.length) ys) : Has cur o (xs ++ ys) := by
  refine ⟨h.1.append k.1, fun j hj => ?_⟩
  rw [List.length_append] at hj
  unfold gw
  rw [List.getD_eq_getElem?_getD, List.getElem?_append]
  by_cases hjx : j < xs.length
  · rw [if_pos hjx]; rw [h.2 j hjx]; unfold gw; rw [List.getD_eq_getElem?_getD]
  · rw [if_neg hjx]
    have := k.2 (j - xs.length) (by omega)
    rw [show o + xs.length + (j - xs.length) = o + j from by omega] at this
    rw [this]; unfold gw; rw [List.getD_eq_getElem?_getD]
/-- a part has been written: the whole -/
theorem Has.join {o i n : Nat} {xs ys : List Nat} (h : Has cur o xs) (hi : i + n ≤ xs.length) (hy : ys.length = n) (k : Has cur' (o + i) ys) (hs : Same cur cur' (o + i) n) : Has cur' o (xs.take i ++ ys ++ xs.drop (i + n)) := by
  have hl : (xs.take i).length = i := by rw [List.length_take]; omega
  have h1 : Has cur' o (xs.take i) := by
    have := (h.part (i := 0) (n := i) (by omega)).keep hs (by simp [hl])
    simpa using this
  have h2 : Has cur' (o + (i + n)) (xs.drop (i + n)) := by
    have := (h.part (i := i + n) (n := xs.length - (i + n)) (by omega)).keep hs (by omega)
    rwa [List.take_of_length_le (by simp)] at this
  refine (h1.append (by rw [hl]; exact k)).append ?_
  rw [List.length_append, hl, hy]
  exact h2
theorem Rd.own {o n c : Nat} {xs : List Nat} (h : Own w g t cur) (k : Has cur o xs) (hn : xs.length = n) (hc : n ≤ c) (hm : c ≤ 9223372036854775807) : Rd w (some ⟨g, o, none⟩) n c xs := by
  refine ⟨hn, hc, hm, k.1, fun e => (by cases e), fun _ => ⟨_, rfl, h.lt, fun j hj => ?_⟩⟩
  rw [add_plain, h.cell]
  exact k.2 j (by omega)
end

/-- a list without the zeros at its end -/
theorem nm_trim {w : World} {A : Option Addr} {n c : Nat} {xs : List Nat} (h : Rd w A n c xs) {L : Nat} (hL : tl xs ≤ L) : Nm w A (tl xs) c (val xs) L :=
  ⟨xs.take (tl xs), h.take (by rw [← h.len]; exact tl_le xs), clean_take xs, val_take_tl xs, hL⟩
theorem has_one (x : Nat) (hx : x < 4294967296) : Has #[.int .u32 (x : Int)] 0 [x] := ⟨Ok.one hx, fun j hj => by
  match j, hj with
  | 0, _ => rfl⟩
theorem has_two (x y : Nat) (hx : x < 4294967296) (hy : y < 4294967296) : Has #[.int .u32 (x : Int), .int .u32 (y : Int)] 0 [x, y] := ⟨Ok.cons hx (Ok.one hy), fun j hj => by
  match j, hj with
  | 0, _ => rfl
  | 1, _ => rfl⟩
theorem rd_one (w : World) (t : TypeId) (x : Nat) (hx : x < 4294967296) : Rd (w.alloc (.cells #[.int .u32 (x : Int)] t)) (some ⟨w.heap.size, 0, none⟩) 1 1 [x] :=
  Rd.own (Own.new w t _) (has_one x hx) rfl (Nat.le_refl _) (by omega)
theorem rd_two (w : World) (t : TypeId) (x y : Nat) (hx : x < 4294967296) (hy : y < 4294967296) : Rd (w.alloc (.cells #[.int .u32 (x : Int), .int .u32 (y : Int)] t)) (some ⟨w.heap.size, 0, none⟩) 2 2 [x, y] :=
  Rd.own (Own.new w t _) (has_two x y hx hy) rfl (Nat.le_refl _) (by omega)

theorem gw_replicate (n k : Nat) : gw (List.replicate n 0) k = 0 := by
  unfold gw; rw [List.getD_eq_getElem?_getD, List.getElem?_replicate]; split <;> rfl
/-- a block that make has made -/
theorem has_made (n : Nat) : Has (madeCells #[.int .u32 0] n) 0 (List.replicate n 0) := ⟨fun u hu => by rw [List.mem_replicate] at hu; omega, fun j hj => by
  rw [List.length_replicate] at hj
  rw [gw_replicate, Nat.zero_add]
  simp [madeCells, hj, Nat.mod_one]⟩
/-- words as values -/
def VW (k : IntKind) (xs : List Nat) : List Value := xs.map fun (u : Nat) => .int k (u : Int)
theorem VW_length (k : IntKind) (xs : List Nat) : (VW k xs).length = xs.length := by simp [VW]
theorem VW_get {k : IntKind} {xs : List Nat} {j : Nat} {u : Value} (h : (VW k xs)[j]? = some u) : j < xs.length ∧ u = .int k (gw xs j : Int) := by
  unfold VW at h
  rw [List.getElem?_map] at h
  rcases Nat.lt_or_ge j xs.length with hj | hj
  · rw [List.getElem?_eq_getElem hj] at h
    simp at h
    exact ⟨hj, by rw [← h]; simp [gw, List.getD_eq_getElem?_getD, hj]⟩
  · rw [List.getElem?_eq_none hj] at h; cases h
theorem VW_append (k : IntKind) (xs ys : List Nat) : VW k (xs ++ ys) = VW k xs ++ VW k ys := by simp [VW]

/-- what an owned row gives: its block -/
theorem own_of_row {w : World} {base : Nat} {e : TypeId} {v : Value} {n : Nat} {xs : List Nat} (ho : Ok xs) (h : w.ownsRow base e 1 v n (VW .u32 xs)) (hn : 0 < n) :
    ∃ g cap cur, v = .slice (some ⟨g, 0, none⟩) n cap ∧ base ≤ g ∧ Own w g e cur ∧ Has cur 0 xs ∧ n ≤ cap ∧ cap ≤ 9223372036854775807 := by
  have hl : xs.length = n := by have := h.1; rw [VW_length] at this; omega
  rcases h.2 with ⟨_, h0⟩ | ⟨g, cap, cur, rfl, hb, hh, hcap, hmax, hsz, htake⟩
  · omega
  · refine ⟨g, cap, cur, rfl, hb, hh, ⟨ho, fun j hj => ?_⟩, hcap, by unfold maxLen at hmax; exact hmax⟩
    have h1 : (VW .u32 xs)[j]? = some (.int .u32 (gw xs j : Int)) := by
      unfold VW; rw [List.getElem?_map, List.getElem?_eq_getElem hj]; simp [gw, List.getD_eq_getElem?_getD, hj]
    rw [← htake, List.getElem?_take] at h1
    split at h1
    · simpa using h1
    · cases h1

theorem rd_of_row {w : World} {base : Nat} {e : TypeId} {A : Option Addr} {c n : Nat} {xs : List Nat} (ho : Ok xs) (h : w.ownsRow base e 1 (.slice A n c) n (VW .u32 xs)) : Rd w A n c xs := by
  have hl : xs.length = n := by have := h.1; rw [VW_length] at this; omega
  rcases h.2 with ⟨hv, h0⟩ | ⟨g, cap, cur, hv, hb, hh, hcap, hmax, hsz, htake⟩
  · injection hv with h1 h2 h3
    subst h1; subst h3; subst h0
    exact ⟨hl, by omega, by omega, ho, fun _ => rfl, fun h => absurd h (by omega)⟩
  · injection hv with h1 h2 h3
    subst h1; subst h3
    refine ⟨hl, hcap, by unfold maxLen at hmax; exact hmax, ho, fun e => (by cases e), fun hn => ⟨_, rfl, (Array.getElem?_eq_some_iff.1 hh).1, fun j hj => ?_⟩⟩
    obtain ⟨g', cap', cur', hv', _, ho', hhas, _⟩ := own_of_row ho h hn
    injection hv' with h1
    injection h1 with h1
    injection h1 with h1
    subst h1
    rw [add_plain, Own.cell ho']
    exact hhas.2 j (by omega)

theorem row_form {w : World} {base : Nat} {e : TypeId} {v : Value} {n : Nat} {xs : List Value} (h : w.ownsRow base e 1 v n xs) : ∃ A c, v = .slice A n c := by
  rcases h.2 with ⟨rfl, rfl⟩ | ⟨g, cap, cur, rfl, _⟩
  · exact ⟨_, _, rfl⟩
  · exact ⟨_, _, rfl⟩

theorem info_parts' {P : Program} {e : TypeId} {z : Value} {s b : Nat} (h : (P.info? e).map (fun i => (i.zero, i.size, i.bytes)) = some (some z, s, b)) : ∃ i, P.info? e = some i ∧ i.zero = some z ∧ i.size = s ∧ i.bytes = b := by
  obtain ⟨i, hi, hz⟩ := Option.map_eq_some_iff.1 h
  simp only [Prod.mk.injEq] at hz
  exact ⟨i, hi, hz.1, hz.2.1, hz.2.2⟩

section
variable {P : Program}
/-- append of words that read as a list, from wherever, to a row of the call's own -/
theorem run_app (w : World) (base : Nat) (t ty e : TypeId) (z : Value) (bytes : Nat) (ht : P.underlying t = some (.slice e)) (hinfo : (P.info? e).map (fun i => (i.zero, i.size, i.bytes)) = some (some z, 1, bytes)) (hzs : z.cells.size = 1) (hb8 : bytes ≤ 8)
    (k : IntKind) (v : Value) (n : Nat) (xs : List Nat) (hown : w.ownsRow base e 1 v n (VW k xs))
    (A : Option Addr) (m c : Nat) (news : List Nat) (hl : news.length = m) (hA : A = none → m = 0 ∧ c = 0) (hn : ∀ ad, A = some ad → ∀ j, j < m → w.cell? (ad.add j) = some (.int k (gw news j : Int)))
    (hsm : n + m ≤ 1000000000) (hbase : base ≤ w.heap.size) :
    ∃ v' w', (Builtin.append_ #[t, t] ty #[v, .slice A m c]).run P w = .ok v' w' ∧ w'.ownsRow base e 1 v' (n + m) (VW k (xs ++ news)) ∧ w.grownBy w' v.ownBlock ∧ (v'.ownBlock = v.ownBlock ∨ v'.ownBlock = some w.heap.size) := by
  obtain ⟨i, hi, hz, hs, hby⟩ := info_parts' hinfo
  rcases A with _ | ad
  · obtain ⟨rfl, rfl⟩ := hA rfl
    obtain rfl := List.eq_nil_of_length_eq_zero hl
    refine ⟨v, w, run_append_owned_none (P := P) (w := w) base t ty e i 1 ht hi v n _ hown, by simpa using hown, World.grownBy.refl w _, .inl rfl⟩
  · obtain ⟨v', w', hrun, h2, h3, _, h5⟩ := run_append_own_at (P := P) w base t ty e i z 1 bytes ht hi hz hs hby hzs (by decide) v n _ hown ad m c (VW k news) (by rw [VW_length]; omega)
      (fun j u hu => by obtain ⟨hj, rfl⟩ := VW_get hu; exact hn ad rfl j (by omega))
      (fun u hu => by obtain ⟨x, _, rfl⟩ := List.mem_map.1 hu; rfl) (by unfold maxLen; omega) (by have : (n + m) * bytes ≤ (n + m) * 8 := Nat.mul_le_mul_left _ hb8; omega) hbase
    exact ⟨v', w', hrun, by rw [VW_append]; exact h2, h3, h5⟩
theorem wpList_app {w : World} {ops : Array Oper} {rest : List Oper} {o : Oper} {a : Act} {Q : Exit → Act → World → Prop} (hgd : o.guard = none) (s x : Operand) (t : TypeId)
    (ho : o.op = .call { callee := .builtin .append, args := #[s, x], argTypes := #[t, t] })
    (base : Nat) (e : TypeId) (z : Value) (bytes : Nat) (ht : P.underlying t = some (.slice e)) (hinfo : (P.info? e).map (fun i => (i.zero, i.size, i.bytes)) = some (some z, 1, bytes)) (hzs : z.cells.size = 1) (hb8 : bytes ≤ 8)
    (k : IntKind) (v : Value) (n : Nat) (xs : List Nat) (hs : a.eval s = v) (hown : w.ownsRow base e 1 v n (VW k xs))
    (A : Option Addr) (m c : Nat) (news : List Nat) (hx : a.eval x = .slice A m c) (hl : news.length = m) (hA : A = none → m = 0 ∧ c = 0) (hn : ∀ ad, A = some ad → ∀ j, j < m → w.cell? (ad.add j) = some (.int k (gw news j : Int)))
    (hsm : n + m ≤ 1000000000) (hbase : base ≤ w.heap.size)
    (h : ∀ v' w', w'.ownsRow base e 1 v' (n + m) (VW k (xs ++ news)) → w.grownBy w' v.ownBlock → (v'.ownBlock = v.ownBlock ∨ v'.ownBlock = some w.heap.size) → wpList P ops Q rest (a.put o.dst v') w') : wpList P ops Q (o :: rest) a w := by
  refine wpList_plain hgd fun K hK => ?_
  obtain ⟨v', w', hrun, h2, h3, h4⟩ := run_app (P := P) w base t o.type e z bytes ht hinfo hzs hb8 k v n xs hown A m c news hl hA hn hsm hbase
  unfold Oper.wp
  simp [execOp, ho, resolve, invoke, builtin, hs, hx, hrun, Result.andThen]
  exact hK _ _ (h v' w' h2 h3 h4)
end
theorem info32 : (Tryz.prog.info? 66).map (fun i => (i.zero, i.size, i.bytes)) = some (some (.int .u32 0), 1, 4) := by kernel_rfl
theorem info8 : (Tryz.prog.info? 5).map (fun i => (i.zero, i.size, i.bytes)) = some (some (.int .u8 0), 1, 1) := by kernel_rfl
/-- make([]uint32, n) -/
theorem run_mk (n : Nat) (h : n ≤ 1000000000) (w : World) :
    (Instr.makeSlice 22 (.int .i64 (n : Int)) (.int .i64 (n : Int))).run Tryz.prog w = .ok (.slice (some ⟨w.heap.size, 0, none⟩) n n) (w.alloc (.cells (madeCells #[.int .u32 0] n) 66)) :=
  run_make_row' 22 66 (.int .u32 0) 4 Tryz.underlying22 info32 rfl .i64 .i64 n (by omega) (by omega) w
end
section
set_option maxHeartbeats 400000 in
theorem trim_any (w : World) (A : Option Addr) (n c : Nat) (xs : List Nat) (h : Rd w A n c xs) :
    Calls Tryz.prog 106 #[.slice A n c] w fun e w' => e = .returned (.slice A (tl xs) c) ∧ w = w' := by
  have hlen := h.len
  have hcap := h.cap
  have hmax := h.max
  have htl := tl_le xs
  go_enter Tryz.func106, Tryz.ntmps106
  go_wp2
  go_loop [3] (fun i => ∃ k : Nat, k ≤ n ∧ i = .int .i64 k ∧ tl (xs.take k) = tl xs) (fun i => (intOf i).toNat)
  case atStart => exact ⟨n, Nat.le_refl _, rfl, by rw [List.take_of_length_le (by omega)]⟩
  case round =>
    obtain ⟨k, hk, rfl, ht⟩ := hrel
    have HT := Lib.hid ht
    clear ht
    rcases k with _ | k
    · go_wp2
      go_ret
      have h0 : tl xs = 0 := by rw [← HT.out]; rfl
      exact ⟨ret_slice h0.symm, rfl⟩
    · obtain ⟨ad, rfl, hb, hcell⟩ := h.at_ k (by omega)
      by_cases h0 : gw xs k = 0
      · have H0 := Lib.hid h0
        rw [h0] at hcell
        clear h0
        go_wp2
        go_round
        case rel => exact ⟨k, by omega, by go_num, by rw [← HT.out, tl_take_zero xs k (by omega) H0.out]⟩
        case measure => first | (simp [intOf]; done) | (simp [intOf]; omega)
      · have h1 : (((gw xs k : Nat) : Int) == 0) = false := by simp; omega
        have H0 := Lib.hid h0
        clear h0
        go_wp2
        go_ret
        exact ⟨ret_slice (by rw [← HT.out, tl_take_pos xs k (by omega) H0.out]), rfl⟩
/-- at(a, i): word i, 0 behind the end -/
theorem at_any (w : World) (A : Option Addr) (n c : Nat) (xs : List Nat) (h : Rd w A n c xs) (i : Int) (h0 : 0 ≤ i) (h1 : i ≤ 1000000000) :
    Calls Tryz.prog 135 #[.slice A n c, .int .i64 i] w fun e w' => e = .returned (.int .u32 (gw xs i.toNat : Nat)) ∧ w = w' := by
  obtain ⟨k, rfl⟩ := Int.eq_ofNat_of_zero_le h0
  rw [Int.toNat_natCast]
  have hcap := h.cap
  have hmax := h.max
  by_cases hk : k < n
  · obtain ⟨ad, rfl, hb, hcell⟩ := h.at_ k hk
    go_enter Tryz.func135, Tryz.ntmps135
    go_wp2
    go_ret
    exact ⟨rfl, rfl⟩
  · have hg := Lib.hid (getD_ge (l := xs) (k := k) (by rw [h.len]; omega))
    go_enter Tryz.func135, Tryz.ntmps135
    go_wp2
    go_ret
    exact ⟨by rw [hg.out]; rfl, rfl⟩
/-- the same, word j, the world on the left -/
theorem at_is (w : World) (A : Option Addr) (n c : Nat) (xs : List Nat) (h : Rd w A n c xs) (i : Int) (j : Nat) (hi : i = (j : Int)) (h1 : j ≤ 1000000000) :
    Calls Tryz.prog 135 #[.slice A n c, .int .i64 i] w fun e w' => e = .returned (.int .u32 ((gw xs j : Nat) : Int)) ∧ w' = w := by
  subst hi
  refine (at_any w A n c xs h (j : Int) (by omega) (by omega)).mono ?_
  rintro e w' ⟨he, hw⟩
  rw [Int.toNat_natCast] at he
  exact ⟨he, hw.symm⟩
end
section
/-- a copy: the same words, in a block of its own -/
def Cloned (w : World) (n : Nat) (xs : List Nat) (e : Ending) (w' : World) : Prop :=
  ∃ A' c', e = .returned (.slice A' n c') ∧ Rd w' A' n c' xs ∧ On w w' ∧ (0 < n → ∃ g cur, A' = some ⟨g, 0, none⟩ ∧ w.heap.size ≤ g ∧ Own w' g 66 cur ∧ Has cur 0 xs)
set_option maxHeartbeats 400000 in
theorem clone_any (w : World) (A : Option Addr) (n c : Nat) (xs : List Nat) (h : Rd w A n c xs) (hn : n ≤ 100000000) :
    Calls Tryz.prog 105 #[.slice A n c] w (Cloned w n xs) := by
  have heq := fun W => Lib.run_eql_slice_nil (P := Tryz.prog) W 22 66 A n c 0 0 Tryz.underlying22
  rcases A with _ | ad
  · have hc0 : c = 0 := h.none_ rfl
    obtain rfl : n = 0 := by have := h.cap; omega
    obtain rfl : xs = [] := List.eq_nil_of_length_eq_zero h.len
    subst hc0
    go_enter Tryz.func105, Tryz.ntmps105
    go_wp2
    go_ret
    exact ⟨none, 0, rfl, Rd.nil_, On.refl _, fun h => absurd h (by omega)⟩
  · have hlen := h.len
    have hown : (w.alloc (.cells #[] 66)).ownsRow w.heap.size 66 1 (.slice (some ⟨w.heap.size, 0, none⟩) 0 0) 0 (VW .u32 []) :=
      ⟨rfl, .inr ⟨w.heap.size, 0, #[], rfl, Nat.le_refl _, heap_alloc_new w _, Nat.le_refl _, by decide, rfl, rfl⟩⟩
    have hcells : ∀ ad', some ad = some ad' → ∀ j, j < n → (w.alloc (.cells #[] 66)).cell? (ad'.add j) = some (.int .u32 (gw xs j : Int)) := by
      intro ad' e j hj
      obtain ⟨ad2, e2, hb, hc⟩ := (h.alloc (.cells #[] 66)).at_ j hj
      injection e with e
      injection e2 with e2
      subst e; subst e2
      exact hc
    have HC := Lib.hid hcells
    have HO := Lib.hid hown
    have HL := Lib.hid hlen
    clear hcells hown hlen
    go_enter Tryz.func105, Tryz.ntmps105
    go_wp2_with (at_builtin; refine wpList_app rfl (.tmp 5) (.tmp 6) 22 rfl w.heap.size 66 (.int .u32 0) 4 Tryz.underlying22 info32 rfl (by decide) .u32 (.slice (some ⟨w.heap.size, 0, none⟩) 0 0) 0 [] rfl HO.out (some ad) n c xs rfl HL.out (fun e => by cases e) HC.out (by omega) (by simp) ?_; intro v' w1 hown1 hgrow hor)
    go_ret
    rw [Nat.zero_add, List.nil_append] at hown1
    obtain ⟨A', c', rfl⟩ := row_form hown1
    refine ⟨A', c', rfl, rd_of_row h.ok hown1, Below.grown ((Below.refl _ _).alloc (Nat.le_refl _) _) hgrow (by simp) (fun k e => by cases e; exact Nat.le_refl _), fun hn0 => ?_⟩
    obtain ⟨g, cap, cur, hv, hb, ho, hh, _⟩ := own_of_row h.ok hown1 hn0
    injection hv with h1
    exact ⟨g, cur, h1, hb, ho, hh⟩
set_option maxHeartbeats 400000 in
/-- a number of at most two words -/
theorem of64_any (w : World) (x : Int) (h0 : 0 ≤ x) (h1 : x ≤ 18446744073709551615) :
    Calls Tryz.prog 111 #[.int .u64 x] w (Gives w x.toNat 2) := by
  obtain ⟨k, rfl⟩ := Int.eq_ofNat_of_zero_le h0
  go_enter Tryz.func111, Tryz.ntmps111
  go_wp2_with fail
  rw [show ((k : Int) % 4294967296) = ((k % 4294967296 : Nat) : Int) from by omega, show ((k : Int) / 4294967296) = ((k / 4294967296 : Nat) : Int) from by omega]
  have R := rd_two w 66 (k % 4294967296) (k / 4294967296) (by omega) (by omega)
  refine (trim_any _ _ _ _ _ R).mono ?_
  rintro e w' ⟨rfl, rfl⟩
  go_wp2
  go_ret
  have hN := nm_trim R (L := 2) (tl_le _)
  have hv : val [k % 4294967296, k / 4294967296] = k := by simp only [val, BB]; omega
  rw [hv] at hN
  exact ⟨_, _, _, rfl, hN, (On.refl w).alloc _⟩
/-- Of -/
theorem of_any (w : World) (x : Int) (h1 : x ≤ 9223372036854775807) :
    Calls Tryz.prog 96 #[.int .i64 x] w (Gives w x.toNat 2) := by
  by_cases h0 : x < 0
  · go_enter Tryz.func96, Tryz.ntmps96
    go_wp2
    go_ret
    exact ⟨none, 0, 0, rfl, ⟨[], Rd.nil_, clean_nil, by simp [val]; omega, by omega⟩, On.refl _⟩
  · go_enter Tryz.func96, Tryz.ntmps96
    go_wp2_with fail
    refine (of64_any _ _ (by omega) (by omega)).mono ?_
    rintro e w' ⟨A, n, c, rfl, hN, hon⟩
    go_wp2
    go_ret
    exact ⟨A, n, c, rfl, hN, hon⟩
set_option maxHeartbeats 400000 in
/-- the two lists are the same -/
theorem words_true (w : World) (A A' : Option Addr) (n c n' c' : Nat) (v L L' : Nat) (h : Nm w A n c v L) (k : Nm w A' n' c' v L') :
    Calls Tryz.prog 52 #[.slice A n c, .slice A' n' c'] w fun e w' => e = .returned (.bool true) ∧ On w w' := by
  obtain ⟨xs, R, C, V, hL⟩ := h
  obtain ⟨ys, R', C', V', hL'⟩ := k
  obtain rfl : xs = ys := val_inj R.ok R'.ok C C' (by rw [V, V'])
  obtain rfl : n = n' := by rw [← R.len, ← R'.len]
  have hcap := R.cap
  have hmax := R.max
  clear V V' C C'
  go_enter Tryz.func52, Tryz.ntmps52
  go_wp2
  go_loopw [13] (fun i wr => ∃ k : Nat, k ≤ n ∧ i = .int .i64 k ∧ On w wr) (fun i _ => n - (intOf i).toNat)
  case atStart => exact ⟨0, Nat.zero_le _, rfl, On.refl _⟩
  case round =>
    obtain ⟨k, hk, rfl, hon⟩ := hrel
    by_cases hlt : k < n
    · obtain ⟨ad, rfl, hb, hc⟩ := (R.on hon).at_ k hlt
      obtain ⟨ad', rfl, hb', hc'⟩ := (R'.on hon).at_ k hlt
      go_wp2
      go_quiet (fail)
      go_wp2
      exact ⟨⟨k + 1, by omega, by go_num, hon.drewN nq⟩, by simp [intOf]; omega⟩
    · go_wp2
      go_ret
      exact ⟨rfl, hon⟩
end
section
theorem or64 (x y : Nat) (hx : x < 4294967296) (hy : y < 4294967296) : bits .or .u64 ((x : Int) * 4294967296) (y : Int) = ((y + 4294967296 * x : Nat) : Int) := by
  have h := u64_or_nat (x * 4294967296) y (by omega) (by omega)
  rw [show ((x : Int) * 4294967296) = ((x * 4294967296 : Nat) : Int) from by omega, h, nat_join 32 (x * 4294967296) y (by omega) (by omega)]
  omega
set_option maxHeartbeats 400000 in
/-- to64: what a number of at most two words is worth -/
theorem to64_any (w : World) (A : Option Addr) (n c : Nat) (xs : List Nat) (h : Rd w A n c xs) (hn : n ≤ 2) :
    Calls Tryz.prog 113 #[.slice A n c] w fun e w' => e = .returned (.int .u64 (val xs : Nat)) ∧ w = w' := by
  have h0 := h.ok.get 0
  have h1 := h.ok.get 1
  have hv : val xs = gw xs 0 + 4294967296 * gw xs 1 := by
    have hl := h.len
    rcases xs with _ | ⟨x, _ | ⟨y, _ | ⟨z, r⟩⟩⟩
    · simp [val, gw]
    · simp [val, gw]
    · simp [val, gw, BB]
    · simp at hl; omega
  have HV := Lib.hid hv
  clear hv
  go_enter Tryz.func113, Tryz.ntmps113
  go_wp2_with fail
  refine (at_any _ _ _ _ _ h _ (by omega) (by omega)).mono ?_
  rintro e w' ⟨rfl, rfl⟩
  go_wp2_with fail
  refine (at_any _ _ _ _ _ h _ (by omega) (by omega)).mono ?_
  rintro e w' ⟨rfl, rfl⟩
  go_wp2
  go_ret
  exact ⟨ret_int ((or64 _ _ h1 h0).trans (by rw [HV.out])), rfl⟩
def cmpI (a b : Nat) : Int := if a < b then -1 else if a = b then 0 else 1
theorem cmpI_lt {a b : Nat} (h : a < b) : cmpI a b = -1 := by unfold cmpI; rw [if_pos h]
theorem cmpI_eq {a b : Nat} (h : a = b) : cmpI a b = 0 := by unfold cmpI; rw [if_neg (by omega), if_pos h]
theorem cmpI_gt {a b : Nat} (h : b < a) : cmpI a b = 1 := by unfold cmpI; rw [if_neg (by omega), if_neg (by omega)]
theorem compareInt_nat (a b : Nat) : Lib.compareInt (a : Int) (b : Int) = cmpI a b := by
  unfold Lib.compareInt cmpI
  by_cases h1 : a < b
  · rw [if_pos (by omega), if_pos h1]
  · by_cases h2 : a = b
    · subst h2; simp
    · rw [if_neg (by omega), if_neg h1, if_neg h2, if_pos (by omega)]
set_option maxHeartbeats 400000 in
theorem cmp32_any (w : World) (x y : Nat) :
    Calls Tryz.prog 126 #[.int .u32 (x : Int), .int .u32 (y : Int)] w fun e w' => e = .returned (.int .i64 (cmpI x y)) ∧ w' = w := by
  rcases Nat.lt_trichotomy x y with h | h | h
  · have H := Lib.hid (cmpI_lt h)
    go_enter Tryz.func126, Tryz.ntmps126
    go_wp2
    all_goals (go_ret; exact ⟨by rw [H.out]; rfl, rfl⟩)
  · subst h
    have H := Lib.hid (cmpI_eq (rfl : x = x))
    go_enter Tryz.func126, Tryz.ntmps126
    go_wp2
    all_goals (go_ret; exact ⟨by rw [H.out]; rfl, rfl⟩)
  · have H := Lib.hid (cmpI_gt h)
    go_enter Tryz.func126, Tryz.ntmps126
    go_wp2
    all_goals (go_ret; exact ⟨by rw [H.out]; rfl, rfl⟩)

def CmpPost (w : World) (a b : Nat) (e : Ending) (w' : World) : Prop := e = .returned (.int .i64 (cmpI a b)) ∧ On w w'

/-- at a word that differs, those above being the same -/
theorem cmp_word {xs ys : List Nat} (hx : Ok xs) (hy : Ok ys) (k : Nat) (hl : k < xs.length) (hl' : k < ys.length) (hd : val (xs.drop (k + 1)) = val (ys.drop (k + 1))) (hne : gw xs k ≠ gw ys k) : cmpI (gw xs k) (gw ys k) = cmpI (val xs) (val ys) := by
  rcases Nat.lt_or_gt_of_ne hne with h | h
  · rw [cmpI_lt h, cmpI_lt (val_lt_of_word hx k hl hl' hd h)]
  · rw [cmpI_gt h, cmpI_gt (val_lt_of_word hy k hl' hl hd.symm h)]
set_option maxHeartbeats 400000 in
theorem cmp_any (w : World) (A A' : Option Addr) (n c n' c' : Nat) (xs ys : List Nat) (h : Rd w A n c xs) (k : Rd w A' n' c' ys) :
    Calls Tryz.prog 103 #[.slice A n c, .slice A' n' c'] w (CmpPost w (val xs) (val ys)) := by
  have T := h.take (k := tl xs) (by rw [← h.len]; exact tl_le xs)
  have T' := k.take (k := tl ys) (by rw [← k.len]; exact tl_le ys)
  have C := clean_take xs
  have C' := clean_take ys
  have V := Lib.hid (val_take_tl xs)
  have V' := Lib.hid (val_take_tl ys)
  have O := T.ok
  have O' := T'.ok
  have M := T.cap
  have M' := T'.cap
  have X := T.max
  have X' := T'.max
  have L := T.len
  have L' := T'.len
  generalize hzs : xs.take (tl xs) = zs at T C V O L
  generalize hus : ys.take (tl ys) = us at T' C' V' O' L'
  clear hzs hus
  rw [← V.out, ← V'.out]
  go_enter Tryz.func103, Tryz.ntmps103
  go_wp2_with fail
  refine (trim_any _ _ _ _ _ h).mono ?_
  rintro e w' ⟨rfl, rfl⟩
  go_wp2_with fail
  refine (trim_any _ _ _ _ _ k).mono ?_
  rintro e w' ⟨rfl, rfl⟩
  clear h k V V'
  generalize tl xs = m at *
  generalize tl ys = m' at *
  clear xs ys
  by_cases hm : m = m'
  · subst hm
    have HL := Lib.hid L
    have HL' := Lib.hid L'
    clear L L'
    go_wp2
    go_loopw [5] (fun i wr => ∃ k : Nat, k ≤ m ∧ i = .int .i64 ((k : Int) - 1) ∧ On w wr ∧ val (zs.drop k) = val (us.drop k)) (fun i _ => (intOf i + 1).toNat)
    case atStart => exact ⟨m, Nat.le_refl _, rfl, On.refl _, by rw [List.drop_of_length_le (Nat.le_of_eq HL.out), List.drop_of_length_le (Nat.le_of_eq HL'.out)]⟩
    case round =>
      obtain ⟨k, hk, rfl, hon, hd⟩ := hrel
      have HD := Lib.hid hd
      clear hd
      rcases k with _ | k
      · go_wp2
        go_ret
        have h0 := HD.out
        simp only [List.drop_zero] at h0
        exact ⟨by rw [cmpI_eq h0]; rfl, hon⟩
      · obtain ⟨ad, rfl, hb, hc⟩ := (T.on hon).at_ k (by omega)
        obtain ⟨ad', rfl, hb', hc'⟩ := (T'.on hon).at_ k (by omega)
        rw [show ((k + 1 : Nat) : Int) - 1 = (k : Int) from by omega]
        by_cases hne : gw zs k = gw us k
        · have H0 := Lib.hid hne
          rw [← hne] at hc'
          clear hne
          go_wp2
          go_quiet (fail)
          go_wp2
          refine ⟨⟨k, by omega, rfl, hon.drewN nq, ?_⟩, by simp [intOf]⟩
          rw [val_drop zs k (by rw [HL.out]; omega), val_drop us k (by rw [HL'.out]; omega), HD.out, H0.out]
        · have hb1 : (((gw zs k : Nat) : Int) != ((gw us k : Nat) : Int)) = true := by rw [bne_iff_ne]; omega
          have H0 := Lib.hid hne
          clear hne
          go_wp2
          go_quiet (fail)
          go_wp2
          have hon2 : On w (wr.drewN nq) := hon.drewN nq
          have hc2 : (wr.drewN nq).cell? (ad.add k) = some (.int .u32 ((gw zs k : Nat) : Int)) := hc
          have hc3 : (wr.drewN nq).cell? (ad'.add k) = some (.int .u32 ((gw us k : Nat) : Int)) := hc'
          clear hc hc' hb hb' hon
          generalize wr.drewN nq = wo at *
          go_quiet ((go_at_call 126; exact Calls.quiet_of_same (cmp32_any _ _ _)))
          go_wp2
          go_ret
          exact ⟨ret_int (cmp_word O O' k (by rw [HL.out]; omega) (by rw [HL'.out]; omega) HD.out H0.out), hon2.drewN _⟩
  · have hb1 : ((m : Int) != (m' : Int)) = true := by rw [bne_iff_ne]; omega
    have hcm : cmpI m m' = cmpI (val zs) (val us) := by
      rcases Nat.lt_or_gt_of_ne hm with h | h
      · rw [cmpI_lt h, cmpI_lt (val_lt_of_len O C' (by omega))]
      · rw [cmpI_gt h, cmpI_gt (val_lt_of_len O' C (by omega))]
    have HC := Lib.hid hcm
    clear hcm hm L L'
    go_wp2_with fail
    refine (Tryz.cmp_Compare_int _ _ _).mono ?_
    rintro e w' ⟨rfl, rfl⟩
    go_wp2
    go_ret
    exact ⟨ret_int (by rw [← HC.out, ← compareInt_nat]), On.refl _⟩
end
section
/-- the words of the quotient by d, from the top down to word k, the rest of which is r: what the cells hold -/
theorem or64' (x y : Nat) (hx : x < 4294967296) (hy : y < 4294967296) : bits .or .u64 ((x : Int) * 4294967296) (y : Int) = ((x * 4294967296 + y : Nat) : Int) := by
  rw [or64 x y hx hy]; omega

/-- what the call leaves in the cells: the quotient, and what it returns: the rest -/
def DivPost (w : World) (g : Nat) (cur : Array Value) (o : Nat) (xs : List Nat) (d : Nat) (e : Ending) (w' : World) : Prop :=
  ∃ cur' ys, e = .returned (.int .u32 ((val xs % d : Nat) : Int)) ∧ Own w' g 66 cur' ∧ Has cur' o ys ∧ ys.length = xs.length ∧ val ys = val xs / d ∧ Same cur cur' o xs.length ∧ Only g w w'

theorem divw_lt (t x q : Nat) (ht : t < q) (hx : x < 4294967296) : (t * 4294967296 + x) / q < 4294967296 := by
  apply Nat.div_lt_of_lt_mul
  have : (t + 1) * 4294967296 ≤ q * 4294967296 := Nat.mul_le_mul_right _ ht
  omega
theorem divw_eq (t x q v : Nat) : x + BB * (q * v + t) = q * ((t * 4294967296 + x) / q + BB * v) + (t * 4294967296 + x) % q := by
  have h := Nat.div_add_mod (t * 4294967296 + x) q
  rw [Nat.mul_add q, Nat.mul_add BB, show q * (BB * v) = BB * (q * v) from by rw [← Nat.mul_assoc, ← Nat.mul_assoc, Nat.mul_comm q BB]]
  simp only [BB] at *
  omega
theorem take_set_same (l : List Nat) (k x : Nat) : (l.set k x).take k = l.take k := by
  apply List.ext_getElem?
  intro j
  rw [List.getElem?_take, List.getElem?_take, List.getElem?_set]
  by_cases h : j < k
  · rw [if_pos h, if_pos h, if_neg (by omega)]
  · rw [if_neg h, if_neg h]
theorem drop_set_same (l : List Nat) (k x : Nat) : (l.set k x).drop (k + 1) = l.drop (k + 1) := by
  apply List.ext_getElem?
  intro j
  rw [List.getElem?_drop, List.getElem?_drop, List.getElem?_set, if_neg (by omega)]
set_option maxHeartbeats 800000 in
theorem divw_any (w : World) (g o n c : Nat) (cur : Array Value) (xs : List Nat) (d : Int) (hown : Own w g 66 cur) (hh : Has cur o xs) (hn : xs.length = n) (hc : n ≤ c) (hm : n ≤ 1000000000) (hp : 0 < n) (d0 : 0 < d) (d1 : d ≤ 4294967295) :
    Calls Tryz.prog 119 #[.slice (some ⟨g, o, none⟩) n c, .int .u32 d] w (DivPost w g cur o xs d.toNat) := by
  obtain ⟨q, rfl⟩ := Int.eq_ofNat_of_zero_le (Int.le_of_lt d0)
  rw [Int.toNat_natCast]
  have HN := Lib.hid hn
  clear hn
  go_enter Tryz.func119, Tryz.ntmps119
  go_wp2
  go_loopw [5, 6] (fun r i wr => ∃ (k t : Nat) (cur' : Array Value) (zs : List Nat), k ≤ n ∧ i = .int .i64 ((k : Int) - 1) ∧ r = .int .u64 (t : Int) ∧ t < q ∧ Own wr g 66 cur' ∧ Has cur' o zs ∧ zs.length = n ∧ zs.take k = xs.take k ∧ val (xs.drop k) = q * val (zs.drop k) + t ∧ Same cur cur' o n ∧ Only g w wr) (fun _ i _ => (intOf i + 1).toNat)
  case atStart => exact ⟨n, 0, cur, xs, Nat.le_refl _, rfl, rfl, by omega, hown, hh, HN.out, rfl, by rw [List.drop_of_length_le (by rw [HN.out]; omega)]; rfl, Same.refl _ _ _, Only.refl _ _⟩
  case round =>
    obtain ⟨k, t, cur', zs, hk, rfl, rfl, ht, hown', hh', hl', htk, hdk, hsame, honly⟩ := hrel
    have H1 := Lib.hid hl'
    have H2 := Lib.hid htk
    have H3 := Lib.hid hdk
    have H4 := Lib.hid hown'
    clear hl' htk hdk hown' hown hh
    rcases k with _ | k
    · go_wp2
      go_ret
      have h3 := H3.out
      simp only [List.drop_zero] at h3
      refine ⟨cur', zs, ret_int (by rw [h3, Nat.mul_add_mod, Nat.mod_eq_of_lt ht]), H4.out, hh', by rw [H1.out, HN.out], ?_, by rw [HN.out]; exact hsame, honly⟩
      rw [h3, Nat.mul_add_div (by omega), Nat.div_eq_of_lt ht]; rfl
    · have hw := hh'.get k (by rw [H1.out]; omega)
      have hw2 := hh'.ok.get k
      have hcell : wr.cell? ⟨g, o + k, none⟩ = some (.int .u32 ((gw zs k : Nat) : Int)) := (H4.out.cell _).trans hw
      have hfroz : wr.frozen? ⟨g, o + k, none⟩ = false := H4.out.frozen _
      clear hw
      rw [show ((k + 1 : Nat) : Int) - 1 = (k : Int) from by omega]
      have hor := or64' t (gw zs k) (by omega) hw2
      go_wp2
      have e1 : ((t : Int) * 4294967296 + (gw zs k : Int)) / (q : Int) % 4294967296 = (((t * 4294967296 + gw zs k) / q : Nat) : Int) := by
        have h := divw_lt t (gw zs k) q ht hw2
        rw [show ((t : Int) * 4294967296 + (gw zs k : Int)) / (q : Int) = (((t * 4294967296 + gw zs k) / q : Nat) : Int) from by rw [Int.natCast_ediv, Int.natCast_add, Int.natCast_mul]; rfl]
        exact Int.emod_eq_of_lt (Int.natCast_nonneg _) (Int.ofNat_lt.2 h)
      have e2 : ((t : Int) * 4294967296 + (gw zs k : Int)) % (q : Int) = (((t * 4294967296 + gw zs k) % q : Nat) : Int) := by rw [Int.natCast_emod, Int.natCast_add, Int.natCast_mul]; rfl
      rw [e1, e2]
      refine ⟨⟨k, _, _, _, by omega, rfl, rfl, Nat.mod_lt _ (by omega), H4.out.set_ _ _, hh'.set_ (by rw [H1.out]; omega) (divw_lt t (gw zs k) q ht hw2), by rw [List.length_set, H1.out], ?_, ?_, hsame.set_ (by omega) _, honly.set_ _ _⟩, by simp [intOf]⟩
      · have := congrArg (List.take k) H2.out
        rw [List.take_take, List.take_take, Nat.min_eq_left (by omega)] at this
        rw [take_set_same, this]
      · have hg : gw xs k = gw zs k := by
          rw [← getD_take (l := xs) (k := k + 1) (j := k) (by omega), ← H2.out, getD_take (by omega)]
        rw [val_drop xs k (by rw [HN.out]; omega), H3.out, hg, val_drop (zs.set k _) k (by rw [List.length_set, H1.out]; omega), gw_set zs k k _ (by rw [H1.out]; omega), if_pos rfl, drop_set_same]
        exact divw_eq _ _ _ _ 
end
section
set_option maxHeartbeats 400000 in
theorem add32_any (w : World) (x y z : Nat) (hx : x < 4294967296) (hy : y < 4294967296) (hz : z ≤ 1) :
    Calls Tryz.prog 143 #[.int .u32 (x : Int), .int .u32 (y : Int), .int .u32 (z : Int)] w fun e w' => e = .returned (.tuple #[.int .u32 (((x + y + z) % 4294967296 : Nat) : Int), .int .u32 (((x + y + z) / 4294967296 : Nat) : Int)]) ∧ w = w' := by
  go_enter Tryz.func143, Tryz.ntmps143
  go_wp2
  go_ret2
  exact ⟨rfl, rfl⟩
/-- the borrow -/
def bw (x y z : Nat) : Nat := if x < y + z then 1 else 0
theorem bw_le (x y z : Nat) : bw x y z ≤ 1 := by unfold bw; split <;> omega
theorem bit31 (n : Nat) (h : n < 4294967296) : n / 2147483648 = if n.testBit 31 then 1 else 0 := by
  rw [Nat.testBit_eq_decide_div_mod_eq]
  have : n / 2 ^ 31 = n / 2147483648 := rfl
  rw [this]
  have h2 : n / 2147483648 < 2 := by omega
  by_cases h3 : n / 2147483648 % 2 = 1
  · simp only [h3, decide_true, if_true]; omega
  · simp only [h3, decide_false]; rw [if_neg (by decide)]; omega
theorem ret_two {k k' : IntKind} {a b a' b' : Int} (h : a = a') (h' : b' = b) : Ending.returned (.tuple #[.int k b', .int k' a]) = .returned (.tuple #[.int k b, .int k' a']) := by rw [h, h']
theorem sub32_nat (x y z : Nat) (hx : x < 4294967296) (hy : y < 4294967296) (hz : z ≤ 1) :
    ((4294967295 ^^^ x) &&& y ||| (4294967295 ^^^ (x ^^^ y)) &&& ((x + 8589934592 - y - z) % 4294967296)) / 2147483648 = bw x y z := by
  generalize hd : (x + 8589934592 - y - z) % 4294967296 = d
  have hdl : d < 4294967296 := by omega
  have h1 : (4294967295 ^^^ x) &&& y < 2 ^ 32 := Nat.and_lt_two_pow _ (by omega)
  have h2 : (4294967295 ^^^ (x ^^^ y)) &&& d < 2 ^ 32 := Nat.and_lt_two_pow _ (by omega)
  have h3 : ((4294967295 ^^^ x) &&& y ||| (4294967295 ^^^ (x ^^^ y)) &&& d) < 2 ^ 32 := Nat.or_lt_two_pow h1 h2
  rw [bit31 _ (by omega), Nat.testBit_or, Nat.testBit_and, Nat.testBit_and, Nat.testBit_xor, Nat.testBit_xor, Nat.testBit_xor]
  rw [show Nat.testBit 4294967295 31 = true from by decide]
  have bx := bit31 x hx
  have by' := bit31 y hy
  have bd := bit31 d hdl
  clear h1 h2 h3
  unfold bw
  generalize x.testBit 31 = X at *
  generalize y.testBit 31 = Y at *
  generalize d.testBit 31 = D at *
  cases X <;> cases Y <;> cases D <;> simp at bx by' bd ⊢ <;> omega
theorem sub32_bit (x y z : Nat) (hx : x < 4294967296) (hy : y < 4294967296) (hz : z ≤ 1) :
    bits .or .u32 (bits .and .u32 (bits .xor .u32 IntKind.u32.max (x : Int)) (y : Int)) (bits .and .u32 (bits .xor .u32 IntKind.u32.max (bits .xor .u32 (x : Int) (y : Int))) (((x : Int) - (y : Int) - (z : Int)) % 4294967296)) / 2147483648 = ((bw x y z : Nat) : Int) := by
  rw [← sub32_nat x y z hx hy hz]
  have hm : IntKind.u32.max = ((4294967295 : Nat) : Int) := rfl
  have hd : ((x : Int) - (y : Int) - (z : Int)) % 4294967296 = (((x + 8589934592 - y - z) % 4294967296 : Nat) : Int) := by omega
  rw [hm, hd]
  generalize hdd : (x + 8589934592 - y - z) % 4294967296 = d
  have hdl : d < 4294967296 := by omega
  have c1 : 4294967295 ^^^ x < 2 ^ 32 := Nat.xor_lt_two_pow (by decide) (by omega)
  have c2 : x ^^^ y < 2 ^ 32 := Nat.xor_lt_two_pow (by omega) (by omega)
  have c3 : 4294967295 ^^^ (x ^^^ y) < 2 ^ 32 := Nat.xor_lt_two_pow (by decide) c2
  have h1 : (4294967295 ^^^ x) &&& y < 2 ^ 32 := Nat.and_lt_two_pow _ (by omega)
  have h2 : (4294967295 ^^^ (x ^^^ y)) &&& d < 2 ^ 32 := Nat.and_lt_two_pow _ (by omega)
  rw [u32_xor_nat _ _ (by decide) hx, u32_and_nat _ _ (by omega) hy, u32_xor_nat _ _ hx hy, u32_xor_nat _ _ (by decide) (by omega), u32_and_nat _ _ (by omega) hdl, u32_or_nat _ _ (by omega) (by omega)]
  rw [Int.natCast_ediv]
  rfl
set_option maxHeartbeats 400000 in
theorem sub32_any (w : World) (x y z : Nat) (hx : x < 4294967296) (hy : y < 4294967296) (hz : z ≤ 1) :
    Calls Tryz.prog 142 #[.int .u32 (x : Int), .int .u32 (y : Int), .int .u32 (z : Int)] w fun e w' => e = .returned (.tuple #[.int .u32 (((x + 8589934592 - y - z) % 4294967296 : Nat) : Int), .int .u32 ((bw x y z : Nat) : Int)]) ∧ w = w' := by
  have hb := Lib.hid (sub32_bit x y z hx hy hz)
  have hd : ((x : Int) - (y : Int) - (z : Int)) % 4294967296 = (((x + 8589934592 - y - z) % 4294967296 : Nat) : Int) := by omega
  have HD := Lib.hid hd
  clear hd
  go_enter Tryz.func142, Tryz.ntmps142
  go_wp2
  go_ret2
  exact ⟨ret_two hb.out HD.out, rfl⟩
theorem add_step (P a b x y t v : Nat) (h : v + P * t = a + b) : v + P * ((x + y + t) % 4294967296) + P * BB * ((x + y + t) / 4294967296) = a + P * x + (b + P * y) := by
  have h1 := Nat.div_add_mod (x + y + t) 4294967296
  have h2 : P * ((x + y + t) % 4294967296) + P * BB * ((x + y + t) / 4294967296) = P * (x + y + t) := by
    rw [Nat.mul_assoc, ← Nat.mul_add]; congr 1; simp only [BB]; omega
  rw [Nat.mul_add, Nat.mul_add] at h2
  omega
set_option maxHeartbeats 1000000 in
/-- Add, the first number at least as long -/
theorem add_ge (w : World) (A A' : Option Addr) (n c n' c' L : Nat) (xs ys : List Nat) (h : Rd w A n c xs) (k : Rd w A' n' c' ys) (hm : tl ys ≤ tl xs) (h1 : tl xs ≤ L) (h2 : tl ys ≤ L) (hL : L ≤ 100000000) :
    Calls Tryz.prog 138 #[.slice A n c, .slice A' n' c'] w (Gives w (val xs + val ys) (L + 1)) := by
  have T := h.take (k := tl xs) (by rw [← h.len]; exact tl_le xs)
  have T' := k.take (k := tl ys) (by rw [← k.len]; exact tl_le ys)
  rw [← val_take_tl xs, ← val_take_tl ys]
  generalize xs.take (tl xs) = zs at *
  generalize ys.take (tl ys) = us at *
  go_enter Tryz.func138, Tryz.ntmps138
  go_wp2_with fail
  refine (trim_any _ _ _ _ _ h).mono ?_
  rintro e w' ⟨rfl, rfl⟩
  go_wp2_with fail
  refine (trim_any _ _ _ _ _ k).mono ?_
  rintro e w' ⟨rfl, rfl⟩
  clear h k
  generalize tl xs = m at *
  generalize tl ys = m' at *
  clear xs ys
  have hdec : decide (m < m') = false := decide_eq_false (by omega)
  have hmk := run_mk (m + 1) (by omega) w
  rw [show ((m + 1 : Nat) : Int) = (m : Int) + 1 from rfl] at hmk
  have HMK := Lib.hid hmk
  clear hmk
  have hmk := HMK.out
  go_wp2
  go_loopw [6, 26] (fun cy i wr => ∃ (k t : Nat) (cur : Array Value) (ss : List Nat), k ≤ m ∧ i = .int .i64 (k : Int) ∧ cy = .int .u32 (t : Int) ∧ t ≤ 1 ∧ Own wr w.heap.size 66 cur ∧ Has cur 0 ss ∧ ss.length = m + 1 ∧ val (ss.take k) + BB ^ k * t = val (zs.take k) + val (us.take k) ∧ On w wr) (fun _ i _ => m - (intOf i).toNat)
  case atStart => exact ⟨0, 0, _, _, by omega, rfl, rfl, by omega, Own.new _ _ _, has_made _, by simp, by simp [val], (On.refl w).alloc _⟩
  case round =>
    obtain ⟨k, t, cur, ss, hk, rfl, rfl, ht, hown, hh, hl, hv, hon⟩ := hrel
    have H1 := Lib.hid hl
    have H2 := Lib.hid hv
    have H3 := Lib.hid hown
    clear hl hv hown
    by_cases hlt : k < m
    · obtain ⟨ad, rfl, hb, hc⟩ := (T.on hon).at_ k hlt
      have T2 := T'.on hon
      have hz := T.ok.get k
      have hu := T'.ok.get k
      have hcell : wr.cell? ⟨w.heap.size, k, none⟩ = some (.int .u32 ((gw ss k : Nat) : Int)) := (H3.out.cell _).trans (by have := hh.get k (by rw [H1.out]; omega); rwa [Nat.zero_add] at this)
      have hfroz : wr.frozen? ⟨w.heap.size, k, none⟩ = false := H3.out.frozen _
      go_wp2_with fail
      refine (at_any _ _ _ _ _ T2 _ (by omega) (by omega)).mono ?_
      rintro e w' ⟨rfl, rfl⟩
      rw [Int.toNat_natCast]
      go_wp2_with fail
      refine (add32_any _ (gw zs k) (gw us k) t hz hu ht).mono ?_
      rintro e w' ⟨rfl, rfl⟩
      go_wp2
      go_roundw
      case measure => simp [intOf]; omega
      case rel =>
      refine ⟨k + 1, (gw zs k + gw us k + t) / 4294967296, _, _, by omega, by go_num, rfl, by omega, H3.out.set_ _ _, by have := hh.set_ (j := k) (x := (gw zs k + gw us k + t) % 4294967296) (by rw [H1.out]; omega) (by omega); rwa [Nat.zero_add] at this, by rw [List.length_set, H1.out], ?_, hon.setCell (Nat.le_refl _) _⟩
      rw [set_take_succ _ _ _ (by rw [H1.out]; omega), val_take_succ_any, val_take_succ_any, Nat.pow_succ]
      exact add_step _ _ _ _ _ _ _ H2.out
    · obtain rfl : k = m := by omega
      have hcell : wr.cell? ⟨w.heap.size, k, none⟩ = some (.int .u32 ((gw ss k : Nat) : Int)) := (H3.out.cell _).trans (by have := hh.get k (by rw [H1.out]; omega); rwa [Nat.zero_add] at this)
      have hfroz : wr.frozen? ⟨w.heap.size, k, none⟩ = false := H3.out.frozen _
      go_wp2_with fail
      have hh2 := hh.set_ (j := k) (x := t) (by rw [H1.out]; omega) (by omega)
      rw [Nat.zero_add] at hh2
      have R := Rd.own (n := k + 1) (c := k + 1) (H3.out.set_ k (.int .u32 (t : Int))) hh2 (by rw [List.length_set, H1.out]) (Nat.le_refl _) (by omega)
      refine (trim_any _ _ _ _ _ R).mono ?_
      rintro e w' ⟨rfl, rfl⟩
      go_wp2
      go_ret
      have hN := nm_trim R (L := L + 1) (Nat.le_trans (tl_le _) (by rw [List.length_set, H1.out]; omega))
      have hval : val (ss.set k t) = val zs + val us := by
        have e1 := set_take_succ ss k t (by rw [H1.out]; omega)
        rw [List.take_of_length_le (by rw [List.length_set, H1.out]; omega)] at e1
        rw [e1, H2.out, List.take_of_length_le (Nat.le_of_eq T.len), List.take_of_length_le (by rw [T'.len]; omega)]
      rw [hval] at hN
      exact ⟨_, _, _, rfl, hN, hon.setCell (Nat.le_refl _) _⟩
set_option maxHeartbeats 1000000 in
/-- Add, the first number at least as long -/
theorem add_lt (w : World) (A A' : Option Addr) (n c n' c' L : Nat) (xs ys : List Nat) (h : Rd w A n c xs) (k : Rd w A' n' c' ys) (hm : tl xs < tl ys) (h1 : tl xs ≤ L) (h2 : tl ys ≤ L) (hL : L ≤ 100000000) :
    Calls Tryz.prog 138 #[.slice A n c, .slice A' n' c'] w (Gives w (val xs + val ys) (L + 1)) := by
  have T := h.take (k := tl xs) (by rw [← h.len]; exact tl_le xs)
  have T' := k.take (k := tl ys) (by rw [← k.len]; exact tl_le ys)
  rw [← val_take_tl xs, ← val_take_tl ys]
  generalize xs.take (tl xs) = zs at *
  generalize ys.take (tl ys) = us at *
  go_enter Tryz.func138, Tryz.ntmps138
  go_wp2_with fail
  refine (trim_any _ _ _ _ _ h).mono ?_
  rintro e w' ⟨rfl, rfl⟩
  go_wp2_with fail
  refine (trim_any _ _ _ _ _ k).mono ?_
  rintro e w' ⟨rfl, rfl⟩
  clear h k
  generalize tl xs = m at *
  generalize tl ys = m' at *
  clear xs ys
  have hdec : decide (m < m') = true := decide_eq_true (by omega)
  have hmk := run_mk (m' + 1) (by omega) w
  rw [show ((m' + 1 : Nat) : Int) = (m' : Int) + 1 from rfl] at hmk
  have HMK := Lib.hid hmk
  clear hmk
  have hmk := HMK.out
  go_wp2
  go_loopw [6, 26] (fun cy i wr => ∃ (k t : Nat) (cur : Array Value) (ss : List Nat), k ≤ m' ∧ i = .int .i64 (k : Int) ∧ cy = .int .u32 (t : Int) ∧ t ≤ 1 ∧ Own wr w.heap.size 66 cur ∧ Has cur 0 ss ∧ ss.length = m' + 1 ∧ val (ss.take k) + BB ^ k * t = val (us.take k) + val (zs.take k) ∧ On w wr) (fun _ i _ => m' - (intOf i).toNat)
  case atStart => exact ⟨0, 0, _, _, by omega, rfl, rfl, by omega, Own.new _ _ _, has_made _, by simp, by simp [val], (On.refl w).alloc _⟩
  case round =>
    obtain ⟨k, t, cur, ss, hk, rfl, rfl, ht, hown, hh, hl, hv, hon⟩ := hrel
    have H1 := Lib.hid hl
    have H2 := Lib.hid hv
    have H3 := Lib.hid hown
    clear hl hv hown
    by_cases hlt : k < m'
    · obtain ⟨ad, rfl, hb, hc⟩ := (T'.on hon).at_ k hlt
      have T2 := T.on hon
      have hz :=  T'.ok.get k
      have hu := T.ok.get k
      have hcell : wr.cell? ⟨w.heap.size, k, none⟩ = some (.int .u32 ((gw ss k : Nat) : Int)) := (H3.out.cell _).trans (by have := hh.get k (by rw [H1.out]; omega); rwa [Nat.zero_add] at this)
      have hfroz : wr.frozen? ⟨w.heap.size, k, none⟩ = false := H3.out.frozen _
      go_wp2_with fail
      refine (at_any _ _ _ _ _ T2 _ (by omega) (by omega)).mono ?_
      rintro e w' ⟨rfl, rfl⟩
      rw [Int.toNat_natCast]
      go_wp2_with fail
      refine (add32_any _ (gw us k) (gw zs k) t hz hu ht).mono ?_
      rintro e w' ⟨rfl, rfl⟩
      go_wp2
      go_roundw
      case measure => simp [intOf]; omega
      case rel =>
      refine ⟨k + 1, (gw us k + gw zs k + t) / 4294967296, _, _, by omega, by go_num, rfl, by omega, H3.out.set_ _ _, by have := hh.set_ (j := k) (x := (gw us k + gw zs k + t) % 4294967296) (by rw [H1.out]; omega) (by omega); rwa [Nat.zero_add] at this, by rw [List.length_set, H1.out], ?_, hon.setCell (Nat.le_refl _) _⟩
      rw [set_take_succ _ _ _ (by rw [H1.out]; omega), val_take_succ_any, val_take_succ_any, Nat.pow_succ]
      exact add_step _ _ _ _ _ _ _ H2.out
    · obtain rfl : k = m' := by omega
      have hcell : wr.cell? ⟨w.heap.size, k, none⟩ = some (.int .u32 ((gw ss k : Nat) : Int)) := (H3.out.cell _).trans (by have := hh.get k (by rw [H1.out]; omega); rwa [Nat.zero_add] at this)
      have hfroz : wr.frozen? ⟨w.heap.size, k, none⟩ = false := H3.out.frozen _
      go_wp2_with fail
      have hh2 := hh.set_ (j := k) (x := t) (by rw [H1.out]; omega) (by omega)
      rw [Nat.zero_add] at hh2
      have R := Rd.own (n := k + 1) (c := k + 1) (H3.out.set_ k (.int .u32 (t : Int))) hh2 (by rw [List.length_set, H1.out]) (Nat.le_refl _) (by omega)
      refine (trim_any _ _ _ _ _ R).mono ?_
      rintro e w' ⟨rfl, rfl⟩
      go_wp2
      go_ret
      have hN := nm_trim R (L := L + 1) (Nat.le_trans (tl_le _) (by rw [List.length_set, H1.out]; omega))
      have hval : val (ss.set k t) = val us + val zs := by
        have e1 := set_take_succ ss k t (by rw [H1.out]; omega)
        rw [List.take_of_length_le (by rw [List.length_set, H1.out]; omega)] at e1
        rw [e1, H2.out, List.take_of_length_le (Nat.le_of_eq  T'.len), List.take_of_length_le (by rw [T.len]; omega)]
      rw [hval] at hN
      exact ⟨_, _, _, rfl, (Nat.add_comm (val us) (val zs) ▸ hN), hon.setCell (Nat.le_refl _) _⟩
/-- Add -/
theorem add_any (w : World) (A A' : Option Addr) (n c n' c' L : Nat) (xs ys : List Nat) (h : Rd w A n c xs) (k : Rd w A' n' c' ys) (h1 : tl xs ≤ L) (h2 : tl ys ≤ L) (hL : L ≤ 100000000) :
    Calls Tryz.prog 138 #[.slice A n c, .slice A' n' c'] w (Gives w (val xs + val ys) (L + 1)) := by
  rcases Nat.lt_or_ge (tl xs) (tl ys) with hm | hm
  · exact add_lt w A A' n c n' c' L xs ys h k hm h1 h2 hL
  · exact add_ge w A A' n c n' c' L xs ys h k hm h1 h2 hL
end
section
theorem sub_step (P a b x y t v : Nat) (hx : x < 4294967296) (hy : y < 4294967296) (ht : t ≤ 1) (h : v + b = a + P * t) : v + P * ((x + 8589934592 - y - t) % 4294967296) + (b + P * y) = a + P * x + P * BB * bw x y t := by
  have h1 : (x + 8589934592 - y - t) % 4294967296 + y + t = x + 4294967296 * bw x y t := by
    unfold bw; split <;> omega
  have h2 : P * ((x + 8589934592 - y - t) % 4294967296 + y + t) = P * (x + 4294967296 * bw x y t) := by rw [h1]
  rw [Nat.mul_add, Nat.mul_add, Nat.mul_add, ← Nat.mul_assoc] at h2
  have h3 : P * BB * bw x y t = P * 4294967296 * bw x y t := rfl
  omega
set_option maxHeartbeats 400000 in
theorem sub_bad (w : World) (A A' : Option Addr) (n c n' c' : Nat) (xs ys : List Nat) (h : Rd w A n c xs) (k : Rd w A' n' c' ys) (hlt : val xs < val ys) :
    Calls Tryz.prog 139 #[.slice A n c, .slice A' n' c'] w (Refuses w (.iface 51 (.int .i64 3))) := by
  go_enter Tryz.func139, Tryz.ntmps139
  go_wp2_with fail
  refine (cmp_any _ _ _ _ _ _ _ _ _ h k).mono ?_
  rintro e w1 ⟨rfl, hon⟩
  rw [cmpI_lt hlt]
  go_wp2
  go_ret2
  exact ⟨rfl, hon⟩
set_option maxHeartbeats 1000000 in
theorem sub_good (w : World) (A A' : Option Addr) (n c n' c' L : Nat) (xs ys : List Nat) (h : Rd w A n c xs) (k : Rd w A' n' c' ys) (hlt : val ys ≤ val xs) (h1 : tl xs ≤ L) (hL : L ≤ 100000000) :
    Calls Tryz.prog 139 #[.slice A n c, .slice A' n' c'] w (Gives2 w (val xs - val ys) L .nilIface) := by
  have T := h.take (k := tl xs) (by rw [← h.len]; exact tl_le xs)
  have V := Lib.hid (val_take_tl xs)
  have hcm : 0 ≤ cmpI (val xs) (val ys) := by
    rcases Nat.lt_or_eq_of_le hlt with h | h
    · rw [cmpI_gt h]; decide
    · rw [cmpI_eq h.symm]; decide
  have htys : tl ys ≤ tl xs := by
    have h1 := clean_take ys
    have h2 := clean_len h1 (tl xs) (by
      rw [val_take_tl]
      have := val_lt T.ok
      rw [T.len, V.out] at this
      omega)
    rwa [List.length_take, Nat.min_eq_left (tl_le ys)] at h2
  have HT := Lib.hid htys
  have HV := Lib.hid hlt
  clear htys hlt
  go_enter Tryz.func139, Tryz.ntmps139
  go_wp2_with fail
  refine (cmp_any _ _ _ _ _ _ _ _ _ h k).mono ?_
  rintro e w1 ⟨rfl, hon1⟩
  generalize cmpI (val xs) (val ys) = ci at *
  have hdec : decide (ci < 0) = false := decide_eq_false (by omega)
  go_wp2_with fail
  refine (trim_any _ _ _ _ _ (h.on hon1)).mono ?_
  rintro e w' ⟨rfl, rfl⟩
  have T1 := T.on hon1
  have T2 := k.on hon1
  generalize hzs : xs.take (tl xs) = zs at *
  generalize hm : tl xs = m at *
  clear hzs hm
  have hmk := run_mk m (by omega) w1
  have HMK := Lib.hid hmk
  clear hmk T h k
  have hmk := HMK.out
  go_wp2
  go_loopw [7, 22] (fun cy i wr => ∃ (k t : Nat) (cur : Array Value) (ss : List Nat), k ≤ m ∧ i = .int .i64 (k : Int) ∧ cy = .int .u32 (t : Int) ∧ t ≤ 1 ∧ Own wr w1.heap.size 66 cur ∧ Has cur 0 ss ∧ ss.length = m ∧ val (ss.take k) + val (ys.take k) = val (zs.take k) + BB ^ k * t ∧ On w1 wr) (fun _ i _ => m - (intOf i).toNat)
  case atStart => exact ⟨0, 0, _, _, by omega, rfl, rfl, by omega, Own.new _ _ _, has_made _, by simp, by simp [val], (On.refl w1).alloc _⟩
  case round =>
    obtain ⟨k, t, cur, ss, hk, rfl, rfl, ht, hown, hh, hl, hv, hon⟩ := hrel
    have H1 := Lib.hid hl
    have H2 := Lib.hid hv
    have H3 := Lib.hid hown
    clear hl hv hown
    by_cases hlt : k < m
    · obtain ⟨ad, rfl, hb, hc⟩ := (T1.on hon).at_ k hlt
      have T3 := T2.on hon
      have hz := T1.ok.get k
      have hu := T2.ok.get k
      have hcell : wr.cell? ⟨w1.heap.size, k, none⟩ = some (.int .u32 ((gw ss k : Nat) : Int)) := (H3.out.cell _).trans (by have := hh.get k (by rw [H1.out]; omega); rwa [Nat.zero_add] at this)
      have hfroz : wr.frozen? ⟨w1.heap.size, k, none⟩ = false := H3.out.frozen _
      go_wp2_with fail
      refine (at_any _ _ _ _ _ T3 _ (by omega) (by omega)).mono ?_
      rintro e w' ⟨rfl, rfl⟩
      rw [Int.toNat_natCast]
      go_wp2_with fail
      refine (sub32_any _ (gw zs k) (gw ys k) t hz hu ht).mono ?_
      rintro e w' ⟨rfl, rfl⟩
      have hdl : (gw zs k + 8589934592 - gw ys k - t) % 4294967296 < 4294967296 := Nat.mod_lt _ (by decide)
      have HE := Lib.hid (sub_step (BB ^ k) (val (zs.take k)) (val (ys.take k)) (gw zs k) (gw ys k) t (val (ss.take k)) hz hu ht H2.out)
      have hbl := bw_le (gw zs k) (gw ys k) t
      generalize (gw zs k + 8589934592 - gw ys k - t) % 4294967296 = dd at *
      generalize bw (gw zs k) (gw ys k) t = tt at *
      go_wp2
      go_roundw
      case measure => simp [intOf]; omega
      refine ⟨k + 1, tt, _, _, by omega, by go_num, rfl, by omega, H3.out.set_ _ _, by have := hh.set_ (j := k) (x := dd) (by rw [H1.out]; omega) (by omega); rwa [Nat.zero_add] at this, by rw [List.length_set, H1.out], ?_, hon.setCell (Nat.le_refl _) _⟩
      rw [set_take_succ _ _ _ (by rw [H1.out]; omega), val_take_succ_any, val_take_succ_any, Nat.pow_succ]
      exact HE.out
    · obtain rfl : k = m := by omega
      go_wp2_with fail
      have R := Rd.own (n := k) (c := k) H3.out hh H1.out (Nat.le_refl _) (by omega)
      refine (trim_any _ _ _ _ _ R).mono ?_
      rintro e w' ⟨rfl, rfl⟩
      go_wp2
      go_ret2
      have hN := nm_trim R (L := L) (Nat.le_trans (tl_le _) (by rw [H1.out]; omega))
      have hval : val ss = val xs - val ys := by
        have e1 := H2.out
        rw [List.take_of_length_le (Nat.le_of_eq H1.out), List.take_of_length_le (Nat.le_of_eq T1.len), V.out] at e1
        have e3 : val (ys.take k) = val ys := val_take_ge ys k HT.out
        have hs := val_lt R.ok
        rw [H1.out] at hs
        have := HV.out
        rcases t with _ | t
        · omega
        · have : BB ^ k * 1 ≤ BB ^ k * (t + 1) := Nat.mul_le_mul_left _ (by omega)
          omega
      rw [hval] at hN
      exact ⟨_, _, _, rfl, hN, hon1.trans hon⟩
end
section
theorem pow_lt32 {r : Nat} (hr : r < 32) : 2 ^ r ≤ 2147483648 := Nat.pow_le_pow_right (by decide) (show r ≤ 31 by omega)
theorem shl_bound (x r : Nat) (hx : x < 4294967296) (hr : r < 32) : x * 2 ^ r ≤ 9223372036854775808 := by
  have h := pow_lt32 hr
  have h2 : x * 2 ^ r ≤ 4294967296 * 2147483648 := Nat.mul_le_mul (by omega) h
  omega
theorem cast_shl (x r : Nat) : ((x : Int) * 2 ^ r) = ((x * 2 ^ r : Nat) : Int) := by rw [Int.natCast_mul, Int.natCast_pow]; rfl
theorem shl_wrap (x r : Nat) (hx : x < 4294967296) (hr : r < 32) : IntKind.u64.wrap ((x : Int) * 2 ^ r) = ((x * 2 ^ r : Nat) : Int) := by
  have h := shl_bound x r hx hr
  rw [cast_shl]
  exact IntWalk.u64_in _ (by omega)
theorem or_low (a x r : Nat) (ha : a < 2 ^ r) (hr : r < 32) : bits .or .u32 (a : Int) (((x * 2 ^ r : Nat) : Int) % 4294967296) = ((a + x * 2 ^ r % 4294967296 : Nat) : Int) ∧ a + x * 2 ^ r % 4294967296 < 4294967296 := by
  have h := pow_lt32 hr
  have hm : x * 2 ^ r % 4294967296 < 4294967296 := Nat.mod_lt _ (by decide)
  have hd : x * 2 ^ r % 4294967296 % 2 ^ r = 0 := by
    have : (2 : Nat) ^ r ∣ 4294967296 := Nat.pow_dvd_pow 2 (show r ≤ 32 by omega)
    rw [Nat.mod_mod_of_dvd _ this, Nat.mul_mod_left]
  have hj := nat_join r _ a hd ha
  have hlt : (x * 2 ^ r % 4294967296 ||| a) < 2 ^ 32 := Nat.or_lt_two_pow (by omega) (by omega)
  rw [show (((x * 2 ^ r : Nat) : Int) % 4294967296) = ((x * 2 ^ r % 4294967296 : Nat) : Int) from by rw [Int.natCast_emod]; rfl, u32_or_nat _ _ (by omega) hm, Nat.or_comm, hj]
  rw [hj] at hlt
  exact ⟨by rw [Nat.add_comm], by omega⟩
theorem hi_lt (x r : Nat) (hx : x < 4294967296) : x * 2 ^ r / 4294967296 < 2 ^ r := by
  apply Nat.div_lt_of_lt_mul
  exact Nat.mul_lt_mul_of_pos_right hx (Nat.pow_pos (by decide))
theorem shl_step (os : List Nat) (W k x r V : Nat) (hl : W + k + 1 < os.length) (h : val (os.take (W + k + 1)) = BB ^ W * (V * 2 ^ r)) :
    val (((os.set (W + k) (gw os (W + k) + x * 2 ^ r % 4294967296)).set (W + k + 1) (x * 2 ^ r / 4294967296)).take (W + (k + 1) + 1)) = BB ^ W * ((V + BB ^ k * x) * 2 ^ r) := by
  rw [show W + (k + 1) + 1 = (W + k + 1) + 1 from by omega, set_take_succ _ _ _ (by rw [List.length_set]; exact hl), set_take_succ _ _ _ (by omega)]
  rw [val_take_succ_any] at h
  rw [Nat.add_mul, Nat.mul_add (BB ^ W), ← h]
  have e : BB ^ W * (BB ^ k * x * 2 ^ r) = BB ^ (W + k) * (x * 2 ^ r) := by rw [Nat.pow_add, Nat.mul_assoc (BB ^ k), ← Nat.mul_assoc (BB ^ W)]
  rw [e, Nat.pow_succ]
  have h1 := Nat.div_add_mod (x * 2 ^ r) 4294967296
  have h2 : BB ^ (W + k) * (x * 2 ^ r % 4294967296) + BB ^ (W + k) * BB * (x * 2 ^ r / 4294967296) = BB ^ (W + k) * (x * 2 ^ r) := by
    rw [Nat.mul_assoc, ← Nat.mul_add]; congr 1; simp only [BB]; omega
  rw [Nat.mul_add]
  omega
theorem pow_split (q : Nat) : 2 ^ q = BB ^ (q / 32) * 2 ^ (q % 32) := by
  have h : BB = 2 ^ 32 := rfl
  rw [h, ← Nat.pow_mul, ← Nat.pow_add]
  congr 1; omega
def ShlPost (w : World) (n s : Nat) (xs : List Nat) (e : Ending) (w' : World) : Prop :=
  ∃ g cur ys, e = .returned (.slice (some ⟨g, 0, none⟩) (n + s / 32 + 1) (n + s / 32 + 1)) ∧ w.heap.size ≤ g ∧ Own w' g 66 cur ∧ Has cur 0 ys ∧ ys.length = n + s / 32 + 1 ∧ val ys = val xs * 2 ^ s ∧ On w w'
set_option maxHeartbeats 1000000 in
theorem shl_any (w : World) (A : Option Addr) (n c : Nat) (xs : List Nat) (h : Rd w A n c xs) (hn : n ≤ 100000000) (s : Int) (h0 : 0 ≤ s) (h1 : s ≤ 200000) :
    Calls Tryz.prog 131 #[.slice A n c, .int .i64 s] w (ShlPost w n s.toNat xs) := by
  obtain ⟨q, rfl⟩ := Int.eq_ofNat_of_zero_le h0
  rw [Int.toNat_natCast]
  have hmk := run_mk (n + q / 32 + 1) (by omega) w
  rw [show ((n + q / 32 + 1 : Nat) : Int) = (n : Int) + (q : Int) / 32 + 1 from by omega] at hmk
  have hcap := h.cap
  have hmax := h.max
  go_enter Tryz.func131, Tryz.ntmps131
  go_wp2
  go_loopw [23] (fun i wr => ∃ (k : Nat) (cur : Array Value) (os : List Nat), k ≤ n ∧ i = .int .i64 (k : Int) ∧ Own wr w.heap.size 66 cur ∧ Has cur 0 os ∧ os.length = n + q / 32 + 1 ∧ val (os.take (q / 32 + k + 1)) = BB ^ (q / 32) * (val (xs.take k) * 2 ^ (q % 32)) ∧ gw os (q / 32 + k) < 2 ^ (q % 32) ∧ On w wr) (fun i _ => n - (intOf i).toNat)
  case atStart => exact ⟨0, _, _, by omega, rfl, Own.new _ _ _, has_made _, by simp, by rw [List.take_replicate, val_replicate]; simp [val], by rw [gw_replicate]; exact Nat.pow_pos (by decide), (On.refl w).alloc _⟩
  case round =>
    obtain ⟨k, cur, os, hk, rfl, hown, hh, hl, hv, hlow, hon⟩ := hrel
    have H1 := Lib.hid hl
    have H2 := Lib.hid hv
    have H3 := Lib.hid hown
    have H4 := Lib.hid hlow
    clear hl hv hown hlow
    by_cases hlt : k < n
    · obtain ⟨ad, rfl, hb, hc⟩ := (h.on hon).at_ k hlt
      have hz := h.ok.get k
      have ho := hh.ok.get (q / 32 + k)
      have hcell : wr.cell? ⟨w.heap.size, q / 32 + k, none⟩ = some (.int .u32 ((gw os (q / 32 + k) : Nat) : Int)) := (H3.out.cell _).trans (by have := hh.get (q / 32 + k) (by rw [H1.out]; omega); rwa [Nat.zero_add] at this)
      have hfroz : wr.frozen? ⟨w.heap.size, q / 32 + k, none⟩ = false := H3.out.frozen _
      have hcell2 : wr.cell? ⟨w.heap.size, q / 32 + k + 1, none⟩ = some (.int .u32 ((gw os (q / 32 + k + 1) : Nat) : Int)) := (H3.out.cell _).trans (by have := hh.get (q / 32 + k + 1) (by rw [H1.out]; omega); rwa [Nat.zero_add] at this)
      have hfroz2 : wr.frozen? ⟨w.heap.size, q / 32 + k + 1, none⟩ = false := H3.out.frozen _
      have hr : q % 32 < 32 := Nat.mod_lt _ (by decide)
      obtain ⟨o1, o2⟩ := or_low (gw os (q / 32 + k)) (gw xs k) (q % 32) H4.out hr
      have hhi := hi_lt (gw xs k) (q % 32) hz
      have h2r := pow_lt32 hr
      have HW := Lib.hid (shl_wrap (gw xs k) (q % 32) hz hr)
      have O1 := Lib.hid o1
      clear o1
      go_wp2
      rw [HW.out, O1.out, show (((gw xs k * 2 ^ (q % 32) : Nat) : Int) / 4294967296 % 4294967296) = ((gw xs k * 2 ^ (q % 32) / 4294967296 : Nat) : Int) from by
        rw [show (((gw xs k * 2 ^ (q % 32) : Nat) : Int) / 4294967296) = ((gw xs k * 2 ^ (q % 32) / 4294967296 : Nat) : Int) from by rw [Int.natCast_ediv]; rfl]
        exact Int.emod_eq_of_lt (Int.natCast_nonneg _) (Int.ofNat_lt.2 (by omega : _ < 4294967296))]
      have hA := hh.set_ (j := q / 32 + k) (x := gw os (q / 32 + k) + gw xs k * 2 ^ (q % 32) % 4294967296) (by rw [H1.out]; omega) o2
      have hB := hA.set_ (j := q / 32 + k + 1) (x := gw xs k * 2 ^ (q % 32) / 4294967296) (by rw [List.length_set, H1.out]; omega) (by omega)
      rw [Nat.zero_add] at hB
      rw [Nat.zero_add] at hB
      refine ⟨⟨k + 1, _, _, by omega, by go_num, (H3.out.set_ _ _).set_ _ _, hB, by rw [List.length_set, List.length_set, H1.out], ?_, ?_, (hon.setCell (Nat.le_refl _) _).setCell (Nat.le_refl _) _⟩, by simp [intOf]; omega⟩
      · rw [val_take_succ_any xs]
        exact shl_step os (q / 32) k (gw xs k) (q % 32) _ (by rw [H1.out]; omega) H2.out
      · rw [show q / 32 + (k + 1) = q / 32 + k + 1 from by omega, gw_set _ _ _ _ (by rw [List.length_set, H1.out]; omega), if_pos rfl]
        exact hhi
    · obtain rfl : k = n := by omega
      go_wp2
      go_ret
      refine ⟨w.heap.size, cur, os, rfl, Nat.le_refl _, H3.out, hh, H1.out, ?_, hon⟩
      have h2 := H2.out
      rw [List.take_of_length_le (by rw [H1.out]; omega), List.take_of_length_le (Nat.le_of_eq h.len)] at h2
      rw [h2, pow_split q]
      rw [← Nat.mul_assoc, Nat.mul_comm (BB ^ (q / 32)), Nat.mul_assoc]
end
section
theorem val_div (l : List Nat) (h : Ok l) (k : Nat) : val l / BB ^ k = val (l.drop k) := by
  rcases Nat.lt_or_ge l.length k with hk | hk
  · rw [List.drop_of_length_le (by omega)]
    have h1 := val_lt h
    have h2 : BB ^ l.length ≤ BB ^ k := Nat.pow_le_pow_right BB_pos (by omega)
    rw [Nat.div_eq_of_lt (by omega)]; rfl
  · rw [val_split l k hk, Nat.add_mul_div_left _ _ (Nat.pow_pos BB_pos)]
    have h1 := val_lt (h.take k)
    rw [List.length_take, Nat.min_eq_left hk] at h1
    rw [Nat.div_eq_of_lt h1, Nat.zero_add]
theorem val_drop_any (l : List Nat) (k : Nat) : val (l.drop k) = gw l k + BB * val (l.drop (k + 1)) := by
  rcases Nat.lt_or_ge k l.length with h | h
  · exact val_drop l k h
  · rw [List.drop_of_length_le h, List.drop_of_length_le (by omega), getD_ge h]; rfl
/-- word k of the number shifted by r bits -/
theorem shr_digit (l : List Nat) (h : Ok l) (k r : Nat) (hr : r < 32) : val l / 2 ^ r / BB ^ k % BB = (gw l (k + 1) * 4294967296 + gw l k) / 2 ^ r % 4294967296 := by
  rw [Nat.div_div_eq_div_mul, Nat.mul_comm, ← Nat.div_div_eq_div_mul, val_div l h, val_drop_any, val_drop_any l (k + 1)]
  have e : BB = 2 ^ r * 2 ^ (32 - r) := by rw [← Nat.pow_add, show r + (32 - r) = 32 from by omega]; rfl
  have e2 : gw l k + BB * (gw l (k + 1) + BB * val (l.drop (k + 1 + 1))) = (gw l (k + 1) * 4294967296 + gw l k) + 2 ^ r * (BB * (2 ^ (32 - r) * val (l.drop (k + 1 + 1)))) := by
    have : 2 ^ r * (BB * (2 ^ (32 - r) * val (l.drop (k + 1 + 1)))) = BB * (BB * val (l.drop (k + 1 + 1))) := by
      conv => rhs; rw [e]
      rw [← e]
      rw [Nat.mul_left_comm (2 ^ r), ← Nat.mul_assoc (2 ^ r), ← e]
    rw [this, Nat.mul_add]
    have : BB * gw l (k + 1) = gw l (k + 1) * 4294967296 := Nat.mul_comm _ _
    omega
  rw [e2, Nat.add_mul_div_left _ _ (Nat.pow_pos (by decide)), Nat.add_mul_mod_self_left]
  rfl
set_option maxHeartbeats 1000000 in
theorem shr_any (w : World) (A : Option Addr) (n c : Nat) (xs : List Nat) (h : Rd w A n c xs) (hn : n ≤ 100000000) (s : Int) (h0 : 0 ≤ s) (h1 : s ≤ 200000) :
    Calls Tryz.prog 134 #[.slice A n c, .int .i64 s] w (Gives w (val xs / 2 ^ s.toNat) n) := by
  obtain ⟨q, rfl⟩ := Int.eq_ofNat_of_zero_le h0
  rw [Int.toNat_natCast]
  have hv : val xs / 2 ^ q = val (xs.drop (q / 32)) / 2 ^ (q % 32) := by
    rw [pow_split q, ← Nat.div_div_eq_div_mul, val_div xs h.ok]
  rw [hv]
  clear hv
  have hr : q % 32 < 32 := Nat.mod_lt _ (by decide)
  by_cases hq : n ≤ q / 32
  · have hz : val (xs.drop (q / 32)) = 0 := by rw [List.drop_of_length_le (by rw [h.len]; omega)]; rfl
    rw [hz, Nat.zero_div]
    go_enter Tryz.func134, Tryz.ntmps134
    go_wp2
    go_ret
    exact ⟨none, 0, 0, rfl, ⟨[], Rd.nil_, clean_nil, rfl, by omega⟩, On.refl _⟩
  · have hcut := (h.ok).drop (q / 32)
    obtain ⟨m, hm1, hm2⟩ : ∃ m, m + q / 32 ≤ n ∧ n ≤ m + q / 32 := ⟨n - q / 32, by omega, by omega⟩
    have hmk := run_mk m (by omega) w
    rw [show ((m : Nat) : Int) = (n : Int) - (q : Int) / 32 from by omega] at hmk
    have hbb : val (xs.drop (q / 32)) / 2 ^ (q % 32) < BB ^ m := by
      have := val_lt hcut
      rw [List.length_drop, h.len, show n - q / 32 = m from by omega] at this
      exact Nat.lt_of_le_of_lt (Nat.div_le_self _ _) this
    have HB := Lib.hid hbb
    clear hbb
    have hdec : decide ((n : Int) ≤ (q : Int) / 32) = false := decide_eq_false (by omega)
    go_enter Tryz.func134, Tryz.ntmps134
    go_wp2
    go_loopw [25] (fun i wr => ∃ (k : Nat) (cur : Array Value) (os : List Nat), k ≤ m ∧ i = .int .i64 (k : Int) ∧ Own wr w.heap.size 66 cur ∧ Has cur 0 os ∧ os.length = m ∧ val (os.take k) = val (xs.drop (q / 32)) / 2 ^ (q % 32) % BB ^ k ∧ On w wr) (fun i _ => m - (intOf i).toNat)
    case atStart => exact ⟨0, _, _, by omega, rfl, Own.new _ _ _, has_made _, by simp, by simp [val, Nat.mod_one], (On.refl w).alloc _⟩
    case round =>
      obtain ⟨k, cur, os, hk, rfl, hown, hh, hl, hv, hon⟩ := hrel
      have H1 := Lib.hid hl
      have H2 := Lib.hid hv
      have H3 := Lib.hid hown
      clear hl hv hown
      by_cases hlt : k < m
      · obtain ⟨ad, rfl, hb, hc⟩ := (h.on hon).at_ (q / 32 + k) (by omega)
        have hz := h.ok.get (q / 32 + k)
        have hz1 := h.ok.get (q / 32 + k + 1)
        have T := h.on hon
        have hcell : wr.cell? ⟨w.heap.size, k, none⟩ = some (.int .u32 ((gw os k : Nat) : Int)) := (H3.out.cell _).trans (by have := hh.get k (by rw [H1.out]; omega); rwa [Nat.zero_add] at this)
        have hfroz : wr.frozen? ⟨w.heap.size, k, none⟩ = false := H3.out.frozen _
        have hor := Lib.hid (or64' (gw xs (q / 32 + k + 1)) (gw xs (q / 32 + k)) hz1 hz)
        have s1 : IntKind.i64.wrap ((q : Int) / 32 + (k : Int)) = (q : Int) / 32 + (k : Int) := IntWalk.i64_in _ (by omega)
        have s2 : IntKind.i64.wrap ((q : Int) / 32 + (k : Int) + 1) = (q : Int) / 32 + (k : Int) + 1 := IntWalk.i64_in _ (by omega)
        have s3 : 0 ≤ (q : Int) / 32 + (k : Int) := by omega
        have s4 : ((q : Int) / 32 + (k : Int)).toNat = q / 32 + k := by omega
        have s5 : (q : Int) / 32 + (k : Int) < (n : Int) := by omega
        have s6 : q / 32 + k < n := by omega
        go_wp2
        go_quiet ((go_at_call 135; go_must (exact Calls.quiet_of_same (at_is _ _ _ _ _ (T.drewN _) _ (q / 32 + k + 1) (by omega) (by omega)))))
        go_wp2
        rw [hor.out, show (((gw xs (q / 32 + k + 1) * 4294967296 + gw xs (q / 32 + k) : Nat) : Int) / 2 ^ (q % 32) % 4294967296) = (((gw xs (q / 32 + k + 1) * 4294967296 + gw xs (q / 32 + k)) / 2 ^ (q % 32) % 4294967296 : Nat) : Int) from by rw [Int.natCast_emod, Int.natCast_ediv, Int.natCast_pow]; rfl]
        have hA := hh.set_ (j := k) (x := (gw xs (q / 32 + k + 1) * 4294967296 + gw xs (q / 32 + k)) / 2 ^ (q % 32) % 4294967296) (by rw [H1.out]; omega) (Nat.mod_lt _ (by decide))
        rw [Nat.zero_add] at hA
        refine ⟨⟨k + 1, _, _, by omega, by go_num, (H3.out.drewN nq).set_ _ _, hA, by rw [List.length_set, H1.out], ?_, (hon.drewN nq).setCell (Nat.le_refl _) _⟩, by simp [intOf]; omega⟩
        rw [set_take_succ _ _ _ (by rw [H1.out]; omega), H2.out, Nat.mod_pow_succ, shr_digit _ hcut k _ hr, getD_drop, getD_drop]
        rfl
      · obtain rfl : k = m := by omega
        have R := Rd.own (n := k) (c := k) H3.out hh H1.out (Nat.le_refl _) (by omega)
        go_wp2_with fail
        refine (trim_any _ _ _ _ _ R).mono ?_
        rintro e w' ⟨rfl, rfl⟩
        go_wp2
        go_ret
        have hN := nm_trim R (L := n) (Nat.le_trans (tl_le _) (by rw [H1.out]; omega))
        have hval : val os = val (xs.drop (q / 32)) / 2 ^ (q % 32) := by
          have := H2.out
          rwa [List.take_of_length_le (Nat.le_of_eq H1.out), Nat.mod_eq_of_lt HB.out] at this
        rw [hval] at hN
        exact ⟨_, _, _, rfl, hN, hon⟩
end
section
/-- the number of bits of a number -/
def nb (v : Nat) : Nat := if v = 0 then 0 else Nat.log2 v + 1
theorem nb_zero : nb 0 = 0 := rfl
theorem nb_lt (v : Nat) : v < 2 ^ nb v := by
  unfold nb
  split
  · rename_i h; subst h; decide
  · exact Nat.lt_log2_self
theorem nb_ge (v : Nat) (h : v ≠ 0) : 2 ^ (nb v - 1) ≤ v := by
  unfold nb
  rw [if_neg h, Nat.add_sub_cancel]
  exact Nat.log2_self_le h
theorem nb_unique (v b : Nat) (h1 : 2 ^ b ≤ v) (h2 : v < 2 ^ (b + 1)) : nb v = b + 1 := by
  have h0 : v ≠ 0 := by have := Nat.pow_pos (n := b) (show 0 < 2 by decide); omega
  have a := nb_lt v
  have c := nb_ge v h0
  have hp : 0 < nb v := by
    rcases Nat.eq_zero_or_pos (nb v) with h | h
    · rw [h] at a; simp at a; omega
    · exact h
  have l1 : b < nb v := (Nat.pow_lt_pow_iff_right (by decide : 1 < 2)).1 (Nat.lt_of_le_of_lt h1 a)
  have l2 : nb v - 1 < b + 1 := (Nat.pow_lt_pow_iff_right (by decide : 1 < 2)).1 (Nat.lt_of_le_of_lt c h2)
  omega
theorem nb_le_iff (v b : Nat) : nb v ≤ b ↔ v < 2 ^ b := by
  constructor
  · intro h; exact Nat.lt_of_lt_of_le (nb_lt v) (Nat.pow_le_pow_right (by decide) h)
  · intro h
    rcases Nat.eq_zero_or_pos v with h0 | h0
    · subst h0; simp [nb_zero]
    · have c := nb_ge v (by omega)
      have := (Nat.pow_lt_pow_iff_right (by decide : 1 < 2)).1 (Nat.lt_of_le_of_lt c h)
      omega
theorem nb_half (v : Nat) (h : v ≠ 0) : nb v = 1 + nb (v / 2) := by
  rcases Nat.lt_or_ge v 2 with h2 | h2
  · obtain rfl : v = 1 := by omega
    decide
  · have hv : v / 2 ≠ 0 := by omega
    have a := nb_lt (v / 2)
    have c := nb_ge (v / 2) hv
    have hp : 0 < nb (v / 2) := by unfold nb; rw [if_neg hv]; omega
    rw [nb_unique v (nb (v / 2)) ?_ ?_]
    · omega
    · have : 2 ^ nb (v / 2) = 2 ^ (nb (v / 2) - 1) * 2 := by rw [← Nat.pow_succ]; congr 1; omega
      omega
    · rw [Nat.pow_succ]; omega
theorem bitLen_nb (x : Nat) (h : x < 2 ^ 64) : Lib.bitLen x = nb x := by
  induction x using Nat.strongRecOn with
  | _ x ih =>
    rcases Nat.eq_zero_or_pos x with h0 | h0
    · subst h0; rfl
    · rw [Lib.bitLen_half x (by omega) h, nb_half x (by omega), ih (x / 2) (by omega) (by omega)]
/-- the bits of a number are those of its top word, and 32 for each word below -/
theorem nb_val (l : List Nat) (h : Ok l) (m : Nat) (hl : l.length = m + 1) (ht : gw l m ≠ 0) : nb (val l) = 32 * m + nb (gw l m) := by
  have e := val_split l m (by omega)
  rw [val_drop l m (by omega), List.drop_of_length_le (by omega)] at e
  simp only [val, Nat.mul_zero, Nat.add_zero] at e
  have hlow := val_lt (h.take m)
  rw [List.length_take, Nat.min_eq_left (by omega)] at hlow
  have a := nb_lt (gw l m)
  have c := nb_ge (gw l m) ht
  have hp : 0 < nb (gw l m) := by unfold nb; rw [if_neg ht]; omega
  have hB : BB ^ m = 2 ^ (32 * m) := by rw [Nat.pow_mul]; rfl
  rw [hB] at e hlow
  obtain ⟨t, htt⟩ : ∃ t, nb (gw l m) = t + 1 := ⟨nb (gw l m) - 1, by omega⟩
  rw [htt] at a c
  rw [Nat.add_sub_cancel] at c
  rw [htt, nb_unique (val l) (32 * m + t) ?_ ?_]
  · omega
  · rw [Nat.pow_add, e]
    have := Nat.mul_le_mul_left (2 ^ (32 * m)) c
    omega
  · rw [Nat.add_assoc, Nat.pow_add, e]
    have : 2 ^ (32 * m) * (gw l m + 1) ≤ 2 ^ (32 * m) * 2 ^ (t + 1) := Nat.mul_le_mul_left _ a
    rw [Nat.mul_add] at this
    omega
set_option maxHeartbeats 400000 in
theorem bits_any (w : World) (A : Option Addr) (n c : Nat) (xs : List Nat) (h : Rd w A n c xs) (hn : n ≤ 100000000) :
    Calls Tryz.prog 122 #[.slice A n c] w fun e w' => e = .returned (.int .i64 ((nb (val xs) : Nat) : Int)) ∧ w = w' := by
  have T := h.take (k := tl xs) (by rw [← h.len]; exact tl_le xs)
  have V := Lib.hid (val_take_tl xs)
  have C := clean_take xs
  have hm : tl xs ≤ n := by rw [← h.len]; exact tl_le xs
  go_enter Tryz.func122, Tryz.ntmps122
  go_wp2_with fail
  refine (trim_any _ _ _ _ _ h).mono ?_
  rintro e w' ⟨rfl, rfl⟩
  generalize hzs : xs.take (tl xs) = zs at *
  generalize tl xs = m at *
  clear hzs
  rcases m with _ | m
  · obtain rfl := List.eq_nil_of_length_eq_zero T.len
    go_wp2
    go_ret
    exact ⟨by rw [← V.out]; rfl, rfl⟩
  · obtain ⟨ad, rfl, hb, hc⟩ := T.at_ m (by omega)
    have hz := T.ok.get m
    have hne := clean_last C m T.len
    have HV := Lib.hid (nb_val zs T.ok m T.len hne)
    have HB := Lib.hid (bitLen_nb (gw zs m) (by omega))
    clear C
    go_wp2_with fail
    refine (Tryz.bits_Len32 _ _ (by omega) (by omega)).mono ?_
    rintro e w' ⟨rfl, rfl⟩
    rw [Int.toNat_natCast, HB.out]
    have hle : nb (gw zs m) ≤ 32 := (nb_le_iff _ _).2 (by omega)
    generalize nb (gw zs m) = b at *
    go_wp2
    go_ret
    exact ⟨ret_int (by rw [← V.out, HV.out]; omega), rfl⟩
end
section
/-- what addMultiple leaves -/
def AddmPost (w : World) (g : Nat) (cur : Array Value) (o : Nat) (ss : List Nat) (m V : Nat) (e : Ending) (w' : World) : Prop :=
  ∃ (t : Nat) (cur' : Array Value) (rs : List Nat), e = .returned (.int .u32 (t : Int)) ∧ t < 4294967296 ∧ Own w' g 66 cur' ∧ Has cur' o rs ∧ rs.length = ss.length ∧ rs.drop m = ss.drop m ∧ val (rs.take m) + BB ^ m * t = val (ss.take m) + V ∧ Same cur cur' o m ∧ Only g w w'
theorem mul_bound (x q : Nat) (hx : x < 4294967296) (hq : q < 4294967296) : x * q ≤ 18446744065119617025 := by
  have : x * q ≤ 4294967295 * 4294967295 := Nat.mul_le_mul (by omega) (by omega)
  omega
theorem mul_wrap (x q : Nat) (hx : x < 4294967296) (hq : q < 4294967296) : IntKind.u64.wrap ((x : Int) * (q : Int)) = ((x * q : Nat) : Int) := by
  have := mul_bound x q hx hq
  rw [← Int.natCast_mul]
  exact IntWalk.u64_in _ (by omega)
theorem addm_step (P u v S V x q t : Nat) (h : u + P * t = v + V) : u + P * ((t + (x * q + S)) % 4294967296) + P * BB * ((t + (x * q + S)) / 4294967296) = v + P * S + (V + P * x * q) := by
  have h1 := Nat.div_add_mod (t + (x * q + S)) 4294967296
  have h2 : P * ((t + (x * q + S)) % 4294967296) + P * BB * ((t + (x * q + S)) / 4294967296) = P * (t + (x * q + S)) := by
    rw [Nat.mul_assoc, ← Nat.mul_add]; congr 1; simp only [BB]; omega
  rw [Nat.mul_add, Nat.mul_add, ← Nat.mul_assoc] at h2
  omega
set_option maxHeartbeats 1000000 in
theorem addm_any (w : World) (g o n c m ca : Nat) (cur : Array Value) (ss : List Nat) (A : Option Addr) (fs : List Nat) (d : Int) (hown : Own w g 66 cur) (hh : Has cur o ss) (hn : ss.length = n) (hc : n ≤ c) (hm : n ≤ 1000000000) (ha : Rd w A m ca fs) (hne : m ≠ 0 → ∀ ad, A = some ad → ad.block ≠ g) (hmn : m ≤ n) (d0 : 0 ≤ d) (d1 : d ≤ 4294967295) :
    Calls Tryz.prog 127 #[.slice (some ⟨g, o, none⟩) n c, .slice A m ca, .int .u32 d] w (AddmPost w g cur o ss m (val fs * d.toNat)) := by
  obtain ⟨q, rfl⟩ := Int.eq_ofNat_of_zero_le d0
  rw [Int.toNat_natCast]
  have HN := Lib.hid hn
  have HO := Lib.hid hown
  have HE := Lib.hid hne
  clear hn hown hne
  go_enter Tryz.func127, Tryz.ntmps127
  go_wp2
  go_loopw [7, 12] (fun r i wr => ∃ (k t : Nat) (cur' : Array Value) (rs : List Nat), k ≤ m ∧ i = .int .i64 (k : Int) ∧ r = .int .u64 (t : Int) ∧ t < 4294967296 ∧ Own wr g 66 cur' ∧ Has cur' o rs ∧ rs.length = n ∧ rs.drop k = ss.drop k ∧ val (rs.take k) + BB ^ k * t = val (ss.take k) + val (fs.take k) * q ∧ Same cur cur' o m ∧ Only g w wr) (fun _ i _ => m - (intOf i).toNat)
  case atStart => exact ⟨0, 0, cur, ss, by omega, rfl, rfl, by decide, HO.out, hh, HN.out, rfl, by simp [val], Same.refl _ _ _, Only.refl _ _⟩
  case round =>
    obtain ⟨k, t, cur', rs, hk, rfl, rfl, ht, hown', hh', hl', hdk, hvk, hsame, honly⟩ := hrel
    have H1 := Lib.hid hl'
    have H2 := Lib.hid hdk
    have H3 := Lib.hid hvk
    have H4 := Lib.hid hown'
    clear hl' hdk hvk hown'
    by_cases hlt : k < m
    · obtain ⟨ad, rfl, hb, hca⟩ := (ha.only honly (HE.out (by omega))).at_ k hlt
      have hx := ha.ok.get k
      have hs := hh'.ok.get k
      have hw := hh'.get k (by rw [H1.out]; omega)
      have hcell : wr.cell? ⟨g, o + k, none⟩ = some (.int .u32 ((gw rs k : Nat) : Int)) := (H4.out.cell _).trans hw
      have hfroz : wr.frozen? ⟨g, o + k, none⟩ = false := H4.out.frozen _
      clear hw
      have hmb := mul_bound (gw fs k) q hx (by omega)
      have HM := Lib.hid (mul_wrap (gw fs k) q hx (by omega))
      have hkn : k < n := by omega
      have HX : Hid (rs = rs) := rfl
      go_wp2
      have e1 : ((t : Int) + ((gw fs k : Int) * (q : Int) + (gw rs k : Int))) / 4294967296 = (((t + (gw fs k * q + gw rs k)) / 4294967296 : Nat) : Int) := by
        rw [Int.natCast_ediv, Int.natCast_add, Int.natCast_add, Int.natCast_mul]; rfl
      have e2 : ((t : Int) + ((gw fs k : Int) * (q : Int) + (gw rs k : Int))) % 4294967296 = (((t + (gw fs k * q + gw rs k)) % 4294967296 : Nat) : Int) := by
        rw [Int.natCast_emod, Int.natCast_add, Int.natCast_add, Int.natCast_mul]; rfl
      rw [e1, e2]
      have hdd := H2.out
      have hgs : gw ss k = gw rs k := by
        have h1 := getD_drop ss k 0
        have h2 := getD_drop rs k 0
        rw [← hdd] at h1
        rw [Nat.add_zero] at h1 h2
        omega
      refine ⟨⟨k + 1, _, _, _, by omega, by go_num, rfl, by omega, H4.out.set_ _ _, hh'.set_ (by rw [H1.out]; omega) (Nat.mod_lt _ (by decide)), by rw [List.length_set, H1.out], ?_, ?_, hsame.set_ hlt _, honly.set_ _ _⟩, by simp [intOf]; omega⟩
      · rw [drop_set_same, ← List.drop_drop, ← List.drop_drop, hdd]
      · rw [set_take_succ _ _ _ (by rw [H1.out]; omega), val_take_succ_any ss, val_take_succ_any fs, hgs, Nat.pow_succ, Nat.add_mul]
        exact addm_step _ _ _ _ _ _ _ _ H3.out
    · obtain rfl : k = m := by omega
      go_wp2
      go_ret
      refine ⟨t, cur', rs, rfl, ht, H4.out, hh', by rw [H1.out, HN.out], H2.out, ?_, hsame, honly⟩
      rw [H3.out, List.take_of_length_le (Nat.le_of_eq ha.len)]
theorem nm_rd {w : World} {A : Option Addr} {n c v L : Nat} (h : Nm w A n c v L) : ∃ xs, Rd w A n c xs ∧ Clean xs ∧ val xs = v ∧ n ≤ L := h
theorem mul_step (ps rs : List Nat) (k m t X y : Nat) (hl : rs.length = ps.length) (hb : k + m < ps.length) (htk : rs.take k = ps.take k) (h : val ((rs.drop k).take m) + BB ^ m * t = val ((ps.drop k).take m) + y) (hz : val (ps.take (k + m)) = X) :
    val ((rs.set (k + m) t).take (k + m + 1)) = X + BB ^ k * y := by
  rw [set_take_succ _ _ _ (by omega), ← hz]
  have e1 := val_split (rs.take (k + m)) k (by rw [List.length_take]; omega)
  have e2 := val_split (ps.take (k + m)) k (by rw [List.length_take]; omega)
  rw [List.take_take, Nat.min_eq_left (by omega), List.drop_take, Nat.add_sub_cancel_left] at e1 e2
  rw [e1, e2, htk, Nat.pow_add]
  have := congrArg (BB ^ k * ·) h
  simp only [Nat.mul_add, ← Nat.mul_assoc] at this
  omega
set_option maxHeartbeats 1000000 in
/-- Mul -/
theorem mul_any (w : World) (A A' : Option Addr) (n c n' c' L L' : Nat) (xs ys : List Nat) (h : Rd w A n c xs) (k : Rd w A' n' c' ys) (h1 : tl xs ≤ L) (h2 : tl ys ≤ L') (hL : L ≤ 100000000) (hL' : L' ≤ 100000000) :
    Calls Tryz.prog 104 #[.slice A n c, .slice A' n' c'] w (Gives w (val xs * val ys) (L + L')) := by
  have T := h.take (k := tl xs) (by rw [← h.len]; exact tl_le xs)
  have T' := k.take (k := tl ys) (by rw [← k.len]; exact tl_le ys)
  rw [← val_take_tl xs, ← val_take_tl ys]
  generalize xs.take (tl xs) = zs at *
  generalize ys.take (tl ys) = us at *
  go_enter Tryz.func104, Tryz.ntmps104
  go_wp2_with fail
  refine (trim_any _ _ _ _ _ h).mono ?_
  rintro e w' ⟨rfl, rfl⟩
  go_wp2_with fail
  refine (trim_any _ _ _ _ _ k).mono ?_
  rintro e w' ⟨rfl, rfl⟩
  clear h k
  generalize tl xs = m at *
  generalize tl ys = m' at *
  clear xs ys
  have hmk := run_mk (m + m') (by omega) w
  rw [show ((m + m' : Nat) : Int) = (m : Int) + (m' : Int) from by omega] at hmk
  go_wp2
  go_loopw [20] (fun i wr => ∃ (k : Nat) (cur : Array Value) (ps : List Nat), k ≤ m ∧ i = .int .i64 (k : Int) ∧ Own wr w.heap.size 66 cur ∧ Has cur 0 ps ∧ ps.length = m + m' ∧ val (ps.take (k + m')) = val (zs.take k) * val us ∧ On w wr) (fun i _ => m - (intOf i).toNat)
  case atStart => exact ⟨0, _, _, by omega, rfl, Own.new _ _ _, has_made _, by simp, by rw [List.take_replicate, val_replicate]; simp [val], (On.refl w).alloc _⟩
  case round =>
    obtain ⟨k, cur, ps, hk, rfl, hown, hh, hl, hv, hon⟩ := hrel
    have H1 := Lib.hid hl
    have H2 := Lib.hid hv
    have H3 := Lib.hid hown
    clear hl hv hown
    by_cases hlt : k < m
    · obtain ⟨ad, rfl, hb, hc⟩ := (T.on hon).at_ k hlt
      have hz := T.ok.get k
      have hpart := hh.part (i := k) (n := m + m' - k) (by rw [H1.out]; omega)
      have hpl : ((ps.drop k).take (m + m' - k)).length = m + m' - k := by rw [List.length_take, List.length_drop, H1.out]; omega
      have HPL := Lib.hid hpl
      clear hpl
      have hne : m' ≠ 0 → ∀ ad', A' = some ad' → ad'.block ≠ w.heap.size := by
        intro hm0 ad' e
        obtain ⟨ad2, e2, hb2, _⟩ := T'.at_ 0 (by omega)
        rw [e] at e2; injection e2 with e2; subst e2; omega
      go_wp2_with fail
      refine (addm_any wr w.heap.size k (m + m' - k) (m + m' - k) m' c' cur _ A' us _ H3.out (by rw [Nat.zero_add] at hpart; exact hpart) HPL.out (Nat.le_refl _) (by omega) (T'.on hon) hne (by omega) (by omega) (by omega)).mono ?_
      rintro e w2 ⟨t, cur', rs, rfl, ht, ho2, hh2, hl2, _, hval, hsame, honly⟩
      rw [HPL.out] at hl2
      rw [Int.toNat_natCast] at hval
      have hj := hh.join (cur' := cur') (i := k) (n := m + m' - k) (ys := rs) (by rw [H1.out]; omega) hl2 (by rw [Nat.zero_add]; exact hh2) (by rw [Nat.zero_add]; exact hsame.wide (Nat.le_refl _) (by omega))
      rw [List.drop_of_length_le (l := ps) (by rw [H1.out]; omega), List.append_nil] at hj
      have hlk : (ps.take k).length = k := by rw [List.length_take, H1.out]; omega
      have hwl : (ps.take k ++ rs).length = m + m' := by rw [List.length_append, hlk, hl2]; omega
      have ht1 : (ps.take k ++ rs).take k = ps.take k := List.take_left' hlk
      have ht2 : (ps.take k ++ rs).drop k = rs := List.drop_left' hlk
      have hval2 : val (((ps.take k ++ rs).drop k).take m') + BB ^ m' * t = val ((ps.drop k).take m') + val us * gw zs k := by
        rw [ht2, hval, List.take_take, Nat.min_eq_left (by omega)]
      have hstep := mul_step ps (ps.take k ++ rs) k m' t (val (zs.take k) * val us) (val us * gw zs k) (by rw [hwl, H1.out]) (by rw [H1.out]; omega) ht1 hval2 H2.out
      have HS := Lib.hid hstep
      have HW := Lib.hid hwl
      have HO2 := Lib.hid ho2
      have hon2 : On w w2 := hon.only honly (Nat.le_refl _)
      clear hl2 hval hlk hwl ht1 ht2 hval2 hstep ho2 hh2 hpart
      generalize ps.take k ++ rs = ws at *
      have hcell : w2.cell? ⟨w.heap.size, k + m', none⟩ = some (.int .u32 ((gw ws (k + m') : Nat) : Int)) := (HO2.out.cell _).trans (by have := hj.get (k + m') (by rw [HW.out]; omega); rwa [Nat.zero_add] at this)
      have hfroz : w2.frozen? ⟨w.heap.size, k + m', none⟩ = false := HO2.out.frozen _
      have hA := hj.set_ (j := k + m') (x := t) (by rw [HW.out]; omega) ht
      rw [Nat.zero_add] at hA
      go_wp2
      refine ⟨⟨k + 1, _, _, by omega, by go_num, HO2.out.set_ _ _, hA, by rw [List.length_set, HW.out], ?_, hon2.setCell (Nat.le_refl _) _⟩, by simp [intOf]; omega⟩
      rw [show k + 1 + m' = k + m' + 1 from by omega, HS.out, val_take_succ_any zs, Nat.add_mul, Nat.mul_assoc, Nat.mul_comm (gw zs k)]
    · obtain rfl : k = m := by omega
      go_wp2_with fail
      have R := Rd.own (n := k + m') (c := k + m') H3.out hh H1.out (Nat.le_refl _) (by omega)
      refine (trim_any _ _ _ _ _ R).mono ?_
      rintro e w' ⟨rfl, rfl⟩
      go_wp2
      go_ret
      have hN := nm_trim R (L := L + L') (Nat.le_trans (tl_le _) (by rw [H1.out]; omega))
      have hval : val ps = val zs * val us := by
        have e1 := H2.out
        rwa [List.take_of_length_le (Nat.le_of_eq H1.out), List.take_of_length_le (Nat.le_of_eq T.len)] at e1
      rw [hval] at hN
      exact ⟨_, _, _, rfl, hN, hon⟩
end
section
theorem nm_len {w : World} {A : Option Addr} {n c v L : Nat} (h : Nm w A n c v L) (k : Nat) (hv : v < BB ^ k) : ∃ xs, Rd w A n c xs ∧ Clean xs ∧ val xs = v ∧ n ≤ k ∧ tl xs = n := by
  obtain ⟨xs, h1, h2, h3, h4⟩ := h
  have h5 := clean_len h2 k (by rw [h3]; exact hv)
  exact ⟨xs, h1, h2, h3, by rw [← h1.len]; exact h5, by rw [h2, h1.len]⟩
/-- a slice of uint32 that came in, as the statement's frame tells it -/
theorem rd_of_cells {w : World} {a : Option Addr} {len cap : Nat} {zs : List Int} (h : (a = none ∧ len = 0 ∧ cap = 0 ∧ zs = []) ∨
    ∃ x, a = some x ∧ len ≤ cap ∧ cap ≤ maxLen ∧ zs.length = cap ∧ (∀ i, i < zs.length → w.cell? (x.add i) = some (.int .u32 (zs.getD i 0))) ∧ ∀ n ∈ zs, (Lit.int .u32 n).wf = true) : ∃ xs, Rd w a len cap xs := by
  rcases h with ⟨rfl, rfl, rfl, rfl⟩ | ⟨x, rfl, hl, hm, hz, hc, hw⟩
  · exact ⟨[], Rd.nil_⟩
  · have hb : ∀ n ∈ zs, 0 ≤ n ∧ n ≤ 4294967295 := fun n hn => by
      have := hw n hn
      simpa [Lit.wf, IntKind.min, IntKind.max, IntKind.signed, IntKind.bits] using this
    have hg : ∀ i, i < len → ((gw ((zs.take len).map Int.toNat) i : Nat) : Int) = zs.getD i 0 := by
      intro i hi
      have hiz : i < zs.length := by omega
      have e : gw ((zs.take len).map Int.toNat) i = (zs[i]).toNat := by
        unfold gw
        rw [List.getD_eq_getElem?_getD, List.getElem?_map, List.getElem?_take_of_lt hi, List.getElem?_eq_getElem hiz]
        rfl
      rw [e, List.getD_eq_getElem?_getD, List.getElem?_eq_getElem hiz, Option.getD_some]
      have := hb _ (List.getElem_mem hiz)
      omega
    refine ⟨(zs.take len).map Int.toNat, by rw [List.length_map, List.length_take]; omega, hl, by unfold maxLen at hm; exact hm, ?_, fun e => (by cases e), fun hn => ⟨x, rfl, ?_, fun j hj => ?_⟩⟩
    · intro u hu
      obtain ⟨v, hv, rfl⟩ := List.mem_map.1 hu
      have := hb v (List.mem_of_mem_take hv)
      omega
    · have := World.block_lt_of_cell? w (x.add 0) (hc 0 (by omega))
      rwa [block_of_add] at this
    · rw [hg j hj]; exact hc j (by omega)
theorem cmp_same (w : World) (A A' : Option Addr) (n c n' c' : Nat) (xs ys : List Nat) (h : Rd w A n c xs) (k : Rd w A' n' c' ys) (hv : val xs = val ys) :
    Calls Tryz.prog 103 #[.slice A n c, .slice A' n' c'] w fun e w' => e = .returned (.int .i64 0) ∧ On w w' :=
  (cmp_any w A A' n c n' c' xs ys h k).mono fun _ _ ⟨he, ho⟩ => ⟨by rw [he, cmpI_eq hv], ho⟩
theorem some_large (ls : List Nat) (k : Nat) : (∀ i, i < k → gw ls i ≤ 40) ∨ ∃ m, m < k ∧ 40 < gw ls m := by
  by_cases h : ∃ m, m < k ∧ 40 < gw ls m
  · exact .inr h
  · exact .inl fun i hi => Nat.le_of_not_lt fun hlt => h ⟨i, hi, hlt⟩
end
end Num
end Go.Proofs.YtkchpagjkgmpmaaGreat
