/-
  Plain arithmetic of decimal digits, no program.
-/
import Derived.Test.YtkpeliokhmigoaaVal
namespace Go.Proofs.Ytkpeliokhmigoaa
set_option linter.unusedVariables false
namespace Num
/-- bytes that are digits, the least significant one first: what they are worth -/
def dvb : List Nat → Nat
  | [] => 0
  | b :: r => (b - 48) + 10 * dvb r
def IsDig (l : List Nat) : Prop := ∀ b ∈ l, 48 ≤ b ∧ b ≤ 57
/-- the bytes of the decimal digits of v, the most significant one first -/
def IsText (v : Nat) (bs : List Nat) : Prop := (v = 0 ∧ bs = [48]) ∨ ∃ ds, bs = ds.reverse ∧ IsDig ds ∧ dvb ds = v ∧ 0 < ds.length ∧ gw ds (ds.length - 1) ≠ 48
theorem IsDig.nil : IsDig [] := fun _ h => by cases h
theorem IsDig.snoc {l : List Nat} (h : IsDig l) {d : Nat} (h1 : 48 ≤ d) (h2 : d ≤ 57) : IsDig (l ++ [d]) := fun b hb => by
  rcases List.mem_append.1 hb with h' | h'
  · exact h b h'
  · simp at h'; omega
theorem IsDig.take {l : List Nat} (h : IsDig l) (k : Nat) : IsDig (l.take k) := fun b hb => h b (List.mem_of_mem_take hb)
theorem IsDig.get {l : List Nat} (h : IsDig l) {k : Nat} (hk : k < l.length) : 48 ≤ gw l k ∧ gw l k ≤ 57 := by
  have : gw l k = l[k] := by simp [gw, List.getD_eq_getElem?_getD, hk]
  rw [this]; exact h _ (List.getElem_mem hk)
theorem dvb_snoc (l : List Nat) (d : Nat) : dvb (l ++ [d]) = dvb l + 10 ^ l.length * (d - 48) := by
  induction l with
  | nil => simp [dvb]
  | cons x r ih => simp only [List.cons_append, dvb, ih, List.length_cons, Nat.pow_succ]; rw [Nat.mul_add, ← Nat.mul_assoc, Nat.mul_comm 10 (10 ^ r.length)]; omega
theorem dvb_take_succ (l : List Nat) (k : Nat) (h : k < l.length) : dvb (l.take (k + 1)) = dvb (l.take k) + 10 ^ k * (gw l k - 48) := by
  rw [List.take_succ_eq_append_getElem h, dvb_snoc]
  simp [gw, List.getD_eq_getElem?_getD, h, Nat.min_eq_left (Nat.le_of_lt h)]
theorem dvb_lt {l : List Nat} (h : IsDig l) : dvb l < 10 ^ l.length := by
  induction l with
  | nil => simp [dvb]
  | cons x r ih =>
    have h1 := h x (by simp)
    have h2 := ih (fun u hu => h u (by simp [hu]))
    simp only [dvb, List.length_cons, Nat.pow_succ]
    omega
theorem dvb_pos {l : List Nat} (hl : 0 < l.length) (h : gw l (l.length - 1) ≠ 48) (hd : IsDig l) : 0 < dvb l := by
  have h1 := dvb_take_succ l (l.length - 1) (by omega)
  rw [List.take_of_length_le (by omega)] at h1
  have h2 := hd.get (k := l.length - 1) (by omega)
  have h3 : 10 ^ (l.length - 1) * 1 ≤ 10 ^ (l.length - 1) * (gw l (l.length - 1) - 48) := Nat.mul_le_mul_left _ (by omega)
  have h4 : 0 < 10 ^ (l.length - 1) := Nat.pow_pos (by decide)
  omega
theorem gw_cons (x : Nat) (r : List Nat) (k : Nat) : gw (x :: r) (k + 1) = gw r k := by simp [gw]
theorem dvb_inj {a b : List Nat} (ha : IsDig a) (hb : IsDig b) (la : a.length = 0 ∨ gw a (a.length - 1) ≠ 48) (lb : b.length = 0 ∨ gw b (b.length - 1) ≠ 48) (h : dvb a = dvb b) : a = b := by
  induction a generalizing b with
  | nil =>
    cases b with
    | nil => rfl
    | cons y s => have := dvb_pos (l := y :: s) (by simp) (by rcases lb with h | h; simp at h; exact h) hb; simp [dvb] at h this; omega
  | cons x r ih =>
    cases b with
    | nil => have := dvb_pos (l := x :: r) (by simp) (by rcases la with h | h; simp at h; exact h) ha; simp [dvb] at h this; omega
    | cons y s =>
      have hx := ha x (by simp)
      have hy := hb y (by simp)
      simp only [dvb] at h
      have hxy : x = y := by omega
      subst hxy
      have hr : dvb r = dvb s := by omega
      have lr : r.length = 0 ∨ gw r (r.length - 1) ≠ 48 := by
        rcases Nat.eq_zero_or_pos r.length with h0 | h0
        · exact .inl h0
        · right
          rcases la with h | h
          · simp at h
          · have e : (x :: r).length - 1 = (r.length - 1) + 1 := by simp; omega
            rw [e, gw_cons] at h; exact h
      have ls : s.length = 0 ∨ gw s (s.length - 1) ≠ 48 := by
        rcases Nat.eq_zero_or_pos s.length with h0 | h0
        · exact .inl h0
        · right
          rcases lb with h | h
          · simp at h
          · have e : (x :: s).length - 1 = (s.length - 1) + 1 := by simp; omega
            rw [e, gw_cons] at h; exact h
      rw [ih (fun u hu => ha u (by simp [hu])) (fun u hu => hb u (by simp [hu])) lr ls hr]
theorem IsText.unique {v : Nat} {a b : List Nat} (ha : IsText v a) (hb : IsText v b) : a = b := by
  rcases ha with ⟨h0, rfl⟩ | ⟨ds, rfl, d1, d2, d3, d4⟩
  · rcases hb with ⟨_, rfl⟩ | ⟨es, rfl, e1, e2, e3, e4⟩
    · rfl
    · have := dvb_pos e3 e4 e1; omega
  · rcases hb with ⟨h0, rfl⟩ | ⟨es, rfl, e1, e2, e3, e4⟩
    · have := dvb_pos d3 d4 d1; omega
    · rw [dvb_inj d1 e1 (.inr d4) (.inr e4) (by omega)]
theorem IsText.digs {v : Nat} {a : List Nat} (h : IsText v a) : IsDig a := by
  rcases h with ⟨_, rfl⟩ | ⟨ds, rfl, h, _⟩
  · intro b hb; simp at hb; omega
  · intro b hb; exact h b (List.mem_reverse.1 hb)
/-- a string of bytes -/
def str (bs : List Nat) : ByteArray := ⟨(bs.map fun n => UInt8.ofNat n).toArray⟩
theorem pow_ten_bb (n : Nat) : BB ^ n ≤ 10 ^ (10 * n) := by
  rw [Nat.pow_mul]
  exact Nat.pow_le_pow_left (by decide) n
/-- as long as something is left, few digits have been found -/
theorem few_digits {d r v n : Nat} (h : 10 ^ d * r ≤ v) (hr : 0 < r) (hv : v < BB ^ n) : d < 10 * n := by
  have h1 : 10 ^ d * 1 ≤ 10 ^ d * r := Nat.mul_le_mul_left _ hr
  have h2 := pow_ten_bb n
  exact (Nat.pow_lt_pow_iff_right (by decide : 1 < 10)).1 (by omega)
end Num
end Go.Proofs.Ytkpeliokhmigoaa
