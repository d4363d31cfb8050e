/-
  Texts of sets: the pieces between separators, numbers of one or two digits, what becomes of a list of numbers.
-/
import Derived.Test.YteijndnofihgdaaDoorSs3
import Derived.Lib.IndexMore
namespace Go.Proofs.YteijndnofihgdaaDoor.Sb
open Go.RowKit Go.Lib
set_option linter.unusedVariables false
set_option maxRecDepth 100000
/-- up to the first separator, behind it, whether there is one -/
def cut2 : List UInt8 → List UInt8 × List UInt8 × Bool
  | [] => ([], [], false)
  | b :: l => if ([44, 32] : List UInt8).isPrefixOf (b :: l) then ([], l.drop 1, true) else (b :: (cut2 l).1, (cut2 l).2.1, (cut2 l).2.2)
theorem cut2_eq (s : List UInt8) : Lib.cut s [44, 32] = cut2 s := by
  induction s with
  | nil => rfl
  | cons b l ih =>
    unfold cut2
    unfold Lib.cut
    unfold Lib.index
    by_cases hp : ([44, 32] : List UInt8).isPrefixOf (b :: l) = true
    · rw [if_pos hp, if_pos hp]
      simp
    · rw [if_neg hp, if_neg hp, ← ih]
      unfold Lib.cut
      have hge := index_ge l [44, 32]
      by_cases h1 : index l [44, 32] = -1
      · rw [h1]; simp
      · have h2 : (index l [44, 32] == -1) = false := by simpa using h1
        rw [h2]
        have h3 : 0 ≤ index l [44, 32] := by omega
        obtain ⟨n, hn⟩ := Int.eq_ofNat_of_zero_le h3
        rw [hn]
        have h4 : (0 : Int) ≤ (n : Int) + 1 := by omega
        have h5 : (0 : Int) ≤ (n : Int) := by omega
        have h6 : ((n : Int) + 1).toNat = n + 1 := by omega
        simp [h4, h5, h6]
theorem cut2_len (t : List UInt8) : (cut2 t).2.2 = true → (cut2 t).2.1.length + 2 ≤ t.length := by
  induction t with
  | nil => intro h; simp [cut2] at h
  | cons b l ih =>
    unfold cut2
    by_cases hp : ([44, 32] : List UInt8).isPrefixOf (b :: l) = true
    · rw [if_pos hp]
      intro _
      have := (List.isPrefixOf_iff_prefix.1 hp).length_le
      simp at this
      simp; omega
    · rw [if_neg hp]
      intro h
      have := ih h
      simp; omega
theorem cut2_le (t : List UInt8) : (cut2 t).2.1.length ≤ t.length := by
  induction t with
  | nil => simp [cut2]
  | cons b l ih =>
    unfold cut2
    split
    · simp; omega
    · simp; omega
/-- a number of one or two digits, no zero in front -/
def numP : List UInt8 → Option Nat
  | [d] => if 48 ≤ d.toNat ∧ d.toNat ≤ 57 then some (d.toNat - 48) else none
  | [d, e] => if d.toNat ≠ 48 ∧ (48 ≤ d.toNat ∧ d.toNat ≤ 57) ∧ (48 ≤ e.toNat ∧ e.toNat ≤ 57) then some ((d.toNat - 48) * 10 + (e.toNat - 48)) else none
  | _ => none
theorem numP_lt (p : List UInt8) (i : Nat) (h : numP p = some i) : i < 100 := by
  unfold numP at h
  split at h
  · split at h
    · simp at h; omega
    · cases h
  · split at h
    · simp at h; omega
    · cases h
  · cases h
/-- the numbers of a text -/
def tokF : Nat → List UInt8 → Option (List Nat)
  | 0, _ => none
  | f + 1, t => match numP (cut2 t).1 with
    | none => none
    | some i => if (cut2 t).2.2 then (tokF f (cut2 t).2.1).map (i :: ·) else some [i]
theorem tokF_stable (f : Nat) : ∀ (g : Nat) (t : List UInt8), t.length < f → t.length < g → tokF f t = tokF g t := by
  induction f with
  | zero => intro g t h; omega
  | succ f ih =>
    intro g t hf hg
    obtain ⟨g, rfl⟩ : ∃ k, g = k + 1 := ⟨g - 1, by omega⟩
    unfold tokF
    cases numP (cut2 t).1 with
    | none => rfl
    | some i =>
      simp only
      by_cases hm : (cut2 t).2.2 = true
      · have := cut2_len t hm
        rw [if_pos hm, if_pos hm, ih g _ (by omega) (by omega)]
      · rw [if_neg hm, if_neg hm]
def tok (t : List UInt8) : Option (List Nat) := tokF (t.length + 1) t
theorem tok_eq (t : List UInt8) : tok t = match numP (cut2 t).1 with
    | none => none
    | some i => if (cut2 t).2.2 then (tok (cut2 t).2.1).map (i :: ·) else some [i] := by
  conv => lhs; unfold tok tokF
  cases numP (cut2 t).1 with
  | none => rfl
  | some i =>
    simp only
    by_cases hm : (cut2 t).2.2 = true
    · have := cut2_len t hm
      rw [if_pos hm, if_pos hm]
      unfold tok
      rw [tokF_stable t.length ((cut2 t).2.1.length + 1) _ (by omega) (by omega)]
    · rw [if_neg hm, if_neg hm]
/-- what the program makes of the numbers, one after the other -/
def evalP (set last : Int) (rg od : Bool) : List Nat → Int × Nat
  | [] => if rg = false then (0, 3) else if od = false then (0, 13) else (set, 0)
  | i :: r => evalP (bits .or .i64 set (wrap64 (2 ^ min i 64))) (i : Int) (rg && decide ((i : Int) < 24)) (od && decide (last < (i : Int))) r
def ascFrom (last : Int) : List Nat → Bool
  | [] => true
  | n :: r => decide (last < (n : Int)) && ascFrom (n : Int) r
def maskN (acc : Nat) : List Nat → Nat
  | [] => acc
  | n :: r => maskN (acc + 2 ^ n) r
theorem evalP_out (ns : List Nat) : ∀ set last od, evalP set last false od ns = (0, 3) := by
  induction ns with
  | nil => intro set last od; rfl
  | cons i r ih => intro set last od; unfold evalP; rw [Bool.false_and]; exact ih _ _ _
theorem evalP_order (ns : List Nat) : ∀ set last, evalP set last true false ns = if ns.all (· < 24) then (0, 13) else (0, 3) := by
  induction ns with
  | nil => intro set last; rfl
  | cons i r ih =>
    intro set last
    unfold evalP
    rw [Bool.true_and, Bool.false_and, List.all_cons]
    by_cases h : i < 24
    · rw [decide_eq_true (show (i : Int) < 24 by omega), decide_eq_true h, ih, Bool.true_and]
    · rw [decide_eq_false (show ¬ (i : Int) < 24 by omega), decide_eq_false h, evalP_out]; rfl
theorem evalP_eq (ns : List Nat) : ∀ (set : Nat) (last : Int), set < 2 ^ 24 → (∀ i : Nat, last < (i : Int) → set < 2 ^ i) → evalP (set : Int) last true true ns = if ns.all (· < 24) then (if ascFrom last ns then (((maskN set ns : Nat) : Int), (0 : Nat)) else (0, 13)) else (0, 3) := by
  induction ns with
  | nil => intro set last _ _; rfl
  | cons i r ih =>
    intro set last hs hl
    unfold evalP ascFrom maskN
    rw [Bool.true_and, Bool.true_and, List.all_cons]
    by_cases h : i < 24
    · rw [decide_eq_true (show (i : Int) < 24 by omega), decide_eq_true h, Bool.true_and]
      by_cases h2 : last < (i : Int)
      · have hlt := hl i h2
        have hb : set.testBit i = false := Nat.testBit_lt_two_pow hlt
        have hp := pow_lt24 i h
        rw [decide_eq_true h2, Bool.true_and, Nat.min_eq_left (show i ≤ 64 by omega), shlw i h, or_nat set (2 ^ i) (by omega) (by omega), or_bit set i hb]
        refine ih _ _ ?_ ?_
        · rw [← or_bit set i hb]; exact or_lt set i hs h
        · intro j hj
          have : 2 ^ (i + 1) ≤ 2 ^ j := Nat.pow_le_pow_right (by decide) (by omega)
          rw [Nat.pow_succ] at this
          omega
      · rw [decide_eq_false h2, Bool.false_and, evalP_order]
        rfl
    · rw [decide_eq_false (show ¬ (i : Int) < 24 by omega), decide_eq_false h, evalP_out]; rfl
/-- what Parse makes of the text between the braces, which is not empty -/
def parseE (t : List UInt8) : Int × Nat := match tok t with | none => (0, 2) | some ns => evalP 0 (-1) true true ns
end Go.Proofs.YteijndnofihgdaaDoor.Sb
