/-
  Package sets and its specification: Binomial, for any two ints.
-/
import Derived.Test.YtibkpglgeincdaaDoorSc2
import Derived.Test.YtibkpglgeincdaaDoorSg1
import Derived.Deep.RegionHeld3
namespace Go.Proofs.YtibkpglgeincdaaDoor.Sb
open Go.RowKit
set_option linter.unusedVariables false
set_option maxRecDepth 100000
def rowOk (n : Nat) : Nat → List Nat → Bool
  | i, a :: b :: r => (a * (n - i) == b * (i + 1)) && (decide (a * (n - i) < 4611686018427387904) && rowOk n (i + 1) (b :: r))
  | _, _ => true
def rowsOk : Nat → Nat → List Nat → Bool
  | 0, _, _ => true
  | f + 1, n, r => rowOk n 0 r && rowsOk f (n + 1) (nextRow r)
theorem rows61 : rowsOk 61 0 [1] = true := by decide +kernel
theorem rows_at : ∀ (f n : Nat), rowsOk f n (rowP n) = true → ∀ j, j < f → rowOk (n + j) 0 (rowP (n + j)) = true := by
  intro f
  induction f with
  | zero => intro n _ j hj; omega
  | succ f ih =>
    intro n h j hj
    rw [rowsOk, Bool.and_eq_true] at h
    rcases j with _ | j
    · exact h.1
    · have := ih (n + 1) h.2 j (by omega)
      rwa [show n + 1 + j = n + (j + 1) by omega] at this
theorem row_ok (n : Nat) (h : n ≤ 60) : rowOk n 0 (rowP n) = true := by
  have := rows_at 61 0 rows61 n (by omega)
  rwa [Nat.zero_add] at this
theorem rowOk_at (n : Nat) : ∀ (L : List Nat) (i : Nat), rowOk n i L = true → ∀ j, j + 1 < L.length → L.getD j 0 * (n - (i + j)) = L.getD (j + 1) 0 * (i + j + 1) ∧ L.getD j 0 * (n - (i + j)) < 4611686018427387904 := by
  intro L
  induction L with
  | nil => intro i _ j hj; simp at hj
  | cons a L ih =>
    intro i h j hj
    rcases L with _ | ⟨b, r⟩
    · simp at hj
    · rw [rowOk, Bool.and_eq_true, Bool.and_eq_true] at h
      obtain ⟨h1, h2, h3⟩ := h
      rcases j with _ | j
      · exact ⟨by simpa using h1, by simpa using of_decide_eq_true h2⟩
      · have := ih (i + 1) h3 j (by simpa using hj)
        rw [show i + 1 + j = i + (j + 1) by omega] at this
        simpa using this
theorem rowP_len (n : Nat) : (rowP n).length = n + 1 := by
  induction n with
  | zero => rfl
  | succ n ih => simp only [rowP, nextRow, List.length_cons, List.length_append, List.length_zipWith, List.length_drop, List.length_nil]; omega
theorem rowP_head (n : Nat) : bn n 0 = 1 := by
  unfold bn
  cases n <;> rfl
theorem bn60 (n : Nat) (h : n ≤ 60) : (∀ i, i < n → bn n i * (n - i) = bn n (i + 1) * (i + 1) ∧ bn n i * (n - i) < 4611686018427387904) := by
  intro i hi
  have := rowOk_at n _ 0 (row_ok n h) i (by rw [rowP_len]; omega)
  rw [Nat.zero_add] at this
  exact this
theorem bn60_lt (n : Nat) (h : n ≤ 60) (i : Nat) : bn n i < 4611686018427387904 := by
  by_cases hi : i < n
  · have h1 := (bn60 n h i hi).2
    have : bn n i * 1 ≤ bn n i * (n - i) := Nat.mul_le_mul_left _ (by omega)
    omega
  · by_cases hi2 : i = n
    · subst hi2
      rcases i with _ | i
      · rw [rowP_head]; decide
      · have h1 := bn60 (i + 1) h i (by omega)
        have h2 : bn (i + 1) (i + 1) * 1 ≤ bn (i + 1) (i + 1) * (i + 1) := Nat.mul_le_mul_left _ (by omega)
        omega
    · have : bn n i = 0 := by
        unfold bn
        rw [List.getD_eq_getElem?_getD, List.getElem?_eq_none (by rw [rowP_len]; omega)]; rfl
      omega
theorem bin_step60 (n i c c2 : Nat) (h : c * (n - i) = c2 * (i + 1)) (hi : i < n) (hc : c * (n - i) < 4611686018427387904) : wrap64 ((c : Int) * ((n : Int) - (i : Int))) = ((c2 : Int) * ((i : Int) + 1)) ∧ ((c2 : Int) * ((i : Int) + 1)).tdiv ((i : Int) + 1) = (c2 : Int) := by
  have e1 : (c : Int) * ((n : Int) - (i : Int)) = ((c * (n - i) : Nat) : Int) := by
    rw [Int.natCast_mul]; congr 1; omega
  have e2 : (c2 : Int) * ((i : Int) + 1) = ((c2 * (i + 1) : Nat) : Int) := by rw [Int.natCast_mul]; rfl
  constructor
  · rw [e1, e2, ← h]
    generalize c * (n - i) = z at *
    clear h e1 e2
    unfold wrap64; omega
  · exact Int.mul_tdiv_cancel _ (by omega)
theorem wr62 (c : Nat) (h : c < 4611686018427387904) : wrap64 (c : Int) = (c : Int) := by unfold wrap64; omega
set_option maxHeartbeats 1000000 in
theorem binomial60_any (w : World) (n k : Nat) (hn : n ≤ 60) (hk : k ≤ n) :
    Calls Tryd.prog 24 #[.int .i64 (n : Int), .int .i64 (k : Int)] w fun e w' => e = .returned (.int .i64 (bn n k : Nat)) ∧ w = w' := by
  have b0 := rowP_head n
  have bs := bn60 n hn
  have bl := bn60_lt n hn
  go_enter Tryd.func24, Tryd.ntmps24
  go_wp2
  go_loop [5, 8] (fun c i => ∃ j : Nat, j ≤ k ∧ i = .int .i64 (j : Int) ∧ c = .int .i64 (bn n j : Nat)) (fun _ i => k - (intOf i).toNat)
  case atStart => exact ⟨0, by omega, rfl, by rw [b0]; rfl⟩
  case round =>
    obtain ⟨j, hj, rfl, rfl⟩ := hrel
    by_cases hlt : j < k
    · obtain ⟨h1, h2⟩ := bs j (by omega)
      have h3 := bl (j + 1)
      obtain ⟨c, hc⟩ : ∃ c, bn n j = c := ⟨_, rfl⟩
      obtain ⟨c2, hc2⟩ : ∃ c, bn n (j + 1) = c := ⟨_, rfl⟩
      rw [hc] at h1 h2 ⊢
      rw [hc2] at h1 h3
      have hw := wr62 c2 h3
      have HC2 := Lib.hid hc2
      obtain ⟨s1, s2⟩ := bin_step60 n j c c2 h1 (Nat.lt_of_lt_of_le hlt hk) h2
      have hj1 : ¬ ((j : Int) + 1) = 0 := by clear s1 s2 h1 hw h2 h3; omega
      have hj2 : wrap64 ((j : Int) + 1) = (j : Int) + 1 := by clear s1 s2 h1 hw h2 h3; unfold wrap64; omega
      have hj3 : wrap64 ((n : Int) - (j : Int)) = (n : Int) - (j : Int) := by clear s1 s2 h1 hj2 hw h2 h3; unfold wrap64; omega
      clear bs bl b0 h1 hc hc2 h2 h3
      go_wp2
      clear s1 s2
      refine ⟨⟨j + 1, hlt, by go_num, ?_⟩, by clear hw; simp [intOf]; omega⟩
      rw [HC2.out, hw]
    · obtain rfl : j = k := by omega
      clear bs bl b0
      go_wp2
      go_ret
      exact ⟨rfl, rfl⟩
/-- what Binomial answers -/
def binR (n k : Int) : Nat × Nat := if n < 0 ∨ 60 < n then (0, 3) else if k < 0 ∨ n < k then (0, 0) else (bn n.toNat k.toNat, 0)
set_option maxHeartbeats 1000000 in
theorem Binomial_all (w : World) (n k : Int) :
    Calls Tryd.prog 9 #[.int .i64 n, .int .i64 k] w fun e w' => e = .returned (.tuple #[.int .i64 ((binR n k).1 : Nat), errV (binR n k).2]) ∧ w = w' := by
  unfold binR
  by_cases h : n < 0 ∨ 60 < n
  · rw [if_pos h]
    show Calls _ _ _ _ fun e w' => e = .returned (.tuple #[.int .i64 0, errV 3]) ∧ w = w'
    rw [errV_pos 3 (by decide)]
    rcases h with h | h
    · go_enter Tryd.func9, Tryd.ntmps9
      go_wp2
      go_ret2
      exact ⟨rfl, rfl⟩
    · have h2 : ¬ n < 0 := by omega
      go_enter Tryd.func9, Tryd.ntmps9
      go_wp2
      go_ret2
      exact ⟨rfl, rfl⟩
  · rw [if_neg h]
    have h1 : ¬ n < 0 := by omega
    have h2 : ¬ 60 < n := by omega
    by_cases hk : k < 0 ∨ n < k
    · rw [if_pos hk]
      show Calls _ _ _ _ fun e w' => e = .returned (.tuple #[.int .i64 0, .nilIface]) ∧ w = w'
      clear h
      rcases hk with hk | hk
      · go_enter Tryd.func9, Tryd.ntmps9
        go_wp2
        go_ret2
        exact ⟨rfl, rfl⟩
      · have h3 : ¬ k < 0 := by omega
        go_enter Tryd.func9, Tryd.ntmps9
        go_wp2
        go_ret2
        exact ⟨rfl, rfl⟩
    · rw [if_neg hk]
      obtain ⟨a, rfl⟩ : ∃ a : Nat, n = (a : Int) := ⟨n.toNat, by omega⟩
      obtain ⟨b, rfl⟩ : ∃ b : Nat, k = (b : Int) := ⟨k.toNat, by omega⟩
      rw [Int.toNat_natCast, Int.toNat_natCast]
      have hB := fun W => binomial60_any W a b (by omega) (by omega)
      generalize bn a b = z at *
      have k1 : ¬ (b : Int) < 0 := by omega
      have k2 : ¬ (a : Int) < (b : Int) := by omega
      clear h hk
      show Calls _ _ _ _ fun e w' => e = .returned (.tuple #[.int .i64 (z : Int), .nilIface]) ∧ w = w'
      go_enter Tryd.func9, Tryd.ntmps9
      go_wp2_with (refine (hB _).mono ?_; rintro e w' ⟨rfl, rfl⟩)
      go_ret2
      exact ⟨rfl, rfl⟩
end Go.Proofs.YtibkpglgeincdaaDoor.Sb
