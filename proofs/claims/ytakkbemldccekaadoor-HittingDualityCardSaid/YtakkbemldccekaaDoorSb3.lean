/-
  Sets of events: the subsets of a set, counted off; lists that ascend in the order of sets.
-/
import Derived.Test.YtakkbemldccekaaDoorSb1
namespace Go.Proofs.YtakkbemldccekaaDoor.Sb
set_option linter.unusedVariables false
theorem and2 (a b : Nat) : a &&& b = (a % 2 &&& b % 2) + 2 * (a / 2 &&& b / 2) := by
  have h1 : (a &&& b) % 2 = (a % 2 &&& b % 2) := Nat.and_mod_two_pow (n := 1)
  have h2 : (a &&& b) / 2 = (a / 2 &&& b / 2) := Nat.and_div_two
  omega
/-- the n-th subset of s, of f bits -/
def pd : Nat → Nat → Nat → Nat
  | 0, _, _ => 0
  | f + 1, s, n => if s % 2 = 1 then n % 2 + 2 * pd f (s / 2) (n / 2) else 2 * pd f (s / 2) n
theorem pd_zero (f : Nat) : ∀ s, pd f s 0 = 0 := by
  induction f with
  | zero => intro s; rfl
  | succ f ih => intro s; unfold pd; split <;> simp [ih]
theorem pd_sub (f : Nat) : ∀ s n, pd f s n &&& s = pd f s n := by
  induction f with
  | zero => intro s n; simp [pd]
  | succ f ih =>
    intro s n
    unfold pd
    split
    · rename_i h
      rw [and2, h, show (n % 2 + 2 * pd f (s / 2) (n / 2)) / 2 = pd f (s / 2) (n / 2) by omega, ih, show (n % 2 + 2 * pd f (s / 2) (n / 2)) % 2 = n % 2 by omega]
      rcases Nat.mod_two_eq_zero_or_one n with h1 | h1 <;> rw [h1] <;> rfl
    · rename_i h
      rw [and2, show (2 * pd f (s / 2) n) / 2 = pd f (s / 2) n by omega, ih, show (2 * pd f (s / 2) n) % 2 = 0 by omega]
      simp
theorem pd_pred (f : Nat) : ∀ s n, 0 < n → n < 2 ^ Lib.popAux f s → 0 < pd f s n ∧ (pd f s n - 1) &&& s = pd f s (n - 1) := by
  induction f with
  | zero => intro s n h1 h2; simp [Lib.popAux] at h2; omega
  | succ f ih =>
    intro s n h1 h2
    rw [Lib.popAux] at h2
    unfold pd
    split
    · rename_i h
      rw [h, Nat.add_comm, Nat.pow_succ] at h2
      rcases Nat.mod_two_eq_zero_or_one n with hn | hn
      · obtain ⟨a, b⟩ := ih (s / 2) (n / 2) (by omega) (by omega)
        rw [hn]
        refine ⟨by omega, ?_⟩
        rw [and2, h, show (0 + 2 * pd f (s / 2) (n / 2) - 1) / 2 = pd f (s / 2) (n / 2) - 1 by omega, b, show (0 + 2 * pd f (s / 2) (n / 2) - 1) % 2 = 1 by omega,
          show (n - 1) % 2 = 1 by omega, show (n - 1) / 2 = n / 2 - 1 by omega]
        rfl
      · rw [hn]
        refine ⟨by omega, ?_⟩
        rw [and2, h, show (1 + 2 * pd f (s / 2) (n / 2) - 1) / 2 = pd f (s / 2) (n / 2) by omega, pd_sub, show (1 + 2 * pd f (s / 2) (n / 2) - 1) % 2 = 0 by omega,
          show (n - 1) % 2 = 0 by omega, show (n - 1) / 2 = n / 2 by omega]
        rfl
    · rename_i h
      have h0 : s % 2 = 0 := by omega
      rw [h0, Nat.zero_add] at h2
      obtain ⟨a, b⟩ := ih (s / 2) n h1 h2
      refine ⟨by omega, ?_⟩
      rw [and2, h0, show (2 * pd f (s / 2) n - 1) / 2 = pd f (s / 2) n - 1 by omega, b, Nat.and_zero, Nat.zero_add]
theorem pd_full (f : Nat) : ∀ s, s < 2 ^ f → pd f s (2 ^ Lib.popAux f s - 1) = s := by
  induction f with
  | zero => intro s h; simp at h; subst h; rfl
  | succ f ih =>
    intro s h
    rw [Nat.pow_succ] at h
    have := ih (s / 2) (by omega)
    have hp : 0 < 2 ^ Lib.popAux f (s / 2) := Nat.pow_pos (by decide)
    unfold pd
    rw [Lib.popAux]
    split
    · rename_i h1
      rw [h1, Nat.add_comm 1, Nat.pow_succ, show (2 ^ Lib.popAux f (s / 2) * 2 - 1) / 2 = 2 ^ Lib.popAux f (s / 2) - 1 by omega, this]
      omega
    · rename_i h1
      have h0 : s % 2 = 0 := by omega
      rw [h0, Nat.zero_add, this]; omega
theorem pd_surj (f : Nat) : ∀ s x, x < 2 ^ f → x &&& s = x → ∃ n, n < 2 ^ Lib.popAux f s ∧ pd f s n = x := by
  induction f with
  | zero => intro s x h _; simp at h; subst h; exact ⟨0, by simp [Lib.popAux], rfl⟩
  | succ f ih =>
    intro s x hx h
    rw [Nat.pow_succ] at hx
    rw [and2] at h
    have hm : (x % 2 &&& s % 2) < 2 := Nat.lt_of_le_of_lt Nat.and_le_left (by omega)
    obtain ⟨n, hn, e⟩ := ih (s / 2) (x / 2) (by omega) (by omega)
    have hlow : x % 2 &&& s % 2 = x % 2 := by omega
    rw [Lib.popAux]
    rcases Nat.mod_two_eq_zero_or_one s with h0 | h0
    · rw [h0, Nat.and_zero] at hlow
      refine ⟨n, by rw [h0, Nat.zero_add]; exact hn, ?_⟩
      unfold pd
      rw [if_neg (by omega), e]; omega
    · refine ⟨2 * n + x % 2, by rw [h0, Nat.add_comm 1, Nat.pow_succ]; omega, ?_⟩
      unfold pd
      rw [if_pos h0, show (2 * n + x % 2) / 2 = n by omega, e]; omega
theorem pd_mono (f s : Nat) (n m : Nat) (h : n < m) (hm : m < 2 ^ Lib.popAux f s) : pd f s n < pd f s m := by
  induction m with
  | zero => omega
  | succ m ih =>
    obtain ⟨a, b⟩ := pd_pred f s (m + 1) (by omega) hm
    rw [Nat.add_sub_cancel] at b
    have hle : pd f s m ≤ pd f s (m + 1) - 1 := by rw [← b]; exact Nat.and_le_left
    rcases Nat.eq_or_lt_of_le (Nat.le_of_lt_succ h) with e | e
    · subst e; omega
    · have := ih e (by omega); omega
/-- how many subsets -/
def cnt (s : Nat) : Nat := 2 ^ pc s
theorem cnt_pop (s : Nat) : cnt s = 2 ^ Lib.popAux 24 s := by unfold cnt; rw [pc_pop]
theorem cnt_pos (s : Nat) : 0 < cnt s := Nat.pow_pos (by decide)
/-- the first m of the subsets, going down -/
def dl (s m : Nat) : List Nat := (List.range m).map fun j => pd 24 s (cnt s - 1 - j)
theorem dl_succ (s m : Nat) : dl s (m + 1) = dl s m ++ [pd 24 s (cnt s - 1 - m)] := by unfold dl; rw [List.range_succ, List.map_append]; rfl
theorem dl_len (s m : Nat) : (dl s m).length = m := by simp [dl]
theorem dl_mem (s : Nat) (hs : s < 2 ^ 24) (x : Nat) : x ∈ dl s (cnt s) ↔ x < 2 ^ 24 ∧ x &&& s = x := by
  unfold dl
  simp only [List.mem_map, List.mem_range]
  constructor
  · rintro ⟨j, hj, rfl⟩
    exact ⟨Nat.lt_of_le_of_lt (by rw [← pd_sub 24 s]; exact Nat.and_le_right) hs, pd_sub _ _ _⟩
  · rintro ⟨h1, h2⟩
    obtain ⟨n, hn, e⟩ := pd_surj 24 s x h1 h2
    rw [← cnt_pop] at hn
    exact ⟨cnt s - 1 - n, by omega, by rw [show cnt s - 1 - (cnt s - 1 - n) = n by omega, e]⟩
theorem pd_lt (s n : Nat) (hs : s < 2 ^ 24) : pd 24 s n < 2 ^ 24 := Nat.lt_of_le_of_lt (by rw [← pd_sub 24 s]; exact Nat.and_le_right) hs
theorem dl_nodup (s : Nat) : (dl s (cnt s)).Nodup := by
  unfold dl List.Nodup
  rw [List.pairwise_map]
  refine List.Pairwise.imp_of_mem ?_ List.pairwise_lt_range
  intro a b ha hb hab
  rw [List.mem_range] at ha hb
  have := pd_mono 24 s (cnt s - 1 - b) (cnt s - 1 - a) (by omega) (by rw [← cnt_pop]; omega)
  omega
/-- a list that ascends strictly in the order of sets -/
def Asc (l : List Nat) : Prop := l.Pairwise fun a b => cmpS a b < 0
theorem asc_eq : ∀ (l k : List Nat), Asc l → Asc k → (∀ x, x ∈ l ↔ x ∈ k) → l = k := by
  intro l
  induction l with
  | nil =>
    intro k _ _ h
    rcases k with _ | ⟨y, k⟩
    · rfl
    · exact absurd ((h y).2 (List.mem_cons_self ..)) (by simp)
  | cons x l ih =>
    intro k hl hk h
    rcases k with _ | ⟨y, k⟩
    · exact absurd ((h x).1 (List.mem_cons_self ..)) (by simp)
    · unfold Asc at hl hk
      rw [List.pairwise_cons] at hl hk
      have exy : x = y := by
        refine Classical.byContradiction fun hne => ?_
        have h1 : x ∈ k := by
          rcases List.mem_cons.1 ((h x).1 (List.mem_cons_self ..)) with e | e
          · exact absurd e hne
          · exact e
        have h2 : y ∈ l := by
          rcases List.mem_cons.1 ((h y).2 (List.mem_cons_self ..)) with e | e
          · exact absurd e.symm hne
          · exact e
        have a := hl.1 y h2
        have b := hk.1 x h1
        rw [cmpS_neg] at a
        omega
      subst exy
      have irr : ∀ a, ¬ cmpS a a < 0 := fun a h => by have := (cmpS_eq a a).2 rfl; omega
      rw [ih k hl.2 hk.2 fun z => ?_]
      constructor
      · intro hz
        rcases List.mem_cons.1 ((h z).1 (List.mem_cons_of_mem _ hz)) with e | e
        · subst e; exact absurd (hl.1 _ hz) (irr _)
        · exact e
      · intro hz
        rcases List.mem_cons.1 ((h z).2 (List.mem_cons_of_mem _ hz)) with e | e
        · subst e; exact absurd (hk.1 _ hz) (irr _)
        · exact e
end Go.Proofs.YtakkbemldccekaaDoor.Sb
