/-
  Formulas that are accepted have plain numbers.
-/
import Derived.Test.YtmkogcaafkobaaaFe
import Derived.Test.YtmkogcaafkobaaaSb0
namespace Go.Proofs.Ytmkogcaafkobaaa.Fm
open Go.RowKit Go.Proofs.Ytmkogcaafkobaaa.Sb
set_option linter.unusedVariables false
set_option maxRecDepth 100000
def Nn.raw (x : Nn) : Nd := ⟨(x.kind : Int), (x.k : Int), ints x.args⟩
def natN (x : Nd) : Nn := ⟨x.kind.toNat, x.k.toNat, x.args.map Int.toNat⟩
def rawL (l : List Nn) : List Nd := l.map Nn.raw
/-- the formula with plain numbers -/
def fnOf (vars : Int) (xs : List Nd) (top : Int) : Fn := ⟨vars.toNat, xs.map natN, top.toNat⟩
theorem raw_len (l : List Nn) : (rawL l).length = l.length := by simp [rawL]
theorem raw_get (f : Fn) (i : Nat) : (rawL f.nodes).getD i Nd.z = (f.nd i).raw := by
  unfold rawL Fn.nd
  rw [List.getD_eq_getElem?_getD, List.getElem?_map, List.getD_eq_getElem?_getD]
  cases f.nodes[i]? <;> rfl
theorem ints_back (l : List Int) (h : ∀ a ∈ l, 0 ≤ a) : ints (l.map Int.toNat) = l := by
  induction l with
  | nil => rfl
  | cons a l ih =>
    have h1 := h a List.mem_cons_self
    have h2 := ih fun b hb => h b (List.mem_cons_of_mem _ hb)
    have e : ints ((a :: l).map Int.toNat) = (a.toNat : Int) :: ints (l.map Int.toNat) := rfl
    rw [e, h2, Int.toNat_of_nonneg h1]
theorem ndErr_zero {m : Int} {x : Nd} (h : ndErr m x = 0) : 0 ≤ x.kind ∧ 0 ≤ x.k ∧ (∀ a ∈ x.args, 0 ≤ a ∧ a < m) ∧ (natN x).raw = x := by
  unfold ndErr at h
  split at h
  · omega
  rename_i h1
  split at h
  · omega
  rename_i h2
  split at h
  · omega
  rename_i h3
  have hk : 0 ≤ x.k := by
    unfold kErr at h
    split at h
    · split at h
      · omega
      · omega
    · split at h
      · split at h
        · omega
        · omega
      · split at h
        · omega
        · omega
  have ha : ∀ a ∈ x.args, 0 ≤ a ∧ a < m := fun a ha => by
    have : ¬ badA m a := fun hb => h3 ⟨a, ha, hb⟩
    unfold badA at this
    omega
  refine ⟨by omega, hk, ha, ?_⟩
  obtain ⟨kind, k, args⟩ := x
  unfold natN Nn.raw
  simp only at *
  rw [Int.toNat_of_nonneg (by omega), Int.toNat_of_nonneg hk, ints_back _ fun a h => (ha a h).1]
theorem ints_mem {l : List Nat} {a : Int} (h : a ∈ ints l) : ∃ b ∈ l, (b : Int) = a := by
  obtain ⟨b, hb, e⟩ := List.mem_map.1 h
  exact ⟨b, hb, e⟩
/-- a node is without error exactly if .. -/
theorem ndErr_ok (m : Nat) (x : Nn) : ndErr (m : Int) x.raw = 0 ↔ okN m x := by
  obtain ⟨kind, k, args⟩ := x
  unfold ndErr okN kErr leastA mostA badA Nn.raw
  simp only [ints_length]
  have hex : (∃ a ∈ ints args, a < 0 ∨ (m : Int) ≤ a) ↔ ¬ ∀ a ∈ args, a < m := by
    constructor
    · rintro ⟨a, ha, hb⟩ hall
      obtain ⟨b, hb1, rfl⟩ := ints_mem ha
      have := hall b hb1
      omega
    · intro hn
      rcases Classical.em (∃ a ∈ args, ¬ a < m) with ⟨a, ha, hb⟩ | h
      · exact ⟨(a : Int), List.mem_map.2 ⟨a, ha, rfl⟩, .inr (by omega)⟩
      · exact absurd (fun a ha => Classical.byContradiction fun hb => h ⟨a, ha, hb⟩) hn
  have nil_iff : args = [] ↔ args.length = 0 := by
    cases args <;> simp
  rw [nil_iff]
  by_cases hall : ∀ a ∈ args, a < m
  · have hne : ¬ ∃ a ∈ ints args, a < 0 ∨ (m : Int) ≤ a := by rw [hex]; exact fun h => h hall
    rw [if_neg hne]
    clear hex hne nil_iff
    have hall2 : (∀ a ∈ args, a < m) ↔ True := by simp only [iff_true]; exact hall
    rw [hall2, true_and]
    clear hall hall2
    generalize args.length = n
    repeat' split
    all_goals omega
  · have hne : ∃ a ∈ ints args, a < 0 ∨ (m : Int) ≤ a := hex.2 hall
    rw [if_pos hne]
    clear hne hex nil_iff
    constructor
    · intro h
      exfalso
      clear hall
      repeat' split at h
      all_goals exact absurd h (by decide)
    · rintro ⟨_, _, _, _, h, _⟩
      exact absurd h hall
theorem chk_parts {vars top : Int} {xs : List Nd} (h : chk vars xs top = 0) : 0 ≤ vars ∧ vars ≤ 24 ∧ xs.length ≤ 128 ∧ chkL vars xs = 0 ∧ validB vars xs.length top = true := by
  unfold chk at h
  split at h
  · omega
  split at h
  · omega
  split at h
  · omega
  split at h
  · exact ⟨by omega, by omega, by omega, by omega, by assumption⟩
  · omega
theorem chkL_nd {m : Int} {l : List Nd} (h : chkL m l = 0) : ∀ i, i < l.length → ndErr (m + i) (l.getD i Nd.z) = 0 := by
  induction l generalizing m with
  | nil => intro i hi; simp at hi
  | cons x l ih =>
    rw [chkL] at h
    split at h
    · omega
    rename_i h1
    intro i hi
    cases i with
    | zero => simp at h1 ⊢; exact h1
    | succ i =>
      have := ih h i (by simpa using hi)
      rw [show m + ((i + 1 : Nat) : Int) = m + 1 + (i : Int) by omega]
      simpa using this
theorem chk_zero {vars top : Int} {xs : List Nd} (h : chk vars xs top = 0) : ∃ f : Fn, WF f ∧ vars = (f.vars : Int) ∧ xs = rawL f.nodes ∧ top = (f.top : Int) := by
  obtain ⟨h1, h2, h3, h4, h5⟩ := chk_parts h
  have hnd := chkL_nd h4
  have ht : 0 ≤ top ∧ top - (xs.length : Int) < vars := by
    unfold validB at h5
    simp at h5
    omega
  have hraw : xs = rawL (xs.map natN) := by
    unfold rawL
    rw [List.map_map]
    symm
    conv => rhs; rw [← List.map_id xs]
    refine List.map_congr_left fun x hx => ?_
    obtain ⟨i, hi, rfl⟩ := List.mem_iff_getElem.1 hx
    have := hnd i hi
    have e : xs.getD i Nd.z = xs[i] := by simp [hi]
    rw [e] at this
    exact (ndErr_zero this).2.2.2
  refine ⟨fnOf vars xs top, ⟨by unfold fnOf; simp only; omega, by unfold fnOf; simpa using h3, fun i hi => ?_, by unfold fnOf; simp only [List.length_map]; omega⟩, by unfold fnOf; simp only; omega, hraw, by unfold fnOf; simp only; omega⟩
  have hi' : i < xs.length := by unfold fnOf at hi; simpa using hi
  have h6 := hnd i hi'
  have h7 := raw_get (fnOf vars xs top) i
  have h8 : rawL (fnOf vars xs top).nodes = xs := hraw.symm
  rw [h8] at h7
  rw [h7] at h6
  have e : vars + (i : Int) = (((fnOf vars xs top).vars + i : Nat) : Int) := by unfold fnOf; simp only; omega
  rw [e] at h6
  exact (ndErr_ok _ _).1 h6
theorem chk_ok {f : Fn} (h : WF f) : chk (f.vars : Int) (rawL f.nodes) (f.top : Int) = 0 := by
  obtain ⟨h1, h2, h3, h4⟩ := h
  have hz : chkL (f.vars : Int) (rawL f.nodes) = 0 := chkL_all _ _ fun i hi => by
    rw [raw_len] at hi
    rw [raw_get, show (f.vars : Int) + (i : Int) = ((f.vars + i : Nat) : Int) by omega]
    exact (ndErr_ok _ _).2 (h3 i hi)
  unfold chk
  rw [if_neg (by omega), raw_len, if_neg (by omega), hz, if_neg (fun h => h rfl), if_pos]
  unfold validB
  simp
  omega
end Go.Proofs.Ytmkogcaafkobaaa.Fm
