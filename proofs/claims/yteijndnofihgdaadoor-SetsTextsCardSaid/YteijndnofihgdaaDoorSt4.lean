/-
  Texts of sets: reading number by number is reading piece by piece.
-/
import Derived.Test.YteijndnofihgdaaDoorSt3
namespace Go.Proofs.YteijndnofihgdaaDoor.Sb
open Go.RowKit Go.Lib
set_option linter.unusedVariables false
set_option maxRecDepth 100000
theorem cut2_sep (r : List UInt8) : cut2 (44 :: 32 :: r) = ([], r, true) := by
  unfold cut2
  rw [if_pos (by simp [List.isPrefixOf])]; rfl
theorem cut2_cons (b : UInt8) (l : List UInt8) (h : ¬ (b = 44 ∧ ∃ r, l = 32 :: r)) : cut2 (b :: l) = (b :: (cut2 l).1, (cut2 l).2.1, (cut2 l).2.2) := by
  conv => lhs; unfold cut2
  rw [if_neg]
  intro hp
  apply h
  rcases l with _ | ⟨c, r⟩
  · simp [List.isPrefixOf] at hp
  · simp [List.isPrefixOf] at hp
    exact ⟨hp.1.symm, r, by rw [hp.2]⟩
theorem dg_ne (d : UInt8) (h : dg d) : d ≠ 44 := by
  rintro rfl
  exact absurd h.1 (by decide)
theorem numP_not (d : UInt8) (x : List UInt8) (h : ¬ dg d) : numP (d :: x) = none := by
  rcases x with _ | ⟨e, _ | ⟨f, r⟩⟩
  · exact if_neg h
  · exact if_neg fun a => h a.2.1
  · rfl
theorem numP_not2 (d e : UInt8) (x : List UInt8) (h : ¬ dg e) : numP (d :: e :: x) = none := by
  rcases x with _ | ⟨f, r⟩
  · exact if_neg fun a => h a.2.2
  · rfl
/-- how far the reading has come: what is left, what is read, what the whole is -/
def St (T : Option (List Nat)) (rest : List UInt8) (acc : List Nat) : Prop :=
  (rest = [] ∧ T = some acc) ∨ (∃ t, rest = 44 :: 32 :: t ∧ T = (tok t).map (acc ++ ·)) ∨ (rest ≠ [] ∧ (¬ ∃ t, rest = 44 :: 32 :: t) ∧ T = none)
theorem tok_of (t a b : List UInt8) (f : Bool) (h : cut2 t = (a, b, f)) : tok t = match numP a with | none => none | some i => if f then (tok b).map (i :: ·) else some [i] := by
  rw [tok_eq, h]
  simp only
  cases numP a <;> rfl
/-- behind the digits of a number -/
theorem st_after (t : List UInt8) (p : List UInt8) (r : List UInt8) (n : Nat) (hn : numP p = some n) (h1 : cut2 t = (p ++ (cut2 r).1, (cut2 r).2.1, (cut2 r).2.2)) (h3 : ∀ c x, r = c :: x → (¬ ∃ y, r = 44 :: 32 :: y) → numP (p ++ c :: (cut2 x).1) = none) : St (tok t) r [n] := by
  rcases r with _ | ⟨c, x⟩
  · have : cut2 t = (p, [], false) := by rw [h1]; simp [cut2]
    rw [tok_of t _ _ _ this, hn]
    exact .inl ⟨rfl, rfl⟩
  · by_cases hs : ∃ y, (c :: x) = 44 :: 32 :: y
    · obtain ⟨y, hy⟩ := hs
      have : cut2 t = (p, y, true) := by rw [h1, hy, cut2_sep]; simp
      rw [tok_of t _ _ _ this, hn]
      exact .inr (.inl ⟨y, hy, rfl⟩)
    · have hc : ¬ (c = 44 ∧ ∃ r, x = 32 :: r) := by
        rintro ⟨rfl, r, rfl⟩
        exact hs ⟨r, rfl⟩
      have h2 := h3 c x rfl hs
      have : cut2 t = (p ++ c :: (cut2 x).1, (cut2 x).2.1, (cut2 x).2.2) := by rw [h1, cut2_cons c x hc]
      rw [tok_of t _ _ _ this, h2]
      exact .inr (.inr ⟨by simp, hs, rfl⟩)
theorem numL_spec (t : List UInt8) : ((numL t).2 = 0 → tok t = none) ∧ ((numL t).2 ≠ 0 → (numL t).2 ≤ t.length ∧ (numL t).1 < 100 ∧ St (tok t) (t.drop (numL t).2) [(numL t).1]) := by
  rcases t with _ | ⟨d, l⟩
  · refine ⟨fun _ => ?_, fun h => absurd rfl h⟩
    rw [tok_of [] [] [] false rfl]; rfl
  · by_cases h : dg d
    · have hd44 := dg_ne d h
      have hc := cut2_cons d l (fun e => hd44 e.1)
      rcases l with _ | ⟨e, r⟩
      · rw [numL_one, if_pos h]
        refine ⟨fun e => absurd e (by simp), fun _ => ⟨by simp, by have := h.2; show d.toNat - 48 < 100; omega, ?_⟩⟩
        have hp : numP [d] = some (d.toNat - 48) := if_pos h
        rw [tok_of [d] [d] [] false (by rw [hc]; simp [cut2]), hp]
        exact .inl ⟨rfl, rfl⟩
      · rw [numL_two, if_pos h]
        by_cases h2 : dg e
        · have he44 := dg_ne e h2
          have hc2 := cut2_cons e r (fun x => he44 x.1)
          rw [hc2] at hc
          rw [if_pos h2]
          by_cases h3 : d.toNat = 48
          · rw [if_pos h3]
            refine ⟨fun _ => ?_, fun e => absurd rfl e⟩
            rw [tok_of _ _ _ _ hc]
            have : numP (d :: e :: (cut2 r).1) = none := by
              rcases (cut2 r).1 with _ | ⟨f, z⟩
              · exact if_neg fun a => a.1 h3
              · rfl
            rw [this]
          · rw [if_neg h3]
            have hp : numP [d, e] = some ((d.toNat - 48) * 10 + (e.toNat - 48)) := if_pos ⟨h3, h, h2⟩
            refine ⟨fun e => absurd e (by simp), fun _ => ⟨by simp, numP_lt _ _ hp, ?_⟩⟩
            exact st_after _ [d, e] r _ hp hc (fun c x _ _ => rfl)
        · rw [if_neg h2]
          have hp : numP [d] = some (d.toNat - 48) := if_pos h
          refine ⟨fun e => absurd e (by simp), fun _ => ⟨by simp, numP_lt _ _ hp, ?_⟩⟩
          exact st_after _ [d] (e :: r) _ hp hc (fun c x hcx _ => by
            have : e = c := (List.cons.inj hcx).1
            subst this
            exact numP_not2 d e _ h2)
    · have hk : (numL (d :: l)).2 = 0 := by
        rcases l with _ | ⟨e, r⟩
        · rw [numL_one, if_neg h]
        · rw [numL_two, if_neg h]
      refine ⟨fun _ => ?_, fun e => absurd hk e⟩
      by_cases hs : d = 44 ∧ ∃ r, l = 32 :: r
      · obtain ⟨rfl, r, rfl⟩ := hs
        rw [tok_of _ _ _ _ (cut2_sep r)]; rfl
      · rw [tok_of _ _ _ _ (cut2_cons d l hs), numP_not d _ h]
theorem st_step {T : Option (List Nat)} {t r : List UInt8} {acc : List Nat} {n : Nat} (h : T = (tok t).map (acc ++ ·)) (k : St (tok t) r [n]) : St T r (acc ++ [n]) := by
  rcases k with ⟨e, e2⟩ | ⟨y, e, e2⟩ | ⟨e, e1, e2⟩
  · exact .inl ⟨e, by rw [h, e2]; rfl⟩
  · refine .inr (.inl ⟨y, e, ?_⟩)
    rw [h, e2]
    cases tok y with
    | none => rfl
    | some z => simp
  · exact .inr (.inr ⟨e, e1, by rw [h, e2]; rfl⟩)
/-- what Parse makes of the numbers, as the specification computes it -/
def endR (ns : List Nat) : Nat × Nat := if ns.all (· < 24) then (if ascFrom (-1) ns then (maskN 0 ns, 0) else (0, 13)) else (0, 3)
theorem restE_end (t : List UInt8) : restE 0 (-1) true true t = match tok t with | none => (0, 2) | some ns => (((endR ns).1 : Nat), (endR ns).2) := by
  unfold restE
  cases tok t with
  | none => rfl
  | some ns =>
    have h := evalP_eq ns 0 (-1) (by decide) (fun i hi => Nat.pow_pos (by decide))
    simp only
    refine Eq.trans h ?_
    unfold endR
    by_cases h1 : ns.all (· < 24) = true
    · rw [if_pos h1, if_pos h1]
      by_cases h2 : ascFrom (-1) ns = true
      · rw [if_pos h2, if_pos h2]
      · rw [if_neg h2, if_neg h2]; rfl
    · rw [if_neg h1, if_neg h1]; rfl
end Go.Proofs.YteijndnofihgdaaDoor.Sb
