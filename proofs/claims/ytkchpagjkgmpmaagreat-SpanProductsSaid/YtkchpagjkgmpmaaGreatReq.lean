/-
  Equality of lists of words and of fractions, as the statements' helpers tell it.
-/
import Derived.Test.YtkchpagjkgmpmaaGreatRexp
namespace Go.Proofs.YtkchpagjkgmpmaaGreat
open Go.RowKit
set_option linter.unusedVariables false
namespace Num
set_option maxRecDepth 100000 in
set_option maxHeartbeats 1600000 in
theorem words_eq (w : World) (A A' : Option Addr) (n c c' : Nat) (xs : List Nat) (R : Rd w A n c xs) (R' : Rd w A' n c' xs) :
    Calls Tryz.prog 52 #[.slice A n c, .slice A' n c'] w fun e w' => e = .returned (.bool true) ∧ On w w' := by
  have hcap := R.cap
  have hmax := R.max
  go_enter Tryz.func52, Tryz.ntmps52
  go_wp2
  go_loopw [13] (fun i wr => ∃ k : Nat, k ≤ n ∧ i = .int .i64 k ∧ On w wr) (fun i _ => n - (intOf i).toNat)
  case atStart => exact ⟨0, Nat.zero_le _, rfl, On.refl _⟩
  case round =>
    obtain ⟨k, hk, rfl, hon⟩ := hrel
    by_cases hlt : k < n
    · obtain ⟨ad, rfl, hb, hc⟩ := (R.on hon).at_ k hlt
      obtain ⟨ad', rfl, hb', hc'⟩ := (R'.on hon).at_ k hlt
      go_wp2
      go_quiet (fail)
      go_wp2
      exact ⟨⟨k + 1, by omega, by go_num, hon.drewN nq⟩, by simp [intOf]; omega⟩
    · go_wp2
      go_ret
      exact ⟨rfl, hon⟩
set_option maxRecDepth 100000 in
set_option maxHeartbeats 1600000 in
theorem words_at (w : World) (A A' : Option Addr) (n c c' : Nat) (xs ys : List Nat) (R : Rd w A n c xs) (R' : Rd w A' n c' ys) (m : Nat) (hm : m < n) (he : ∀ j, j < m → gw xs j = gw ys j) (hne : gw xs m ≠ gw ys m) :
    Calls Tryz.prog 52 #[.slice A n c, .slice A' n c'] w fun e w' => e = .returned (.bool false) ∧ On w w' := by
  have hcap := R.cap
  have hmax := R.max
  have HE := Lib.hid he
  have HN := Lib.hid hne
  clear he hne
  go_enter Tryz.func52, Tryz.ntmps52
  go_wp2
  go_loopw [13] (fun i wr => ∃ k : Nat, k ≤ m ∧ i = .int .i64 k ∧ On w wr) (fun i _ => n - (intOf i).toNat)
  case atStart => exact ⟨0, Nat.zero_le _, rfl, On.refl _⟩
  case round =>
    obtain ⟨k, hk, rfl, hon⟩ := hrel
    obtain ⟨ad, rfl, hb, hc⟩ := (R.on hon).at_ k (by omega)
    obtain ⟨ad', rfl, hb', hc'⟩ := (R'.on hon).at_ k (by omega)
    have hkn : k < n := by omega
    by_cases hlt : k < m
    · rw [HE.out k hlt] at hc
      go_wp2
      go_quiet (fail)
      go_wp2
      exact ⟨⟨k + 1, by omega, by go_num, hon.drewN nq⟩, by simp [intOf]; omega⟩
    · obtain rfl : k = m := by omega
      have hb1 : (((gw xs k : Nat) : Int) != ((gw ys k : Nat) : Int)) = true := by rw [bne_iff_ne]; have := HN.out; omega
      go_wp2
      go_quiet (fail)
      go_wp2
      go_ret
      exact ⟨rfl, hon.drewN _⟩
set_option maxRecDepth 100000 in
set_option maxHeartbeats 1600000 in
theorem words_len (w : World) (A A' : Option Addr) (n c n' c' : Nat) (xs ys : List Nat) (R : Rd w A n c xs) (R' : Rd w A' n' c' ys) (hne : n ≠ n') :
    Calls Tryz.prog 52 #[.slice A n c, .slice A' n' c'] w fun e w' => e = .returned (.bool false) ∧ On w w' := by
  have hcap := R.cap
  have hmax := R.max
  have hcap' := R'.cap
  have hmax' := R'.max
  have hb1 : ((n : Int) != (n' : Int)) = true := by rw [bne_iff_ne]; omega
  clear hne
  go_enter Tryz.func52, Tryz.ntmps52
  go_wp2
  go_ret
  exact ⟨rfl, On.refl _⟩
theorem first_diff : ∀ (xs ys : List Nat), xs.length = ys.length → xs ≠ ys → ∃ m, m < xs.length ∧ (∀ j, j < m → gw xs j = gw ys j) ∧ gw xs m ≠ gw ys m
  | [], [], _, h => absurd rfl h
  | x :: xs, y :: ys, hl, h => by
    by_cases hxy : x = y
    · subst hxy
      obtain ⟨m, h1, h2, h3⟩ := first_diff xs ys (by simpa using hl) (fun e => h (by rw [e]))
      refine ⟨m + 1, by simpa using h1, fun j hj => ?_, by rw [gw_cons, gw_cons]; exact h3⟩
      rcases j with _ | j
      · rfl
      · rw [gw_cons, gw_cons]; exact h2 j (by omega)
    · exact ⟨0, by simp, fun j hj => absurd hj (by omega), hxy⟩
theorem words_any (w : World) (A A' : Option Addr) (n c n' c' : Nat) (xs ys : List Nat) (R : Rd w A n c xs) (R' : Rd w A' n' c' ys) :
    Calls Tryz.prog 52 #[.slice A n c, .slice A' n' c'] w fun e w' => e = .returned (.bool (decide (xs = ys))) ∧ On w w' := by
  by_cases hn : n = n'
  · subst hn
    by_cases h : xs = ys
    · subst h
      rw [decide_eq_true rfl]
      exact words_eq w A A' n c c' xs R R'
    · rw [decide_eq_false h]
      obtain ⟨m, h1, h2, h3⟩ := first_diff xs ys (by rw [R.len, R'.len]) h
      exact words_at w A A' n c c' xs ys R R' m (by rw [← R.len]; exact h1) h2 h3
  · rw [decide_eq_false (fun e => hn (by rw [← R.len, ← R'.len, e]))]
    exact words_len w A A' n c n' c' xs ys R R' hn
set_option maxRecDepth 100000 in
set_option maxHeartbeats 1600000 in
theorem rat_any (w : World) (v v' : Value) (r q : Rat) (L L' : Nat) (h : IsR w v r L) (k : IsR w v' q L') :
    Calls Tryz.prog 17 #[v, v'] w fun e w' => e = .returned (.bool (decide (r = q))) ∧ On w w' := by
  obtain ⟨A, n, c, xs, A', n', c', ys, rfl, R, R', C, C', h1, h2, h3, h4⟩ := h
  obtain ⟨E, m, o, us, E', m', o', vs, rfl, U, U', D, D', k1, k2, k3, k4⟩ := k
  have hrq : decide (r = q) = ((decide (r < 0) == decide (q < 0)) && decide (xs = us) && decide (ys = vs)) := by
    by_cases e : r = q
    · subst e
      rw [val_inj R.ok U.ok C D (h3.trans k3.symm), val_inj R'.ok U'.ok C' D' (h4.trans k4.symm)]; simp
    · rw [decide_eq_false e]
      symm
      rw [Bool.eq_false_iff]
      intro hh
      simp only [Bool.and_eq_true, beq_iff_eq, decide_eq_true_iff] at hh
      obtain ⟨⟨e1, e2⟩, e3⟩ := hh
      apply e
      have a1 := raw_isR C C' h3 h4
      have a2 := raw_isR D D' k3 k4
      rw [e1, e2, e3] at a1
      exact a1.symm.trans a2
  rw [hrq]
  obtain ⟨b, hb⟩ : ∃ x, decide (r < 0) = x := ⟨_, rfl⟩
  obtain ⟨d, hd⟩ : ∃ x, decide (q < 0) = x := ⟨_, rfl⟩
  obtain ⟨p, hp⟩ : ∃ x, decide (xs = us) = x := ⟨_, rfl⟩
  obtain ⟨s, hs⟩ : ∃ x, decide (ys = vs) = x := ⟨_, rfl⟩
  have HP := Lib.hid hp
  have HS := Lib.hid hs
  rw [hb, hd, hp, hs]
  clear hrq hb hd hp hs h3 h4 k3 k4
  have B : On w ((w.alloc (.cells #[.bool b, .slice A n c, .slice A' n' c'] 24)).alloc (.cells #[.bool d, .slice E m o, .slice E' m' o'] 24)) := On.alloc (On.alloc (On.refl w) _) _
  have OB2 : w.heap.size ≤ w.heap.size ∧ Own ((w.alloc (.cells #[.bool b, .slice A n c, .slice A' n' c'] 24)).alloc (.cells #[.bool d, .slice E m o, .slice E' m' o'] 24)) (w.heap.size) 24 #[.bool b, .slice A n c, .slice A' n' c'] := ⟨by omega, ((Own.at_ w (w.heap.size) (by simp) 24 #[.bool b, .slice A n c, .slice A' n' c']).alloc (.cells #[.bool d, .slice E m o, .slice E' m' o'] 24))⟩
  have OB3 : w.heap.size ≤ w.heap.size + 1 ∧ Own ((w.alloc (.cells #[.bool b, .slice A n c, .slice A' n' c'] 24)).alloc (.cells #[.bool d, .slice E m o, .slice E' m' o'] 24)) (w.heap.size + 1) 24 #[.bool d, .slice E m o, .slice E' m' o'] := ⟨by omega, (Own.at_ (w.alloc (.cells #[.bool b, .slice A n c, .slice A' n' c'] 24)) (w.heap.size + 1) (by simp) 24 #[.bool d, .slice E m o, .slice E' m' o'])⟩
  have main : ∀ res : Bool, ((b == d) && p && s) = res → Calls Tryz.prog 17 #[.agg #[.bool b, .slice A n c, .slice A' n' c'], .agg #[.bool d, .slice E m o, .slice E' m' o']] w fun e w' => e = .returned (.bool res) ∧ On w w' := by
    intro res hres
    have HR := Lib.hid hres
    clear hres
    cases b <;> cases d
    all_goals try (
      go_enter Tryz.func17, Tryz.ntmps17
      go_wp2
      go_ret
      exact ⟨by rw [← HR.out]; rfl, B⟩)
    all_goals
      cases p
      all_goals
        go_enter Tryz.func17, Tryz.ntmps17
        go_wp2_with fail
        refine (words_any _ _ _ _ _ _ _ _ _ (R.on B) (U.on B)).mono ?_
        rintro e w2 ⟨rfl, P2⟩
        rw [HP.out]
        have a2 : w2.cell? ⟨w.heap.size, 2, none⟩ = some (.slice A' n' c') := (OB2.2.on P2).cell 2
        have b2 : w2.cell? ⟨w.heap.size + 1, 2, none⟩ = some (.slice E' m' o') := (OB3.2.on P2).cell 2
        try (
          go_wp2
          go_ret
          exact ⟨by rw [← HR.out]; rfl, B.trans P2⟩)
        try (
          go_wp2_with fail
          refine (words_any _ _ _ _ _ _ _ _ _ ((R'.on B).on P2) ((U'.on B).on P2)).mono ?_
          rintro e w3 ⟨rfl, P3⟩
          rw [HS.out]
          go_wp2
          go_ret
          exact ⟨by rw [← HR.out]; cases s <;> rfl, (B.trans P2).trans P3⟩)
  exact main _ rfl
end Num
end Go.Proofs.YtkchpagjkgmpmaaGreat
