/-
  Fractions in memory; Valid and value.
-/
import Derived.Test.YtkpeliokhmigoaaRat0
import Derived.Test.YtkpeliokhmigoaaGcd
import Derived.Test.YtkpeliokhmigoaaBase
namespace Go.Proofs.Ytkpeliokhmigoaa
open Go.RowKit
set_option linter.unusedVariables false
namespace Num
instance (l : List Nat) : Decidable (Clean l) := by unfold Clean; infer_instance
/-- the denominator as it is kept: 0 has none -/
def dn (r : Rat) : Nat := if r = 0 then 0 else r.den
/-- the value v reads as the one form of the fraction r, each list at most L words -/
def IsR (w : World) (v : Value) (r : Rat) (L : Nat) : Prop :=
  ∃ (A : Option Addr) (n c : Nat) (xs : List Nat) (A' : Option Addr) (n' c' : Nat) (ys : List Nat), v = .agg #[.bool (decide (r < 0)), .slice A n c, .slice A' n' c'] ∧ Rd w A n c xs ∧ Rd w A' n' c' ys ∧ Clean xs ∧ Clean ys ∧ n ≤ L ∧ n' ≤ L ∧ val xs = r.num.natAbs ∧ val ys = dn r
theorem IsR.on {w w' : World} {v : Value} {r : Rat} {L : Nat} (h : IsR w v r L) (hb : On w w') : IsR w' v r L := by
  obtain ⟨A, n, c, xs, A', n', c', ys, h1, h2, h3, h4⟩ := h
  exact ⟨A, n, c, xs, A', n', c', ys, h1, h2.on hb, h3.on hb, h4⟩
theorem IsR.wide {w : World} {v : Value} {r : Rat} {L M : Nat} (h : IsR w v r L) (hm : L ≤ M) : IsR w v r M := by
  obtain ⟨A, n, c, xs, A', n', c', ys, h1, h2, h3, h4, h5, h6, h7, h8⟩ := h
  exact ⟨A, n, c, xs, A', n', c', ys, h1, h2, h3, h4, h5, by omega, by omega, h8⟩
theorem dn_zero : dn 0 = 0 := rfl
theorem dn_ne {r : Rat} (h : r ≠ 0) : dn r = r.den := by unfold dn; rw [if_neg h]
theorem isR_zero (w : World) (L : Nat) : IsR w (.agg #[.bool false, .slice none 0 0, .slice none 0 0]) 0 L :=
  ⟨none, 0, 0, [], none, 0, 0, [], rfl, Rd.nil_, Rd.nil_, clean_nil, clean_nil, by omega, by omega, rfl, rfl⟩
/-- a fraction in lowest terms -/
theorem isR_fr {w : World} {s : Bool} {A A' : Option Addr} {n c n' c' x y L : Nat} (hx : 0 < x) (hy : 0 < y) (h : Nm w A n c (x / Nat.gcd x y) L) (k : Nm w A' n' c' (y / Nat.gcd x y) L) : IsR w (.agg #[.bool s, .slice A n c, .slice A' n' c']) (fr s x y) L := by
  obtain ⟨xs, h1, h2, h3, h4⟩ := h
  obtain ⟨ys, k1, k2, k3, k4⟩ := k
  exact ⟨A, n, c, xs, A', n', c', ys, by rw [fr_sign s x y hy hx], h1, k1, h2, k2, h4, k4, by rw [h3, fr_abs s x y hy], by rw [k3, dn_ne (fr_ne s x y hy hx), fr_den s x y hy]⟩
theorem isR_one {w : World} {s : Bool} {A A' : Option Addr} {n c n' c' L : Nat} {xs ys : List Nat} (h : Rd w A n c xs) (k : Rd w A' n' c' ys) (C : Clean xs) (C' : Clean ys) (hn : n ≤ L) (hn' : n' ≤ L) (hx : 0 < val xs) (hy : 0 < val ys) (hg : Nat.gcd (val xs) (val ys) = 1) : IsR w (.agg #[.bool s, .slice A n c, .slice A' n' c']) (fr s (val xs) (val ys)) L :=
  isR_fr hx hy ⟨xs, h, C, by rw [hg, Nat.div_one], hn⟩ ⟨ys, k, C', by rw [hg, Nat.div_one], hn'⟩
/-- whether fields are valid, and what number they are -/
def FitP (s : Bool) (xs ys : List Nat) : Prop := (xs = [] ∧ ys = [] ∧ s = false) ∨ ((0 < xs.length ∧ Clean xs) ∧ (0 < ys.length ∧ Clean ys) ∧ Nat.gcd (val xs) (val ys) = 1)
instance (s : Bool) (xs ys : List Nat) : Decidable (FitP s xs ys) := by unfold FitP; infer_instance
def fitB (s : Bool) (xs ys : List Nat) : Bool := decide (FitP s xs ys)
def raw (s : Bool) (xs ys : List Nat) : Rat := if FitP s xs ys ∧ 0 < xs.length then fr s (val xs) (val ys) else 0
set_option maxHeartbeats 400000 in
theorem isone_any (w : World) (A : Option Addr) (n c : Nat) (xs : List Nat) (h : Rd w A n c xs) :
    Calls Try.prog 42 #[.slice A n c] w fun e w' => e = .returned (.bool (decide (xs = [1]))) ∧ w = w' := by
  have hcap := h.cap
  have hmax := h.max
  by_cases h1 : n = 1
  · subst h1
    obtain ⟨ad, rfl, hb, hc⟩ := h.at_ 0 (by omega)
    rw [add_nil] at hc
    obtain ⟨x, rfl⟩ := List.length_eq_one_iff.1 h.len
    have hg : gw [x] 0 = x := rfl
    rw [hg] at hc
    have hd : decide ([x] = [1]) = ((x : Int) == 1) := by
      rw [Bool.eq_iff_iff]; simp; omega
    have HD := Lib.hid hd
    clear hd hg
    go_enter Try.func42, Try.ntmps42
    go_wp2
    all_goals (go_ret; exact ⟨by rw [HD.out]; first | rfl | simp_all, rfl⟩)
  · have hd : decide (xs = [1]) = false := by
      apply decide_eq_false
      rintro rfl
      exact h1 h.len.symm
    have HD := Lib.hid hd
    have hb1 : ((n : Int) == 1) = false := by simp; omega
    clear hd h1
    go_enter Try.func42, Try.ntmps42
    go_wp2
    go_ret
    exact ⟨by rw [HD.out]; rfl, rfl⟩
theorem clean_iff_last (xs : List Nat) (n : Nat) (h : xs.length = n + 1) : Clean xs ↔ gw xs n ≠ 0 := ⟨fun C => clean_last C n h, fun g => clean_of_last n h g⟩
set_option maxHeartbeats 400000 in
theorem trimmed_any (w : World) (A : Option Addr) (n c : Nat) (xs : List Nat) (h : Rd w A n c xs) :
    Calls Try.prog 41 #[.slice A n c] w fun e w' => e = .returned (.bool (decide (0 < xs.length ∧ Clean xs))) ∧ w = w' := by
  have hcap := h.cap
  have hmax := h.max
  rcases n with _ | n
  · have hd : decide (0 < xs.length ∧ Clean xs) = false := decide_eq_false (fun e => by have := h.len; omega)
    have HD := Lib.hid hd
    clear hd
    go_enter Try.func41, Try.ntmps41
    go_wp2
    go_ret
    exact ⟨by rw [HD.out]; rfl, rfl⟩
  · obtain ⟨ad, rfl, hb, hc⟩ := h.at_ n (by omega)
    have hd : decide (0 < xs.length ∧ Clean xs) = (((gw xs n : Nat) : Int) != 0) := by
      rw [Bool.eq_iff_iff, decide_eq_true_iff, clean_iff_last xs n h.len]; have := h.len; simp; omega
    have HD := Lib.hid hd
    clear hd
    go_enter Try.func41, Try.ntmps41
    go_wp2
    all_goals (go_ret; exact ⟨by rw [HD.out]; first | rfl | simp_all, rfl⟩)
/-- what a call that makes a fraction says -/
def RatPost (w : World) (r : Rat) (L : Nat) (e : Ending) (w' : World) : Prop := ∃ v, e = .returned v ∧ IsR w' v r L ∧ On w w'
theorem fitB_nil (s : Bool) : fitB s [] [] = !s := by cases s <;> rfl
theorem fitB_no (s : Bool) {xs ys : List Nat} (h : ¬ ((0 < xs.length ∧ Clean xs) ∧ (0 < ys.length ∧ Clean ys) ∧ Nat.gcd (val xs) (val ys) = 1)) (h2 : ¬ (xs = [] ∧ ys = [])) : fitB s xs ys = false := by
  unfold fitB FitP
  apply decide_eq_false
  rintro (⟨a, b, _⟩ | h1)
  · exact h2 ⟨a, b⟩
  · exact h h1
theorem fitB_yes (s : Bool) {xs ys : List Nat} (h1 : 0 < xs.length ∧ Clean xs) (h2 : 0 < ys.length ∧ Clean ys) (h3 : Nat.gcd (val xs) (val ys) = 1) : fitB s xs ys = true := by
  unfold fitB FitP
  exact decide_eq_true (.inr ⟨h1, h2, h3⟩)
theorem val_one {zs : List Nat} (ok : Ok zs) (C : Clean zs) : decide (zs = [1]) = decide (val zs = 1) := by
  rw [Bool.eq_iff_iff, decide_eq_true_iff, decide_eq_true_iff]
  constructor
  · rintro rfl; rfl
  · intro h
    exact val_inj ok (Ok.one (by decide)) C rfl (by rw [h]; rfl)
set_option maxHeartbeats 800000 in
theorem valid_any (w : World) (s : Bool) (A A' : Option Addr) (n c n' c' : Nat) (xs ys : List Nat) (h : Rd w A n c xs) (k : Rd w A' n' c' ys) (hn : n ≤ 5000) (hn' : n' ≤ 5000) :
    Calls Try.prog 15 #[.agg #[.bool s, .slice A n c, .slice A' n' c']] w fun e w' => e = .returned (.bool (fitB s xs ys)) ∧ On w w' := by
  have B := (On.refl w).alloc (.cells #[.bool s, .slice A n c, .slice A' n' c'] 24)
  have h1 := h.on B
  have k1 := k.on B
  by_cases h0 : n = 0
  · subst h0
    obtain rfl := List.eq_nil_of_length_eq_zero h.len
    by_cases k0 : n' = 0
    · subst k0
      obtain rfl := List.eq_nil_of_length_eq_zero k.len
      have HF := Lib.hid (fitB_nil s)
      go_enter Try.func15, Try.ntmps15
      go_wp2
      go_ret
      exact ⟨by rw [HF.out]; rfl, B⟩
    · have hb1 : ((n' : Int) == 0) = false := by simp; omega
      have HF := Lib.hid (fitB_no s (xs := []) (ys := ys) (fun e => by simp at e) (fun e => by have := k.len; rw [e.2] at this; simp at this; omega))
      have hd : decide (0 < ([] : List Nat).length ∧ Clean ([] : List Nat)) = false := by decide
      have HD := Lib.hid hd
      clear hd k0
      go_enter Try.func15, Try.ntmps15
      go_wp2_with fail
      refine (trimmed_any _ _ _ _ _ h1).mono ?_
      rintro e w' ⟨rfl, rfl⟩
      rw [HD.out]
      go_wp2
      go_ret
      exact ⟨by rw [HF.out]; rfl, B⟩
  · have hb0 : ((n : Int) == 0) = false := by simp; omega
    have hne : ¬ (xs = [] ∧ ys = []) := fun e => by have := h.len; rw [e.1] at this; simp at this; omega
    by_cases hx : 0 < xs.length ∧ Clean xs
    · have HX := Lib.hid (decide_eq_true hx)
      by_cases hy : 0 < ys.length ∧ Clean ys
      · have HY := Lib.hid (decide_eq_true hy)
        have hfit : fitB s xs ys = decide (Nat.gcd (val xs) (val ys) = 1) := by
          by_cases hg : Nat.gcd (val xs) (val ys) = 1
          · rw [fitB_yes s hx hy hg, decide_eq_true hg]
          · rw [fitB_no s (fun e => hg e.2.2) hne, decide_eq_false hg]
        have HF := Lib.hid hfit
        have Tx := tl_le xs
        have Ty := tl_le ys
        rw [h.len] at Tx
        rw [k.len] at Ty
        clear hfit hne hx hy h0
        go_enter Try.func15, Try.ntmps15
        go_wp2_with fail
        refine (trimmed_any _ _ _ _ _ h1).mono ?_
        rintro e w' ⟨rfl, rfl⟩
        rw [HX.out]
        go_wp2_with fail
        refine (trimmed_any _ _ _ _ _ k1).mono ?_
        rintro e w' ⟨rfl, rfl⟩
        rw [HY.out]
        go_wp2_with fail
        refine (gcd_any _ _ _ _ _ _ _ 5000 _ _ h1 k1 (by omega) (by omega) (by omega) (by omega) (by decide) (by decide)).mono ?_
        rintro e w2 ⟨A2, n2, c2, rfl, ⟨gs, RG, CG, VG, LG⟩, P2⟩
        have HG : Hid (decide (gs = [1]) = fitB s xs ys) := Lib.hid (by rw [val_one RG.ok CG, VG, HF.out])
        clear VG
        go_wp2_with fail
        refine (isone_any _ _ _ _ _ RG).mono ?_
        rintro e w' ⟨rfl, rfl⟩
        rw [HG.out]
        go_wp2
        go_ret
        exact ⟨rfl, B.trans P2⟩
      · have HY := Lib.hid (decide_eq_false hy)
        have HF := Lib.hid (fitB_no s (xs := xs) (ys := ys) (fun e => hy e.2.1) hne)
        clear hx hy hne h0
        go_enter Try.func15, Try.ntmps15
        go_wp2_with fail
        refine (trimmed_any _ _ _ _ _ h1).mono ?_
        rintro e w' ⟨rfl, rfl⟩
        rw [HX.out]
        go_wp2_with fail
        refine (trimmed_any _ _ _ _ _ k1).mono ?_
        rintro e w' ⟨rfl, rfl⟩
        rw [HY.out]
        go_wp2
        go_ret
        exact ⟨by rw [HF.out]; rfl, B⟩
    · have HX := Lib.hid (decide_eq_false hx)
      have HF := Lib.hid (fitB_no s (xs := xs) (ys := ys) (fun e => hx e.1) hne)
      clear hx hne h0
      go_enter Try.func15, Try.ntmps15
      go_wp2_with fail
      refine (trimmed_any _ _ _ _ _ h1).mono ?_
      rintro e w' ⟨rfl, rfl⟩
      rw [HX.out]
      go_wp2
      go_ret
      exact ⟨by rw [HF.out]; rfl, B⟩
end Num
end Go.Proofs.Ytkpeliokhmigoaa
