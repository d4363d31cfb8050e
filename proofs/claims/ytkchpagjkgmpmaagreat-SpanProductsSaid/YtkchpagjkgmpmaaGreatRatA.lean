/-
  Texts of the lower functions, joined: Rat0, Rat1, Rat2, Rat3, Rev, Dec, Text, Par0, Ref3, Ref4, Rbits, Rup, Par1, Par2, Rat4.
-/
import Derived.Test.YtkchpagjkgmpmaaGreatNatA
import Derived.Test.YtkchpagjkgmpmaaGreatNatB
import Derived.Deep.RegionHeld3
import Derived.BigRegion
import Derived.Laws.BytesArg
import Derived.Deep.LoopGhost
import Derived.Lib.Strings
namespace Go.Proofs.YtkchpagjkgmpmaaGreat
open Go.RowKit
set_option linter.unusedVariables false
namespace Num
section
/-- a number with a sign -/
def sgn (s : Bool) (x : Nat) : Int := if s = true then -(x : Int) else (x : Int)
theorem sgn_natAbs (s : Bool) (x : Nat) : (sgn s x).natAbs = x := by cases s <;> simp [sgn]
theorem sgn_neg {s : Bool} {x : Nat} (h : 0 < x) : (decide (sgn s x < 0)) = s := by cases s <;> simp [sgn] <;> omega
theorem sgn_zero (s : Bool) : sgn s 0 = 0 := by cases s <;> rfl
theorem sgn_of (z : Int) : sgn (decide (z < 0)) z.natAbs = z := by
  unfold sgn
  by_cases h : z < 0
  · simp only [h, decide_true, if_true]; omega
  · simp only [h, decide_false]; rw [if_neg (by decide)]; omega
theorem sgn_mul (s t : Bool) (x y : Nat) : sgn s x * sgn t y = sgn (s != t) (x * y) := by
  cases s <;> cases t <;> simp [sgn, Int.mul_neg, Int.neg_mul]
/-- the fraction -/
def fr (s : Bool) (x y : Nat) : Rat := mkRat (sgn s x) y
theorem fr_zero (s : Bool) (y : Nat) : fr s 0 y = 0 := by unfold fr; rw [sgn_zero]; simp
theorem rat_neg_iff (r : Rat) : r < 0 ↔ r.num < 0 := by
  rw [Rat.lt_iff]; simp
theorem fr_self (r : Rat) : fr (decide (r < 0)) r.num.natAbs r.den = r := by
  unfold fr
  have : decide (r < 0) = decide (r.num < 0) := by simp only [rat_neg_iff]
  rw [this, sgn_of, Rat.mkRat_self]
theorem fr_num (s : Bool) (x y : Nat) (hy : 0 < y) : (fr s x y).num = sgn s (x / Nat.gcd x y) := by
  unfold fr
  rw [Rat.num_mkRat, if_neg (by omega), sgn_natAbs, Nat.gcd_comm]
  have hg : Nat.gcd x y ∣ x := Nat.gcd_dvd_left x y
  cases s
  · simp [sgn, Int.natCast_ediv]
  · simp only [sgn, if_true]
    rw [Int.neg_ediv_of_dvd (Int.natCast_dvd_natCast.2 hg), Int.natCast_ediv]
theorem fr_den (s : Bool) (x y : Nat) (hy : 0 < y) : (fr s x y).den = y / Nat.gcd x y := by
  unfold fr
  rw [Rat.den_mkRat, if_neg (by omega), sgn_natAbs, Nat.gcd_comm]
theorem fr_abs (s : Bool) (x y : Nat) (hy : 0 < y) : (fr s x y).num.natAbs = x / Nat.gcd x y := by rw [fr_num s x y hy, sgn_natAbs]
theorem fr_sign (s : Bool) (x y : Nat) (hy : 0 < y) (hx : 0 < x) : decide (fr s x y < 0) = s := by
  have : decide (fr s x y < 0) = decide ((fr s x y).num < 0) := by simp only [rat_neg_iff]
  rw [this, fr_num s x y hy]
  exact sgn_neg (Nat.div_pos (Nat.le_of_dvd hx (Nat.gcd_dvd_left x y)) (Nat.gcd_pos_of_pos_left _ hx))
theorem fr_ne (s : Bool) (x y : Nat) (hy : 0 < y) (hx : 0 < x) : fr s x y ≠ 0 := by
  unfold fr
  rw [Rat.mkRat_ne_zero (by omega)]
  cases s <;> simp [sgn] <;> omega
theorem num_pos_of_ne {r : Rat} (h : r ≠ 0) : 0 < r.num.natAbs := by
  have : r.num ≠ 0 := fun e => h (Rat.num_eq_zero.1 e)
  omega
theorem fr_neg (s : Bool) (x y : Nat) : -(fr s x y) = fr (!s) x y := by
  unfold fr; rw [Rat.neg_mkRat]; cases s <;> simp [sgn]
/-- the sum as the program makes it -/
theorem add_fields (a b : Rat) : let g := Nat.gcd a.den b.den
    let n := a.num * ((b.den / g : Nat) : Int) + b.num * ((a.den / g : Nat) : Int)
    (a + b).num = n / ((Nat.gcd n.natAbs g : Nat) : Int) ∧ (a + b).den = (a.den / g) * (b.den / Nat.gcd n.natAbs g) := by
  intro g n
  have hgp : 0 < g := Nat.gcd_pos_of_pos_left _ a.den_pos
  have hd : Nat.gcd n.natAbs g ∣ b.den := Nat.dvd_trans (Nat.gcd_dvd_right _ _) (Nat.gcd_dvd_right _ _)
  rw [← Nat.mul_div_assoc _ hd]
  show (Rat.add a b).num = _ ∧ (Rat.add a b).den = _
  delta Rat.add
  dsimp only
  split
  · rename_i h1
    have hg : g = 1 := h1
    simp only [n, hg, Nat.div_one, Nat.gcd_one_right, Int.natCast_one, Int.ediv_one]
    exact ⟨trivial, trivial⟩
  · rw [Rat.maybeNormalize_eq]
    dsimp only
    rw [Int.divExact_eq_ediv]
    exact ⟨rfl, rfl⟩
/-- the product as the program makes it -/
theorem mul_fields (a b : Rat) : let g := Nat.gcd a.num.natAbs b.den
    let h := Nat.gcd b.num.natAbs a.den
    (a * b).num.natAbs = a.num.natAbs / g * (b.num.natAbs / h) ∧ (a * b).den = (a.den / h) * (b.den / g) := by
  intro g h
  show (Rat.mul a b).num.natAbs = _ ∧ (Rat.mul a b).den = _
  delta Rat.mul
  dsimp only
  rw [Int.divExact_eq_tdiv, Int.divExact_eq_tdiv, Nat.divExact_eq_div, Nat.divExact_eq_div, Int.natAbs_mul, Int.natAbs_tdiv, Int.natAbs_tdiv]
  exact ⟨rfl, rfl⟩
end
section
instance (l : List Nat) : Decidable (Clean l) := by unfold Clean; infer_instance
/-- the denominator as it is kept: 0 has none -/
def dn (r : Rat) : Nat := if r = 0 then 0 else r.den
/-- the value v reads as the one form of the fraction r, each list at most L words -/
def IsR (w : World) (v : Value) (r : Rat) (L : Nat) : Prop :=
  ∃ (A : Option Addr) (n c : Nat) (xs : List Nat) (A' : Option Addr) (n' c' : Nat) (ys : List Nat), v = .agg #[.bool (decide (r < 0)), .slice A n c, .slice A' n' c'] ∧ Rd w A n c xs ∧ Rd w A' n' c' ys ∧ Clean xs ∧ Clean ys ∧ n ≤ L ∧ n' ≤ L ∧ val xs = r.num.natAbs ∧ val ys = dn r
theorem IsR.on {w w' : World} {v : Value} {r : Rat} {L : Nat} (h : IsR w v r L) (hb : On w w') : IsR w' v r L := by
  obtain ⟨A, n, c, xs, A', n', c', ys, h1, h2, h3, h4⟩ := h
  exact ⟨A, n, c, xs, A', n', c', ys, h1, h2.on hb, h3.on hb, h4⟩
theorem IsR.wide {w : World} {v : Value} {r : Rat} {L M : Nat} (h : IsR w v r L) (hm : L ≤ M) : IsR w v r M := by
  obtain ⟨A, n, c, xs, A', n', c', ys, h1, h2, h3, h4, h5, h6, h7, h8⟩ := h
  exact ⟨A, n, c, xs, A', n', c', ys, h1, h2, h3, h4, h5, by omega, by omega, h8⟩
theorem dn_zero : dn 0 = 0 := rfl
theorem dn_ne {r : Rat} (h : r ≠ 0) : dn r = r.den := by unfold dn; rw [if_neg h]
theorem isR_zero (w : World) (L : Nat) : IsR w (.agg #[.bool false, .slice none 0 0, .slice none 0 0]) 0 L :=
  ⟨none, 0, 0, [], none, 0, 0, [], rfl, Rd.nil_, Rd.nil_, clean_nil, clean_nil, by omega, by omega, rfl, rfl⟩
/-- a fraction in lowest terms -/
theorem isR_fr {w : World} {s : Bool} {A A' : Option Addr} {n c n' c' x y L : Nat} (hx : 0 < x) (hy : 0 < y) (h : Nm w A n c (x / Nat.gcd x y) L) (k : Nm w A' n' c' (y / Nat.gcd x y) L) : IsR w (.agg #[.bool s, .slice A n c, .slice A' n' c']) (fr s x y) L := by
  obtain ⟨xs, h1, h2, h3, h4⟩ := h
  obtain ⟨ys, k1, k2, k3, k4⟩ := k
  exact ⟨A, n, c, xs, A', n', c', ys, by rw [fr_sign s x y hy hx], h1, k1, h2, k2, h4, k4, by rw [h3, fr_abs s x y hy], by rw [k3, dn_ne (fr_ne s x y hy hx), fr_den s x y hy]⟩
theorem isR_one {w : World} {s : Bool} {A A' : Option Addr} {n c n' c' L : Nat} {xs ys : List Nat} (h : Rd w A n c xs) (k : Rd w A' n' c' ys) (C : Clean xs) (C' : Clean ys) (hn : n ≤ L) (hn' : n' ≤ L) (hx : 0 < val xs) (hy : 0 < val ys) (hg : Nat.gcd (val xs) (val ys) = 1) : IsR w (.agg #[.bool s, .slice A n c, .slice A' n' c']) (fr s (val xs) (val ys)) L :=
  isR_fr hx hy ⟨xs, h, C, by rw [hg, Nat.div_one], hn⟩ ⟨ys, k, C', by rw [hg, Nat.div_one], hn'⟩
/-- whether fields are valid, and what number they are -/
def FitP (s : Bool) (xs ys : List Nat) : Prop := (xs = [] ∧ ys = [] ∧ s = false) ∨ ((0 < xs.length ∧ Clean xs) ∧ (0 < ys.length ∧ Clean ys) ∧ Nat.gcd (val xs) (val ys) = 1)
instance (s : Bool) (xs ys : List Nat) : Decidable (FitP s xs ys) := by unfold FitP; infer_instance
def fitB (s : Bool) (xs ys : List Nat) : Bool := decide (FitP s xs ys)
def raw (s : Bool) (xs ys : List Nat) : Rat := if FitP s xs ys ∧ 0 < xs.length then fr s (val xs) (val ys) else 0
set_option maxHeartbeats 400000 in
theorem isone_any (w : World) (A : Option Addr) (n c : Nat) (xs : List Nat) (h : Rd w A n c xs) :
    Calls Tryz.prog 77 #[.slice A n c] w fun e w' => e = .returned (.bool (decide (xs = [1]))) ∧ w = w' := by
  have hcap := h.cap
  have hmax := h.max
  by_cases h1 : n = 1
  · subst h1
    obtain ⟨ad, rfl, hb, hc⟩ := h.at_ 0 (by omega)
    rw [add_nil] at hc
    obtain ⟨x, rfl⟩ := List.length_eq_one_iff.1 h.len
    have hg : gw [x] 0 = x := rfl
    rw [hg] at hc
    have hd : decide ([x] = [1]) = ((x : Int) == 1) := by
      rw [Bool.eq_iff_iff]; simp; omega
    have HD := Lib.hid hd
    clear hd hg
    go_enter Tryz.func77, Tryz.ntmps77
    go_wp2
    all_goals (go_ret; exact ⟨by rw [HD.out]; first | rfl | simp_all, rfl⟩)
  · have hd : decide (xs = [1]) = false := by
      apply decide_eq_false
      rintro rfl
      exact h1 h.len.symm
    have HD := Lib.hid hd
    have hb1 : ((n : Int) == 1) = false := by simp; omega
    clear hd h1
    go_enter Tryz.func77, Tryz.ntmps77
    go_wp2
    go_ret
    exact ⟨by rw [HD.out]; rfl, rfl⟩
theorem clean_iff_last (xs : List Nat) (n : Nat) (h : xs.length = n + 1) : Clean xs ↔ gw xs n ≠ 0 := ⟨fun C => clean_last C n h, fun g => clean_of_last n h g⟩
set_option maxHeartbeats 400000 in
theorem trimmed_any (w : World) (A : Option Addr) (n c : Nat) (xs : List Nat) (h : Rd w A n c xs) :
    Calls Tryz.prog 76 #[.slice A n c] w fun e w' => e = .returned (.bool (decide (0 < xs.length ∧ Clean xs))) ∧ w = w' := by
  have hcap := h.cap
  have hmax := h.max
  rcases n with _ | n
  · have hd : decide (0 < xs.length ∧ Clean xs) = false := decide_eq_false (fun e => by have := h.len; omega)
    have HD := Lib.hid hd
    clear hd
    go_enter Tryz.func76, Tryz.ntmps76
    go_wp2
    go_ret
    exact ⟨by rw [HD.out]; rfl, rfl⟩
  · obtain ⟨ad, rfl, hb, hc⟩ := h.at_ n (by omega)
    have hd : decide (0 < xs.length ∧ Clean xs) = (((gw xs n : Nat) : Int) != 0) := by
      rw [Bool.eq_iff_iff, decide_eq_true_iff, clean_iff_last xs n h.len]; have := h.len; simp; omega
    have HD := Lib.hid hd
    clear hd
    go_enter Tryz.func76, Tryz.ntmps76
    go_wp2
    all_goals (go_ret; exact ⟨by rw [HD.out]; first | rfl | simp_all, rfl⟩)
/-- what a call that makes a fraction says -/
def RatPost (w : World) (r : Rat) (L : Nat) (e : Ending) (w' : World) : Prop := ∃ v, e = .returned v ∧ IsR w' v r L ∧ On w w'
theorem fitB_nil (s : Bool) : fitB s [] [] = !s := by cases s <;> rfl
theorem fitB_no (s : Bool) {xs ys : List Nat} (h : ¬ ((0 < xs.length ∧ Clean xs) ∧ (0 < ys.length ∧ Clean ys) ∧ Nat.gcd (val xs) (val ys) = 1)) (h2 : ¬ (xs = [] ∧ ys = [])) : fitB s xs ys = false := by
  unfold fitB FitP
  apply decide_eq_false
  rintro (⟨a, b, _⟩ | h1)
  · exact h2 ⟨a, b⟩
  · exact h h1
theorem fitB_yes (s : Bool) {xs ys : List Nat} (h1 : 0 < xs.length ∧ Clean xs) (h2 : 0 < ys.length ∧ Clean ys) (h3 : Nat.gcd (val xs) (val ys) = 1) : fitB s xs ys = true := by
  unfold fitB FitP
  exact decide_eq_true (.inr ⟨h1, h2, h3⟩)
theorem val_one {zs : List Nat} (ok : Ok zs) (C : Clean zs) : decide (zs = [1]) = decide (val zs = 1) := by
  rw [Bool.eq_iff_iff, decide_eq_true_iff, decide_eq_true_iff]
  constructor
  · rintro rfl; rfl
  · intro h
    exact val_inj ok (Ok.one (by decide)) C rfl (by rw [h]; rfl)
set_option maxHeartbeats 800000 in
theorem valid_any (w : World) (s : Bool) (A A' : Option Addr) (n c n' c' : Nat) (xs ys : List Nat) (h : Rd w A n c xs) (k : Rd w A' n' c' ys) (hn : n ≤ 5000) (hn' : n' ≤ 5000) :
    Calls Tryz.prog 49 #[.agg #[.bool s, .slice A n c, .slice A' n' c']] w fun e w' => e = .returned (.bool (fitB s xs ys)) ∧ On w w' := by
  have B := (On.refl w).alloc (.cells #[.bool s, .slice A n c, .slice A' n' c'] 24)
  have h1 := h.on B
  have k1 := k.on B
  by_cases h0 : n = 0
  · subst h0
    obtain rfl := List.eq_nil_of_length_eq_zero h.len
    by_cases k0 : n' = 0
    · subst k0
      obtain rfl := List.eq_nil_of_length_eq_zero k.len
      have HF := Lib.hid (fitB_nil s)
      go_enter Tryz.func49, Tryz.ntmps49
      go_wp2
      go_ret
      exact ⟨by rw [HF.out]; rfl, B⟩
    · have hb1 : ((n' : Int) == 0) = false := by simp; omega
      have HF := Lib.hid (fitB_no s (xs := []) (ys := ys) (fun e => by simp at e) (fun e => by have := k.len; rw [e.2] at this; simp at this; omega))
      have hd : decide (0 < ([] : List Nat).length ∧ Clean ([] : List Nat)) = false := by decide
      have HD := Lib.hid hd
      clear hd k0
      go_enter Tryz.func49, Tryz.ntmps49
      go_wp2_with fail
      refine (trimmed_any _ _ _ _ _ h1).mono ?_
      rintro e w' ⟨rfl, rfl⟩
      rw [HD.out]
      go_wp2
      go_ret
      exact ⟨by rw [HF.out]; rfl, B⟩
  · have hb0 : ((n : Int) == 0) = false := by simp; omega
    have hne : ¬ (xs = [] ∧ ys = []) := fun e => by have := h.len; rw [e.1] at this; simp at this; omega
    by_cases hx : 0 < xs.length ∧ Clean xs
    · have HX := Lib.hid (decide_eq_true hx)
      by_cases hy : 0 < ys.length ∧ Clean ys
      · have HY := Lib.hid (decide_eq_true hy)
        have hfit : fitB s xs ys = decide (Nat.gcd (val xs) (val ys) = 1) := by
          by_cases hg : Nat.gcd (val xs) (val ys) = 1
          · rw [fitB_yes s hx hy hg, decide_eq_true hg]
          · rw [fitB_no s (fun e => hg e.2.2) hne, decide_eq_false hg]
        have HF := Lib.hid hfit
        have Tx := tl_le xs
        have Ty := tl_le ys
        rw [h.len] at Tx
        rw [k.len] at Ty
        clear hfit hne hx hy h0
        go_enter Tryz.func49, Tryz.ntmps49
        go_wp2_with fail
        refine (trimmed_any _ _ _ _ _ h1).mono ?_
        rintro e w' ⟨rfl, rfl⟩
        rw [HX.out]
        go_wp2_with fail
        refine (trimmed_any _ _ _ _ _ k1).mono ?_
        rintro e w' ⟨rfl, rfl⟩
        rw [HY.out]
        go_wp2_with fail
        refine (gcd_any _ _ _ _ _ _ _ 5000 _ _ h1 k1 (by omega) (by omega) (by omega) (by omega) (by decide) (by decide)).mono ?_
        rintro e w2 ⟨A2, n2, c2, rfl, ⟨gs, RG, CG, VG, LG⟩, P2⟩
        have HG : Hid (decide (gs = [1]) = fitB s xs ys) := Lib.hid (by rw [val_one RG.ok CG, VG, HF.out])
        clear VG
        go_wp2_with fail
        refine (isone_any _ _ _ _ _ RG).mono ?_
        rintro e w' ⟨rfl, rfl⟩
        rw [HG.out]
        go_wp2
        go_ret
        exact ⟨rfl, B.trans P2⟩
      · have HY := Lib.hid (decide_eq_false hy)
        have HF := Lib.hid (fitB_no s (xs := xs) (ys := ys) (fun e => hy e.2.1) hne)
        clear hx hy hne h0
        go_enter Tryz.func49, Tryz.ntmps49
        go_wp2_with fail
        refine (trimmed_any _ _ _ _ _ h1).mono ?_
        rintro e w' ⟨rfl, rfl⟩
        rw [HX.out]
        go_wp2_with fail
        refine (trimmed_any _ _ _ _ _ k1).mono ?_
        rintro e w' ⟨rfl, rfl⟩
        rw [HY.out]
        go_wp2
        go_ret
        exact ⟨by rw [HF.out]; rfl, B⟩
    · have HX := Lib.hid (decide_eq_false hx)
      have HF := Lib.hid (fitB_no s (xs := xs) (ys := ys) (fun e => hx e.1) hne)
      clear hx hne h0
      go_enter Tryz.func49, Tryz.ntmps49
      go_wp2_with fail
      refine (trimmed_any _ _ _ _ _ h1).mono ?_
      rintro e w' ⟨rfl, rfl⟩
      rw [HX.out]
      go_wp2
      go_ret
      exact ⟨by rw [HF.out]; rfl, B⟩
end
section
theorem raw_fit {s : Bool} {xs ys : List Nat} (h : fitB s xs ys = true) (hx : 0 < xs.length) : raw s xs ys = fr s (val xs) (val ys) := by
  unfold raw; rw [if_pos ⟨of_decide_eq_true h, hx⟩]
theorem raw_no {s : Bool} {xs ys : List Nat} (h : fitB s xs ys = false) : raw s xs ys = 0 := by
  unfold raw; rw [if_neg (fun e => of_decide_eq_false h e.1)]
theorem raw_nil (s : Bool) (ys : List Nat) : raw s [] ys = 0 := by unfold raw; rw [if_neg (fun e => by have := e.2; simp at this)]
theorem fit_parts {s : Bool} {xs ys : List Nat} (h : fitB s xs ys = true) (hx : 0 < xs.length) : Clean xs ∧ Clean ys ∧ 0 < val xs ∧ 0 < val ys ∧ Nat.gcd (val xs) (val ys) = 1 := by
  have h1 : FitP s xs ys := of_decide_eq_true h
  rcases h1 with ⟨rfl, _⟩ | ⟨⟨a, b⟩, ⟨c, d⟩, e⟩
  · simp at hx
  · exact ⟨b, d, val_pos b a, val_pos d c, e⟩
theorem own_nextr (w : World) (o : Obj) (t : TypeId) (cur : Array Value) : Own ((w.alloc o).alloc (.cells cur t)) (w.heap.size + 1) t cur := by
  have h := Own.new (w.alloc o) t cur
  rwa [show (w.alloc o).heap.size = w.heap.size + 1 from by simp] at h
theorem on3 {w w' : World} {g : Nat} (h : On w w') (hg : w.heap.size ≤ g) (u v x : Value) : On w (((w'.setCell ⟨g, 0, none⟩ u).setCell ⟨g, 1, none⟩ v).setCell ⟨g, 2, none⟩ x) :=
  ((h.setCell (p := ⟨g, 0, none⟩) hg u).setCell (p := ⟨g, 1, none⟩) hg v).setCell (p := ⟨g, 2, none⟩) hg x
/-- a block that holds a fraction holds no words -/
theorem rat_far {w : World} {g : Nat} {t : TypeId} {b : Bool} {A1 A2 A : Option Addr} {n1 c1 n2 c2 n c : Nat} {xs : List Nat} (h : Rd w A n c xs) (ho : Own w g t #[.bool b, .slice A1 n1 c1, .slice A2 n2 c2]) : 0 < n → ∀ ad, A = some ad → ad.block ≠ g := by
  intro hn ad e hg
  obtain ⟨ad2, e2, _, hc⟩ := h.at_ 0 hn
  rw [e] at e2
  injection e2 with e2
  subst e2
  rw [add_nil] at hc
  have ho' : w.heap[ad.block]? = some (.cells #[.bool b, .slice A1 n1 c1, .slice A2 n2 c2] t (0, 0)) := by rw [hg]; exact ho
  unfold World.cell? at hc
  rw [ho'] at hc
  simp only at hc
  split at hc
  · cases hc
  · match hi : ad.off with
    | 0 => rw [hi] at hc; injection hc with hc; cases hc
    | 1 => rw [hi] at hc; injection hc with hc; cases hc
    | 2 => rw [hi] at hc; injection hc with hc; cases hc
    | k + 3 => rw [hi] at hc; simp at hc
theorem Rd.only' {w w' : World} {g : Nat} {A : Option Addr} {n c : Nat} {xs : List Nat} (h : Rd w A n c xs) (hb : Only g w w') (hg : 0 < n → ∀ ad, A = some ad → ad.block ≠ g) : Rd w' A n c xs := by
  refine ⟨h.1, h.2.1, h.2.2.1, h.2.2.2.1, h.none_, fun hn => ?_⟩
  obtain ⟨ad, e, hl, hc⟩ := h.2.2.2.2.2 hn
  refine ⟨ad, e, Nat.lt_of_lt_of_le hl hb.size, fun j hj => ?_⟩
  have hne := hg hn ad e
  exact (World.cell?_of_block (hb.block _ (by rw [block_of_add]; exact hl) (by rw [block_of_add]; simp; exact hne))).trans (hc j hj)
theorem only3 {w : World} {g : Nat} (u v x : Value) : Only g w (((w.setCell ⟨g, 0, none⟩ u).setCell ⟨g, 1, none⟩ v).setCell ⟨g, 2, none⟩ x) := (((Only.refl g w).set_ 0 u).set_ 1 v).set_ 2 x
theorem nm_put {w : World} {g : Nat} {t : TypeId} {b : Bool} {A1 A2 A : Option Addr} {n1 c1 n2 c2 n c y L : Nat} (h : Nm w A n c y L) (ho : Own w g t #[.bool b, .slice A1 n1 c1, .slice A2 n2 c2]) (u v x : Value) : Nm (((w.setCell ⟨g, 0, none⟩ u).setCell ⟨g, 1, none⟩ v).setCell ⟨g, 2, none⟩ x) A n c y L := by
  obtain ⟨xs, h1, h2⟩ := h
  exact ⟨xs, h1.only' (only3 u v x) (rat_far h1 ho), h2⟩
theorem isR_put {w : World} {g : Nat} {t : TypeId} {b : Bool} {A1 A2 : Option Addr} {n1 c1 n2 c2 L : Nat} {r : Rat} {z : Value} (h : IsR w z r L) (ho : Own w g t #[.bool b, .slice A1 n1 c1, .slice A2 n2 c2]) (u v x : Value) : IsR (((w.setCell ⟨g, 0, none⟩ u).setCell ⟨g, 1, none⟩ v).setCell ⟨g, 2, none⟩ x) z r L := by
  obtain ⟨A, n, c, xs, A', n', c', ys, h1, h2, h3, h4⟩ := h
  exact ⟨A, n, c, xs, A', n', c', ys, h1, h2.only' (only3 u v x) (rat_far h2 ho), h3.only' (only3 u v x) (rat_far h3 ho), h4⟩
set_option maxHeartbeats 800000 in
theorem value_any (w : World) (s : Bool) (A A' : Option Addr) (n c n' c' L : Nat) (xs ys : List Nat) (h : Rd w A n c xs) (k : Rd w A' n' c' ys) (hn : n ≤ L) (hn' : n' ≤ L) (hL : L ≤ 5000) :
    Calls Tryz.prog 74 #[.agg #[.bool s, .slice A n c, .slice A' n' c']] w (RatPost w (raw s xs ys) L) := by
  have B := ((On.refl w).alloc (.cells #[.bool s, .slice A n c, .slice A' n' c'] 24)).alloc (.cells #[.bool false, .slice none 0 0, .slice none 0 0] 24)
  have O1 := (Own.new w 24 #[.bool s, .slice A n c, .slice A' n' c']).alloc (.cells #[.bool false, .slice none 0 0, .slice none 0 0] 24)
  have O2 := own_nextr w (.cells #[.bool s, .slice A n c, .slice A' n' c'] 24) 24 #[.bool false, .slice none 0 0, .slice none 0 0]
  have h1 := h.on B
  have k1 := k.on B
  by_cases h0 : n = 0
  · subst h0
    obtain rfl := List.eq_nil_of_length_eq_zero h.len
    have HR := Lib.hid (raw_nil s ys)
    go_enter Tryz.func74, Tryz.ntmps74
    go_wp2
    exact bodyPost_ret (v := .agg #[.bool false, .slice none 0 0, .slice none 0 0]) (by simp [results, Tryz.results74, go_sem]) rfl ⟨_, rfl, by rw [HR.out]; exact isR_zero _ _, B⟩
  · have hb0 : ((n : Int) == 0) = false := by simp; omega
    have hxp : 0 < xs.length := by rw [h.len]; omega
    have HO1 := Lib.hid O1
    have HO2 := Lib.hid O2
    clear O1 O2
    go_enter Tryz.func74, Tryz.ntmps74
    go_wp2_with fail
    refine (valid_any _ _ _ _ _ _ _ _ _ _ h1 k1 (by omega) (by omega)).mono ?_
    rintro e w2 ⟨rfl, P2⟩
    have O1 := HO1.out.on P2
    have O2 := HO2.out.on P2
    have a0 : w2.cell? ⟨w.heap.size, 0, none⟩ = some (.bool s) := O1.cell 0
    have af0 := O1.frozen 0
    have a1 : w2.cell? ⟨w.heap.size, 1, none⟩ = some (.slice A n c) := O1.cell 1
    have af1 := O1.frozen 1
    have a2 : w2.cell? ⟨w.heap.size, 2, none⟩ = some (.slice A' n' c') := O1.cell 2
    have af2 := O1.frozen 2
    have r0 : w2.cell? ⟨w.heap.size + 1, 0, none⟩ = some (.bool false) := O2.cell 0
    have rf0 := O2.frozen 0
    have r1 : w2.cell? ⟨w.heap.size + 1, 1, none⟩ = some (.slice none 0 0) := O2.cell 1
    have rf1 := O2.frozen 1
    have r2 : w2.cell? ⟨w.heap.size + 1, 2, none⟩ = some (.slice none 0 0) := O2.cell 2
    have rf2 := O2.frozen 2
    cases hf : fitB s xs ys
    · have HR := Lib.hid (raw_no hf)
      clear hf
      go_wp2
      exact bodyPost_ret (v := .agg #[.bool false, .slice none 0 0, .slice none 0 0]) (by simp [results, Tryz.results74, go_sem, r0, r1, r2]) rfl ⟨_, rfl, by rw [HR.out]; exact isR_zero _ _, on3 (B.trans P2) (by omega) _ _ _⟩
    · have HF := Lib.hid hf
      clear hf
      go_wp2
      have hon := on3 (g := w.heap.size + 1) (B.trans P2) (by omega) (.bool s) (.slice A n c) (.slice A' n' c')
      obtain ⟨C, C', p1, p2, p3⟩ := fit_parts HF.out hxp
      exact bodyPost_ret (v := .agg #[.bool s, .slice A n c, .slice A' n' c']) (by simp [results, Tryz.results74, go_sem, r0, r1, r2]) rfl ⟨_, rfl, by rw [raw_fit HF.out hxp]; exact isR_one (h.on hon) (k.on hon) C C' hn hn' p1 p2 p3, hon⟩
end
section
set_option maxHeartbeats 400000 in
theorem quotient_any (w : World) (A A' : Option Addr) (n c n' c' L : Nat) (xs ys : List Nat) (h : Rd w A n c xs) (k : Rd w A' n' c' ys) (hv : 0 < val ys) (hn : n ≤ 10000) (hL : tl xs ≤ L) (hL' : tl ys ≤ L) (hL2 : 2 ≤ L) :
    Calls Tryz.prog 117 #[.slice A n c, .slice A' n' c'] w (Gives w (val xs / val ys) L) := by
  go_enter Tryz.func117, Tryz.ntmps117
  go_wp2_with fail
  refine (div_any _ _ _ _ _ _ _ L L _ _ h k hv hn hL hL' hL2).mono ?_
  rintro e w1 ⟨A1, n1, c1, A2, n2, c2, rfl, N1, N2, hon⟩
  go_wp2
  go_ret
  exact ⟨_, _, _, rfl, N1, hon⟩
theorem nb_zero_iff (v : Nat) : nb v = 0 ↔ v = 0 := by
  constructor
  · intro h
    have := nb_lt v
    rw [h] at this; simpa using this
  · rintro rfl; rfl
set_option maxHeartbeats 800000 in
theorem lowest_any (w : World) (s : Bool) (A A' : Option Addr) (n c n' c' L : Nat) (xs ys : List Nat) (h : Rd w A n c xs) (k : Rd w A' n' c' ys) (hy : 0 < val ys) (hn : n ≤ L) (hn' : n' ≤ L) (hL2 : 2 ≤ L) (hL : L ≤ 5000) :
    Calls Tryz.prog 94 #[.bool s, .slice A n c, .slice A' n' c'] w (RatPost w (fr s (val xs) (val ys)) L) := by
  have B := (On.refl w).alloc (.cells #[.bool false, .slice none 0 0, .slice none 0 0] 24)
  have O2 := Own.new w 24 #[.bool false, .slice none 0 0, .slice none 0 0]
  have h1 := h.on B
  have k1 := k.on B
  have Tx := tl_le xs
  have Ty := tl_le ys
  rw [h.len] at Tx
  rw [k.len] at Ty
  have HO2 := Lib.hid O2
  clear O2
  rcases Nat.eq_zero_or_pos (val xs) with h0 | h0
  · have HR : Hid (fr s (val xs) (val ys) = 0) := Lib.hid (by rw [h0]; exact fr_zero s _)
    have HB := Lib.hid ((nb_zero_iff (val xs)).2 h0)
    clear h0
    go_enter Tryz.func94, Tryz.ntmps94
    go_wp2_with fail
    refine (bits_any _ _ _ _ _ h1 (by omega)).mono ?_
    rintro e w' ⟨rfl, rfl⟩
    rw [HB.out]
    go_wp2
    exact bodyPost_ret (v := .agg #[.bool false, .slice none 0 0, .slice none 0 0]) (by simp [results, Tryz.results94, go_sem]) rfl ⟨_, rfl, by rw [HR.out]; exact isR_zero _ _, B⟩
  · have hnz : nb (val xs) ≠ 0 := fun e => by have := (nb_zero_iff _).1 e; omega
    have hb0 : (((nb (val xs) : Nat) : Int) == 0) = false := by simp; omega
    have HP := Lib.hid h0
    have HQ := Lib.hid hy
    clear h0 hnz hy
    go_enter Tryz.func94, Tryz.ntmps94
    go_wp2_with fail
    refine (bits_any _ _ _ _ _ h1 (by omega)).mono ?_
    rintro e w' ⟨rfl, rfl⟩
    go_wp2_with fail
    refine (gcd_any _ _ _ _ _ _ _ L _ _ h1 k1 (by omega) (by omega) (by omega) (by omega) hL2 (by omega)).mono ?_
    rintro e w2 ⟨A2, n2, c2, rfl, ⟨gs, RG, CG, VG, LG⟩, P2⟩
    have hgp : 0 < val gs := by rw [VG]; exact Nat.gcd_pos_of_pos_left _ HP.out
    have HG := Lib.hid VG
    have HGP := Lib.hid hgp
    have Tg : tl gs ≤ L := Nat.le_trans (tl_le _) (by rw [RG.len]; exact LG)
    clear VG hgp
    go_wp2_with fail
    refine (quotient_any _ _ _ _ _ _ _ L _ _ (h1.on P2) RG HGP.out (by omega) (by omega) Tg hL2).mono ?_
    rintro e w3 ⟨A3, n3, c3, rfl, N3, P3⟩
    go_wp2_with fail
    refine (quotient_any _ _ _ _ _ _ _ L _ _ ((k1.on P2).on P3) (RG.on P3) HGP.out (by omega) (by omega) Tg hL2).mono ?_
    rintro e w4 ⟨A4, n4, c4, rfl, N4, P4⟩
    have P := (B.trans P2).trans (P3.trans P4)
    have O2 := ((HO2.out.on P2).on P3).on P4
    have N3' := N3.on P4
    rw [HG.out] at N3' N4
    clear N3 RG CG
    have r0 : w4.cell? ⟨w.heap.size, 0, none⟩ = some (.bool false) := O2.cell 0
    have rf0 := O2.frozen 0
    have r1 : w4.cell? ⟨w.heap.size, 1, none⟩ = some (.slice none 0 0) := O2.cell 1
    have rf1 := O2.frozen 1
    have r2 : w4.cell? ⟨w.heap.size, 2, none⟩ = some (.slice none 0 0) := O2.cell 2
    have rf2 := O2.frozen 2
    go_wp2
    have hon := on3 (g := w.heap.size) P (by omega) (.bool s) (.slice A3 n3 c3) (.slice A4 n4 c4)
    exact bodyPost_ret (v := .agg #[.bool s, .slice A3 n3 c3, .slice A4 n4 c4]) (by simp [results, Tryz.results94, go_sem, r0, r1, r2]) rfl ⟨_, rfl, isR_fr HP.out HQ.out (nm_put N3' O2 _ _ _) (nm_put N4 O2 _ _ _), hon⟩
/-- a fraction and an error -/
def RatPost2 (w : World) (r : Rat) (L : Nat) (er : Value) (e : Ending) (w' : World) : Prop := ∃ v, e = .returned (.tuple #[v, er]) ∧ IsR w' v r L ∧ On w w'
/-- the words of an int's absolute value -/
def MagPost (w : World) (x : Int) (e : Ending) (w' : World) : Prop := ∃ A xs, e = .returned (.slice A 2 2) ∧ Rd w' A 2 2 xs ∧ val xs = x.natAbs ∧ On w w'
theorem mag_fin (w : World) (t : TypeId) (y : Int) (h0 : 0 ≤ y) (h1 : y ≤ 9223372036854775808) : ∃ xs, Rd (w.alloc (.cells #[.int .u32 (y % 4294967296), .int .u32 (y / 4294967296)] t)) (some ⟨w.heap.size, 0, none⟩) 2 2 xs ∧ val xs = y.natAbs := by
  obtain ⟨k, rfl⟩ := Int.eq_ofNat_of_zero_le h0
  rw [show ((k : Int) % 4294967296) = ((k % 4294967296 : Nat) : Int) from by omega, show ((k : Int) / 4294967296) = ((k / 4294967296 : Nat) : Int) from by omega]
  exact ⟨_, rd_two w t (k % 4294967296) (k / 4294967296) (by omega) (by omega), by simp only [val, BB]; omega⟩
set_option maxHeartbeats 800000 in
theorem mag_any (w : World) (x : Int) (h0 : -9223372036854775808 ≤ x) (h1 : x ≤ 9223372036854775807) :
    Calls Tryz.prog 95 #[.int .i64 x] w (MagPost w x) := by
  by_cases hx : x < 0
  · have e1 : IntKind.u64.wrap x = x + 18446744073709551616 := by rw [IntKind.wrap_u64]; omega
    have e2 : IntKind.u64.wrap (-(x + 18446744073709551616)) = -x := by rw [IntKind.wrap_u64]; omega
    go_enter Tryz.func95, Tryz.ntmps95
    obtain ⟨ms, RM, VM⟩ := mag_fin w 66 (-x) (by omega) (by omega)
    have HV := Lib.hid VM
    clear VM
    go_wp2
    go_ret
    exact ⟨_, ms, rfl, RM, by rw [HV.out]; omega, (On.refl w).alloc _⟩
  · go_enter Tryz.func95, Tryz.ntmps95
    obtain ⟨ms, RM, VM⟩ := mag_fin w 66 x (by omega) (by omega)
    have HV := Lib.hid VM
    clear VM
    go_wp2
    go_ret
    exact ⟨_, ms, rfl, RM, by rw [HV.out], (On.refl w).alloc _⟩
theorem fr_int (x : Int) : fr (decide (x < 0)) x.natAbs 1 = (x : Rat) := by
  have h := fr_self (x : Rat)
  have e : decide ((x : Rat) < 0) = decide (x < 0) := by simp only [rat_neg_iff]; rfl
  rw [e] at h
  exact h
set_option maxHeartbeats 800000 in
theorem ofr_any (w : World) (x : Int) (h0 : -9223372036854775808 ≤ x) (h1 : x ≤ 9223372036854775807) :
    Calls Tryz.prog 61 #[.int .i64 x] w (RatPost w (x : Rat) 2) := by
  have B := (On.refl w).alloc (.cells #[.bool false, .slice none 0 0, .slice none 0 0] 24)
  have O2 := Own.new w 24 #[.bool false, .slice none 0 0, .slice none 0 0]
  have HO2 := Lib.hid O2
  clear O2
  obtain ⟨q, hq⟩ : ∃ q, (x : Rat) = q := ⟨_, rfl⟩
  rw [hq]
  have HQ := Lib.hid hq
  clear hq
  go_enter Tryz.func61, Tryz.ntmps61
  go_wp2_with fail
  refine (mag_any _ _ h0 h1).mono ?_
  rintro e w2 ⟨A2, xs, rfl, R2, V2, P2⟩
  have HV2 := Lib.hid V2
  clear V2
  go_wp2_with fail
  refine (of_any _ _ (by decide)).mono ?_
  rintro e w3 ⟨A3, n3, c3, rfl, ⟨ys, R3, C3, V3, L3⟩, P3⟩
  have HV3 : Hid (val ys = 1) := Lib.hid V3
  clear V3
  go_wp2_with fail
  refine (lowest_any _ _ _ _ _ _ _ _ 2 _ _ (R2.on P3) R3 (by rw [HV3.out]; decide) (by decide) L3 (by decide) (by decide)).mono ?_
  rintro e w4 ⟨v, rfl, I, P4⟩
  rw [HV2.out, HV3.out, fr_int, HQ.out] at I
  have I2 := I
  obtain ⟨A1, n1, c1, xs1, A4, n4, c4, ys1, rfl, _⟩ := I2
  have O2 := ((HO2.out.on P2).on P3).on P4
  have r0 : w4.cell? ⟨w.heap.size, 0, none⟩ = some (.bool false) := O2.cell 0
  have rf0 := O2.frozen 0
  have r1 : w4.cell? ⟨w.heap.size, 1, none⟩ = some (.slice none 0 0) := O2.cell 1
  have rf1 := O2.frozen 1
  have r2 : w4.cell? ⟨w.heap.size, 2, none⟩ = some (.slice none 0 0) := O2.cell 2
  have rf2 := O2.frozen 2
  clear R2 R3 C3
  go_wp2
  have hon := on3 (g := w.heap.size) (((B.trans P2).trans P3).trans P4) (by omega) (.bool (decide (q < 0))) (.slice A1 n1 c1) (.slice A4 n4 c4)
  exact bodyPost_ret (v := .agg #[.bool (decide (q < 0)), .slice A1 n1 c1, .slice A4 n4 c4]) (by simp [results, Tryz.results61, go_sem, r0, r1, r2]) rfl ⟨_, rfl, isR_put I O2 _ _ _, hon⟩
theorem not_beq (a b : Bool) : (!(a == b)) = (a != b) := rfl
end
section
/-- from place o on the cells are the bytes xs -/
def HasB (cur : Array Value) (o : Nat) (xs : List Nat) : Prop := (∀ u ∈ xs, u < 256) ∧ ∀ j, j < xs.length → cur[o + j]? = some (.int .u8 (gw xs j : Int))
theorem HasB.get {cur : Array Value} {o : Nat} {xs : List Nat} (h : HasB cur o xs) (j : Nat) (hj : j < xs.length) : cur[o + j]? = some (.int .u8 (gw xs j : Int)) := h.2 j hj
theorem HasB.lt {cur : Array Value} {o : Nat} {xs : List Nat} (h : HasB cur o xs) (j : Nat) : gw xs j < 256 := by
  unfold gw
  rw [List.getD_eq_getElem?_getD]
  rcases Nat.lt_or_ge j xs.length with hk | hk
  · rw [List.getElem?_eq_getElem hk]; exact h.1 _ (List.getElem_mem hk)
  · rw [List.getElem?_eq_none hk]; decide
theorem HasB.set_ {cur : Array Value} {o j x : Nat} {xs : List Nat} (h : HasB cur o xs) (hj : j < xs.length) (hx : x < 256) : HasB (cur.setIfInBounds (o + j) (.int .u8 (x : Int))) o (xs.set j x) := by
  refine ⟨fun u hu => ?_, fun k hk => ?_⟩
  · rcases List.mem_or_eq_of_mem_set hu with h' | h'
    · exact h.1 u h'
    · omega
  · rw [List.length_set] at hk
    have hb : o + j < cur.size := (Array.getElem?_eq_some_iff.1 (h.2 j hj)).1
    rw [gw_set xs j k x hj, Array.getElem?_setIfInBounds]
    by_cases hjk : j = k
    · subst hjk; rw [if_pos rfl, if_pos hb, if_pos rfl]
    · rw [if_neg (by omega), if_neg hjk]; exact h.2 k hk
/-- what stands in the list when the first k and the last k have changed places -/
def swaps (xs zs : List Nat) (k : Nat) : Prop := zs.length = xs.length ∧ ∀ j, j < xs.length → gw zs j = if j < k ∨ xs.length - k ≤ j then gw xs (xs.length - 1 - j) else gw xs j
theorem swaps_step {xs zs : List Nat} {k : Nat} (h : swaps xs zs k) (hk : 2 * k + 1 < xs.length) : swaps xs ((zs.set k (gw zs (xs.length - 1 - k))).set (xs.length - 1 - k) (gw zs k)) (k + 1) := by
  obtain ⟨h1, h2⟩ := h
  refine ⟨by rw [List.length_set, List.length_set, h1], fun j hj => ?_⟩
  rw [gw_set _ _ _ _ (by rw [List.length_set]; omega), gw_set _ _ _ _ (by omega)]
  have a := h2 k (by omega)
  have b := h2 (xs.length - 1 - k) (by omega)
  rw [if_neg (by omega)] at a b
  by_cases e1 : xs.length - 1 - k = j
  · subst e1
    rw [if_pos rfl, if_pos (by omega), a]
    congr 1; omega
  · rw [if_neg e1]
    by_cases e2 : k = j
    · subst e2
      rw [if_pos rfl, if_pos (by omega), b]
    · rw [if_neg e2, h2 j hj]
      by_cases e3 : j < k ∨ xs.length - k ≤ j
      · rw [if_pos e3, if_pos (by omega)]
      · rw [if_neg e3, if_neg (by omega)]
theorem swaps_end {xs zs : List Nat} {k : Nat} (h : swaps xs zs k) (hk : xs.length ≤ 2 * k + 1) : zs = xs.reverse := by
  obtain ⟨h1, h2⟩ := h
  apply List.ext_getElem
  · rw [List.length_reverse, h1]
  · intro j hj hj'
    have a := h2 j (by omega)
    have e : gw zs j = zs[j] := by simp [gw, List.getD_eq_getElem?_getD, hj]
    rw [← e, a, List.getElem_reverse]
    by_cases e3 : j < k ∨ xs.length - k ≤ j
    · rw [if_pos e3]; simp [gw, List.getD_eq_getElem?_getD, show xs.length - 1 - j < xs.length from by omega]
    · rw [if_neg e3]
      have : xs.length - 1 - j = j := by omega
      simp [this, gw, List.getD_eq_getElem?_getD, show j < xs.length from by omega]
def RevPost (w : World) (g : Nat) (t : TypeId) (cur : Array Value) (o : Nat) (xs : List Nat) (e : Ending) (w' : World) : Prop :=
  ∃ cur', e = .returned (.tuple #[]) ∧ Own w' g t cur' ∧ HasB cur' o xs.reverse ∧ cur'.size = cur.size ∧ Only g w w'
set_option maxHeartbeats 1000000 in
theorem reverse_any (w : World) (g o n c : Nat) (cur : Array Value) (xs : List Nat) (hown : Own w g 5 cur) (hh : HasB cur o xs) (hn : xs.length = n) (hm : n ≤ 1000000000) :
    Calls Tryz.prog 120 #[.slice (some ⟨g, o, none⟩) n c] w (RevPost w g 5 cur o xs) := by
  have HN := Lib.hid hn
  clear hn
  go_enter Tryz.func120, Tryz.ntmps120
  go_wp2
  go_loopw [2, 3] (fun i j wr => ∃ (k : Nat) (cur' : Array Value) (zs : List Nat), i = .int .i64 (k : Int) ∧ j = .int .i64 ((n : Int) - 1 - (k : Int)) ∧ 2 * k ≤ n + 1 ∧ Own wr g 5 cur' ∧ HasB cur' o zs ∧ swaps xs zs k ∧ cur'.size = cur.size ∧ Only g w wr) (fun i _ _ => n - (intOf i).toNat)
  case atStart => exact ⟨0, cur, xs, rfl, by simp, by omega, hown, hh, ⟨rfl, fun j hj => by rw [if_neg (by omega)]⟩, rfl, Only.refl _ _⟩
  case round =>
    obtain ⟨k, cur', zs, rfl, rfl, hk, hown', hh', hs, hsz, honly⟩ := hrel
    have H1 := Lib.hid hs
    have H2 := Lib.hid hsz
    have H3 := Lib.hid hown'
    clear hs hsz hown' hown
    by_cases hlt : 2 * k + 1 < n
    · have c1 := (H3.out.cell _).trans (hh'.get k (by rw [H1.out.1, HN.out]; omega))
      have c2 := (H3.out.cell _).trans (hh'.get (n - 1 - k) (by rw [H1.out.1, HN.out]; omega))
      have f1 : wr.frozen? ⟨g, o + k, none⟩ = false := H3.out.frozen _
      have f2 : wr.frozen? ⟨g, o + (n - 1 - k), none⟩ = false := H3.out.frozen _
      obtain ⟨m, hm1⟩ : ∃ m, n - 1 - k = m := ⟨_, rfl⟩
      have e1 : (n : Int) - 1 - (k : Int) = (m : Int) := by omega
      rw [hm1] at c2 f2
      have l1 : k < m := by omega
      have l2 : m < n := by omega
      have M1 := Lib.hid hm1
      rw [e1]
      clear e1 hm1
      go_wp2
      go_region
      all_goals go_wp2
      have hl : zs.length = n := by rw [H1.out.1, HN.out]
      have hA := (hh'.set_ (j := k) (x := gw zs m) (by omega) (hh'.lt m)).set_ (j := m) (x := gw zs k) (by rw [List.length_set]; omega) (hh'.lt k)
      have hS := swaps_step H1.out (by rw [HN.out]; exact hlt)
      rw [HN.out, M1.out] at hS
      have hmm := M1.out
      exact ⟨⟨k + 1, _, _, by go_num, by congr 1; omega, by omega, ((H3.out.set_ _ _).set_ _ _).drew, hA, hS, by simp [H2.out], ((honly.set_ _ _).set_ _ _).drew⟩, by simp [intOf]; omega⟩
    · go_wp2
      go_end0
      have hE := swaps_end H1.out (by rw [HN.out]; omega)
      subst hE
      exact ⟨cur', rfl, H3.out, hh', H2.out, honly⟩
end
section
/-- bytes that are digits, the least significant one first: what they are worth -/
def dvb : List Nat → Nat
  | [] => 0
  | b :: r => (b - 48) + 10 * dvb r
def IsDig (l : List Nat) : Prop := ∀ b ∈ l, 48 ≤ b ∧ b ≤ 57
/-- the bytes of the decimal digits of v, the most significant one first -/
def IsText (v : Nat) (bs : List Nat) : Prop := (v = 0 ∧ bs = [48]) ∨ ∃ ds, bs = ds.reverse ∧ IsDig ds ∧ dvb ds = v ∧ 0 < ds.length ∧ gw ds (ds.length - 1) ≠ 48
theorem IsDig.nil : IsDig [] := fun _ h => by cases h
theorem IsDig.snoc {l : List Nat} (h : IsDig l) {d : Nat} (h1 : 48 ≤ d) (h2 : d ≤ 57) : IsDig (l ++ [d]) := fun b hb => by
  rcases List.mem_append.1 hb with h' | h'
  · exact h b h'
  · simp at h'; omega
theorem IsDig.take {l : List Nat} (h : IsDig l) (k : Nat) : IsDig (l.take k) := fun b hb => h b (List.mem_of_mem_take hb)
theorem IsDig.get {l : List Nat} (h : IsDig l) {k : Nat} (hk : k < l.length) : 48 ≤ gw l k ∧ gw l k ≤ 57 := by
  have : gw l k = l[k] := by simp [gw, List.getD_eq_getElem?_getD, hk]
  rw [this]; exact h _ (List.getElem_mem hk)
theorem dvb_snoc (l : List Nat) (d : Nat) : dvb (l ++ [d]) = dvb l + 10 ^ l.length * (d - 48) := by
  induction l with
  | nil => simp [dvb]
  | cons x r ih => simp only [List.cons_append, dvb, ih, List.length_cons, Nat.pow_succ]; rw [Nat.mul_add, ← Nat.mul_assoc, Nat.mul_comm 10 (10 ^ r.length)]; omega
theorem dvb_take_succ (l : List Nat) (k : Nat) (h : k < l.length) : dvb (l.take (k + 1)) = dvb (l.take k) + 10 ^ k * (gw l k - 48) := by
  rw [List.take_succ_eq_append_getElem h, dvb_snoc]
  simp [gw, List.getD_eq_getElem?_getD, h, Nat.min_eq_left (Nat.le_of_lt h)]
theorem dvb_lt {l : List Nat} (h : IsDig l) : dvb l < 10 ^ l.length := by
  induction l with
  | nil => simp [dvb]
  | cons x r ih =>
    have h1 := h x (by simp)
    have h2 := ih (fun u hu => h u (by simp [hu]))
    simp only [dvb, List.length_cons, Nat.pow_succ]
    omega
theorem dvb_pos {l : List Nat} (hl : 0 < l.length) (h : gw l (l.length - 1) ≠ 48) (hd : IsDig l) : 0 < dvb l := by
  have h1 := dvb_take_succ l (l.length - 1) (by omega)
  rw [List.take_of_length_le (by omega)] at h1
  have h2 := hd.get (k := l.length - 1) (by omega)
  have h3 : 10 ^ (l.length - 1) * 1 ≤ 10 ^ (l.length - 1) * (gw l (l.length - 1) - 48) := Nat.mul_le_mul_left _ (by omega)
  have h4 : 0 < 10 ^ (l.length - 1) := Nat.pow_pos (by decide)
  omega
theorem gw_cons (x : Nat) (r : List Nat) (k : Nat) : gw (x :: r) (k + 1) = gw r k := by simp [gw]
theorem dvb_inj {a b : List Nat} (ha : IsDig a) (hb : IsDig b) (la : a.length = 0 ∨ gw a (a.length - 1) ≠ 48) (lb : b.length = 0 ∨ gw b (b.length - 1) ≠ 48) (h : dvb a = dvb b) : a = b := by
  induction a generalizing b with
  | nil =>
    cases b with
    | nil => rfl
    | cons y s => have := dvb_pos (l := y :: s) (by simp) (by rcases lb with h | h; simp at h; exact h) hb; simp [dvb] at h this; omega
  | cons x r ih =>
    cases b with
    | nil => have := dvb_pos (l := x :: r) (by simp) (by rcases la with h | h; simp at h; exact h) ha; simp [dvb] at h this; omega
    | cons y s =>
      have hx := ha x (by simp)
      have hy := hb y (by simp)
      simp only [dvb] at h
      have hxy : x = y := by omega
      subst hxy
      have hr : dvb r = dvb s := by omega
      have lr : r.length = 0 ∨ gw r (r.length - 1) ≠ 48 := by
        rcases Nat.eq_zero_or_pos r.length with h0 | h0
        · exact .inl h0
        · right
          rcases la with h | h
          · simp at h
          · have e : (x :: r).length - 1 = (r.length - 1) + 1 := by simp; omega
            rw [e, gw_cons] at h; exact h
      have ls : s.length = 0 ∨ gw s (s.length - 1) ≠ 48 := by
        rcases Nat.eq_zero_or_pos s.length with h0 | h0
        · exact .inl h0
        · right
          rcases lb with h | h
          · simp at h
          · have e : (x :: s).length - 1 = (s.length - 1) + 1 := by simp; omega
            rw [e, gw_cons] at h; exact h
      rw [ih (fun u hu => ha u (by simp [hu])) (fun u hu => hb u (by simp [hu])) lr ls hr]
theorem IsText.unique {v : Nat} {a b : List Nat} (ha : IsText v a) (hb : IsText v b) : a = b := by
  rcases ha with ⟨h0, rfl⟩ | ⟨ds, rfl, d1, d2, d3, d4⟩
  · rcases hb with ⟨_, rfl⟩ | ⟨es, rfl, e1, e2, e3, e4⟩
    · rfl
    · have := dvb_pos e3 e4 e1; omega
  · rcases hb with ⟨h0, rfl⟩ | ⟨es, rfl, e1, e2, e3, e4⟩
    · have := dvb_pos d3 d4 d1; omega
    · rw [dvb_inj d1 e1 (.inr d4) (.inr e4) (by omega)]
theorem IsText.digs {v : Nat} {a : List Nat} (h : IsText v a) : IsDig a := by
  rcases h with ⟨_, rfl⟩ | ⟨ds, rfl, h, _⟩
  · intro b hb; simp at hb; omega
  · intro b hb; exact h b (List.mem_reverse.1 hb)
/-- a string of bytes -/
def str (bs : List Nat) : ByteArray := ⟨(bs.map fun n => UInt8.ofNat n).toArray⟩
theorem pow_ten_bb (n : Nat) : BB ^ n ≤ 10 ^ (10 * n) := by
  rw [Nat.pow_mul]
  exact Nat.pow_le_pow_left (by decide) n
/-- as long as something is left, few digits have been found -/
theorem few_digits {d r v n : Nat} (h : 10 ^ d * r ≤ v) (hr : 0 < r) (hv : v < BB ^ n) : d < 10 * n := by
  have h1 : 10 ^ d * 1 ≤ 10 ^ d * r := Nat.mul_le_mul_left _ hr
  have h2 := pow_ten_bb n
  exact (Nat.pow_lt_pow_iff_right (by decide : 1 < 10)).1 (by omega)
end
section
theorem own_of_row8 {w : World} {base : Nat} {e : TypeId} {v : Value} {n : Nat} {xs : List Nat} (ho : ∀ u ∈ xs, u < 256) (h : w.ownsRow base e 1 v n (VW .u8 xs)) (hn : 0 < n) :
    ∃ g cap cur, v = .slice (some ⟨g, 0, none⟩) n cap ∧ base ≤ g ∧ Own w g e cur ∧ HasB cur 0 xs ∧ n ≤ cap ∧ cap ≤ 9223372036854775807 := by
  have hl : xs.length = n := by have := h.1; rw [VW_length] at this; omega
  rcases h.2 with ⟨_, h0⟩ | ⟨g, cap, cur, rfl, hb, hh, hcap, hmax, hsz, htake⟩
  · omega
  · refine ⟨g, cap, cur, rfl, hb, hh, ⟨ho, fun j hj => ?_⟩, hcap, by unfold maxLen at hmax; exact hmax⟩
    have h1 : (VW .u8 xs)[j]? = some (.int .u8 (gw xs j : Int)) := by
      unfold VW; rw [List.getElem?_map, List.getElem?_eq_getElem hj]; simp [gw, List.getD_eq_getElem?_getD, hj]
    rw [← htake, List.getElem?_take] at h1
    split at h1
    · simpa using h1
    · cases h1
/-- the text of v -/
def TextPost (w : World) (v : Nat) (e : Ending) (w' : World) : Prop := ∃ bs, e = .returned (.string (str bs)) ∧ IsText v bs ∧ On w w'
theorem str_of_nums (bs : List Nat) : strOfNums (bs.map fun (n : Nat) => (n : Int)) = str bs := by
  unfold strOfNums str
  rw [List.map_map]
  congr 1
theorem own_far_row {w w' : World} {base g : Nat} {t e : TypeId} {cur : Array Value} {v : Value} {n : Nat} {xs : List Value} (h : Own w g t cur) (hr : w.ownsRow base e 1 v n xs) (hb : g < base) (hg : w.grownBy w' v.ownBlock) : Own w' g t cur := by
  refine (hg.block g h.lt ?_).trans h
  intro he
  rcases hr.2 with ⟨rfl, _⟩ | ⟨g', cap, cur', rfl, hbb, _⟩
  · simp [Value.ownBlock] at he
  · simp [Value.ownBlock] at he; omega
theorem on_row {w0 w w' : World} {base : Nat} {e : TypeId} {v : Value} {n : Nat} {xs : List Value} (h : On w0 w) (hr : w.ownsRow base e 1 v n xs) (hb : w0.heap.size ≤ base) (hg : w.grownBy w' v.ownBlock) : On w0 w' :=
  Below.grown h hg h.size (fun k he => by
    rcases hr.2 with ⟨rfl, _⟩ | ⟨g', cap, cur', rfl, hbb, _⟩
    · simp [Value.ownBlock] at he
    · simp [Value.ownBlock] at he; omega)
theorem cells_one8 (w : World) (t : TypeId) (d : Nat) : ∀ ad, (some ⟨w.heap.size, 0, none⟩ : Option Addr) = some ad → ∀ j, j < 1 → (w.alloc (.cells #[.int .u8 (d : Int)] t)).cell? (ad.add j) = some (.int .u8 ((gw [d] j : Nat) : Int)) := by
  intro ad e j hj
  injection e with e; subst e
  obtain rfl : j = 0 := by omega
  rw [add_nil, (Own.new w t _).cell]
  rfl
theorem row_only {w w' : World} {base g : Nat} {e : TypeId} {v : Value} {n : Nat} {xs : List Value} (hr : w.ownsRow base e 1 v n xs) (hb : g < base) (hg : Only g w w') : w'.ownsRow base e 1 v n xs :=
  hr.kept hg (by
    rcases hr.2 with ⟨rfl, _⟩ | ⟨g', cap, cur', rfl, hbb, _⟩
    · left; rfl
    · right; simp [Value.ownBlock]; omega)
theorem dig_step (D N G : Nat) : D + 10 ^ N * (48 + G % 10 - 48) + 10 ^ (N + 1) * (G / 10) = D + 10 ^ N * G := by
  have h : 10 ^ N * (G % 10) + 10 ^ N * (10 * (G / 10)) = 10 ^ N * G := by rw [← Nat.mul_add, Nat.mod_add_div]
  rw [Nat.add_sub_cancel_left, Nat.pow_succ, Nat.mul_assoc]
  omega
theorem group_step (D N G Q : Nat) : D + 10 ^ N * G + 10 ^ (N + 9) * Q = D + 10 ^ N * (G + 1000000000 * Q) := by
  rw [Nat.pow_add, Nat.mul_add, Nat.mul_assoc, Nat.add_assoc]
set_option maxRecDepth 100000 in
set_option maxHeartbeats 2000000 in
theorem text_any (w : World) (A : Option Addr) (n c : Nat) (xs : List Nat) (h : Rd w A n c xs) (hn : n ≤ 10000) :
    Calls Tryz.prog 90 #[.slice A n c] w (TextPost w (val xs)) := by
  have T := h.take (k := tl xs) (by rw [← h.len]; exact tl_le xs)
  have C := clean_take xs
  have hm : tl xs ≤ n := by rw [← h.len]; exact tl_le xs
  rw [← val_take_tl xs]
  generalize xs.take (tl xs) = zs at *
  go_enter Tryz.func90, Tryz.ntmps90
  go_wp2_with fail
  refine (trim_any _ _ _ _ _ h).mono ?_
  rintro e w' ⟨rfl, rfl⟩
  generalize tl xs = m at *
  clear h xs
  go_wp2_with fail
  refine (clone_any _ _ _ _ _ T (by omega)).mono ?_
  rintro e w1 ⟨A1, c1, rfl, R1, hon1, hown⟩
  rcases Nat.eq_zero_or_pos m with h0 | h0
  · subst h0
    obtain rfl := List.eq_nil_of_length_eq_zero T.len
    clear hown
    go_wp2
    go_ret
    exact ⟨[48], rfl, .inl ⟨rfl, rfl⟩, hon1⟩
  · obtain ⟨g, cur, rfl, hg, ho, hh⟩ := hown h0
    clear hown
    have hb1 : ((m : Int) == 0) = false := by simp; omega
    have hvlt := val_lt T.ok
    rw [T.len] at hvlt
    have hvpos : 0 < val zs := val_pos C (by rw [T.len]; exact h0)
    have HV := Lib.hid hvlt
    have HP := Lib.hid hvpos
    have HL := Lib.hid T.len
    have HO := Lib.hid ho
    have hgl := ho.lt
    have hs1 := hon1.size
    have hc1 := R1.cap
    have hc2 := R1.max
    clear hvlt hvpos ho T R1
    go_wp2
    go_loopg [3, 4, 5] (val zs) (fun r s3 s4 s5 wr => ∃ (k : Nat) (cur' : Array Value) (rs ds : List Nat), s3 = .slice (some ⟨g, 0, none⟩) k c1 ∧ k ≤ m ∧ Own wr g 66 cur' ∧ Has cur' 0 rs ∧ rs.length = k ∧ Clean rs ∧ val rs = r ∧ wr.ownsRow w1.heap.size 5 1 s4 ds.length (VW .u8 ds) ∧ IsDig ds ∧ dvb ds + 10 ^ ds.length * r = val zs ∧ On w wr ∧ w1.heap.size ≤ wr.heap.size ∧ ds.length ≤ 200000)
    case atStart =>
      exact ⟨m, cur, zs, [], rfl, Nat.le_refl _, HO.out, hh, HL.out, C, rfl, World.ownsRow_nil _ _ _ _, IsDig.nil, by simp [dvb], hon1, Nat.le_refl _, by simp⟩
    case round =>
      obtain ⟨k, cur', rs, ds, rfl, hk, ho', hh', hl', C', hv', hrow, hdig, hval, hon', hsz, hdsl⟩ := hrel
      rcases Nat.eq_zero_or_pos k with hk0 | hk0
      · subst hk0
        obtain rfl := List.eq_nil_of_length_eq_zero hl'
        subst hv'
        have hdv : dvb ds = val zs := by rw [← hval]; simp [val]
        have hdl : 0 < ds.length := by
          rcases Nat.eq_zero_or_pos ds.length with h | h
          · have := HP.out
            rw [List.eq_nil_of_length_eq_zero h] at hdv
            simp [dvb] at hdv; omega
          · exact h
        obtain ⟨gd, cap, cd, rfl, hgd, hod, hbd, hcd, hmd⟩ := own_of_row8 (fun u hu => by have := hdig u hu; omega) hrow hdl
        have H1 := Lib.hid hdv
        have H2 := Lib.hid hod
        clear hval hdv hrow hod hl' C' ho' hh'
        obtain ⟨wo, hwo⟩ : ∃ wo, wo = wr := ⟨_, rfl⟩
        subst hwo
        go_wp2
        go_loopg [4] ds.length (fun r s4 wx => ∃ k, r = k ∧ 0 < k ∧ k ≤ ds.length ∧ s4 = .slice (some ⟨gd, 0, none⟩) k cap ∧ dvb (ds.take k) = val zs ∧ wo = wx)
        case atStart => exact ⟨_, rfl, hdl, Nat.le_refl _, rfl, by rw [List.take_of_length_le (Nat.le_refl _), H1.out], rfl⟩
        case round =>
          obtain ⟨k, rfl, hk0, hkl, rfl, hkv, rfl⟩ := hrel
          have K1 := Lib.hid hkv
          clear hkv
          obtain ⟨k', rfl⟩ : ∃ k', gk = k' + 1 := ⟨gk - 1, by omega⟩
          have hc := (H2.out.cell _).trans (hbd.get k' (by omega))
          rw [Nat.zero_add] at hc
          have hdg := hdig.get (k := k') (by omega)
          by_cases h48 : gw ds k' = 48
          · have K2 := Lib.hid h48
            rw [h48] at hc
            clear h48
            go_wp2
            go_roundg k'
            case measure => omega
            case rel =>
              have e1 := dvb_take_succ ds k' (by omega)
              rw [K2.out, Nat.sub_self, Nat.mul_zero, Nat.add_zero, K1.out] at e1
              refine ⟨k', rfl, ?_, by omega, by congr 1, e1.symm, rfl⟩
              rcases Nat.eq_zero_or_pos k' with h | h
              · subst h; have := HP.out; simp [dvb] at e1; omega
              · exact h
          · have hne : (((gw ds k' : Nat) : Int) == 48) = false := by simp; omega
            have K2 := Lib.hid h48
            clear h48
            have hbt : HasB cd 0 (ds.take (k' + 1)) := ⟨fun u hu => hbd.1 u (List.mem_of_mem_take hu), fun j hj => by
              rw [List.length_take] at hj
              rw [getD_take (by omega)]; exact hbd.get j (by omega)⟩
            have htl : (ds.take (k' + 1)).length = k' + 1 := by rw [List.length_take]; omega
            go_wp2_with fail
            refine (reverse_any wo gd 0 (k' + 1) cap cd (ds.take (k' + 1)) H2.out hbt htl (by omega)).mono ?_
            rintro e w7 ⟨cur7, rfl, ho7, hb7, _, honly7⟩
            have hconv := run_convert_bytes_arg (P := Tryz.prog) w7 100 5 Tryz.underlying100 Tryz.underlying5 gd 0 (k' + 1) cap ((ds.take (k' + 1)).reverse.map fun (n : Nat) => (n : Int)) (by rw [List.length_map, List.length_reverse, htl]) (fun i hi => by
              rw [Own.cell ho7]
              have e := hb7.get i (by rw [List.length_reverse, htl]; exact hi)
              rw [e]
              congr 2
              have hi2 : i < (ds.take (k' + 1)).reverse.length := by rw [List.length_reverse, htl]; exact hi
              simp only [gw, List.getD_eq_getElem?_getD, List.getElem?_map, List.getElem?_eq_getElem hi2, Option.map_some, Option.getD_some]) 9 Tryz.underlying9
            rw [str_of_nums] at hconv
            generalize hbs : str (ds.take (k' + 1)).reverse = sb at *
            have HBS := Lib.hid hbs
            clear hbs
            go_wp2
            go_ret
            refine ⟨(ds.take (k' + 1)).reverse, by rw [HBS.out]; rfl, .inr ⟨ds.take (k' + 1), rfl, hdig.take _, K1.out, by omega, ?_⟩, hon'.only honly7 (by omega)⟩
            rw [htl, Nat.add_sub_cancel, getD_take (by omega)]
            exact K2.out
      · have hr0 : 0 < val rs := val_pos C' (by omega)
        subst hv'
        have hfew := few_digits (d := ds.length) (r := val rs) (v := val zs) (n := m) (by omega) hr0 HV.out
        have H1 := Lib.hid hl'
        have H2 := Lib.hid hval
        have H3 := Lib.hid ho'
        have H4 := Lib.hid hrow
        have H5 := Lib.hid C'
        have hq := Nat.div_lt_self hr0 (show 1 < 1000000000 by decide)
        have H6 := Lib.hid hq
        clear hl' hval ho' hrow C' hq
        go_wp2_with fail
        refine (divw_any wr g 0 k c1 cur' rs 1000000000 H3.out hh' H1.out (by omega) (by omega) hk0 (by decide) (by decide)).mono ?_
        rw [show (1000000000 : Int).toNat = 1000000000 from rfl]
        rintro e w2 ⟨cur2, qs, rfl, ho2, hh2, hl2, hv2, _, honly⟩
        have R2 := Rd.own (n := k) (c := c1) ho2 hh2 (by rw [hl2, H1.out]) (by omega) hc2
        have hon2 : On w w2 := hon'.only honly hg
        have hsz2 : w1.heap.size ≤ w2.heap.size := Nat.le_trans hsz honly.size
        have hrow2 := row_only H4.out hgl honly
        have HV2 := Lib.hid hv2
        have HO2 := Lib.hid ho2
        have HR2 := Lib.hid hrow2
        clear hv2 hl2 ho2 hrow2
        have hG : val rs % 1000000000 < 1000000000 := Nat.mod_lt _ (by decide)
        generalize hGG : val rs % 1000000000 = G at *
        have HG := Lib.hid hGG
        clear hGG
        go_wp2_with fail
        refine (trim_any _ _ _ _ _ R2).mono ?_
        rintro e w' ⟨rfl, rfl⟩
        have htq : tl qs ≤ k := by rw [← R2.len]; exact tl_le qs
        go_wp2
        go_loopw [4, 5, 19] (fun s4 s5 i wx => ∃ (j : Nat) (es : List Nat), j ≤ 9 ∧ i = .int .i64 (j : Int) ∧ s5 = .int .u32 ((G / 10 ^ j : Nat) : Int) ∧ wx.ownsRow w1.heap.size 5 1 s4 es.length (VW .u8 es) ∧ IsDig es ∧ es.length = ds.length + j ∧ dvb es + 10 ^ es.length * (G / 10 ^ j) = dvb ds + 10 ^ ds.length * G ∧ Own wx g 66 cur2 ∧ On w wx ∧ w1.heap.size ≤ wx.heap.size) (fun _ _ i _ => 9 - (intOf i).toNat)
        case atStart => exact ⟨0, ds, by omega, rfl, by simp, HR2.out, hdig, rfl, by simp, HO2.out, hon2, hsz2⟩
        case round =>
          obtain ⟨j, es, hj, rfl, rfl, hre, hde, hle, hve, hoe, hone, hszx⟩ := hrel
          have E1 := Lib.hid hle
          have E2 := Lib.hid hve
          have E3 := Lib.hid hre
          have E4 := Lib.hid hoe
          clear hle hve hre hoe
          by_cases hlt : j < 9
          · have hel : es.length ≤ 1000000 := by rw [E1.out]; omega
            have hdd := Nat.mod_lt (G / 10 ^ j) (show 0 < 10 by decide)
            have hGj : G / 10 ^ j < 1000000000 := Nat.lt_of_le_of_lt (Nat.div_le_self _ _) hG
            have HN : Hid (G / 10 ^ j / 10 = G / 10 ^ (j + 1)) := by rw [Nat.pow_succ, ← Nat.div_div_eq_div_mul]; rfl
            generalize G / 10 ^ j = Gj at *
            have hcell := cells_one8 wr 5 (48 + Gj % 10)
            rw [show (((48 + Gj % 10 : Nat)) : Int) = 48 + (Gj : Int) % 10 from by omega] at hcell
            have HC := Lib.hid hcell
            clear hcell
            go_wp2_with (at_builtin; refine wpList_app rfl (.tmp 21) (.tmp 26) 100 rfl w1.heap.size 5 (.int .u8 0) 1 Tryz.underlying100 info8 rfl (by decide) .u8 _ es.length es rfl (E3.out.alloc _) (some ⟨wr.heap.size, 0, none⟩) 1 1 [48 + Gj % 10] rfl rfl (fun e => by cases e) HC.out (by omega) (by simp; omega) ?_; intro v' w5 hown5 hgrow5 _)
            have hE2 := E2.out
            refine ⟨⟨j + 1, es ++ [48 + Gj % 10], by omega, by go_num, by rw [← HN.out, Int.natCast_ediv]; rfl, by rw [List.length_append]; exact hown5, hde.snoc (by omega) (by omega), by rw [List.length_append, E1.out]; simp only [List.length_singleton]; omega, ?_, own_far_row (E4.out.alloc _) (E3.out.alloc _) hgl hgrow5, on_row (hone.alloc _) (E3.out.alloc _) hs1 hgrow5, Nat.le_trans hszx (Nat.le_trans (by simp) hgrow5.size)⟩, by simp [intOf]; omega⟩
            rw [dvb_snoc, List.length_append, List.length_singleton, ← HN.out, dig_step]
            exact hE2
          · obtain rfl : j = 9 := by omega
            have hE1 := E1
            go_wp2
            go_roundg (val qs)
            case measure => rw [HV2.out]; exact H6.out
            case rel =>
              refine ⟨tl qs, cur2, qs.take (tl qs), es, rfl, Nat.le_trans htq hk, E4.out, ?_, ?_, clean_take qs, val_take_tl qs, E3.out, hde, ?_, hone, hszx, by rw [hE1.out]; omega⟩
              · have := hh2.part (i := 0) (n := tl qs) (by rw [Nat.zero_add]; exact tl_le qs)
                simpa using this
              · rw [List.length_take, Nat.min_eq_left (tl_le qs)]
              · have e2 := E2.out
                rw [Nat.div_eq_of_lt (show G < 10 ^ 9 from hG), Nat.mul_zero, Nat.add_zero] at e2
                rw [e2, E1.out, group_step, ← HG.out, HV2.out, Nat.mod_add_div]
                exact H2.out
end
section
/-- the bytes of a string -/
def bl (s : ByteArray) : List Nat := s.data.toList.map UInt8.toNat
theorem bl_length (s : ByteArray) : (bl s).length = s.size := by simp [bl]
theorem bl_lt (s : ByteArray) (k : Nat) : gw (bl s) k < 256 := by
  unfold gw bl
  rw [List.getD_eq_getElem?_getD, List.getElem?_map]
  cases h : s.data.toList[k]? with
  | none => simp
  | some u => simp; exact u.toNat_lt
theorem bl_get (s : ByteArray) (k : Nat) (h : k < s.size) : gw (bl s) k = s[k].toNat := by
  unfold gw bl
  rw [List.getD_eq_getElem?_getD, List.getElem?_map, List.getElem?_eq_getElem (by simpa using h)]
  rfl
theorem str_bl (s : ByteArray) : str (bl s) = s := by
  unfold str bl
  rw [List.map_map]
  have : (fun n => UInt8.ofNat n) ∘ UInt8.toNat = id := by funext u; simp
  rw [this, List.map_id]
theorem bl_str (bs : List Nat) (h : ∀ b ∈ bs, b < 256) : bl (str bs) = bs := by
  unfold bl str
  simp only [List.map_map]
  conv => rhs; rw [← List.map_id bs]
  apply List.map_congr_left
  intro b hb
  have := h b hb
  simp [UInt8.toNat_ofNat']
  omega
theorem bl_cut (s : ByteArray) (a : Nat) : bl (s.extract a s.size) = (bl s).drop a := by
  unfold bl
  rw [ByteArray.data_extract, Array.toList_extract, List.extract_eq_take_drop, List.take_of_length_le (by simp), List.map_drop]
theorem bl_take (s : ByteArray) (b : Nat) : bl (s.extract 0 b) = (bl s).take b := by
  unfold bl
  rw [ByteArray.data_extract, Array.toList_extract, List.extract_eq_take_drop, List.drop_zero, Nat.sub_zero, List.map_take]
/-- the value of digits, the most significant one first -/
def dv (l : List Nat) : Nat := dvb l.reverse
/-- the text of some number -/
def TextOk (l : List Nat) : Prop := l = [48] ∨ (0 < l.length ∧ gw l 0 ≠ 48 ∧ IsDig l)
instance (l : List Nat) : Decidable (TextOk l) := by unfold TextOk IsDig; infer_instance
theorem dv_snoc (l : List Nat) (d : Nat) : dv (l ++ [d]) = 10 * dv l + (d - 48) := by
  unfold dv; rw [List.reverse_append]; simp only [List.reverse_singleton, List.singleton_append, dvb]; omega
theorem dv_nil : dv [] = 0 := rfl
theorem TextOk.text {l : List Nat} (h : TextOk l) : IsText (dv l) l := by
  rcases h with rfl | ⟨h1, h2, h3⟩
  · exact .inl ⟨rfl, rfl⟩
  · refine .inr ⟨l.reverse, by simp, fun b hb => h3 b (List.mem_reverse.1 hb), rfl, by simpa using h1, ?_⟩
    have e : gw l.reverse (l.reverse.length - 1) = gw l 0 := by
      unfold gw
      rw [List.getD_eq_getElem?_getD, List.getD_eq_getElem?_getD, List.getElem?_reverse (by simp; omega)]
      simp
    rw [e]; exact h2
theorem IsText.ok {v : Nat} {l : List Nat} (h : IsText v l) : TextOk l ∧ dv l = v := by
  rcases h with ⟨rfl, rfl⟩ | ⟨ds, rfl, h1, h2, h3, h4⟩
  · exact ⟨.inl rfl, rfl⟩
  · refine ⟨.inr ⟨by simpa using h3, ?_, fun b hb => h1 b (List.mem_reverse.1 hb)⟩, by unfold dv; rw [List.reverse_reverse]; exact h2⟩
    have e : gw ds.reverse 0 = gw ds (ds.length - 1) := by
      unfold gw
      rw [List.getD_eq_getElem?_getD, List.getD_eq_getElem?_getD, List.getElem?_reverse h3]
      simp
    rw [e]; exact h4
def textB (s : ByteArray) : Bool := decide (TextOk (bl s))
theorem bl_toList (s : ByteArray) : bl s = s.toList.map UInt8.toNat := by rw [Lib.toList_data]; rfl
theorem toList_nil_iff (s : ByteArray) : s.toList = [] ↔ s.size = 0 := by
  rw [Lib.toList_data, ← List.length_eq_zero_iff]; rfl
theorem textB_nil (s : ByteArray) (h : s.size = 0) : textB s = false := by
  unfold textB
  have : bl s = [] := List.eq_nil_of_length_eq_zero (by rw [bl_length, h])
  rw [this]
  apply decide_eq_false
  rintro (h | ⟨h, _⟩)
  · cases h
  · simp at h
theorem textB_zero (s : ByteArray) (h : 0 < s.size) (h0 : gw (bl s) 0 = 48) : textB s = (s.toList == [48]) := by
  unfold textB
  rw [Bool.eq_iff_iff]
  simp only [decide_eq_true_eq, beq_iff_eq]
  constructor
  · rintro (h1 | ⟨_, h1, _⟩)
    · rw [bl_toList] at h1
      cases hl : s.toList with
      | nil => rw [hl] at h1; cases h1
      | cons x r =>
        rw [hl] at h1
        simp at h1
        obtain ⟨h2, rfl⟩ := h1
        congr 1
        apply UInt8.toNat_inj.1
        rw [h2]; rfl
    · exact absurd h0 h1
  · intro h1
    left
    rw [bl_toList, h1]; rfl
theorem isDig_take_succ (l : List Nat) (k : Nat) (h : k < l.length) : IsDig (l.take (k + 1)) ↔ IsDig (l.take k) ∧ (48 ≤ gw l k ∧ gw l k ≤ 57) := by
  rw [List.take_succ_eq_append_getElem h]
  have e : gw l k = l[k] := by simp [gw, List.getD_eq_getElem?_getD, h]
  rw [e]
  constructor
  · intro h1
    exact ⟨fun b hb => h1 b (List.mem_append_left _ hb), h1 l[k] (List.mem_append_right _ (List.mem_singleton.2 rfl))⟩
  · rintro ⟨h1, h2, h3⟩
    exact h1.snoc h2 h3
theorem textB_bad (s : ByteArray) (k : Nat) (h : k < s.size) (h0 : gw (bl s) 0 ≠ 48) (hk : ¬ (48 ≤ gw (bl s) k ∧ gw (bl s) k ≤ 57)) : textB s = false := by
  unfold textB
  apply decide_eq_false
  rintro (h1 | ⟨_, _, h1⟩)
  · rw [h1] at h0; exact h0 rfl
  · exact hk (h1.get (by rw [bl_length]; exact h))
theorem textB_good (s : ByteArray) (h : 0 < s.size) (h0 : gw (bl s) 0 ≠ 48) (hd : IsDig (bl s)) : textB s = true := by
  unfold textB
  exact decide_eq_true (.inr ⟨by rw [bl_length]; exact h, h0, hd⟩)
end
section
theorem radd_end' (P B t X Y v : Nat) (hB : 2 ≤ B) (h : v + P * B * t = X + Y) (hx : X < P) (hy : Y < P) : v = X + Y := by
  rcases t with _ | t
  · omega
  · exfalso
    have h1 : P * 2 ≤ P * B := Nat.mul_le_mul_left _ hB
    have h2 : P * B * 1 ≤ P * B * (t + 1) := Nat.mul_le_mul_left _ (by omega)
    omega
theorem radd_end (m t X Y v : Nat) (h : v + BB ^ (m + 1) * t = X + Y) (hx : X < BB ^ m) (hy : Y < BB ^ m) : v = X + Y := by
  rw [Nat.pow_succ] at h
  exact radd_end' (BB ^ m) BB t X Y v (by decide) h hx hy
theorem cells_one32 (w : World) (t : TypeId) (d : Nat) : ∀ ad, (some ⟨w.heap.size, 0, none⟩ : Option Addr) = some ad → ∀ j, j < 1 → (w.alloc (.cells #[.int .u32 (d : Int)] t)).cell? (ad.add j) = some (.int .u32 ((gw [d] j : Nat) : Int)) := by
  intro ad e j hj
  injection e with e; subst e
  obtain rfl : j = 0 := by omega
  rw [add_nil, (Own.new w t _).cell]
  rfl
theorem val_snoc' (l : List Nat) (x k : Nat) (h : l.length = k) : val (l ++ [x]) = val l + BB ^ k * x := by rw [val_snoc, h]
set_option maxHeartbeats 1000000 in
theorem radd_any (w : World) (A A' : Option Addr) (n c n' c' L : Nat) (xs ys : List Nat) (h : Rd w A n c xs) (k : Rd w A' n' c' ys) (hn : n ≤ 100000) (hn' : n' ≤ 100000) (h1 : n ≤ L) (h2 : n' ≤ L) :
    Calls Tryz.prog 84 #[.slice A n c, .slice A' n' c'] w (Gives w (val xs + val ys) (L + 1)) := by
  obtain ⟨m, hm, m1, m2, m3⟩ : ∃ m, max n n' = m ∧ n ≤ m ∧ n' ≤ m ∧ m ≤ L := ⟨_, rfl, by omega, by omega, by omega⟩
  have hmm : max (n : Int) (n' : Int) = (m : Int) := by omega
  have hml : m ≤ 100000 := by omega
  clear hm
  go_enter Tryz.func84, Tryz.ntmps84
  go_wp2
  go_loopw [5, 6, 15] (fun o cy i wr => ∃ (k t : Nat) (os : List Nat), k ≤ m + 1 ∧ i = .int .i64 (k : Int) ∧ cy = .int .u64 (t : Int) ∧ t ≤ 1 ∧ wr.ownsRow w.heap.size 66 1 o k (VW .u32 os) ∧ os.length = k ∧ Ok os ∧ val os + BB ^ k * t = val (xs.take k) + val (ys.take k) ∧ On w wr) (fun _ _ i _ => m + 1 - (intOf i).toNat)
  case atStart => exact ⟨0, 0, [], by omega, rfl, rfl, by omega, World.ownsRow_nil _ _ _ _, rfl, Ok.nil, by simp [val], On.refl _⟩
  case round =>
    obtain ⟨k', t, os, hk, rfl, rfl, ht, hrow, hl, hok, hv, hon⟩ := hrel
    have H1 := Lib.hid hl
    have H2 := Lib.hid hv
    have H3 := Lib.hid hrow
    clear hl hv hrow
    by_cases hlt : k' < m + 1
    · have gx := h.ok.get k'
      have gy := k.ok.get k'
      have RX := h.on hon
      have RY := k.on hon
      go_wp2_with fail
      refine (word_is _ _ _ _ _ RX _ k' rfl (by omega)).mono ?_
      rintro e w' ⟨rfl, rfl⟩
      go_wp2_with fail
      refine (word_is _ _ _ _ _ RY _ k' rfl (by omega)).mono ?_
      rintro e w' ⟨rfl, rfl⟩
      have HST := Lib.hid (add_step (BB ^ k') (val (xs.take k')) (val (ys.take k')) (gw xs k') (gw ys k') t (val os) H2.out)
      have hcell := cells_one32 wr 66 ((gw xs k' + gw ys k' + t) % 4294967296)
      rw [show (((gw xs k' + gw ys k' + t) % 4294967296 : Nat) : Int) = ((gw xs k' : Int) + (gw ys k' : Int) + (t : Int)) % 4294967296 from by omega] at hcell
      have HC := Lib.hid hcell
      have hos := hon.size
      clear hcell
      go_wp2_with (at_builtin; refine wpList_app rfl (.tmp 27) (.tmp 30) 22 rfl w.heap.size 66 (.int .u32 0) 4 Tryz.underlying22 info32 rfl (by decide) .u32 _ k' os rfl (H3.out.alloc _) (some ⟨wr.heap.size, 0, none⟩) 1 1 [(gw xs k' + gw ys k' + t) % 4294967296] rfl rfl (fun e => by cases e) HC.out (by omega) (by simp; omega) ?_; intro v' w5 hown5 hgrow5 _)
      have e5 : Value.int .u64 (((gw xs k' : Int) + (gw ys k' : Int) + (t : Int)) / 4294967296) = Value.int .u64 (((gw xs k' + gw ys k' + t) / 4294967296 : Nat) : Int) := by
        rw [Int.natCast_ediv, Int.natCast_add, Int.natCast_add]; rfl
      refine ⟨⟨k' + 1, (gw xs k' + gw ys k' + t) / 4294967296, os ++ [(gw xs k' + gw ys k' + t) % 4294967296], by omega, by go_num, e5, by omega, hown5, by rw [List.length_append, H1.out]; rfl, hok.append (Ok.one (Nat.mod_lt _ (by decide))), ?_, on_row (hon.alloc _) (H3.out.alloc _) (Nat.le_refl _) hgrow5⟩, by simp [intOf]; omega⟩
      rw [val_snoc' _ _ k' H1.out, val_take_succ_any, val_take_succ_any, Nat.pow_succ]
      exact HST.out
    · obtain rfl : k' = m + 1 := by omega
      obtain ⟨A5, c5, ho5⟩ := row_form H3.out
      subst ho5
      have R := rd_of_row hok H3.out
      have hval : val os = val xs + val ys := by
        have e1 := H2.out
        rw [List.take_of_length_le (by rw [h.len]; omega), List.take_of_length_le (by rw [k.len]; omega)] at e1
        have b1 := val_lt h.ok
        have b2 := val_lt k.ok
        rw [h.len] at b1
        rw [k.len] at b2
        exact radd_end m t _ _ _ e1 (Nat.lt_of_lt_of_le b1 (Nat.pow_le_pow_right BB_pos m1)) (Nat.lt_of_lt_of_le b2 (Nat.pow_le_pow_right BB_pos m2))
      have HV := Lib.hid hval
      clear hval
      go_wp2_with fail
      refine (rtrim_any _ _ _ _ (L + 1) _ R (Nat.le_trans (tl_le _) (by rw [H1.out]; omega)) (by omega)).mono ?_
      rintro e w6 ⟨A6, n6, c6, rfl, N6, P6⟩
      rw [HV.out] at N6
      go_wp2
      go_ret
      exact ⟨_, _, _, rfl, N6, hon.trans P6⟩
end
section
set_option maxHeartbeats 400000 in
theorem rsub_bad (w : World) (A A' : Option Addr) (n c n' c' : Nat) (xs ys : List Nat) (h : Rd w A n c xs) (k : Rd w A' n' c' ys) (hn : n ≤ 100000) (hn' : n' ≤ 100000) (hlt : val xs < val ys) :
    Calls Tryz.prog 86 #[.slice A n c, .slice A' n' c'] w fun e w' => e = .returned (.tuple #[.slice none 0 0, .int .i64 3]) ∧ w = w' := by
  have HC := Lib.hid (cmpI_lt hlt)
  clear hlt
  go_enter Tryz.func86, Tryz.ntmps86
  go_wp2_with fail
  refine (rcmp_any _ _ _ _ _ _ _ _ _ h k (by omega) (by omega)).mono ?_
  rintro e w1 ⟨rfl, rfl⟩
  rw [HC.out]
  go_wp2
  go_ret2
  exact ⟨rfl, rfl⟩
theorem u64w (x : Int) : IntKind.u64.wrap x = x % 18446744073709551616 := by simp [IntKind.wrap, IntKind.bits, IntKind.signed]
theorem sub_wrap1 (x y t : Nat) (hx : x < 4294967296) (hy : y < 4294967296) (ht : t ≤ 1) :
    IntKind.u64.wrap (IntKind.u64.wrap ((x : Int) - (y : Int)) - (t : Int)) % 4294967296 = (((x + 8589934592 - y - t) % 4294967296 : Nat) : Int) := by
  rw [u64w, u64w]; omega
theorem sub_wrap2 (x y t : Nat) (hx : x < 4294967296) (hy : y < 4294967296) (ht : t ≤ 1) :
    IntKind.u64.wrap (IntKind.u64.wrap ((x : Int) - (y : Int)) - (t : Int)) / 9223372036854775808 = ((bw x y t : Nat) : Int) := by
  rw [u64w, u64w]; unfold bw; split <;> omega
theorem rsub_end (m t X Y v : Nat) (h : v + Y = X + BB ^ m * t) (hv : v < BB ^ m) (hle : Y ≤ X) : v = X - Y := by
  generalize BB ^ m = P at *
  rcases t with _ | t
  · omega
  · have h2 : P * 1 ≤ P * (t + 1) := Nat.mul_le_mul_left _ (by omega)
    omega
set_option maxRecDepth 100000 in
set_option maxHeartbeats 1000000 in
theorem rsub_new (w : World) (A A' : Option Addr) (n c n' c' : Nat) (xs ys : List Nat) (h : Rd w A n c xs) (k : Rd w A' n' c' ys) (hn : n ≤ 100000) (hn' : n' ≤ 100000) (hlt : val ys ≤ val xs) :
    Calls Tryz.prog 86 #[.slice A n c, .slice A' n' c'] w (GivesN2 w (val xs - val ys) n (.int .i64 0)) := by
  have hcm : 0 ≤ cmpI (val xs) (val ys) := by
    rcases Nat.lt_or_eq_of_le hlt with h | h
    · rw [cmpI_gt h]; decide
    · rw [cmpI_eq h.symm]; decide
  have htys : tl ys ≤ n := by
    have h2 := clean_len (clean_take ys) n (by
      rw [val_take_tl]
      have := val_lt h.ok
      rw [h.len] at this
      omega)
    rwa [List.length_take, Nat.min_eq_left (tl_le ys)] at h2
  have HT := Lib.hid htys
  have HV := Lib.hid hlt
  clear htys hlt
  go_enter Tryz.func86, Tryz.ntmps86
  go_wp2_with fail
  refine (rcmp_any _ _ _ _ _ _ _ _ _ h k (by omega) (by omega)).mono ?_
  rintro e w1 ⟨rfl, rfl⟩
  generalize cmpI (val xs) (val ys) = ci at *
  have hdec : decide (ci < 0) = false := decide_eq_false (by omega)
  go_wp2
  go_loopw [6, 7, 16] (fun o cy i wr => ∃ (k t : Nat) (os : List Nat), k ≤ n ∧ i = .int .i64 (k : Int) ∧ cy = .int .u64 (t : Int) ∧ t ≤ 1 ∧ wr.ownsRow w.heap.size 66 1 o k (VW .u32 os) ∧ os.length = k ∧ Ok os ∧ val os + val (ys.take k) = val (xs.take k) + BB ^ k * t ∧ On w wr) (fun _ _ i _ => n - (intOf i).toNat)
  case atStart => exact ⟨0, 0, [], by omega, rfl, rfl, by omega, World.ownsRow_nil _ _ _ _, rfl, Ok.nil, by simp [val], On.refl _⟩
  case round =>
    obtain ⟨k', t, os, hk, rfl, rfl, ht, hrow, hl, hok, hv, hon⟩ := hrel
    have H1 := Lib.hid hl
    have H2 := Lib.hid hv
    have H3 := Lib.hid hrow
    clear hl hv hrow
    by_cases hlt : k' < n
    · have gx := h.ok.get k'
      have gy := k.ok.get k'
      have RX := h.on hon
      have RY := k.on hon
      go_wp2_with fail
      refine (word_is _ _ _ _ _ RX _ k' rfl (by omega)).mono ?_
      rintro e w' ⟨rfl, rfl⟩
      go_wp2_with fail
      refine (word_is _ _ _ _ _ RY _ k' rfl (by omega)).mono ?_
      rintro e w' ⟨rfl, rfl⟩
      have HST := Lib.hid (sub_step (BB ^ k') (val (xs.take k')) (val (ys.take k')) (gw xs k') (gw ys k') t (val os) gx gy ht H2.out)
      have hos := hon.size
      have hcell := cells_one32 wr 66 ((gw xs k' + 8589934592 - gw ys k' - t) % 4294967296)
      have hdl : (gw xs k' + 8589934592 - gw ys k' - t) % 4294967296 < 4294967296 := Nat.mod_lt _ (by decide)
      have HW1 := Lib.hid (sub_wrap1 (gw xs k') (gw ys k') t gx gy ht)
      have HW2 := Lib.hid (sub_wrap2 (gw xs k') (gw ys k') t gx gy ht)
      have hbl := bw_le (gw xs k') (gw ys k') t
      generalize (gw xs k' + 8589934592 - gw ys k' - t) % 4294967296 = dd at *
      generalize bw (gw xs k') (gw ys k') t = tt at *
      rw [← HW1.out] at hcell
      have HC := Lib.hid hcell
      clear hcell
      go_wp2_with (at_builtin; refine wpList_app rfl (.tmp 28) (.tmp 31) 22 rfl w.heap.size 66 (.int .u32 0) 4 Tryz.underlying22 info32 rfl (by decide) .u32 _ k' os rfl (H3.out.alloc _) (some ⟨wr.heap.size, 0, none⟩) 1 1 [dd] rfl rfl (fun e => by cases e) HC.out (by omega) (by simp; omega) ?_; intro v' w5 hown5 hgrow5 _)
      rw [HW2.out]
      refine ⟨⟨k' + 1, tt, os ++ [dd], by omega, by go_num, rfl, hbl, hown5, by rw [List.length_append, H1.out]; rfl, hok.append (Ok.one hdl), ?_, on_row (hon.alloc _) (H3.out.alloc _) (Nat.le_refl _) hgrow5⟩, by simp [intOf]; omega⟩
      rw [val_snoc' _ _ k' H1.out, val_take_succ_any, val_take_succ_any, Nat.pow_succ]
      exact HST.out
    · obtain rfl : k' = n := by omega
      obtain ⟨A5, c5, ho5⟩ := row_form H3.out
      subst ho5
      have R := rd_of_row hok H3.out
      have hval : val os = val xs - val ys := by
        have e1 := H2.out
        rw [List.take_of_length_le (l := xs) (by rw [h.len]; omega), val_take_ge ys k' HT.out] at e1
        have b1 := val_lt hok
        rw [H1.out] at b1
        exact rsub_end k' t _ _ _ e1 b1 HV.out
      have HVV := Lib.hid hval
      clear hval
      go_wp2_with fail
      refine (rtrim_new _ _ _ _ k' _ R (Nat.le_trans (tl_le _) (by rw [H1.out]; omega)) (by omega)).mono ?_
      rintro e w6 ⟨A6, n6, c6, rfl, N6, P6, F6⟩
      rw [HVV.out] at N6
      go_wp2
      go_ret2
      exact ⟨_, _, _, rfl, N6, hon.trans P6, fun ad e => Nat.le_trans hon.size (F6 ad e)⟩
theorem rsub_good (w : World) (A A' : Option Addr) (n c n' c' : Nat) (xs ys : List Nat) (h : Rd w A n c xs) (k : Rd w A' n' c' ys) (hn : n ≤ 100000) (hn' : n' ≤ 100000) (hlt : val ys ≤ val xs) :
    Calls Tryz.prog 86 #[.slice A n c, .slice A' n' c'] w (Gives2 w (val xs - val ys) n (.int .i64 0)) :=
  (rsub_new w A A' n c n' c' xs ys h k hn hn' hlt).mono fun _ _ ⟨A, n, c, he, hN, hO, _⟩ => ⟨A, n, c, he, hN, hO⟩
theorem words_rd (w : World) (A A' : Option Addr) (n c n' c' : Nat) (xs ys : List Nat) (h : Rd w A n c xs) (k : Rd w A' n' c' ys) (C : Clean xs) (C' : Clean ys) (hv : val xs = val ys) :
    Calls Tryz.prog 52 #[.slice A n c, .slice A' n' c'] w fun e w' => e = .returned (.bool true) ∧ On w w' :=
  words_true w A A' n c n' c' (val xs) n n' ⟨xs, h, C, rfl, Nat.le_refl _⟩ ⟨ys, k, C', hv.symm, Nat.le_refl _⟩
end
section
theorem bit_step (V P r k b x : Nat) (i : Nat) (hP : P = 2 ^ (32 * i)) (hV : V < P) (hr : r < 2 ^ k) (hb : b = 1) : nb (V + P * (r + 2 ^ k * b)) = 32 * i + k + 1 := by
  subst hb
  subst hP
  apply nb_unique
  · rw [Nat.pow_add]
    have : 2 ^ (32 * i) * 2 ^ k ≤ 2 ^ (32 * i) * (r + 2 ^ k * 1) := Nat.mul_le_mul_left _ (by omega)
    omega
  · rw [Nat.add_assoc, Nat.pow_add, Nat.pow_succ]
    have : 2 ^ (32 * i) * (r + 2 ^ k * 1 + 1) ≤ 2 ^ (32 * i) * (2 ^ k * 2) := Nat.mul_le_mul_left _ (by omega)
    rw [Nat.mul_add (2 ^ (32 * i)) _ 1] at this
    omega
theorem and_one (x k : Nat) (hx : x < 4294967296) : bits .and .u32 ((x : Int) / 2 ^ k) 1 = ((x / 2 ^ k % 2 : Nat) : Int) := by
  rw [show ((x : Int) / 2 ^ k) = ((x / 2 ^ k : Nat) : Int) from by rw [Int.natCast_ediv, Int.natCast_pow]; rfl]
  have := u32_and_nat (x / 2 ^ k) 1 (Nat.lt_of_le_of_lt (Nat.div_le_self _ _) hx) (by decide)
  rw [show ((1 : Nat) : Int) = 1 from rfl] at this
  rw [this, nat_mask1]
set_option maxRecDepth 100000 in
set_option maxHeartbeats 1000000 in
theorem rbits_any (w : World) (A : Option Addr) (n c : Nat) (xs : List Nat) (h : Rd w A n c xs) (hn : n ≤ 100000) :
    Calls Tryz.prog 79 #[.slice A n c] w fun e w' => e = .returned (.int .i64 ((nb (val xs) : Nat) : Int)) ∧ w = w' := by
  have hmax := h.max
  have hcap := h.cap
  go_enter Tryz.func79, Tryz.ntmps79
  go_wp2
  go_loop [3, 9] (fun s i => ∃ j : Nat, j ≤ n ∧ i = .int .i64 (j : Int) ∧ s = .int .i64 ((nb (val (xs.take j)) : Nat) : Int)) (fun _ i => n - (intOf i).toNat)
  case atStart => exact ⟨0, by omega, rfl, rfl⟩
  case round =>
    obtain ⟨j, hj, rfl, rfl⟩ := hrel
    by_cases hlt : j < n
    · obtain ⟨ad, rfl, hb, hc⟩ := h.at_ j hlt
      have hx := h.ok.get j
      have HVL := Lib.hid (val_take_lt h.ok j)
      go_wp2
      go_loop [3, 14] (fun s i => ∃ k : Nat, k ≤ 32 ∧ i = .int .i64 (k : Int) ∧ s = .int .i64 ((nb (val (xs.take j) + BB ^ j * (gw xs j % 2 ^ k)) : Nat) : Int)) (fun _ i => 32 - (intOf i).toNat)
      case atStart => exact ⟨0, by omega, rfl, by simp [Nat.mod_one]⟩
      case round =>
        obtain ⟨k, hk, rfl, rfl⟩ := hrel
        by_cases hkl : k < 32
        · have HA := and_one (gw xs j) k hx
          have hmb : gw xs j / 2 ^ k % 2 < 2 := Nat.mod_lt _ (by decide)
          have HPS := Lib.hid (Nat.mod_pow_succ (b := 2) (x := gw xs j) (k := k))
          have HPB : Hid (BB ^ j = 2 ^ (32 * j)) := by rw [Nat.pow_mul]; exact rfl
          have hmr : gw xs j % 2 ^ k < 2 ^ k := Nat.mod_lt _ (Nat.pow_pos (by decide))
          have HMR := Lib.hid hmr
          clear hmr
          by_cases hbit : gw xs j / 2 ^ k % 2 = 1
          · have HB := Lib.hid hbit
            rw [hbit] at HA
            have HF := Lib.hid (bit_step (val (xs.take j)) (BB ^ j) (gw xs j % 2 ^ k) k (gw xs j / 2 ^ k % 2) 0 j HPB.out HVL.out HMR.out hbit)
            clear hbit hmb
            go_wp2
            go_round
            case rel => exact ⟨k + 1, by omega, by go_num, by rw [HPS.out, HF.out]; congr 1⟩
            case measure => first | (simp [intOf]; done) | (simp [intOf]; omega)
          · have hb0 : gw xs j / 2 ^ k % 2 = 0 := by omega
            have HB := Lib.hid hb0
            rw [hb0] at HA
            clear hbit hmb hb0
            go_wp2
            go_round
            case rel => exact ⟨k + 1, by omega, by go_num, by rw [HPS.out, HB.out, Nat.mul_zero, Nat.add_zero]⟩
            case measure => first | (simp [intOf]; done) | (simp [intOf]; omega)
        · obtain rfl : k = 32 := by omega
          go_wp2
          go_round
          case rel => exact ⟨j + 1, by omega, by go_num, by rw [val_take_succ_any, Nat.mod_eq_of_lt (show gw xs j < 2 ^ 32 from hx)]⟩
          case measure => first | (simp [intOf]; done) | (simp [intOf]; omega)
    · obtain rfl : j = n := by omega
      go_wp2
      go_ret
      exact ⟨ret_int (by rw [List.take_of_length_le (Nat.le_of_eq h.len)]), rfl⟩
end
section
theorem up_lt (t x s : Nat) (hs : s ≤ 31) (ht : t < 2 ^ s) (hx : x < 4294967296) : t + x * 2 ^ s < 4294967296 * 2 ^ s := by
  have h1 : x * 2 ^ s ≤ 4294967295 * 2 ^ s := Nat.mul_le_mul_right _ (by omega)
  omega
theorem up_or (t x s : Nat) (hs : s ≤ 31) (ht : t < 2 ^ s) (hx : x < 4294967296) : bits .or .u64 (t : Int) ((x : Int) * 2 ^ s) = ((t + x * 2 ^ s : Nat) : Int) := by
  have h2 : 2 ^ s ≤ 2147483648 := Nat.pow_le_pow_right (by decide) hs
  have h3 := up_lt t x s hs ht hx
  rw [cast_shl, u64_or_nat t _ (by omega) (by omega), Nat.or_comm, nat_join s _ _ (Nat.mul_mod_left _ _) ht, Nat.add_comm]
theorem up_step (P v a t x q : Nat) (h : v + P * t = a * q) : v + P * ((t + x * q) % 4294967296) + P * BB * ((t + x * q) / 4294967296) = (a + P * x) * q := by
  have h1 := Nat.div_add_mod (t + x * q) 4294967296
  have h2 : P * ((t + x * q) % 4294967296) + P * BB * ((t + x * q) / 4294967296) = P * (t + x * q) := by
    rw [Nat.mul_assoc, ← Nat.mul_add]; congr 1; simp only [BB]; omega
  rw [Nat.mul_add, ← Nat.mul_assoc] at h2
  rw [Nat.add_mul]
  omega
set_option maxHeartbeats 1000000 in
theorem rup_any (w : World) (A : Option Addr) (n c s : Nat) (xs : List Nat) (h : Rd w A n c xs) (hn : n ≤ 100000) (hs : s ≤ 31) :
    Calls Tryz.prog 136 #[.slice A n c, .int .i64 (s : Int)] w (Gives w (val xs * 2 ^ s) (n + 1)) := by
  have hcap := h.cap
  have hmax := h.max
  have h2s : 2 ^ s ≤ 2147483648 := Nat.pow_le_pow_right (by decide) hs
  have h2p : 0 < 2 ^ s := Nat.pow_pos (by decide)
  go_enter Tryz.func136, Tryz.ntmps136
  go_wp2
  go_loopw [5, 6, 11] (fun o cy i wr => ∃ (k t : Nat) (os : List Nat), k ≤ n ∧ i = .int .i64 (k : Int) ∧ cy = .int .u64 (t : Int) ∧ t < 2 ^ s ∧ wr.ownsRow w.heap.size 66 1 o k (VW .u32 os) ∧ os.length = k ∧ Ok os ∧ val os + BB ^ k * t = val (xs.take k) * 2 ^ s ∧ On w wr) (fun _ _ i _ => n - (intOf i).toNat)
  case atStart => exact ⟨0, 0, [], by omega, rfl, rfl, h2p, World.ownsRow_nil _ _ _ _, rfl, Ok.nil, by simp [val], On.refl _⟩
  case round =>
    obtain ⟨k, t, os, hk, rfl, rfl, ht, hrow, hl, hok, hv, hon⟩ := hrel
    have H1 := Lib.hid hl
    have H2 := Lib.hid hv
    have H3 := Lib.hid hrow
    clear hl hv hrow
    have hos := hon.size
    by_cases hlt : k < n
    · obtain ⟨ad, rfl, hb, hc⟩ := (h.on hon).at_ k hlt
      have gx := h.ok.get k
      have hw := shl_wrap (gw xs k) s gx (by omega)
      have hor := up_or t (gw xs k) s hs ht gx
      have hul := up_lt t (gw xs k) s hs ht gx
      have HST := Lib.hid (up_step (BB ^ k) (val os) (val (xs.take k)) t (gw xs k) (2 ^ s) H2.out)
      obtain ⟨T, hT⟩ : ∃ T, t + gw xs k * 2 ^ s = T := ⟨_, rfl⟩
      rw [hT] at hor hul HST
      have HTT := Lib.hid hT
      clear hT
      have hcell := cells_one32 wr 66 (T % 4294967296)
      rw [show ((T % 4294967296 : Nat) : Int) = (T : Int) % 4294967296 from by omega] at hcell
      have HC := Lib.hid hcell
      clear hcell
      go_wp2_with (at_builtin; refine wpList_app rfl (.tmp 21) (.tmp 24) 22 rfl w.heap.size 66 (.int .u32 0) 4 Tryz.underlying22 info32 rfl (by decide) .u32 _ k os rfl (H3.out.alloc _) (some ⟨wr.heap.size, 0, none⟩) 1 1 [T % 4294967296] rfl rfl (fun e => by cases e) HC.out (by omega) (by simp; omega) ?_; intro v' w5 hown5 hgrow5 _)
      have e5 : Value.int .u64 ((T : Int) / 4294967296) = Value.int .u64 ((T / 4294967296 : Nat) : Int) := by
        rw [Int.natCast_ediv]; rfl
      refine ⟨⟨k + 1, T / 4294967296, os ++ [T % 4294967296], by omega, by go_num, e5, Nat.div_lt_of_lt_mul hul, hown5, by rw [List.length_append, H1.out]; rfl, hok.append (Ok.one (Nat.mod_lt _ (by decide))), ?_, on_row (hon.alloc _) (H3.out.alloc _) (Nat.le_refl _) hgrow5⟩, by simp [intOf]; omega⟩
      rw [val_snoc' _ _ k H1.out, val_take_succ_any, Nat.pow_succ]
      exact HST.out
    · obtain rfl : k = n := by omega
      have hcell := cells_one32 wr 66 (t % 4294967296)
      rw [show ((t % 4294967296 : Nat) : Int) = (t : Int) from by omega, show t % 4294967296 = t from Nat.mod_eq_of_lt (by omega)] at hcell
      have HC := Lib.hid hcell
      clear hcell
      have hval : val (os ++ [t]) = val xs * 2 ^ s := by
        rw [val_snoc' _ _ k H1.out, H2.out, List.take_of_length_le (by rw [h.len]; omega)]
      have HV := Lib.hid hval
      clear hval
      go_wp2_with (at_builtin; refine wpList_app rfl (.tmp 29) (.tmp 32) 22 rfl w.heap.size 66 (.int .u32 0) 4 Tryz.underlying22 info32 rfl (by decide) .u32 _ k os rfl (H3.out.alloc _) (some ⟨wr.heap.size, 0, none⟩) 1 1 [t] rfl rfl (fun e => by cases e) HC.out (by omega) (by simp; omega) ?_; intro v' w5 hown5 hgrow5 _)
      obtain ⟨A5, c5, ho5⟩ := row_form hown5
      subst ho5
      have hok5 : Ok (os ++ [t]) := hok.append (Ok.one (by omega))
      have R := rd_of_row hok5 hown5
      have hon5 : On w w5 := on_row (hon.alloc _) (H3.out.alloc _) (Nat.le_refl _) hgrow5
      have HL : Hid (tl (os ++ [t]) ≤ k + 1) := Lib.hid (Nat.le_trans (tl_le _) (by rw [List.length_append, H1.out]; exact Nat.le_refl _))
      go_wp2_with fail
      refine (rtrim_any _ _ _ _ (k + 1) _ R HL.out (by omega)).mono ?_
      rintro e w6 ⟨A6, n6, c6, rfl, N6, P6⟩
      rw [HV.out] at N6
      go_wp2
      go_ret
      exact ⟨_, _, _, rfl, N6, hon5.trans P6⟩
theorem or64'' (x y : Nat) (hx : x < 4294967296) (hy : y < 4294967296) : bits .or .u64 (y : Int) ((x : Int) * 4294967296) = ((x * 4294967296 + y : Nat) : Int) := by
  rw [show ((x : Int) * 4294967296) = ((x * 4294967296 : Nat) : Int) from by omega, u64_or_nat y (x * 4294967296) (by omega) (by omega), Nat.or_comm, nat_join 32 (x * 4294967296) y (by omega) (by omega)]
set_option maxHeartbeats 1000000 in
theorem rdown_any (w : World) (A : Option Addr) (n c s : Nat) (xs : List Nat) (h : Rd w A n c xs) (hn : n ≤ 100000) (hs : s ≤ 31) :
    Calls Tryz.prog 137 #[.slice A n c, .int .i64 (s : Int)] w (Gives w (val xs / 2 ^ s) n) := by
  have hcap := h.cap
  have hmax := h.max
  go_enter Tryz.func137, Tryz.ntmps137
  go_wp2
  go_loopw [5, 9] (fun o i wr => ∃ (k : Nat) (os : List Nat), k ≤ n ∧ i = .int .i64 (k : Int) ∧ wr.ownsRow w.heap.size 66 1 o k (VW .u32 os) ∧ os.length = k ∧ Ok os ∧ val os = val xs / 2 ^ s % BB ^ k ∧ On w wr) (fun _ i _ => n - (intOf i).toNat)
  case atStart => exact ⟨0, [], by omega, rfl, World.ownsRow_nil _ _ _ _, rfl, Ok.nil, by simp [val, Nat.mod_one], On.refl _⟩
  case round =>
    obtain ⟨k, os, hk, rfl, hrow, hl, hok, hv, hon⟩ := hrel
    have H1 := Lib.hid hl
    have H2 := Lib.hid hv
    have H3 := Lib.hid hrow
    clear hl hv hrow
    have hos := hon.size
    by_cases hlt : k < n
    · have R := h.on hon
      have g0 := h.ok.get k
      have g1 := h.ok.get (k + 1)
      have hor := or64'' (gw xs (k + 1)) (gw xs k) g1 g0
      obtain ⟨T, hT⟩ : ∃ T, gw xs (k + 1) * 4294967296 + gw xs k = T := ⟨_, rfl⟩
      rw [hT] at hor
      have HTT := Lib.hid hT
      clear hT
      have hcell := cells_one32 wr 66 (T / 2 ^ s % 4294967296)
      rw [show ((T / 2 ^ s % 4294967296 : Nat) : Int) = (T : Int) / 2 ^ s % 4294967296 from by rw [Int.natCast_emod, Int.natCast_ediv, Int.natCast_pow]; rfl] at hcell
      have HC := Lib.hid hcell
      clear hcell
      go_wp2_with fail
      refine (word_is _ _ _ _ _ R _ k rfl (by omega)).mono ?_
      rintro e w' ⟨rfl, rfl⟩
      go_wp2_with fail
      refine (word_is _ _ _ _ _ R _ (k + 1) (by omega) (by omega)).mono ?_
      rintro e w' ⟨rfl, rfl⟩
      go_wp2_with (at_builtin; refine wpList_app rfl (.tmp 12) (.tmp 25) 22 rfl w.heap.size 66 (.int .u32 0) 4 Tryz.underlying22 info32 rfl (by decide) .u32 _ k os rfl (H3.out.alloc _) (some ⟨wr.heap.size, 0, none⟩) 1 1 [T / 2 ^ s % 4294967296] rfl rfl (fun e => by cases e) HC.out (by omega) (by simp; omega) ?_; intro v' w5 hown5 hgrow5 _)
      refine ⟨⟨k + 1, os ++ [T / 2 ^ s % 4294967296], by omega, by go_num, hown5, by rw [List.length_append, H1.out]; rfl, hok.append (Ok.one (Nat.mod_lt _ (by decide))), ?_, on_row (hon.alloc _) (H3.out.alloc _) (Nat.le_refl _) hgrow5⟩, by simp [intOf]; omega⟩
      rw [val_snoc' _ _ k H1.out, H2.out, Nat.mod_pow_succ, shr_digit xs h.ok k s (by omega), HTT.out]
    · obtain rfl : k = n := by omega
      obtain ⟨A5, c5, ho5⟩ := row_form H3.out
      subst ho5
      have R := rd_of_row hok H3.out
      have hval : val os = val xs / 2 ^ s := by
        rw [H2.out, Nat.mod_eq_of_lt]
        have := val_lt h.ok
        rw [h.len] at this
        exact Nat.lt_of_le_of_lt (Nat.div_le_self _ _) this
      have HV := Lib.hid hval
      have HL : Hid (tl os ≤ k) := Lib.hid (Nat.le_trans (tl_le _) (by rw [H1.out]; exact Nat.le_refl _))
      clear hval
      go_wp2_with fail
      refine (rtrim_any _ _ _ _ k _ R HL.out (by omega)).mono ?_
      rintro e w6 ⟨A6, n6, c6, rfl, N6, P6⟩
      rw [HV.out] at N6
      go_wp2
      go_ret
      exact ⟨_, _, _, rfl, N6, hon.trans P6⟩
end
section
theorem own_of_row' {w : World} {base : Nat} {e : TypeId} {v : Value} {n : Nat} {xs : List Nat} (ho : Ok xs) (h : w.ownsRow base e 1 v n (VW .u32 xs)) (hn : 0 < n) :
    ∃ g cap cur, v = .slice (some ⟨g, 0, none⟩) n cap ∧ base ≤ g ∧ Own w g e cur ∧ Has cur 0 xs ∧ n ≤ cap ∧ cap ≤ 9223372036854775807 ∧ cur.size = cap := by
  have hl : xs.length = n := by have := h.1; rw [VW_length] at this; omega
  rcases h.2 with ⟨_, h0⟩ | ⟨g, cap, cur, rfl, hb, hh, hcap, hmax, hsz, htake⟩
  · omega
  · refine ⟨g, cap, cur, rfl, hb, hh, ⟨ho, fun j hj => ?_⟩, hcap, by unfold maxLen at hmax; exact hmax, by rw [hsz, Nat.mul_one]⟩
    have h1 : (VW .u32 xs)[j]? = some (.int .u32 (gw xs j : Int)) := by
      unfold VW; rw [List.getElem?_map, List.getElem?_eq_getElem hj]; simp [gw, List.getD_eq_getElem?_getD, hj]
    rw [← htake, List.getElem?_take] at h1
    split at h1
    · simpa using h1
    · cases h1
theorem row_of_own {w : World} {g base n cap : Nat} {e : TypeId} {cur : Array Value} {xs : List Nat} (h : Own w g e cur) (hb : base ≤ g) (hh : Has cur 0 xs) (hn : xs.length = n) (hcap : n ≤ cap) (hmax : cap ≤ 9223372036854775807) (hsz : cur.size = cap) :
    w.ownsRow base e 1 (.slice (some ⟨g, 0, none⟩) n cap) n (VW .u32 xs) := by
  refine ⟨by rw [VW_length]; omega, .inr ⟨g, cap, cur, rfl, hb, h, hcap, by unfold maxLen; exact hmax, by omega, ?_⟩⟩
  rw [Nat.mul_one]
  apply List.ext_getElem?
  intro j
  rw [List.getElem?_take]
  by_cases hj : j < n
  · rw [if_pos hj]
    have h1 := hh.get j (by omega)
    rw [Nat.zero_add] at h1
    have h2 : (VW .u32 xs)[j]? = some (.int .u32 (gw xs j : Int)) := by
      unfold VW; rw [List.getElem?_map, List.getElem?_eq_getElem (by omega)]; simp [gw, List.getD_eq_getElem?_getD, show j < xs.length from by omega]
    rw [h2, ← h1]; simp
  · rw [if_neg hj, List.getElem?_eq_none (by rw [VW_length]; omega)]
theorem clean_of_val {l : List Nat} (n : Nat) (ok : Ok l) (hl : l.length = n + 1) (h : BB ^ n ≤ val l) : Clean l := by
  apply clean_of_last n hl
  intro h0
  have h1 := val_split l n (by omega)
  rw [val_drop l n (by omega), h0, List.drop_of_length_le (by omega)] at h1
  have h2 := val_lt (ok.take n)
  rw [List.length_take, Nat.min_eq_left (by omega)] at h2
  simp [val] at h1
  omega
theorem sa_step (P v a t x q d : Nat) (h : v + P * t = a * q + d) : v + P * ((t + x * q) % 4294967296) + P * BB * ((t + x * q) / 4294967296) = (a + P * x) * q + d := by
  have h1 := Nat.div_add_mod (t + x * q) 4294967296
  have h2 : P * ((t + x * q) % 4294967296) + P * BB * ((t + x * q) / 4294967296) = P * (t + x * q) := by
    rw [Nat.mul_assoc, ← Nat.mul_add]; congr 1; simp only [BB]; omega
  rw [Nat.mul_add, ← Nat.mul_assoc] at h2
  rw [Nat.add_mul]
  omega
theorem grown_on {w w' : World} (h : On w w') (row : Option Nat) : w.grownBy w' row := ⟨h.os, h.tape, h.output, h.size, fun i hi _ => h.block i hi⟩
/-- what a call of scaleAndAdd says -/
def ScalePost (w : World) (base : Nat) (v : Value) (n y : Nat) (cl : Prop) (e : Ending) (w' : World) : Prop :=
  ∃ (v' : Value) (n' : Nat) (ys : List Nat), e = .returned v' ∧ w'.ownsRow base 66 1 v' n' (VW .u32 ys) ∧ Ok ys ∧ ys.length = n' ∧ n' ≤ n + 1 ∧ val ys = y ∧ (cl → Clean ys) ∧ w.grownBy w' v.ownBlock
theorem sa_bound (t x q : Nat) (ht : t < 4294967296) (hx : x < 4294967296) (hq : q < 4294967296) : t + x * q ≤ 18446744073709551615 ∧ x * q ≤ 18446744065119617025 := by
  have h1 : x * q ≤ 4294967295 * 4294967295 := Nat.mul_le_mul (by omega) (by omega)
  omega
end
section
theorem dvb_append (a b : List Nat) : dvb (a ++ b) = dvb a + 10 ^ a.length * dvb b := by
  induction a with
  | nil => simp [dvb]
  | cons x r ih => simp only [List.cons_append, dvb, ih, List.length_cons, Nat.pow_succ]; rw [Nat.mul_add, ← Nat.mul_assoc, Nat.mul_comm 10 (10 ^ r.length)]; omega
theorem dv_append (a b : List Nat) : dv (a ++ b) = dv a * 10 ^ b.length + dv b := by
  unfold dv
  rw [List.reverse_append, dvb_append, List.length_reverse, Nat.mul_comm, Nat.add_comm]
theorem dv_lt {l : List Nat} (h : IsDig l) : dv l < 10 ^ l.length := by
  have := dvb_lt (l := l.reverse) (fun b hb => h b (List.mem_reverse.1 hb))
  rwa [List.length_reverse] at this
theorem dv_take_succ (l : List Nat) (k : Nat) (h : k < l.length) : dv (l.take (k + 1)) = 10 * dv (l.take k) + (gw l k - 48) := by
  rw [List.take_succ_eq_append_getElem h, dv_snoc]
  simp [gw, List.getD_eq_getElem?_getD, h]
theorem IsDig.drop {l : List Nat} (h : IsDig l) (k : Nat) : IsDig (l.drop k) := fun b hb => h b (List.mem_of_mem_drop hb)
theorem TextOk.digs {l : List Nat} (h : TextOk l) : IsDig l := h.text.digs
theorem textB_ok {s : ByteArray} (h : textB s = true) : TextOk (bl s) := by unfold textB at h; exact of_decide_eq_true h
theorem ten_le {k m : Nat} (h : k ≤ m) : 10 ^ k ≤ 10 ^ m := Nat.pow_le_pow_right (by decide) h
end
section
theorem nil_iff {xs : List Nat} (C : Clean xs) : xs = [] ↔ val xs = 0 := by
  constructor
  · rintro rfl; rfl
  · intro h
    rcases Nat.eq_zero_or_pos xs.length with h0 | h0
    · exact List.eq_nil_of_length_eq_zero h0
    · have := val_pos C h0; omega
theorem rat_zero_iff (r : Rat) : r.num.natAbs = 0 ↔ r = 0 := by rw [← Rat.num_eq_zero]; omega
theorem len_zero_iff {w : World} {A : Option Addr} {n c : Nat} {xs : List Nat} {r : Rat} (h : Rd w A n c xs) (C : Clean xs) (hv : val xs = r.num.natAbs) : n = 0 ↔ r = 0 := by
  rw [← rat_zero_iff, ← hv, ← nil_iff C, ← h.len, List.length_eq_zero_iff]
set_option maxHeartbeats 400000 in
theorem iszero_any (w : World) (v : Value) (r : Rat) (L : Nat) (h : IsR w v r L) :
    Calls Tryz.prog 91 #[v] w fun e w' => e = .returned (.bool (decide (r = 0))) ∧ On w w' := by
  obtain ⟨A, n, c, xs, A', n', c', ys, rfl, R, R', C, C', h1, h2, h3, h4⟩ := h
  have hz := len_zero_iff R C h3
  have hd : decide (r = 0) = ((n : Int) == 0) := by
    rw [Bool.eq_iff_iff, decide_eq_true_iff, ← hz]; simp
  have HD := Lib.hid hd
  have hc := R.cap
  have hm := R.max
  clear hz hd h3 h4
  go_enter Tryz.func91, Tryz.ntmps91
  go_wp2
  all_goals (go_ret; exact ⟨by rw [HD.out]; first | rfl | simp_all, (On.refl w).alloc _⟩)
/-- the text of a fraction -/
def sgt (r : Rat) : List Nat := if r < 0 then [45] else []
def RTx (r : Rat) (bs : List Nat) : Prop := ∃ b1 b2, IsText r.num.natAbs b1 ∧ IsText r.den b2 ∧ bs = sgt r ++ b1 ++ (if r.den = 1 then [] else 47 :: b2)
theorem RTx.unique {r : Rat} {a b : List Nat} (h : RTx r a) (k : RTx r b) : a = b := by
  obtain ⟨a1, a2, h1, h2, rfl⟩ := h
  obtain ⟨c1, c2, k1, k2, rfl⟩ := k
  rw [h1.unique k1, h2.unique k2]
theorem exists_text (v : Nat) : ∃ bs, IsText v bs := by
  induction v using Nat.strongRecOn with
  | ind v ih =>
    rcases Nat.lt_or_ge v 10 with h | h
    · rcases Nat.eq_zero_or_pos v with h0 | h0
      · exact ⟨[48], .inl ⟨h0, rfl⟩⟩
      · exact ⟨[48 + v], .inr ⟨[48 + v], rfl, fun b hb => by simp at hb; omega, by simp [dvb], by simp, by simp [gw]; omega⟩⟩
    · obtain ⟨bs, hb⟩ := ih (v / 10) (by omega)
      rcases hb with ⟨h0, _⟩ | ⟨ds, _, d1, d2, d3, d4⟩
      · omega
      · refine ⟨((48 + v % 10) :: ds).reverse, .inr ⟨(48 + v % 10) :: ds, rfl, ?_, ?_, by simp, ?_⟩⟩
        · intro b hb
          rcases List.mem_cons.1 hb with rfl | hb
          · omega
          · exact d1 b hb
        · simp only [dvb]; rw [d2]; omega
        · have e : ((48 + v % 10) :: ds).length - 1 = (ds.length - 1) + 1 := by simp; omega
          rw [e, gw_cons]; exact d4
theorem sgt_no {r : Rat} (h : decide (r < 0) = false) : sgt r = [] := by unfold sgt; rw [if_neg (of_decide_eq_false h)]
theorem sgt_yes {r : Rat} (h : decide (r < 0) = true) : sgt r = [45] := by unfold sgt; rw [if_pos (of_decide_eq_true h)]
/-- what a call of Text says -/
def TextR (w : World) (r : Rat) (e : Ending) (w' : World) : Prop := ∃ bs, e = .returned (.string (str bs)) ∧ RTx r bs ∧ On w w'
theorem str_app (a b : List Nat) : str a ++ str b = str (a ++ b) := by
  apply ByteArray.ext
  simp [str]
theorem str_len (bs : List Nat) : (str bs).size = bs.length := by simp [str, ByteArray.size]
theorem text_size {v n : Nat} {bs : List Nat} (h : IsText v bs) (hn : 0 < n) (hv : v < BB ^ n) : bs.length ≤ 10 * n := by
  rcases h with ⟨_, rfl⟩ | ⟨ds, rfl, d1, d2, d3, d4⟩
  · simp; omega
  · rw [List.length_reverse]
    have h1 := dvb_take_succ ds (ds.length - 1) (by omega)
    rw [show ds.length - 1 + 1 = ds.length from by omega, List.take_length, d2] at h1
    have h2 := d1.get (k := ds.length - 1) (by omega)
    have h3 : 10 ^ (ds.length - 1) * 1 ≤ 10 ^ (ds.length - 1) * (gw ds (ds.length - 1) - 48) := Nat.mul_le_mul_left _ (by omega)
    have h5 := pow_ten_bb n
    have h4 : 10 ^ (ds.length - 1) < 10 ^ (10 * n) := by omega
    have := (Nat.pow_lt_pow_iff_right (by decide : 1 < 10)).1 h4
    omega
set_option maxRecDepth 100000 in
set_option maxHeartbeats 1000000 in
theorem textr_any (w : World) (s : Bool) (A A' : Option Addr) (n c n' c' L : Nat) (xs ys : List Nat) (h : Rd w A n c xs) (k : Rd w A' n' c' ys) (hn : n ≤ L) (hn' : n' ≤ L) (hL1 : 1 ≤ L) (hL : L ≤ 5000) :
    Calls Tryz.prog 57 #[.agg #[.bool s, .slice A n c, .slice A' n' c']] w (TextR w (raw s xs ys)) := by
  obtain ⟨r, hr⟩ : ∃ r, raw s xs ys = r := ⟨_, rfl⟩
  rw [hr]
  have HR := Lib.hid hr
  clear hr
  have B := (On.refl w).alloc (.cells #[.bool s, .slice A n c, .slice A' n' c'] 24)
  have O1 := Own.new w 24 #[.bool s, .slice A n c, .slice A' n' c']
  have HO1 := Lib.hid O1
  clear O1
  have h1 := h.on B
  have k1 := k.on B
  go_enter Tryz.func57, Tryz.ntmps57
  go_wp2_with fail
  refine (value_any _ _ _ _ _ _ _ _ L _ _ h1 k1 hn hn' hL).mono ?_
  rintro e w2 ⟨v, rfl, I, P2⟩
  rw [HR.out] at I
  obtain ⟨A1, n1, c1, us, A2, n2, c2, vs, rfl, R1, R2, C1, C2, l1, l2, V1, V2⟩ := I
  have O1 := HO1.out.on P2
  have a0 : w2.cell? ⟨w.heap.size, 0, none⟩ = some (.bool s) := O1.cell 0
  have af0 := O1.frozen 0
  have a1 : w2.cell? ⟨w.heap.size, 1, none⟩ = some (.slice A n c) := O1.cell 1
  have af1 := O1.frozen 1
  have a2 : w2.cell? ⟨w.heap.size, 2, none⟩ = some (.slice A' n' c') := O1.cell 2
  have af2 := O1.frozen 2
  have R1' := R1.only' (only3 (.bool (decide (r < 0))) (.slice A1 n1 c1) (.slice A2 n2 c2)) (rat_far R1 O1)
  have R2' := R2.only' (only3 (.bool (decide (r < 0))) (.slice A1 n1 c1) (.slice A2 n2 c2)) (rat_far R2 O1)
  have hon := on3 (g := w.heap.size) (B.trans P2) (by omega) (.bool (decide (r < 0))) (.slice A1 n1 c1) (.slice A2 n2 c2)
  have OB := ((O1.set_ 0 (.bool (decide (r < 0)))).set_ 1 (.slice A1 n1 c1)).set_ 2 (.slice A2 n2 c2)
  have HV1 := Lib.hid V1
  have HV2 := Lib.hid V2
  clear R1 R2 V1 V2
  obtain ⟨b, hb⟩ : ∃ b, decide (r < 0) = b := ⟨_, rfl⟩
  rw [hb] at hon OB R1' R2' ⊢
  go_wp2_with fail
  obtain ⟨wx, hwx⟩ : ∃ wx, (((w2.setCell ⟨w.heap.size, 0, none⟩ (.bool b)).setCell ⟨w.heap.size, 1, none⟩ (.slice A1 n1 c1)).setCell ⟨w.heap.size, 2, none⟩ (.slice A2 n2 c2)) = wx := ⟨_, rfl⟩
  rw [hwx] at hon OB R1' R2' ⊢
  have OB' : Own wx w.heap.size 24 #[.bool b, .slice A1 n1 c1, .slice A2 n2 c2] := OB
  have HB := Lib.hid hb
  clear hwx hb OB a0 a1 a2 af0 af1 af2
  refine (text_any _ _ _ _ _ R1' (by omega)).mono ?_
  rintro e w3 ⟨tx, rfl, IT, P3⟩
  rw [HV1.out] at IT
  have HIT := Lib.hid IT
  have O3 := OB'.on P3
  have b0 : w3.cell? ⟨w.heap.size, 0, none⟩ = some (.bool b) := O3.cell 0
  have bf0 := O3.frozen 0
  have b1 : w3.cell? ⟨w.heap.size, 1, none⟩ = some (.slice A1 n1 c1) := O3.cell 1
  have bf1 := O3.frozen 1
  have b2 : w3.cell? ⟨w.heap.size, 2, none⟩ = some (.slice A2 n2 c2) := O3.cell 2
  have bf2 := O3.frozen 2
  have I3 : IsR w3 (.agg #[.bool b, .slice A1 n1 c1, .slice A2 n2 c2]) r L := by rw [← HB.out]; exact ⟨A1, n1, c1, us, A2, n2, c2, vs, rfl, R1'.on P3, R2'.on P3, C1, C2, l1, l2, HV1.out, HV2.out⟩
  have hb1l : tx.length ≤ 50000 := by
    have h1 := text_size HIT.out (show 0 < L by omega) (by rw [← HV1.out]; have := val_lt R1'.ok; rw [R1'.len] at this; exact Nat.lt_of_lt_of_le this (Nat.pow_le_pow_right BB_pos l1))
    omega
  have hs1 : (str tx).size ≤ 50000 := by rw [str_len]; exact hb1l
  have HI3 := Lib.hid I3
  clear IT I3 hb1l
  cases b
  · clear b0 b1 b2 bf0 bf1 bf2
    have b0 : w3.cell? ⟨w.heap.size, 0, none⟩ = some (.bool false) := O3.cell 0
    have bf0 := O3.frozen 0
    have b1 : w3.cell? ⟨w.heap.size, 1, none⟩ = some (.slice A1 n1 c1) := O3.cell 1
    have bf1 := O3.frozen 1
    have b2 : w3.cell? ⟨w.heap.size, 2, none⟩ = some (.slice A2 n2 c2) := O3.cell 2
    have bf2 := O3.frozen 2
    have HX : Hid (str tx = str (sgt r ++ tx)) := Lib.hid (by rw [sgt_no HB.out]; rfl)
    go_wp2_with fail
    refine (iszero_any _ _ _ _ HI3.out).mono ?_
    rintro e w4 ⟨rfl, P4⟩
    have O4 := O3.on P4
    have b0 : w4.cell? ⟨w.heap.size, 0, none⟩ = some (.bool false) := O4.cell 0
    have bf0 := O4.frozen 0
    have b1 : w4.cell? ⟨w.heap.size, 1, none⟩ = some (.slice A1 n1 c1) := O4.cell 1
    have bf1 := O4.frozen 1
    have b2 : w4.cell? ⟨w.heap.size, 2, none⟩ = some (.slice A2 n2 c2) := O4.cell 2
    have bf2 := O4.frozen 2
    have R4 := R2'.on (P3.trans P4)
    by_cases hz : r = 0
    · have hzd : decide (r = 0) = true := decide_eq_true hz
      rw [hzd]
      have HZ := Lib.hid hz
      clear hz hzd
      go_wp2
      go_ret
      obtain ⟨t2, ht2⟩ := exists_text r.den
      exact ⟨sgt r ++ tx, by rw [← HX.out]; rfl, ⟨tx, t2, HIT.out, ht2, by rw [if_pos (by rw [HZ.out]; rfl), List.append_nil]⟩, (hon.trans P3).trans P4⟩
    · have hzd : decide (r = 0) = false := decide_eq_false hz
      rw [hzd]
      have hvd : val vs = r.den := by rw [HV2.out, dn_ne hz]
      have HVD := Lib.hid hvd
      clear hz hzd hvd
      go_wp2_with fail
      refine (isone_any _ _ _ _ _ R4).mono ?_
      rintro e w' ⟨rfl, rfl⟩
      rw [val_one R4.ok C2, HVD.out]
      by_cases h1d : r.den = 1
      · have hdd : decide (r.den = 1) = true := decide_eq_true h1d
        rw [hdd]
        have HD := Lib.hid h1d
        clear h1d hdd
        go_wp2
        go_ret
        obtain ⟨t2, ht2⟩ := exists_text r.den
        exact ⟨sgt r ++ tx, by rw [← HX.out]; rfl, ⟨tx, t2, HIT.out, ht2, by rw [if_pos HD.out, List.append_nil]⟩, (hon.trans P3).trans P4⟩
      · have hdd : decide (r.den = 1) = false := decide_eq_false h1d
        rw [hdd]
        have HD := Lib.hid h1d
        clear h1d hdd
        go_wp2_with fail
        refine (text_any _ _ _ _ _ R4 (by omega)).mono ?_
        rintro e w5 ⟨ty, rfl, IY, P5⟩
        rw [HVD.out] at IY
        have HIY := Lib.hid IY
        have hb2l : ty.length ≤ 50000 := by
          have h1 := text_size HIY.out (show 0 < L by omega) (by rw [← HVD.out]; have := val_lt R4.ok; rw [R4.len] at this; exact Nat.lt_of_lt_of_le this (Nat.pow_le_pow_right BB_pos l2))
          omega
        have hs2 : (str ty).size ≤ 50000 := by rw [str_len]; exact hb2l
        have hc2 : str tx ++ (⟨#[47]⟩ : ByteArray) ++ str ty = str (sgt r ++ tx ++ (47 :: ty)) := by
          rw [HX.out, show (⟨#[47]⟩ : ByteArray) = str [47] from rfl, str_app, str_app, List.append_assoc]; rfl
        have HC2 := Lib.hid hc2
        clear IY hc2 hb2l
        go_wp2
        go_ret
        exact ⟨_, by rw [← HC2.out]; rfl, ⟨tx, ty, HIT.out, HIY.out, by rw [if_neg HD.out]⟩, ((hon.trans P3).trans P4).trans P5⟩
  · clear b0 b1 b2 bf0 bf1 bf2
    have b0 : w3.cell? ⟨w.heap.size, 0, none⟩ = some (.bool true) := O3.cell 0
    have bf0 := O3.frozen 0
    have b1 : w3.cell? ⟨w.heap.size, 1, none⟩ = some (.slice A1 n1 c1) := O3.cell 1
    have bf1 := O3.frozen 1
    have b2 : w3.cell? ⟨w.heap.size, 2, none⟩ = some (.slice A2 n2 c2) := O3.cell 2
    have bf2 := O3.frozen 2
    obtain ⟨X, hX⟩ : ∃ X, (⟨#[45]⟩ : ByteArray) ++ str tx = X := ⟨_, rfl⟩
    have hXs : X.size ≤ 50001 := by
      rw [← hX, show (⟨#[45]⟩ : ByteArray) = str [45] from rfl, str_app, str_len]
      rw [str_len] at hs1
      simp; omega
    have HX : Hid (X = str (sgt r ++ tx)) := Lib.hid (by rw [← hX, show (⟨#[45]⟩ : ByteArray) = str [45] from rfl, str_app, sgt_yes HB.out])
    go_wp2_with fail
    refine (iszero_any _ _ _ _ HI3.out).mono ?_
    rintro e w4 ⟨rfl, P4⟩
    have O4 := O3.on P4
    have b0 : w4.cell? ⟨w.heap.size, 0, none⟩ = some (.bool true) := O4.cell 0
    have bf0 := O4.frozen 0
    have b1 : w4.cell? ⟨w.heap.size, 1, none⟩ = some (.slice A1 n1 c1) := O4.cell 1
    have bf1 := O4.frozen 1
    have b2 : w4.cell? ⟨w.heap.size, 2, none⟩ = some (.slice A2 n2 c2) := O4.cell 2
    have bf2 := O4.frozen 2
    have R4 := R2'.on (P3.trans P4)
    by_cases hz : r = 0
    · have hzd : decide (r = 0) = true := decide_eq_true hz
      rw [hzd]
      have HZ := Lib.hid hz
      clear hz hzd
      go_wp2
      go_ret
      obtain ⟨t2, ht2⟩ := exists_text r.den
      exact ⟨sgt r ++ tx, by rw [← HX.out]; rfl, ⟨tx, t2, HIT.out, ht2, by rw [if_pos (by rw [HZ.out]; rfl), List.append_nil]⟩, (hon.trans P3).trans P4⟩
    · have hzd : decide (r = 0) = false := decide_eq_false hz
      rw [hzd]
      have hvd : val vs = r.den := by rw [HV2.out, dn_ne hz]
      have HVD := Lib.hid hvd
      clear hz hzd hvd
      go_wp2_with fail
      refine (isone_any _ _ _ _ _ R4).mono ?_
      rintro e w' ⟨rfl, rfl⟩
      rw [val_one R4.ok C2, HVD.out]
      by_cases h1d : r.den = 1
      · have hdd : decide (r.den = 1) = true := decide_eq_true h1d
        rw [hdd]
        have HD := Lib.hid h1d
        clear h1d hdd
        go_wp2
        go_ret
        obtain ⟨t2, ht2⟩ := exists_text r.den
        exact ⟨sgt r ++ tx, by rw [← HX.out]; rfl, ⟨tx, t2, HIT.out, ht2, by rw [if_pos HD.out, List.append_nil]⟩, (hon.trans P3).trans P4⟩
      · have hdd : decide (r.den = 1) = false := decide_eq_false h1d
        rw [hdd]
        have HD := Lib.hid h1d
        clear h1d hdd
        go_wp2_with fail
        refine (text_any _ _ _ _ _ R4 (by omega)).mono ?_
        rintro e w5 ⟨ty, rfl, IY, P5⟩
        rw [HVD.out] at IY
        have HIY := Lib.hid IY
        have hb2l : ty.length ≤ 50000 := by
          have h1 := text_size HIY.out (show 0 < L by omega) (by rw [← HVD.out]; have := val_lt R4.ok; rw [R4.len] at this; exact Nat.lt_of_lt_of_le this (Nat.pow_le_pow_right BB_pos l2))
          omega
        have hs2 : (str ty).size ≤ 50000 := by rw [str_len]; exact hb2l
        have hc2 : X ++ (⟨#[47]⟩ : ByteArray) ++ str ty = str (sgt r ++ tx ++ (47 :: ty)) := by
          rw [HX.out, show (⟨#[47]⟩ : ByteArray) = str [47] from rfl, str_app, str_app, List.append_assoc]; rfl
        have HC2 := Lib.hid hc2
        clear IY hc2 hb2l
        go_wp2
        go_ret
        exact ⟨_, by rw [← HC2.out]; rfl, ⟨tx, ty, HIT.out, HIY.out, by rw [if_neg HD.out]⟩, ((hon.trans P3).trans P4).trans P5⟩
end
end Num
end Go.Proofs.YtkchpagjkgmpmaaGreat
