/-
  gcd64; Gcd of numbers of at most two words.
-/
import Derived.Test.YtkpeliokhmigoaaDiv
import Derived.Deep.DeepCutAuto
namespace Go.Proofs.Ytkpeliokhmigoaa
open Go.RowKit
set_option linter.unusedVariables false
namespace Num
set_option maxHeartbeats 400000 in
theorem gcd64_any (w : World) (x y : Nat) (hx : x ≤ 18446744073709551615) (hy : y ≤ 18446744073709551615) :
    Calls Try.prog 83 #[.int .u64 (x : Int), .int .u64 (y : Int)] w fun e w' => e = .returned (.int .u64 ((Nat.gcd x y : Nat) : Int)) ∧ On w w' := by
  go_enter Try.func83, Try.ntmps83
  go_wp2
  go_loopw [0, 1] (fun u v wr => ∃ a b : Nat, u = .int .u64 (a : Int) ∧ v = .int .u64 (b : Int) ∧ a ≤ 18446744073709551615 ∧ b ≤ 18446744073709551615 ∧ Nat.gcd a b = Nat.gcd x y ∧ On w wr) (fun _ v _ => (intOf v).toNat)
  case atStart => exact ⟨x, y, rfl, rfl, hx, hy, rfl, On.refl _⟩
  case round =>
    obtain ⟨a, b, rfl, rfl, ha, hb, hg, hon⟩ := hrel
    have HG := Lib.hid hg
    clear hg
    by_cases h0 : b = 0
    · subst h0
      go_wp2
      go_ret
      exact ⟨ret_int (by rw [← HG.out, Nat.gcd_zero_right]), hon⟩
    · have hb1 : ((b : Int) != 0) = true := by rw [bne_iff_ne]; omega
      have hb2 : ((b : Int) == 0) = false := by simp; omega
      have h1 : 0 < b := by omega
      have hm := Nat.mod_lt a h1
      have hgc := Lib.hid (Nat.gcd_comm a b)
      have hgr := Lib.hid (Nat.gcd_rec b a)
      go_wp2
      go_quiet (fail)
      go_wp2
      rw [← Int.natCast_emod]
      exact ⟨⟨b, a % b, rfl, rfl, hb, by omega, by rw [Nat.gcd_comm, ← hgr.out, ← hgc.out, HG.out], hon.drewN nq⟩, by simp [intOf]; omega⟩
set_option maxHeartbeats 1000000 in
theorem gcd_small (w : World) (A A' : Option Addr) (n c n' c' : Nat) (xs ys : List Nat) (h : Rd w A n c xs) (k : Rd w A' n' c' ys) (hn : n ≤ 10000) (hn' : n' ≤ 10000) (h2 : tl xs ≤ 2) (h2' : tl ys ≤ 2) :
    Calls Try.prog 43 #[.slice A n c, .slice A' n' c'] w (Gives w (Nat.gcd (val xs) (val ys)) 2) := by
  have T := h.take (k := tl xs) (by rw [← h.len]; exact tl_le xs)
  have T' := k.take (k := tl ys) (by rw [← k.len]; exact tl_le ys)
  have C := clean_take xs
  have C' := clean_take ys
  rw [← val_take_tl xs, ← val_take_tl ys]
  generalize xs.take (tl xs) = zs at *
  generalize ys.take (tl ys) = us at *
  go_enter Try.func43, Try.ntmps43
  go_wp2_with fail
  refine (trim_any _ _ _ _ _ h).mono ?_
  rintro e w' ⟨rfl, rfl⟩
  go_wp2_with fail
  refine (clone_any _ _ _ _ _ T (by omega)).mono ?_
  rintro e w1 ⟨A1, c1, rfl, R1, hon1, _⟩
  go_wp2_with fail
  refine (trim_any _ _ _ _ _ (k.on hon1)).mono ?_
  rintro e w' ⟨rfl, rfl⟩
  go_wp2_with fail
  refine (clone_any _ _ _ _ _ (T'.on hon1) (by omega)).mono ?_
  rintro e w2 ⟨A2, c2, rfl, R2, hon2, _⟩
  have R3 := R1.on hon2
  have hon := hon1.trans hon2
  clear h k T T' R1 hon1 hon2
  go_wp2_with fail
  refine (cmp_any _ _ _ _ _ _ _ _ _ R3 R2).mono ?_
  rintro e w3 ⟨rfl, hon3⟩
  have R4 := R3.on hon3
  have R5 := R2.on hon3
  have hon := hon.trans hon3
  clear R3 R2 hon3
  generalize tl xs = m at *
  generalize tl ys = m' at *
  clear xs ys
  have hce : ∀ a b : Nat, a < b ∨ b ≤ a := fun a b => Nat.lt_or_ge a b
  have HR4 := Lib.hid R4
  have HR5 := Lib.hid R5
  have HC4 := Lib.hid C
  have HC5 := Lib.hid C'
  clear R4 R5 C C'
  go_upto_if 22 with (fail)
  go_cut [5, 6] (fun s5 s6 wx => ∃ (A1 : Option Addr) (n1 c1 : Nat) (l1 : List Nat) (A2 : Option Addr) (n2 c2 : Nat) (l2 : List Nat), s5 = .slice A1 n1 c1 ∧ s6 = .slice A2 n2 c2 ∧ Rd wx A1 n1 c1 l1 ∧ Rd wx A2 n2 c2 l2 ∧ Clean l1 ∧ Clean l2 ∧ n1 ≤ 2 ∧ n2 ≤ 2 ∧ val l2 ≤ val l1 ∧ Nat.gcd (val l1) (val l2) = Nat.gcd (val zs) (val us) ∧ On w wx)
  case first =>
    rcases hce (val zs) (val us) with h | h
    · rw [cmpI_lt h]
      have H := Lib.hid h
      clear h
      go_wp2
      go_meet
      exact ⟨_, _, _, us, _, _, _, zs, rfl, rfl, HR5.out, HR4.out, HC5.out, HC4.out, h2', h2, Nat.le_of_lt H.out, Nat.gcd_comm _ _, hon⟩
    · have hge : 0 ≤ cmpI (val zs) (val us) := by
        rcases Nat.lt_or_eq_of_le h with h | h
        · rw [cmpI_gt h]; decide
        · rw [cmpI_eq h.symm]; decide
      have H := Lib.hid h
      clear h
      generalize cmpI (val zs) (val us) = ci at *
      go_wp2
      go_meet
      exact ⟨_, _, _, zs, _, _, _, us, rfl, rfl, HR4.out, HR5.out, HC4.out, HC5.out, h2, h2', H.out, rfl, hon⟩
  case rest =>
    obtain ⟨A3, n3, c3, l3, A4, n4, c4, l4, rfl, rfl, R3, R4, C3, C4, hn3, hn4, hle, hg, hon⟩ := hcut
    have HG := Lib.hid hg
    clear hg
    have T3 := R3.at_
    go_wp2
    go_loopw [5, 6] (fun s5 s6 wr => s5 = .slice A3 n3 c3 ∧ s6 = .slice A4 n4 c4 ∧ wc = wr) (fun _ _ _ => 0)
    case atStart => exact ⟨rfl, rfl, rfl⟩
    case round =>
      obtain ⟨rfl, rfl, rfl⟩ := hrel
      rcases Nat.eq_zero_or_pos n4 with h0 | h0
      · subst h0
        obtain rfl := List.eq_nil_of_length_eq_zero R4.len
        have hgz : Nat.gcd (val zs) (val us) = val l3 := by rw [← HG.out]; simp [val]
        have HGZ := Lib.hid hgz
        clear hgz T3
        go_wp2
        go_ret
        exact ⟨_, _, _, rfl, ⟨l3, R3, C3, HGZ.out.symm, hn3⟩, hon⟩
      · have hb1 : ((n4 : Int) == 0) = false := by simp; omega
        clear T3
        have hv3 := val_lt R3.ok
        have hv4 := val_lt R4.ok
        rw [R3.len] at hv3
        rw [R4.len] at hv4
        have hp3 : BB ^ n3 ≤ BB ^ 2 := Nat.pow_le_pow_right BB_pos hn3
        have hp4 : BB ^ n4 ≤ BB ^ 2 := Nat.pow_le_pow_right BB_pos hn4
        have hbb : BB ^ 2 = 18446744073709551616 := by decide
        have hm3 : val l3 ≤ 18446744073709551615 := by omega
        have hm4 : val l4 ≤ 18446744073709551615 := by omega
        clear hv3 hv4 hp3 hp4 hbb
        go_wp2_with fail
        refine (to64_any _ _ _ _ _ R3 hn3).mono ?_
        rintro e w' ⟨rfl, rfl⟩
        go_wp2_with fail
        refine (to64_any _ _ _ _ _ R4 hn4).mono ?_
        rintro e w' ⟨rfl, rfl⟩
        go_wp2_with fail
        refine (gcd64_any _ _ _ hm3 hm4).mono ?_
        rintro e w5 ⟨rfl, hon5⟩
        have hgl : Nat.gcd (val l3) (val l4) ≤ 18446744073709551615 := by
          have h1 : 0 < val l4 := val_pos C4 (by rw [R4.len]; exact h0)
          exact Nat.le_trans (Nat.le_of_dvd h1 (Nat.gcd_dvd_right _ _)) hm4
        rw [HG.out] at hgl ⊢
        generalize Nat.gcd (val zs) (val us) = gg at *
        go_wp2_with fail
        refine (of64_any _ _ (by omega) (by omega)).mono ?_
        rintro e w6 ⟨A6, n6, c6, rfl, N6, hon6⟩
        rw [Int.toNat_natCast] at N6
        go_wp2
        go_ret
        exact ⟨_, _, _, rfl, N6, (hon.trans hon5).trans hon6⟩
end Num
end Go.Proofs.Ytkpeliokhmigoaa
