/-
  The document's examples, as the statements call them: awake returns true.
-/
import Derived.Test.YtnlihfhafnidlaaText
import Derived.Test.YtnlihfhafnidlaaGcds
namespace Go.Proofs.Ytnlihfhafnidlaa
open Go.RowKit
set_option linter.unusedVariables false
namespace Num
theorem nm_len {w : World} {A : Option Addr} {n c v L : Nat} (h : Nm w A n c v L) (k : Nat) (hv : v < BB ^ k) : ∃ xs, Rd w A n c xs ∧ Clean xs ∧ val xs = v ∧ n ≤ k ∧ tl xs = n := by
  obtain ⟨xs, h1, h2, h3, h4⟩ := h
  have h5 := clean_len h2 k (by rw [h3]; exact hv)
  exact ⟨xs, h1, h2, h3, by rw [← h1.len]; exact h5, by rw [h2, h1.len]⟩
theorem divspec_small : DivSpec (fun a b => a < BB ∧ b < BB) := by
  intro w A A' n c n' c' xs ys h k C C' hP hpos hn hn'
  have hb : BB = BB ^ 1 := by decide
  have l1 := clean_len C 1 (by rw [← hb]; exact hP.1)
  have l2 := clean_len C' 1 (by rw [← hb]; exact hP.2)
  have t1 : tl xs = n := by rw [C, h.len]
  have t2 : tl ys = n' := by rw [C', k.len]
  rw [h.len] at l1
  rw [k.len] at l2
  have hp : 0 < n' := by
    rcases Nat.eq_zero_or_pos n' with h0 | h0
    · subst h0
      rw [List.eq_nil_of_length_eq_zero k.len] at hpos
      simp [val] at hpos
    · exact h0
  rcases Nat.lt_or_ge (tl xs) (tl ys) with hlt | hge
  · exact div_less w A A' n c n' c' n (max n' 2) xs ys h k hlt (by omega) (by omega)
  · exact div_word w A A' n c n' c' n (max n' 2) xs ys h k (by omega) (by omega) (by omega) (by omega) (by omega)
theorem text_q {bs : List Nat} (h : IsText 613566756 bs) : str bs = { data := #[54, 49, 51, 53, 54, 54, 55, 53, 54] } := by
  have e : bs = [54, 49, 51, 53, 54, 54, 55, 53, 54] := h.unique (.inr ⟨[54, 53, 55, 54, 54, 53, 51, 49, 54], rfl, by intro b hb; simp at hb; omega, rfl, by decide, by decide⟩)
  subst e; rfl
theorem text_r {bs : List Nat} (h : IsText 4 bs) : str bs = { data := #[52] } := by
  have e : bs = [52] := h.unique (.inr ⟨[52], rfl, by intro b hb; simp at hb; omega, rfl, by decide, by decide⟩)
  subst e; rfl
set_option maxHeartbeats 1000000 in
theorem awake_any (w : World) :
    Calls Try.prog 14 #[] w fun e w' => e = .returned (.bool true) ∧ On w w' := by
  go_enter Try.func14, Try.ntmps14
  go_wp2_with fail
  have R1 : Rd (w.alloc (.cells #[.int .u32 0, .int .u32 1] 30)) (some ⟨w.heap.size, 0, none⟩) 2 2 [0, 1] := rd_two w 30 0 1 (by decide) (by decide)
  have O1 : On w (w.alloc (.cells #[.int .u32 0, .int .u32 1] 30)) := (On.refl w).alloc _
  refine (of_any _ _ (by decide)).mono ?_
  rintro e w1 ⟨A1, n1, c1, rfl, N1, P1⟩
  obtain ⟨s7, S7, C7, V7, L7, T7⟩ := nm_len N1 1 (by decide)
  have hp : n1 = 1 := by
    rcases Nat.eq_zero_or_pos n1 with h0 | h0
    · subst h0; rw [List.eq_nil_of_length_eq_zero S7.len] at V7; simp [val] at V7
    · omega
  subst hp
  have HT7 := Lib.hid T7
  have HV7 := Lib.hid V7
  clear T7 V7
  go_wp2_with fail
  refine (div_word _ _ _ _ _ _ _ 2 2 _ _ (R1.on P1) S7 HT7.out (by decide) (by omega) (by decide) (by decide)).mono ?_
  rintro e w2 ⟨A3, n3, c3, A4, n4, c4, rfl, N3, N4, P2⟩
  rw [HV7.out] at N3 N4
  have e3 : val [0, 1] / (7 : Int).toNat = 613566756 := by decide
  have e4 : val [0, 1] % (7 : Int).toNat = 4 := by decide
  rw [e3] at N3
  rw [e4] at N4
  have O2 := (O1.trans P1).trans P2
  clear O1 P1 P2 R1 N1 S7 C7 HV7 L7 HT7 e3 e4
  obtain ⟨q, RQ, CQ, VQ, LQ⟩ := N3
  obtain ⟨r, RR, CR, VR, LR⟩ := N4
  have HQ := Lib.hid VQ
  have HR := Lib.hid VR
  clear VQ VR
  go_wp2_with fail
  refine (text_any _ _ _ _ _ RQ (by omega)).mono ?_
  rintro e w3 ⟨bq, rfl, IQ, P3⟩
  rw [HQ.out] at IQ
  rw [text_q IQ]
  go_wp2_with fail
  refine (text_any _ _ _ _ _ (RR.on P3) (by omega)).mono ?_
  rintro e w4 ⟨br, rfl, IR, P4⟩
  rw [HR.out] at IR
  rw [text_r IR]
  have O4 := (O2.trans P3).trans P4
  clear RQ RR CQ CR HQ HR P3 P4 O2 IQ IR bq br
  go_wp2_with fail
  refine (of_any _ _ (by decide)).mono ?_
  rintro e w5 ⟨A5, n5, c5, rfl, N5, P5⟩
  go_wp2_with fail
  refine (of_any _ _ (by decide)).mono ?_
  rintro e w6 ⟨A6, n6, c6, rfl, N6, P6⟩
  obtain ⟨s5, S5, C5, V5, L5, T5⟩ := nm_len N5 2 (by decide)
  obtain ⟨s6, S6, C6, V6, L6, T6⟩ := nm_len N6 2 (by decide)
  have HV5 := Lib.hid V5
  have HV6 := Lib.hid V6
  have HT5 := Lib.hid T5
  have HT6 := Lib.hid T6
  clear V5 V6 N5 N6 T5 T6
  go_wp2_with fail
  refine (gcd_small _ _ _ _ _ _ _ _ _ (S5.on P6) S6 (by omega) (by omega) (by rw [HT5.out]; exact L5) (by rw [HT6.out]; exact L6)).mono ?_
  rintro e w7 ⟨A7, n7, c7, rfl, N7, P7⟩
  rw [HV5.out, HV6.out] at N7
  rw [show Nat.gcd (12 : Int).toNat (18 : Int).toNat = 6 from by decide] at N7
  have O7 := ((O4.trans P5).trans P6).trans P7
  clear O4 P5 P6 P7 S5 S6 C5 C6 L5 L6 HT5 HT6 HV5 HV6
  go_wp2_with fail
  have N8 : Nm (w7.alloc (.cells #[.int .u32 6] 30)) (some ⟨w7.heap.size, 0, none⟩) 1 1 6 1 := ⟨[6], rd_one w7 30 6 (by decide), rfl, rfl, Nat.le_refl _⟩
  have O8 := O7.alloc (.cells #[.int .u32 6] 30)
  refine (words_true _ _ _ _ _ _ _ 6 2 1 (N7.on ((On.refl _).alloc _)) N8).mono ?_
  rintro e w9 ⟨rfl, P9⟩
  have O9 := O8.trans P9
  clear O7 O8 N7 N8 P9
  go_wp2_with fail
  refine (of_any _ _ (by decide)).mono ?_
  rintro e w10 ⟨A10, n10, c10, rfl, N10, P10⟩
  obtain ⟨s10, S10, C10, V10, L10, T10⟩ := nm_len N10 1 (by decide)
  have HV10 := Lib.hid V10
  clear V10 N10 T10
  go_wp2_with fail
  refine (root_of _ divspec_small _ _ _ _ _ S10 (by omega) (fun r hr => ?_)).mono ?_
  · rw [HV10.out] at hr ⊢
    have : (2 : Nat) ^ ((nb (99 : Int).toNat + 1) / 2) = 16 := by decide
    rw [this] at hr
    exact ⟨by decide, by simp only [BB]; omega⟩
  rintro e w11 ⟨r, h1, h2, A11, n11, c11, rfl, N11, P11⟩
  rw [HV10.out] at h1 h2
  have h9 : r = 9 := root_unique h1 h2 (by decide) (by decide)
  subst h9
  have O11 := (O9.trans P10).trans P11
  clear O9 P10 P11 S10 C10 L10 HV10 h1 h2
  go_wp2_with fail
  have N12 : Nm (w11.alloc (.cells #[.int .u32 9] 30)) (some ⟨w11.heap.size, 0, none⟩) 1 1 9 1 := ⟨[9], rd_one w11 30 9 (by decide), rfl, rfl, Nat.le_refl _⟩
  have O12 := O11.alloc (.cells #[.int .u32 9] 30)
  refine (words_true _ _ _ _ _ _ _ 9 _ 1 (N11.on ((On.refl _).alloc _)) N12).mono ?_
  rintro e w13 ⟨rfl, P13⟩
  go_wp2
  go_ret
  exact ⟨rfl, O12.trans P13⟩
end Num
end Go.Proofs.Ytnlihfhafnidlaa
