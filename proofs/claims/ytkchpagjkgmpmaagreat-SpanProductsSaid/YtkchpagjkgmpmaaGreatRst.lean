/-
  The specification's Text.
-/
import Derived.Test.YtkchpagjkgmpmaaGreatZneg
import Derived.Test.YtkchpagjkgmpmaaGreatRtext
namespace Go.Proofs.YtkchpagjkgmpmaaGreat
open Go.RowKit
set_option linter.unusedVariables false
namespace Num
set_option maxRecDepth 100000 in
set_option maxHeartbeats 1600000 in
theorem stext_any (w : World) (v : Value) (r : Rat) (L : Nat) (h : Fld w v r L) (hL1 : 1 ≤ L) (hL : L ≤ 5000) :
    Calls Tryz.prog 58 #[v] w (TextR w r) := by
  obtain ⟨s, A, n, c, A', n', c', xs, ys, rfl, R, R', h1, h2, h3⟩ := id h
  clear h3 R R' h1 h2
  have B : On w (w.alloc (.cells #[.bool s, .slice A n c, .slice A' n' c'] 24)) := On.alloc (On.refl w) _
  obtain ⟨b, hb⟩ : ∃ x, decide (r < 0) = x := ⟨_, rfl⟩
  have HB := Lib.hid hb
  clear hb
  go_enter Tryz.func58, Tryz.ntmps58
  go_wp2_with fail
  refine (parts_any _ _ r L (h.on B) hL1 hL).mono ?_
  rintro e w1 ⟨E1, m1, o1, E2, m2, o2, us, vs, rfl, U, U', CU, k1, k2, V1, V2, P1⟩
  rw [HB.out]
  have HV1 := Lib.hid V1
  have HV2 := Lib.hid V2
  clear V1 V2
  replace B := B.trans P1
  clear P1
  go_wp2_with fail
  refine (rtext_any _ _ _ _ _ U (by omega)).mono ?_
  rintro e w2 ⟨tx, rfl, IT, P2⟩
  rw [HV1.out] at IT
  have HIT := Lib.hid IT
  replace U' := U'.on P2
  replace B := B.trans P2
  have hb1l : tx.length ≤ 50000 := by
    have h1 := text_size IT (show 0 < L by omega) (by rw [← HV1.out]; have := val_lt U.ok; rw [U.len] at this; exact Nat.lt_of_lt_of_le this (Nat.pow_le_pow_right BB_pos k1))
    omega
  clear IT P2 U
  have hs1 : (str tx).size ≤ 50000 := by rw [str_len]; exact hb1l
  have PA := (On.refl w2).alloc (.cells #[.int .u32 1] 66)
  have R1 := rd_one w2 66 1 (by decide)
  replace U' := U'.on PA
  replace B := B.trans PA
  cases b
  · obtain ⟨X, hX⟩ : ∃ X, str tx = X := ⟨_, rfl⟩
    have HX : Hid (X = str (sgt r ++ tx)) := Lib.hid (by rw [sgt_no HB.out, ← hX]; rfl)
    have hs2 : X.size ≤ 50001 := by rw [← hX]; omega
    rw [hX] at hs1 ⊢
    clear hX
    go_wp2_with fail
    refine (rcmp_any _ _ _ _ _ _ _ _ _ U' R1 (by omega) (by omega)).mono ?_
    rintro e w3 ⟨rfl, rfl⟩
    rw [show val [1] = 1 from rfl, HV2.out]
    by_cases hd : r.den = 1
    · have HD := Lib.hid hd
      rw [cmpI_eq hd]
      clear hd
      go_wp2
      go_ret
      obtain ⟨t2, ht2⟩ := exists_text r.den
      exact ⟨sgt r ++ tx, by rw [← HX.out]; try rfl, ⟨tx, t2, HIT.out, ht2, by rw [if_pos HD.out, List.append_nil]⟩, B⟩
    · have HD := Lib.hid hd
      obtain ⟨k, hk⟩ : ∃ x, cmpI r.den 1 = x := ⟨_, rfl⟩
      have hkn : k ≠ 0 := by
        rw [← hk]
        rcases Nat.lt_or_gt_of_ne hd with h | h
        · rw [cmpI_lt h]; decide
        · rw [cmpI_gt h]; decide
      rw [hk]
      clear hk hd
      go_wp2_with fail
      refine (rtext_any _ _ _ _ _ U' (by omega)).mono ?_
      rintro e w4 ⟨ty, rfl, IY, P4⟩
      rw [HV2.out] at IY
      have HIY := Lib.hid IY
      have hb2l : ty.length ≤ 50000 := by
        have h1 := text_size IY (show 0 < L by omega) (by rw [← HV2.out]; have := val_lt U'.ok; rw [U'.len] at this; exact Nat.lt_of_lt_of_le this (Nat.pow_le_pow_right BB_pos k2))
        omega
      have hs3 : (str ty).size ≤ 50000 := by rw [str_len]; exact hb2l
      have hc2 : X ++ ((⟨#[47]⟩ : ByteArray) ++ str ty) = str (sgt r ++ tx ++ (47 :: ty)) := by
        rw [HX.out, show (⟨#[47]⟩ : ByteArray) = str [47] from rfl, str_app, str_app]; rfl
      have hs4 : ((⟨#[47]⟩ : ByteArray) ++ str ty).size ≤ 50001 := by rw [show (⟨#[47]⟩ : ByteArray) = str [47] from rfl, str_app, str_len]; simp; omega
      have HC2 := Lib.hid hc2
      clear IY hc2 hb2l
      go_wp2
      go_ret
      exact ⟨_, by rw [← HC2.out]; try rfl, ⟨tx, ty, HIT.out, HIY.out, by rw [if_neg HD.out]⟩, B.trans P4⟩
  · have HX : Hid ((⟨#[45]⟩ : ByteArray) ++ str tx = str (sgt r ++ tx)) := Lib.hid (by rw [sgt_yes HB.out, show (⟨#[45]⟩ : ByteArray) = str [45] from rfl, str_app])
    have hs2 : ((⟨#[45]⟩ : ByteArray) ++ str tx).size ≤ 50001 := by rw [HX.out, str_len, sgt_yes HB.out]; simp; omega
    obtain ⟨X, hX⟩ : ∃ X, (⟨#[45]⟩ : ByteArray) ++ str tx = X := ⟨_, rfl⟩
    rw [hX] at HX hs2
    have HXX := Lib.hid hX
    clear hX
    go_wp2_with fail
    refine (rcmp_any _ _ _ _ _ _ _ _ _ U' R1 (by omega) (by omega)).mono ?_
    rintro e w3 ⟨rfl, rfl⟩
    rw [show val [1] = 1 from rfl, HV2.out]
    by_cases hd : r.den = 1
    · have HD := Lib.hid hd
      rw [cmpI_eq hd]
      clear hd
      go_wp2
      rw [HXX.out]
      go_ret
      obtain ⟨t2, ht2⟩ := exists_text r.den
      exact ⟨sgt r ++ tx, by rw [← HX.out]; try rfl, ⟨tx, t2, HIT.out, ht2, by rw [if_pos HD.out, List.append_nil]⟩, B⟩
    · have HD := Lib.hid hd
      obtain ⟨k, hk⟩ : ∃ x, cmpI r.den 1 = x := ⟨_, rfl⟩
      have hkn : k ≠ 0 := by
        rw [← hk]
        rcases Nat.lt_or_gt_of_ne hd with h | h
        · rw [cmpI_lt h]; decide
        · rw [cmpI_gt h]; decide
      rw [hk]
      clear hk hd
      go_wp2_with fail
      refine (rtext_any _ _ _ _ _ U' (by omega)).mono ?_
      rintro e w4 ⟨ty, rfl, IY, P4⟩
      rw [HV2.out] at IY
      have HIY := Lib.hid IY
      have hb2l : ty.length ≤ 50000 := by
        have h1 := text_size IY (show 0 < L by omega) (by rw [← HV2.out]; have := val_lt U'.ok; rw [U'.len] at this; exact Nat.lt_of_lt_of_le this (Nat.pow_le_pow_right BB_pos k2))
        omega
      have hs3 : (str ty).size ≤ 50000 := by rw [str_len]; exact hb2l
      have hc2 : X ++ ((⟨#[47]⟩ : ByteArray) ++ str ty) = str (sgt r ++ tx ++ (47 :: ty)) := by
        rw [HX.out, show (⟨#[47]⟩ : ByteArray) = str [47] from rfl, str_app, str_app]; rfl
      have hs4 : ((⟨#[47]⟩ : ByteArray) ++ str ty).size ≤ 50001 := by rw [show (⟨#[47]⟩ : ByteArray) = str [47] from rfl, str_app, str_len]; simp; omega
      have HC2 := Lib.hid hc2
      clear IY hc2 hb2l
      try rw [HXX.out]
      go_wp2
      try rw [HXX.out]
      go_ret
      exact ⟨_, by rw [← HC2.out]; try rfl, ⟨tx, ty, HIT.out, HIY.out, by rw [if_neg HD.out]⟩, B.trans P4⟩
end Num
end Go.Proofs.YtkchpagjkgmpmaaGreat
