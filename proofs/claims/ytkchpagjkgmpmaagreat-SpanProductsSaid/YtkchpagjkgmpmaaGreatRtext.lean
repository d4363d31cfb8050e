/-
  The specification's Text.
-/
import Derived.Test.YtkchpagjkgmpmaaGreatRatB
import Derived.Test.YtkchpagjkgmpmaaGreatRatA
import Derived.Deep.LoopGhost
namespace Go.Proofs.YtkchpagjkgmpmaaGreat
open Go.RowKit
set_option linter.unusedVariables false
namespace Num
theorem str_nil : str [] = ⟨#[]⟩ := rfl
/-- what has been found of the digits of v when x is left -/
def Part (v x : Nat) (ds : List Nat) : Prop := IsDig ds ∧ x * 10 ^ ds.length + dvb ds = v ∧ (ds = [] ∨ (v = 0 ∧ ds = [48] ∧ x = 0) ∨ 0 < x ∨ (0 < ds.length ∧ gw ds (ds.length - 1) ≠ 48))
theorem gw_snoc_last (l : List Nat) (x : Nat) : gw (l ++ [x]) ((l ++ [x]).length - 1) = x := by
  unfold gw; rw [List.getD_eq_getElem?_getD]; simp
theorem Part.step {v x : Nat} {ds : List Nat} (h : Part v x ds) (hc : 0 < x ∨ ds = []) : Part v (x / 10) (ds ++ [48 + x % 10]) := by
  obtain ⟨h1, h2, h3⟩ := h
  refine ⟨h1.snoc (by omega) (by omega), ?_, ?_⟩
  · rw [dvb_snoc, List.length_append, List.length_singleton, Nat.pow_succ, ← h2]
    have e : x * 10 ^ ds.length = (x / 10 * 10 + x % 10) * 10 ^ ds.length := by congr 1; omega
    rw [e, Nat.add_mul, Nat.add_sub_cancel_left, Nat.mul_comm (10 ^ ds.length) 10, ← Nat.mul_assoc, Nat.mul_comm (10 ^ ds.length) (x % 10)]
    omega
  · by_cases hx : 0 < x / 10
    · exact .inr (.inr (.inl hx))
    · rcases Nat.eq_zero_or_pos x with h0 | h0
      · have hd : ds = [] := by
          rcases hc with h | h
          · omega
          · exact h
        subst hd; subst h0
        exact .inr (.inl ⟨by rw [← h2]; rfl, rfl, rfl⟩)
      · refine .inr (.inr (.inr ⟨by simp, ?_⟩))
        rw [gw_snoc_last]; omega
theorem Part.text {v : Nat} {ds : List Nat} (h : Part v 0 ds) (hn : ds ≠ []) : IsText v ds.reverse := by
  obtain ⟨h1, h2, h3⟩ := h
  rcases h3 with h | ⟨hv, rfl, _⟩ | h | ⟨h4, h5⟩
  · exact absurd h hn
  · exact .inl ⟨hv, rfl⟩
  · omega
  · exact .inr ⟨ds, rfl, h1, by rw [← h2]; simp, h4, h5⟩
theorem low_word (l : List Nat) (h : val l < BB) : gw l 0 = val l := by
  have h1 := val_drop_any l 0
  rw [List.drop_zero] at h1
  have hb : 0 < BB := BB_pos
  rcases Nat.eq_zero_or_pos (val (l.drop (0 + 1))) with h0 | h0
  · rw [h0] at h1; omega
  · have : BB * 1 ≤ BB * val (l.drop (0 + 1)) := Nat.mul_le_mul_left _ h0
    omega
theorem str_size' (bs : List Nat) : (str bs).size = bs.length := by simp [str, ByteArray.size]
theorem enc_dig (d : Nat) (h : d < 10) : Utf8.encode ((48 : Int) + (d : Int)) = str [48 + d] := by
  match d, h with
  | 0, _ => rfl
  | 1, _ => rfl
  | 2, _ => rfl
  | 3, _ => rfl
  | 4, _ => rfl
  | 5, _ => rfl
  | 6, _ => rfl
  | 7, _ => rfl
  | 8, _ => rfl
  | 9, _ => rfl
theorem str_append (a b : List Nat) : str a ++ str b = str (a ++ b) := by
  apply ByteArray.ext
  simp [str]
theorem str_cons (d : Nat) (ds : List Nat) (h : d < 10) : Utf8.encode ((48 : Int) + (d : Int)) ++ str ds.reverse = str (ds ++ [48 + d]).reverse := by
  rw [enc_dig d h, str_append, List.reverse_append]; rfl
theorem part_len {v x n : Nat} {ds : List Nat} (h : Part v x ds) (hc : 0 < x ∨ ds = []) (hv : v < BB ^ n) : ds.length ≤ 10 * n := by
  rcases hc with h0 | h0
  · have h1 : 1 * 10 ^ ds.length ≤ x * 10 ^ ds.length := Nat.mul_le_mul_right _ h0
    have h2 := h.2.1
    have h3 := pow_ten_bb n
    have h4 : 10 ^ ds.length < 10 ^ (10 * n) := by omega
    exact Nat.le_of_lt ((Nat.pow_lt_pow_iff_right (by decide : 1 < 10)).1 h4)
  · rw [h0]; simp
set_option maxRecDepth 100000 in
set_option maxHeartbeats 1000000 in
theorem rtext_any (w : World) (A : Option Addr) (n c : Nat) (xs : List Nat) (h : Rd w A n c xs) (hn : n ≤ 5000) :
    Calls Tryz.prog 92 #[.slice A n c] w (TextPost w (val xs)) := by
  obtain ⟨v, hv⟩ : ∃ v, val xs = v := ⟨_, rfl⟩
  rw [hv]
  have HV := Lib.hid hv
  clear hv
  go_enter Tryz.func92, Tryz.ntmps92
  go_wp2_with fail
  refine (rtrim_any _ _ _ _ n _ h (by have := tl_le xs; rw [h.len] at this; exact this) (by omega)).mono ?_
  rintro e w1 ⟨A1, n1, c1, rfl, ⟨zs, R1, C1, V1, L1⟩, P1⟩
  have HZ : Hid (val zs = v) := Lib.hid (by rw [V1]; exact HV.out)
  clear V1
  go_wp2
  go_loopg [0, 3] (v + 1) (fun gh s0 s3 wr => ∃ (A : Option Addr) (n1 c : Nat) (l : List Nat) (ds : List Nat), s0 = .slice A n1 c ∧ s3 = .string (str ds.reverse) ∧ Rd wr A n1 c l ∧ Clean l ∧ n1 ≤ n ∧ Part v (val l) ds ∧ val l + (if ds = [] then 1 else 0) ≤ gh ∧ On w wr)
  case atStart => exact ⟨A1, n1, c1, zs, [], rfl, rfl, R1, C1, L1, ⟨IsDig.nil, by simp [dvb, HZ.out], .inl rfl⟩, by rw [HZ.out]; simp, P1⟩
  case round =>
    clear R1 C1 L1 P1 HZ
    obtain ⟨A, n1, c, l, ds, rfl, rfl, R, C, hn1, hP, hgh, hon⟩ := hrel
    have HP := Lib.hid hP
    have HGH := Lib.hid hgh
    clear hP hgh
    by_cases hc : 0 < n1 ∨ ds = []
    · rcases Nat.eq_zero_or_pos n1 with h0 | h0
      · have hds : ds = [] := by
          rcases hc with h | h
          · omega
          · exact h
        subst h0
        have e0 : (str ds.reverse).toList = [] := by rw [hds]; exact (toList_nil_iff _).2 rfl
        have HDS := Lib.hid hds
        clear hc hds
        go_wp2_with fail
        refine (rof_any _ _ (by decide) (by decide)).mono ?_
        rintro e w2 ⟨A2, n2, c2, rfl, ⟨bs, R2, C2, V2, L2⟩, P2⟩
        have V2' : val bs = 10 := V2
        have HV2 := Lib.hid V2'
        clear V2 V2'
        go_wp2_with fail
        refine (rdiv_pos _ _ _ _ _ _ _ _ _ (R.on P2) R2 (by omega) (by omega) (by rw [HV2.out]; decide)).mono ?_
        rintro e w3 ⟨A3, n3, c3, A4, n4, c4, rfl, ⟨qs, R3, C3, V3, L3⟩, ⟨rs, R4, C4, V4, L4⟩, P3⟩
        rw [HV2.out] at V3 V4
        have hr : gw rs 0 = val l % 10 := by rw [low_word rs (by rw [V4]; simp only [BB]; omega), V4]
        have hrl : val l % 10 < 10 := Nat.mod_lt _ (by decide)
        have HV3 := Lib.hid V3
        have HR := Lib.hid hr
        clear V3 V4 hr
        go_wp2_with fail
        refine (word_is _ _ _ _ _ R4 _ 0 rfl (by decide)).mono ?_
        rintro e w' ⟨rfl, rfl⟩
        rw [HR.out]
        have HST : Hid (Part v (val l / 10) (ds ++ [48 + val l % 10])) := Lib.hid (HP.out.step (.inr HDS.out))
        have HSZ : Hid ((str ds.reverse).size ≤ 10 * n) := Lib.hid (by
          rw [str_size', List.length_reverse]
          exact part_len HP.out (.inr HDS.out) (by rw [← HV.out]; have := val_lt h.ok; rw [h.len] at this; exact this))
        have hcc := str_cons (val l % 10) ds hrl
        obtain ⟨d, hd⟩ : ∃ d, val l % 10 = d := ⟨_, rfl⟩
        rw [hd] at HST hcc hrl ⊢
        obtain ⟨E, hE⟩ : ∃ E, Utf8.encode ((48 : Int) + (d : Int)) = E := ⟨_, rfl⟩
        have hE1 : E.size = 1 := by rw [← hE, enc_dig d hrl]; rfl
        have hEs : E.size + (str ds.reverse).size ≤ 9223372036854775807 := by rw [hE1]; have := HSZ.out; omega
        have HQC : Hid (E ++ str ds.reverse = str (ds ++ [48 + d]).reverse) := Lib.hid (by rw [← hE]; exact hcc)
        have HR4 := Lib.hid R4
        clear hd hcc hE1
        go_wp2
        go_roundg (val qs)
        case measure => have := HGH.out; rw [if_pos HDS.out] at this; rw [HV3.out]; omega
        case rel =>
          refine ⟨A3, n3, c3, qs, ds ++ [48 + d], rfl, by rw [HQC.out], R3, C3, by omega, by rw [HV3.out]; exact HST.out, by rw [if_neg (by simp)]; omega, (hon.trans P2).trans P3⟩
      · clear hc
        go_wp2_with fail
        refine (rof_any _ _ (by decide) (by decide)).mono ?_
        rintro e w2 ⟨A2, n2, c2, rfl, ⟨bs, R2, C2, V2, L2⟩, P2⟩
        have V2' : val bs = 10 := V2
        have HV2 := Lib.hid V2'
        clear V2 V2'
        go_wp2_with fail
        refine (rdiv_pos _ _ _ _ _ _ _ _ _ (R.on P2) R2 (by omega) (by omega) (by rw [HV2.out]; decide)).mono ?_
        rintro e w3 ⟨A3, n3, c3, A4, n4, c4, rfl, ⟨qs, R3, C3, V3, L3⟩, ⟨rs, R4, C4, V4, L4⟩, P3⟩
        rw [HV2.out] at V3 V4
        have hr : gw rs 0 = val l % 10 := by rw [low_word rs (by rw [V4]; simp only [BB]; omega), V4]
        have hrl : val l % 10 < 10 := Nat.mod_lt _ (by decide)
        have HV3 := Lib.hid V3
        have HR := Lib.hid hr
        clear V3 V4 hr
        go_wp2_with fail
        refine (word_is _ _ _ _ _ R4 _ 0 rfl (by decide)).mono ?_
        rintro e w' ⟨rfl, rfl⟩
        rw [HR.out]
        have HST : Hid (Part v (val l / 10) (ds ++ [48 + val l % 10])) := Lib.hid (HP.out.step (.inl (val_pos C (by rw [R.len]; exact h0))))
        have HSZ : Hid ((str ds.reverse).size ≤ 10 * n) := Lib.hid (by
          rw [str_size', List.length_reverse]
          exact part_len HP.out (.inl (val_pos C (by rw [R.len]; exact h0))) (by rw [← HV.out]; have := val_lt h.ok; rw [h.len] at this; exact this))
        have hcc := str_cons (val l % 10) ds hrl
        obtain ⟨d, hd⟩ : ∃ d, val l % 10 = d := ⟨_, rfl⟩
        rw [hd] at HST hcc hrl ⊢
        obtain ⟨E, hE⟩ : ∃ E, Utf8.encode ((48 : Int) + (d : Int)) = E := ⟨_, rfl⟩
        have hE1 : E.size = 1 := by rw [← hE, enc_dig d hrl]; rfl
        have hEs : E.size + (str ds.reverse).size ≤ 9223372036854775807 := by rw [hE1]; have := HSZ.out; omega
        have HQC : Hid (E ++ str ds.reverse = str (ds ++ [48 + d]).reverse) := Lib.hid (by rw [← hE]; exact hcc)
        have HR4 := Lib.hid R4
        clear hd hcc hE1
        go_wp2
        go_roundg (val qs)
        case measure => have := HGH.out; have := val_pos C (by rw [R.len]; exact h0); rw [HV3.out]; omega
        case rel =>
          refine ⟨A3, n3, c3, qs, ds ++ [48 + d], rfl, by rw [HQC.out], R3, C3, by omega, by rw [HV3.out]; exact HST.out, by rw [if_neg (by simp)]; omega, (hon.trans P2).trans P3⟩
    · have hn0 : n1 = 0 := by omega
      have hds : ds ≠ [] := fun e => hc (.inr e)
      subst hn0
      obtain rfl := List.eq_nil_of_length_eq_zero R.len
      have HT := Lib.hid (Part.text HP.out hds)
      have hsz : 0 < (str ds.reverse).size := by
        have : (str ds.reverse).size = ds.length := by simp [str, ByteArray.size]
        rw [this]; exact List.length_pos_iff.2 hds
      have hne : ¬ (str ds.reverse).toList = [] := fun e => by have := (toList_nil_iff _).1 e; omega
      have e1 : (str ds.reverse).toList.isEmpty = false := by simp [hne]
      clear hc hds
      go_wp2
      go_ret
      exact ⟨_, rfl, HT.out, hon⟩
end Num
end Go.Proofs.YtkchpagjkgmpmaaGreat
