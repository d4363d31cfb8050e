/-
  divideLong: long division, digit by digit.
-/
import Derived.Test.YtkpeliokhmigoaaDlMath
import Derived.Test.YtkpeliokhmigoaaSubm
namespace Go.Proofs.Ytkpeliokhmigoaa
open Go.RowKit
set_option linter.unusedVariables false
namespace Num
theorem est_wrap (w : World) (A A' : Option Addr) (c c' m N N1 : Nat) (us vs : List Nat) (hN : m + 2 = N) (hN1 : N1 = N + 1) (hu : Rd w A N1 c us) (hv : Rd w A' N c' vs) (hm : m ≤ 100000) (htop : 2147483648 ≤ gw vs (m + 1)) (hlt : val us < val vs * BB) :
    Calls Try.prog 105 #[.slice A N1 c, .slice A' N c'] w fun e w' => ∃ d, e = .returned (.int .u32 ((d : Nat) : Int)) ∧ IsEst (val us) (val vs) d ∧ d < 4294967296 ∧ On w w' := by
  subst hN; subst hN1
  exact est_any w A A' c c' m us vs hu hv hm htop hlt
/-- quotient and rest, without an error -/
def QR2 (w : World) (a b L M : Nat) (e : Ending) (w' : World) : Prop :=
  ∃ A n c A' n' c', e = .returned (.tuple #[.slice A n c, .slice A' n' c']) ∧ Nm w' A n c (a / b) L ∧ Nm w' A' n' c' (a % b) M ∧ On w w'
set_option maxRecDepth 100000 in
set_option maxHeartbeats 2000000 in
theorem divlong_any (w : World) (A A' : Option Addr) (la ca m cb : Nat) (xs ys : List Nat) (h : Rd w A la ca xs) (k : Rd w A' (m + 2) cb ys) (htop : gw ys (m + 1) ≠ 0) (hle : m + 2 ≤ la) (hla : la ≤ 10000) :
    Calls Try.prog 79 #[.slice A la ca, .slice A' (m + 2) cb] w (QR2 w (val xs) (val ys) la (m + 2)) := by
  obtain ⟨N, hN⟩ : ∃ N, m + 2 = N := ⟨_, rfl⟩
  obtain ⟨M1, hM1⟩ : ∃ N, m + 1 = N := ⟨_, rfl⟩
  obtain ⟨ab, rfl, hbb, hcb⟩ := k.at_ (m + 1) (by omega)
  have hyb := k.ok.get (m + 1)
  have hkc := k.cap
  have hkm := k.max
  have hnb : nb (gw ys (m + 1)) ≤ 32 := (nb_le_iff _ _).2 (by omega)
  have hnp : 0 < nb (gw ys (m + 1)) := by unfold nb; rw [if_neg htop]; omega
  obtain ⟨s, hs⟩ : ∃ s, nb (gw ys (m + 1)) + s = 32 := ⟨32 - nb (gw ys (m + 1)), by omega⟩
  have HN := Lib.hid (norm_div ys k.ok (m + 1) s k.len htop hs)
  have HYG := Lib.hid (clean_ge (clean_of_last (m + 1) k.len htop) (m + 1) k.len)
  have HXL : Hid (val xs < BB ^ la) := by have := val_lt h.ok; rw [h.len] at this; exact this
  have HBP : Hid (0 < val ys) := norm_pos _ _ _ HN.out.1
  have HB := Lib.hid (bitLen_nb (gw ys (m + 1)) (by omega))
  have hs31 : s ≤ 31 := by omega
  have hsb : (32 : Int) - ((nb (gw ys (m + 1)) : Nat) : Int) = (s : Int) := by omega
  have HSB := Lib.hid hsb
  clear hsb hs hnb hnp htop
  have w1 : IntKind.i64.wrap ((N : Int) - 1) = (M1 : Int) := by rw [IntWalk.i64_in _ (by omega)]; omega
  have i1 : M1 < N := by omega
  have i2 : N ≤ m + 2 := by omega
  have i3 : m + 2 ≤ N := by omega
  have i4 : N ≤ 10000 := by omega
  have k2 : Rd w (some ab) N cb ys := by rw [← hN]; exact k
  rw [hM1] at hcb hyb HB HSB
  rw [hN]
  rw [hN] at hkc
  have HNN := Lib.hid hN
  clear hN hM1 k
  go_enter Try.func79, Try.ntmps79
  go_wp2_with fail
  refine (Try.bits_LeadingZeros32 ((gw ys M1 : Nat) : Int) _ (by omega) (by omega)).mono ?_
  rintro e w' ⟨rfl, hw⟩
  rw [hw]
  clear hw w'
  rw [Int.toNat_natCast, HB.out, HSB.out]
  go_wp2_with fail
  refine (shl_any _ _ _ _ _ k2 (by omega) _ (by omega) (by omega)).mono ?_
  rintro e w1 ⟨g1, cur1, vs1, rfl, hg1, ho1, hh1, hl1, hv1, hon1⟩
  rw [Int.toNat_natCast] at hl1 hv1 ⊢
  rw [show N + s / 32 + 1 = N + 1 from by omega] at hl1 ⊢
  have R1 := Rd.own (n := N + 1) (c := N + 1) ho1 hh1 hl1 (Nat.le_refl _) (by omega)
  have htl : tl vs1 = N := by rw [← HNN.out]; exact norm_tl vs1 hh1.ok (m + 1) (by rw [hv1]; exact HN.out.1) (by rw [hv1]; exact HN.out.2)
  have RV := R1.take (k := N) (by omega)
  have hvv : val (vs1.take N) = val ys * 2 ^ s := by rw [← htl, val_take_tl, hv1]
  have HTL := Lib.hid htl
  have hg1l := ho1.lt
  clear hl1 hv1 hh1 ho1 htl
  generalize hvs : vs1.take N = vs at *
  have HVV := Lib.hid hvv
  clear hvs hvv
  go_wp2_with fail
  refine (trim_any _ _ _ _ _ R1).mono ?_
  rintro e w' ⟨rfl, rfl⟩
  rw [HTL.out]
  clear R1 HTL
  go_wp2_with fail
  refine (shl_any _ _ _ _ _ (h.on hon1) (by omega) _ (by omega) (by omega)).mono ?_
  rintro e w2 ⟨g2, cur2, rs0, rfl, hg2, ho2, hh2, hl2, hv2, hon2⟩
  rw [Int.toNat_natCast] at hl2 hv2 ⊢
  rw [show la + s / 32 + 1 = la + 1 from by omega] at hl2 ⊢
  have RV2 := RV.on hon2
  have hg2l := ho2.lt
  have hg12 : g1 < g2 := by omega
  have HL2 := Lib.hid hl2
  have HV2 := Lib.hid hv2
  have HO2 := Lib.hid ho2
  have hon := hon1.trans hon2
  clear hl2 hv2 ho2 RV hon1 hon2
  obtain ⟨ql, hql1, hql2⟩ : ∃ ql, ql + (m + 1) ≤ la ∧ la ≤ ql + (m + 1) := ⟨la - (m + 1), by omega, by omega⟩
  have hmk := run_mk ql (by omega) w2
  rw [show ((ql : Nat) : Int) = (la : Int) - (N : Int) + 1 from by omega] at hmk
  have hvl : vs.length = N := RV2.len
  have HTOP := Lib.hid (norm_top vs RV2.ok (m + 1) (by rw [hvl, HNN.out]) (by rw [HVV.out]; exact HN.out.1))
  have HVB : Hid (val vs ≤ BB ^ N) := by rw [← hvl]; exact Nat.le_of_lt (val_lt RV2.ok)
  have HVP : Hid (0 < val vs) := by rw [HVV.out]; exact Nat.mul_pos HBP.out (Nat.pow_pos (by decide))
  have HST : Hid (val (rs0.drop ql) < val vs) := by rw [HVV.out]; exact dl_start rs0 hh2.ok ql m la s (val xs) (val ys) HV2.out HXL.out hql2 HYG.out
  clear hvl
  go_wp2
  go_loopw [9] (fun i wr => ∃ (k : Nat) (c2 : Array Value) (rs : List Nat) (c3 : Array Value) (qs : List Nat), k ≤ ql ∧ i = .int .i64 ((k : Int) - 1) ∧ Own wr g2 53 c2 ∧ Has c2 0 rs ∧ rs.length = la + 1 ∧ Own wr w2.heap.size 53 c3 ∧ Has c3 0 qs ∧ qs.length = ql ∧ Rd wr (some ⟨g1, 0, none⟩) N (N + 1) vs ∧ val xs * 2 ^ s = val (rs.take k) + BB ^ k * (val (rs.drop k) + val vs * val (qs.drop k)) ∧ val (rs.drop k) < val vs ∧ On w wr) (fun i _ => (intOf i + 1).toNat)
  case atStart => exact ⟨ql, cur2, rs0, _, _, Nat.le_refl _, rfl, HO2.out.alloc _, hh2, HL2.out, Own.new _ _ _, has_made _, by simp, RV2.alloc _, by rw [List.drop_of_length_le (l := List.replicate ql 0) (by simp), show val ([] : List Nat) = 0 from rfl, Nat.mul_zero, Nat.add_zero, ← val_split_any, HV2.out], HST.out, hon.alloc _⟩
  case round =>
    obtain ⟨k, c2, rs, c3, qs, hk, rfl, ho2, hh2', hl2', ho3, hh3, hl3, RVr, heq, hlt, honr⟩ := hrel
    have H1 := Lib.hid hl2'
    have H2 := Lib.hid hl3
    have H3 := Lib.hid heq
    have H4 := Lib.hid hlt
    have H5 := Lib.hid ho2
    have H6 := Lib.hid ho3
    clear hl2' hl3 heq hlt ho2 ho3
    rcases k with _ | i
    · have h3 := H3.out
      simp only [List.take_zero, List.drop_zero, Nat.pow_zero, Nat.one_mul, show val ([] : List Nat) = 0 from rfl, Nat.zero_add] at h3
      have h4 := H4.out
      simp only [List.drop_zero] at h4
      have HE := Lib.hid (dl_end (val rs) (val vs) (val qs) (val xs) (val ys) (2 ^ s) (Nat.pow_pos (by decide)) HBP.out HVV.out h3 h4)
      have Rq := Rd.own (n := ql) (c := ql) H6.out hh3 H2.out (Nat.le_refl _) (by omega)
      have Rr := Rd.own (n := la + 1) (c := la + 1) H5.out hh2' H1.out (Nat.le_refl _) (by omega)
      have Rt := Rr.take (k := tl rs) (by rw [← H1.out]; exact tl_le rs)
      have htr : tl rs ≤ la + 1 := by rw [← H1.out]; exact tl_le rs
      have htq : tl qs ≤ la := by have := tl_le qs; rw [H2.out] at this; omega
      have HYL : Hid (val ys < BB ^ (m + 2)) := Lib.hid (by have := val_lt k2.ok; rwa [k2.len, ← HNN.out] at this)
      clear h3 h4
      go_wp2_with fail
      refine (trim_any _ _ _ _ _ Rq).mono ?_
      rintro e w' ⟨rfl, rfl⟩
      go_wp2_with fail
      refine (trim_any _ _ _ _ _ Rr).mono ?_
      rintro e w' ⟨rfl, rfl⟩
      go_wp2_with fail
      refine (shr_any _ _ _ _ _ Rt (by omega) _ (by omega) (by omega)).mono ?_
      rintro e w6 ⟨A6, n6, c6, rfl, ⟨ts, RT, CT, VT, LT⟩, hon6⟩
      rw [Int.toNat_natCast, val_take_tl, HE.out.2, Nat.mul_div_cancel _ (Nat.pow_pos (by decide))] at VT
      have N1 := nm_trim (Rq.on hon6) (L := la) htq
      rw [HE.out.1] at N1
      have HVT := Lib.hid VT
      clear VT
      go_wp2
      go_ret2
      refine ⟨_, _, _, _, _, _, rfl, N1, ⟨ts, RT, CT, HVT.out, ?_⟩, honr.trans hon6⟩
      have h5 := clean_len CT (m + 2) (by rw [HVT.out]; exact Nat.lt_trans (Nat.mod_lt _ HBP.out) HYL.out)
      rw [RT.len] at h5
      exact Nat.le_trans h5 i3
    · rw [show ((i + 1 : Nat) : Int) - 1 = (i : Int) from by omega]
      have HTP := Lib.hid (top_part rs hh2'.ok i N (val vs) H4.out HVB.out)
      have hpart := hh2'.part (i := i) (n := N + 1) (by rw [H1.out]; omega)
      have hpl : ((rs.drop i).take (N + 1)).length = N + 1 := by rw [List.length_take, List.length_drop, H1.out]; omega
      have HPL := Lib.hid hpl
      have RP := Rd.own (n := N + 1) (c := la + 1 - i) H5.out (by rw [Nat.zero_add] at hpart; exact hpart) hpl (by omega) (by omega)
      clear hpl
      have hiq : i < ql := by omega
      go_wp2_with fail
      rw [show i + N + 1 - i = N + 1 from by omega]
      refine (est_wrap _ _ _ _ _ m N (N + 1) _ _ HNN.out rfl RP RVr (by omega) HTOP.out (by rw [HTP.out.2.1]; exact HTP.out.2.2)).mono ?_
      rintro e w4 ⟨d, rfl, hest, hd, hon4⟩
      rw [HTP.out.2.1] at hest
      have hpart2 : Has c2 i ((rs.drop i).take (N + 1)) := by rw [Nat.zero_add] at hpart; exact hpart
      have HES := Lib.hid hest
      clear hest RP hpart
      go_wp2_with fail
      refine (subm_any w4 g2 i (N + 1) (la + 1 - i) N (N + 1) c2 _ (some ⟨g1, 0, none⟩) vs d (H5.out.on hon4) hpart2 rfl HPL.out (by omega) (by omega) (by omega) (RVr.on hon4) (fun ad e => by injection e with e; subst e; show g1 ≠ g2; omega) hd HVP.out (by rw [HTP.out.2.1]; exact HTP.out.2.2) (by rw [HTP.out.2.1]; exact HES.out)).mono ?_
      rintro e w5 ⟨c5, rs5, rfl, ho5, hh5, hl5, hv5, hsame5, honly5⟩
      rw [HTP.out.2.1] at hv5 ⊢
      have hj := hh2'.join (cur' := c5) (i := i) (n := N + 1) (ys := rs5) (by rw [H1.out]; omega) hl5 (by rw [Nat.zero_add]; exact hh5) (by rw [Nat.zero_add]; exact hsame5)
      have hstep := dl_step rs rs5 qs i N (val vs) (val xs * 2 ^ s) (by rw [H2.out]; omega) (by rw [H1.out]; omega) hl5 HVP.out HTP.out.1 H3.out hv5
      have hnl : (rs.take i ++ rs5 ++ rs.drop (i + (N + 1))).length = la + 1 := by rw [List.length_append, List.length_append, hl5, List.length_take, List.length_drop, H1.out]; omega
      have HSTEP := Lib.hid hstep
      have HNL := Lib.hid hnl
      have HJ := Lib.hid hj
      have HO5 := Lib.hid ho5
      have h3w := (H6.out.on hon4).only honly5 (by omega)
      have hqd : val (rs.drop i) / val vs < 4294967296 := Nat.div_lt_of_lt_mul HTP.out.2.2
      obtain ⟨qd, hqe⟩ : ∃ x, val (rs.drop i) / val vs = x := ⟨_, rfl⟩
      rw [hqe] at hqd ⊢
      have HQE := Lib.hid hqe
      have H3W := Lib.hid h3w
      have RV5 := (RVr.on hon4).only honly5 (fun ad e => by injection e with e; subst e; show g1 ≠ g2; omega)
      have hon5 : On w w5 := (honr.trans hon4).only honly5 (by omega)
      have hcell : w5.cell? ⟨w2.heap.size, i, none⟩ = some (.int .u32 ((gw qs i : Nat) : Int)) := (H3W.out.cell _).trans (by have := hh3.get i (by rw [H2.out]; omega); rwa [Nat.zero_add] at this)
      have hfroz : w5.frozen? ⟨w2.heap.size, i, none⟩ = false := H3W.out.frozen _
      have hA := hh3.set_ (j := i) (x := qd) (by rw [H2.out]; omega) hqd
      rw [Nat.zero_add] at hA
      clear hstep hnl hj ho5 h3w hqe hv5 hl5 hsame5 hpart2 RVr
      have hst := HSTEP.out
      rw [HQE.out] at hst
      have HST2 := Lib.hid hst
      clear hst
      go_wp2
      exact ⟨⟨i, c5, _, _, qs.set i qd, by omega, rfl, HO5.out.far (by show g2 ≠ w2.heap.size; omega) _, HJ.out, HNL.out, H3W.out.set_ _ _, hA, by rw [List.length_set, H2.out], RV5.only ((Only.refl w2.heap.size w5).set_ i _) (fun ad e => by injection e with e; subst e; show g1 ≠ w2.heap.size; omega), HST2.out.1, HST2.out.2, hon5.setCell (by show w.heap.size ≤ w2.heap.size; exact hon.size) _⟩, by simp [intOf]⟩
end Num
end Go.Proofs.Ytkpeliokhmigoaa
