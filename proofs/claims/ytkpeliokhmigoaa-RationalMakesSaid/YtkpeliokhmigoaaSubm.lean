/-
  subtractMultiple: the rest of a part by the divisor, and the digit.
-/
import Derived.Test.YtkpeliokhmigoaaEst
import Derived.Deep.RegionHeld3
namespace Go.Proofs.Ytkpeliokhmigoaa
open Go.RowKit
set_option linter.unusedVariables false
namespace Num
theorem subm_step' (P a x v y c b S q pq lo hi D b' : Nat) (hx : x < 4294967296) (hc : c < 4294967296) (hb : b ≤ 1) (hpq : y * q = pq) (hlo : (c + pq) % 4294967296 = lo) (hhi : (c + pq) / 4294967296 = hi) (hD : (x + 8589934592 - lo - b) % 4294967296 = D) (hb' : bw x lo b = b') (h : S + v * q = a + P * (c + b)) :
    S + P * D + (v + P * y) * q = a + P * x + P * BB * (hi + b') := by
  subst hb'; subst hD; subst hlo; subst hhi; subst hpq
  exact subm_step P a x v y c b S q hx hc hb h
/-- what is left when the borrow is settled -/
theorem subm_end (P U V d S b' : Nat) (hV : 0 < V) (hU : U < V * BB) (hVP : V * BB ≤ P) (hS : S < P) (hest : IsEst U V d) (h : S + V * d = U + P * b') (hb : b' ≤ 1) :
    (b' = 0 → d = U / V ∧ S = U % V) ∧ (b' = 1 → d = U / V + 1 ∧ S + V = P + U % V) := by
  obtain ⟨h1, h2⟩ := hest
  have h3 := Nat.div_add_mod U V
  have h4 := Nat.mod_lt U hV
  constructor
  · rintro rfl
    rw [Nat.mul_zero, Nat.add_zero] at h
    rcases Nat.lt_or_ge (U / V) d with hlt | hge
    · have : d = U / V + 1 := by omega
      rw [this, Nat.mul_add, Nat.mul_one] at h
      omega
    · have : d = U / V := by omega
      rw [this] at h
      exact ⟨this, by omega⟩
  · rintro rfl
    rw [Nat.mul_one] at h
    rcases Nat.lt_or_ge (U / V) d with hlt | hge
    · have : d = U / V + 1 := by omega
      rw [this, Nat.mul_add, Nat.mul_one] at h
      exact ⟨this, by omega⟩
    · have : d = U / V := by omega
      rw [this] at h
      omega
theorem pred32 (d q : Nat) (h : d = q + 1) (hd : d < 4294967296) : ((d : Int) - 1) % 4294967296 = (q : Int) := by omega
theorem fix_plain (P B x t z D V R : Nat) (hP : 0 < P) (h1 : x + P * t = z + V) (h2 : z + P * D + V = P * B + R) (hR : R < P) (hx : x < P) : D + t = B ∧ x = R := by
  have h3 : x + P * (D + t) = R + P * B := by rw [Nat.mul_add]; omega
  have h4 := congrArg (· / P) h3
  have h5 := congrArg (· % P) h3
  simp only [Nat.add_mul_div_left _ _ hP, Nat.div_eq_of_lt hx, Nat.div_eq_of_lt hR, Nat.zero_add, Nat.add_mul_mod_self_left, Nat.mod_eq_of_lt hx, Nat.mod_eq_of_lt hR] at h4 h5
  exact ⟨h4, h5⟩
/-- what subtractMultiple leaves -/
def SubmPost (w : World) (g : Nat) (cur : Array Value) (o n U V : Nat) (e : Ending) (w' : World) : Prop :=
  ∃ (cur' : Array Value) (rs : List Nat), e = .returned (.int .u32 ((U / V : Nat) : Int)) ∧ Own w' g 53 cur' ∧ Has cur' o rs ∧ rs.length = n ∧ val rs = U % V ∧ Same cur cur' o n ∧ Only g w w'
set_option maxRecDepth 100000 in
set_option maxHeartbeats 2000000 in
theorem subm_any (w : World) (g o N ca m cb : Nat) (cur : Array Value) (us : List Nat) (A : Option Addr) (vs : List Nat) (d : Nat) (hown : Own w g 53 cur) (hh : Has cur o us) (hN : N = m + 1) (hn : us.length = N) (hc : N ≤ ca) (hm : m ≤ 100000) (hm0 : 0 < m) (hv : Rd w A m cb vs) (hne : ∀ ad, A = some ad → ad.block ≠ g) (hd : d < 4294967296) (hpos : 0 < val vs) (hU : val us < val vs * BB) (hest : IsEst (val us) (val vs) d) :
    Calls Try.prog 104 #[.slice (some ⟨g, o, none⟩) N ca, .slice A m cb, .int .u32 (d : Int)] w (SubmPost w g cur o N (val us) (val vs)) := by
  have HN := Lib.hid hn
  have HO := Lib.hid hown
  have HE := Lib.hid hne
  have HU := Lib.hid hU
  have HP := Lib.hid hpos
  have HS := Lib.hid hest
  have HNN := Lib.hid hN
  have hNm : m < N := by omega
  have hNs : N ≤ 100001 := by omega
  clear hn hown hne hU hpos hest hN
  go_enter Try.func104, Try.ntmps104
  go_wp2
  go_loopw [7, 8, 14] (fun cy bo i wr => ∃ (k c b : Nat) (cur' : Array Value) (rs : List Nat), k ≤ m ∧ i = .int .i64 (k : Int) ∧ cy = .int .u64 (c : Int) ∧ bo = .int .u32 (b : Int) ∧ c < 4294967296 ∧ b ≤ 1 ∧ Own wr g 53 cur' ∧ Has cur' o rs ∧ rs.length = N ∧ rs.drop k = us.drop k ∧ val (rs.take k) + val (vs.take k) * d = val (us.take k) + BB ^ k * (c + b) ∧ Same cur cur' o N ∧ Only g w wr) (fun _ _ i _ => m - (intOf i).toNat)
  case atStart => exact ⟨0, 0, 0, cur, us, by omega, rfl, rfl, rfl, by decide, by omega, HO.out, hh, HN.out, rfl, by simp [val], Same.refl _ _ _, Only.refl _ _⟩
  case round =>
    obtain ⟨k, c, b, cur', rs, hk, rfl, rfl, rfl, hcl, hb, hown', hh', hl', hdk, hvk, hsame, honly⟩ := hrel
    have H1 := Lib.hid hl'
    have H2 := Lib.hid hdk
    have H3 := Lib.hid hvk
    have H4 := Lib.hid hown'
    clear hl' hdk hvk hown'
    by_cases hlt : k < m
    · obtain ⟨ad, rfl, hbk, hca⟩ := (hv.only honly HE.out).at_ k hlt
      have hy := hv.ok.get k
      have hx := hh'.ok.get k
      have hw := hh'.get k (by rw [H1.out]; omega)
      have hcell : wr.cell? ⟨g, o + k, none⟩ = some (.int .u32 ((gw rs k : Nat) : Int)) := (H4.out.cell _).trans hw
      have hfroz : wr.frozen? ⟨g, o + k, none⟩ = false := H4.out.frozen _
      have hkN : k < N := by omega
      clear hw
      obtain ⟨pq, hpq⟩ : ∃ x, gw vs k * d = x := ⟨_, rfl⟩
      have hmb := mul_bound (gw vs k) d hy hd
      have HM := mul_wrap (gw vs k) d hy hd
      rw [hpq] at hmb HM
      obtain ⟨lo, hlo⟩ : ∃ x, (c + pq) % 4294967296 = x := ⟨_, rfl⟩
      obtain ⟨hi, hhi⟩ : ∃ x, (c + pq) / 4294967296 = x := ⟨_, rfl⟩
      have hlob : lo < 4294967296 := by omega
      have hhib : hi < 4294967296 := by omega
      have HLO : Hid (((c : Int) + (pq : Int)) % 4294967296 = (lo : Int)) := Lib.hid (by omega)
      have HHI : Hid (((c : Int) + (pq : Int)) / 4294967296 = (hi : Int)) := Lib.hid (by omega)
      have HPQ := Lib.hid hpq
      have HL := Lib.hid hlo
      have HH := Lib.hid hhi
      clear hpq hlo hhi
      go_wp2_with fail
      rw [HLO.out]
      refine (sub32_any _ (gw rs k) lo b hx hlob hb).mono ?_
      rintro e w' ⟨rfl, rfl⟩
      obtain ⟨D, hD⟩ : ∃ x, (gw rs k + 8589934592 - lo - b) % 4294967296 = x := ⟨_, rfl⟩
      obtain ⟨b', hb'⟩ : ∃ x, bw (gw rs k) lo b = x := ⟨_, rfl⟩
      have hDb : D < 4294967296 := by omega
      have hbb : b' ≤ 1 := by rw [← hb']; exact bw_le _ _ _
      rw [hD, hb']
      have HD := Lib.hid hD
      have HB := Lib.hid hb'
      clear hD hb'
      have hdd := H2.out
      have hgs : gw us k = gw rs k := by
        have h1 := getD_drop us k 0
        have h2 := getD_drop rs k 0
        rw [← hdd] at h1
        rw [Nat.add_zero] at h1 h2
        omega
      have HST := Lib.hid (subm_step' (BB ^ k) (val (us.take k)) (gw rs k) (val (vs.take k)) (gw vs k) c b (val (rs.take k)) d pq lo hi D b' hx hcl hb HPQ.out HL.out HH.out HD.out HB.out H3.out)
      have HGS := Lib.hid hgs
      have HDD := Lib.hid hdd
      clear hgs hdd
      go_wp2
      rw [HHI.out]
      refine ⟨⟨k + 1, hi, b', _, _, by omega, by go_num, rfl, rfl, hhib, hbb, H4.out.set_ _ _, hh'.set_ (by rw [H1.out]; omega) hDb, by rw [List.length_set, H1.out], ?_, ?_, hsame.set_ hkN _, honly.set_ _ _⟩, by simp [intOf]; omega⟩
      · rw [drop_set_same, ← List.drop_drop, ← List.drop_drop, HDD.out]
      · rw [set_take_succ _ _ _ (by rw [H1.out]; omega), val_take_succ_any us, val_take_succ_any vs, HGS.out, Nat.pow_succ]
        exact HST.out
    · obtain rfl : k = m := by omega
      have hx := hh'.ok.get k
      have hw := hh'.get k (by rw [H1.out]; omega)
      have hcell : wr.cell? ⟨g, o + k, none⟩ = some (.int .u32 ((gw rs k : Nat) : Int)) := (H4.out.cell _).trans hw
      have hfroz : wr.frozen? ⟨g, o + k, none⟩ = false := H4.out.frozen _
      clear hw
      go_wp2_with fail
      refine (sub32_any _ (gw rs k) c b hx hcl hb).mono ?_
      rintro e w' ⟨rfl, rfl⟩
      obtain ⟨D, hD⟩ : ∃ x, (gw rs k + 8589934592 - c - b) % 4294967296 = x := ⟨_, rfl⟩
      obtain ⟨b', hb'⟩ : ∃ x, bw (gw rs k) c b = x := ⟨_, rfl⟩
      have hDb : D < 4294967296 := by omega
      have hbb : b' ≤ 1 := by rw [← hb']; exact bw_le _ _ _
      rw [hD, hb']
      have hl1 : us.length = k + 1 := by rw [HN.out, HNN.out]
      have hl2 : rs.length = k + 1 := by rw [H1.out, HNN.out]
      have hgs : gw us k = gw rs k := by
        have h1 := getD_drop us k 0
        have h2 := getD_drop rs k 0
        rw [← H2.out] at h1
        rw [Nat.add_zero] at h1 h2
        omega
      have hst := subm_step' (BB ^ k) (val (us.take k)) (gw rs k) (val (vs.take k)) 0 c b (val (rs.take k)) d 0 c 0 D b' hx hcl hb (by omega) (by rw [Nat.add_zero, Nat.mod_eq_of_lt hcl]) (by rw [Nat.add_zero, Nat.div_eq_of_lt hcl]) hD hb' H3.out
      have hvs : vs.take k = vs := List.take_of_length_le (by rw [hv.len]; exact Nat.le_refl _)
      have hus : val (us.take k) + BB ^ k * gw us k = val us := by
        rw [← val_take_succ_any, List.take_of_length_le (by omega)]
      have hval2 : val (rs.set k D) = val (rs.take k) + BB ^ k * D := by
        rw [← set_take_succ rs k D (by omega), List.take_of_length_le (by rw [List.length_set]; omega)]
      rw [Nat.mul_zero, Nat.add_zero, hvs, ← hgs, hus, Nat.zero_add, ← hval2] at hst
      have hS := val_lt (hh'.ok.set k D hDb)
      rw [List.length_set, hl2, Nat.pow_succ] at hS
      have hvl := val_lt hv.ok
      rw [hv.len] at hvl
      have hend := subm_end (BB ^ k * BB) (val us) (val vs) d (val (rs.set k D)) b' HP.out HU.out (Nat.mul_le_mul_right _ (Nat.le_of_lt hvl)) hS HS.out hst hbb
      have HEND := Lib.hid hend
      have HLS : Hid ((rs.set k D).length = N) := Lib.hid (by rw [List.length_set, H1.out])
      have HHS := hh'.set_ (j := k) (x := D) (by omega) hDb
      have HVL := Lib.hid hvl
      have HV2 := Lib.hid hval2
      have HGD : Hid (gw (rs.set k D) k = D) := Lib.hid (by rw [gw_set _ _ _ _ (by omega), if_pos rfl])
      clear hD hb' hl1 hl2 hgs hst hvs hus hval2 hS hvl hend
      have HOW := H4.out.set_ (o + k) (.int .u32 (D : Int))
      have hsame2 := hsame.set_ hNm (.int .u32 (D : Int))
      have honly2 := honly.set_ (o + k) (.int .u32 (D : Int))
      rcases Nat.eq_zero_or_pos b' with h0 | h0
      · have E := Lib.hid (HEND.out.1 h0)
        subst h0
        clear HEND
        go_wp2
        go_ret
        exact ⟨_, _, ret_int (by rw [E.out.1]), HOW, HHS, HLS.out, E.out.2, hsame2, honly2⟩
      · have E := Lib.hid (HEND.out.2 (by omega))
        obtain rfl : b' = 1 := by omega
        clear HEND
        go_wp2
        generalize wr.setCell ⟨g, o + k, none⟩ (.int .u32 (D : Int)) = ws at *
        generalize hzs : rs.set k D = zs at *
        have hzl := HLS.out
        have hc3 : ws.cell? ⟨g, o + k, none⟩ = some (.int .u32 (D : Int)) := by
          have h1 := (HOW.cell (o + k)).trans (HHS.get k (by omega))
          rw [HGD.out] at h1
          exact h1
        have hc4 : ws.frozen? ⟨g, o + k, none⟩ = false := HOW.frozen _
        have hc3i : (0 : Int) ≤ (k : Int) := by omega
        have hc3j : (k : Int) < (N : Int) := by omega
        have HCU := Lib.hid (show (cur'.setIfInBounds (o + k) (Value.int .u32 (D : Int)))[o + k]? = some (.int .u32 (D : Int)) from by have h1 := HHS.get k (by omega); rw [HGD.out] at h1; exact h1)
        have HZL := Lib.hid hzl
        have HVS := Lib.hid (hv.only honly2 HE.out)
        clear hzl hzs
        go_region_with (go_at_call 115; refine (addm_any _ g o N ca k cb _ zs A vs _ (HOW.drewN _) HHS HZL.out (by omega) (by omega) (HVS.out.drewN _) (fun _ => HE.out) (by omega) (by decide) (by decide)).mono ?_; rintro e w5 ⟨t, cur5, xs5, rfl, ht5, ho5, hh5, hl5, hd5, hv5, hsame5, honly5⟩; have hc5 := (ho5.cell (o + k)).trans ((hsame5.2 (o + k) (.inr (Nat.le_refl _))).trans HCU.out); have hc6 : w5.frozen? ⟨g, o + k, none⟩ = false := ho5.frozen _; have HO5 := Lib.hid ho5; have HL5 := Lib.hid hl5; have HV5 := Lib.hid hv5; have HD5 := Lib.hid hd5; clear ho5 hl5 hv5 hd5)
        all_goals (go_wp2; go_ret)
        all_goals
          have hz1 : val zs = val (zs.take k) + BB ^ k * D := by
            rw [← HGD.out, ← val_take_succ_any, List.take_of_length_le (by rw [HZL.out, HNN.out]; exact Nat.le_refl _)]
          have hx1 : val (xs5.take k) < BB ^ k := by
            have h1 := val_lt (hh5.ok.take k)
            rwa [List.length_take, HL5.out, HZL.out, HNN.out, Nat.min_eq_left (Nat.le_succ k)] at h1
          have hfix := fix_plain (BB ^ k) BB (val (xs5.take k)) t (val (zs.take k)) D (val vs) (val us % val vs) (Nat.pow_pos BB_pos) (by have h1 := HV5.out; rwa [show (1 : Int).toNat = 1 from rfl, Nat.mul_one] at h1) (by rw [← hz1]; exact E.out.2) (Nat.lt_trans (Nat.mod_lt _ HP.out) HVL.out) hx1
          have hdt : ((D : Int) + (t : Int)) % 4294967296 = ((0 : Nat) : Int) := by
            have h1 := hfix.1
            rw [BB_eq] at h1
            omega
          have hdd : ((d : Int) - 1) % 4294967296 = ((val us / val vs : Nat) : Int) := pred32 d _ E.out.1 hd
          rw [hdt]
          have hlen : xs5.length = k + 1 := by rw [HL5.out, HZL.out, HNN.out]
          refine ⟨_, _, ret_int hdd, HO5.out.set_ _ _, hh5.set_ (j := k) (x := 0) (by omega) (by decide), by rw [List.length_set, HL5.out, HZL.out], ?_, ?_, ((honly2.drewN _).trans honly5).set_ _ _⟩
          · have h1 := set_take_succ xs5 k 0 (by omega)
            rw [List.take_of_length_le (by rw [List.length_set]; omega)] at h1
            rw [h1, Nat.mul_zero, Nat.add_zero]
            exact hfix.2
          · exact ((hsame2.trans (hsame5.wide (Nat.le_refl _) (by omega))).set_ hNm _)
end Num
end Go.Proofs.Ytkpeliokhmigoaa
