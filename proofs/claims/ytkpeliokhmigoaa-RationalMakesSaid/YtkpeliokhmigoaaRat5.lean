/-
  floor, Floor.
-/
import Derived.Test.YtkpeliokhmigoaaRat4
import Derived.Deep.RegionHeld3
namespace Go.Proofs.Ytkpeliokhmigoaa
open Go.RowKit
set_option linter.unusedVariables false
namespace Num
theorem fr_sgn (s : Bool) (x : Nat) : fr s x 1 = ((sgn s x : Int) : Rat) := by
  apply Rat.ext
  · rw [fr_num s x 1 (by decide)]; simp
  · rw [fr_den s x 1 (by decide)]; simp
/-- the greatest whole number that is at most r -/
def flr (r : Rat) : Int := r.num / (r.den : Int)
theorem flr_zero : flr 0 = 0 := rfl
theorem flr_pos (x y : Nat) : ((x : Int)) / (y : Int) = sgn false (x / y) := by unfold sgn; simp
theorem flr_neg (x y : Nat) (hy : 0 < y) : (-(x : Int)) / (y : Int) = sgn true (x / y + if x % y = 0 then 0 else 1) := by
  unfold sgn
  rw [if_pos rfl]
  have h := Nat.div_add_mod x y
  by_cases h0 : x % y = 0
  · rw [if_pos h0, Int.neg_ediv_of_dvd (Int.natCast_dvd_natCast.2 (Nat.dvd_of_mod_eq_zero h0))]
    simp
  · rw [if_neg h0]
    have hnd : ¬ ((y : Int) ∣ (x : Int)) := fun e => h0 (Nat.mod_eq_zero_of_dvd (Int.natCast_dvd_natCast.1 e))
    rw [Int.neg_ediv, if_neg hnd, Int.sign_eq_one_of_pos (by omega), Int.natCast_add, Int.natCast_ediv]
    omega
theorem flr_of (r : Rat) (x y : Nat) (hx : x = r.num.natAbs) (hy : y = r.den) : flr r = sgn (decide (r < 0)) (x / y + if decide (r < 0) = true ∧ x % y ≠ 0 then 1 else 0) := by
  subst hx; subst hy
  have hd : decide (r < 0) = decide (r.num < 0) := by simp only [rat_neg_iff]
  unfold flr
  rw [hd]
  by_cases h : r.num < 0
  · have e : r.num = -((r.num.natAbs : Nat) : Int) := by omega
    rw [decide_eq_true h]
    conv => lhs; rw [e]
    rw [flr_neg _ _ r.den_pos]
    congr 1
    by_cases h0 : r.num.natAbs % r.den = 0
    · rw [if_pos h0, if_neg (fun c => c.2 h0)]
    · rw [if_neg h0, if_pos ⟨rfl, h0⟩]
  · have e : r.num = ((r.num.natAbs : Nat) : Int) := by omega
    rw [decide_eq_false h, if_neg (fun c => by cases c.1), Nat.add_zero]
    conv => lhs; rw [e]
    exact flr_pos _ _
set_option maxRecDepth 100000 in
set_option maxHeartbeats 1600000 in
theorem floor_any (w : World) (v : Value) (r : Rat) (L : Nat) (h : IsR w v r L) (hL2 : 2 ≤ L) (hL : L ≤ 4000) :
    Calls Try.prog 66 #[v] w (RatPost w ((flr r : Int) : Rat) (L + 1)) := by
  have I := h
  obtain ⟨A, n, c, xs, A', n', c', ys, rfl, R1, R2, C1, C2, l1, l2, V1, V2⟩ := h
  obtain ⟨b, hb⟩ : ∃ b, decide (r < 0) = b := ⟨_, rfl⟩
  rw [hb] at I ⊢
  obtain ⟨q, hq⟩ : ∃ q : Rat, ((flr r : Int) : Rat) = q := ⟨_, rfl⟩
  rw [hq]
  have HQ := Lib.hid hq
  have HB := Lib.hid hb
  have B := ((On.refl w).alloc (.cells #[.bool b, .slice A n c, .slice A' n' c'] 24)).alloc (.cells #[.bool false, .slice none 0 0, .slice none 0 0] 24)
  have O1 := (Own.new w 24 #[.bool b, .slice A n c, .slice A' n' c']).alloc (.cells #[.bool false, .slice none 0 0, .slice none 0 0] 24)
  have O2 := own_nextr w (.cells #[.bool b, .slice A n c, .slice A' n' c'] 24) 24 #[.bool false, .slice none 0 0, .slice none 0 0]
  have HO1 := Lib.hid O1
  have HO2 := Lib.hid O2
  have HV1 := Lib.hid V1
  have HV2 := Lib.hid V2
  clear hq hb O1 O2 V1 V2
  go_enter Try.func66, Try.ntmps66
  go_wp2_with fail
  refine (iszero_any _ _ _ _ (I.on B)).mono ?_
  rintro e w2 ⟨rfl, P2⟩
  have O1 := HO1.out.on P2
  have O2 := HO2.out.on P2
  have a0 : w2.cell? ⟨w.heap.size, 0, none⟩ = some (.bool b) := O1.cell 0
  have af0 := O1.frozen 0
  have a1 : w2.cell? ⟨w.heap.size, 1, none⟩ = some (.slice A n c) := O1.cell 1
  have af1 := O1.frozen 1
  have a2 : w2.cell? ⟨w.heap.size, 2, none⟩ = some (.slice A' n' c') := O1.cell 2
  have af2 := O1.frozen 2
  have r0 : w2.cell? ⟨w.heap.size + 1, 0, none⟩ = some (.bool false) := O2.cell 0
  have rf0 := O2.frozen 0
  have r1 : w2.cell? ⟨w.heap.size + 1, 1, none⟩ = some (.slice none 0 0) := O2.cell 1
  have rf1 := O2.frozen 1
  have r2 : w2.cell? ⟨w.heap.size + 1, 2, none⟩ = some (.slice none 0 0) := O2.cell 2
  have rf2 := O2.frozen 2
  by_cases hz : r = 0
  · have hzd : decide (r = 0) = true := decide_eq_true hz
    rw [hzd]
    have HR : Hid (q = 0) := Lib.hid (by rw [← HQ.out, hz]; rfl)
    clear hz hzd
    go_wp2
    exact bodyPost_ret (v := .agg #[.bool false, .slice none 0 0, .slice none 0 0]) (by simp [results, Try.results66, go_sem, r0, r1, r2]) rfl ⟨_, rfl, by rw [HR.out]; exact isR_zero _ _, on3 (g := w.heap.size + 1) (B.trans P2) (by omega) _ _ _⟩
  · have hzd : decide (r = 0) = false := decide_eq_false hz
    rw [hzd]
    have hvd : val ys = r.den := by rw [HV2.out, dn_ne hz]
    have HVD := Lib.hid hvd
    have hyp : 0 < val ys := by rw [hvd]; exact r.den_pos
    have Tx := tl_le xs
    have Ty := tl_le ys
    rw [R1.len] at Tx
    rw [R2.len] at Ty
    have on2 := B.trans P2
    clear hz hzd hvd
    go_wp2_with fail
    refine (div_any _ _ _ _ _ _ _ L L _ _ (R1.on on2) (R2.on on2) hyp (by omega) (by omega) (by omega) hL2).mono ?_
    rintro e w3 ⟨A3, n3, c3, A4, n4, c4, rfl, ⟨qs, RQ, CQ, VQ, LQ⟩, ⟨rs, RR, CR, VR, LR⟩, P3⟩
    have hrz : n4 = 0 ↔ val rs = 0 := by rw [← nil_iff CR, ← RR.len, List.length_eq_zero_iff]
    have HRZ := Lib.hid hrz
    have HVQ := Lib.hid VQ
    have HVR := Lib.hid VR
    clear hrz VQ VR
    have O1' := O1.on P3
    have O2' := O2.on P3
    clear a0 a1 a2 af0 af1 af2 r0 r1 r2 rf0 rf1 rf2 O1 O2
    have a0 : w3.cell? ⟨w.heap.size, 0, none⟩ = some (.bool b) := O1'.cell 0
    have af0 := O1'.frozen 0
    have a1 : w3.cell? ⟨w.heap.size, 1, none⟩ = some (.slice A n c) := O1'.cell 1
    have af1 := O1'.frozen 1
    have a2 : w3.cell? ⟨w.heap.size, 2, none⟩ = some (.slice A' n' c') := O1'.cell 2
    have af2 := O1'.frozen 2
    have hc4 := RR.cap
    have hm4 := RR.max
    by_cases hcase : b = true ∧ 0 < n4
    · obtain ⟨hb1, hn4⟩ := hcase
      subst hb1
      go_wp2_with fail
      refine (of_any _ _ (by decide)).mono ?_
      rintro e w4 ⟨A5, n5, c5, rfl, ⟨os, RO, CO, VO, LO⟩, P4⟩
      have HVO : Hid (val os = 1) := Lib.hid VO
      clear VO
      go_wp2_with fail
      refine (add_any _ _ _ _ _ _ _ L _ _ (RQ.on P4) RO (Nat.le_trans (tl_le _) (by rw [RQ.len]; exact LQ)) (Nat.le_trans (tl_le _) (by rw [RO.len]; omega)) (by omega)).mono ?_
      rintro e w5 ⟨A6, n6, c6, rfl, ⟨ws, RW, CW, VW6, LW⟩, P5⟩
      have HW : Hid (val ws = val xs / val ys + 1) := Lib.hid (by rw [VW6, HVQ.out, HVO.out])
      have hn4z : ¬ val rs = 0 := fun e => by have := HRZ.out.2 e; omega
      have HFR : Hid (fr true (val ws) 1 = q) := Lib.hid (by
        rw [fr_sgn, HW.out, ← HQ.out, flr_of r (val xs) (val ys) HV1.out HVD.out, HB.out, if_pos ⟨rfl, by rw [← HVR.out]; exact hn4z⟩])
      have PK := (on2.trans P3).trans (P4.trans P5)
      have O1k := (O1'.on P4).on P5
      have O2k := (O2'.on P4).on P5
      clear a0 a1 a2 af0 af1 af2 VW6 hn4z
      have a0 : w5.cell? ⟨w.heap.size, 0, none⟩ = some (.bool true) := O1k.cell 0
      have af0 := O1k.frozen 0
      have a1 : w5.cell? ⟨w.heap.size, 1, none⟩ = some (.slice A n c) := O1k.cell 1
      have af1 := O1k.frozen 1
      have a2 : w5.cell? ⟨w.heap.size, 2, none⟩ = some (.slice A' n' c') := O1k.cell 2
      have af2 := O1k.frozen 2
      have r0 : w5.cell? ⟨w.heap.size + 1, 0, none⟩ = some (.bool false) := O2k.cell 0
      have rf0 := O2k.frozen 0
      have r1 : w5.cell? ⟨w.heap.size + 1, 1, none⟩ = some (.slice none 0 0) := O2k.cell 1
      have rf1 := O2k.frozen 1
      have r2 : w5.cell? ⟨w.heap.size + 1, 2, none⟩ = some (.slice none 0 0) := O2k.cell 2
      have rf2 := O2k.frozen 2
      go_wp2
      go_region_with ((first | (go_at_call 45; refine (of_any _ _ ?_).mono ?_; decide; rintro e w' ⟨Ao, no, co, rfl, ⟨zo, Ro, Co, Vo, Lo⟩, Po⟩; have Oa := (O1k.drew).on Po; have a0 : w'.cell? ⟨w.heap.size, 0, none⟩ = some (.bool true) := Oa.cell 0; have a1 : w'.cell? ⟨w.heap.size, 1, none⟩ = some (.slice A n c) := Oa.cell 1; have a2 : w'.cell? ⟨w.heap.size, 2, none⟩ = some (.slice A' n' c') := Oa.cell 2) | (go_at_call 37; refine (lowest_any _ _ _ _ _ _ _ _ (L + 1) _ _ ((RW.drew).on Po) Ro ?_ ?_ ?_ ?_ ?_).mono ?_; (rw [Vo]; decide); omega; omega; omega; omega; rintro e w' ⟨vz, rfl, Iz, Pz⟩; rw [(show val zo = 1 from Vo), HFR.out] at Iz; obtain ⟨A8, n8, c8, xs8, A9, n9, c9, ys9, rfl, J⟩ := id Iz; have Oz := ((O2k.drew).on Po).on Pz; have r0 : w'.cell? ⟨w.heap.size + 1, 0, none⟩ = some (.bool false) := Oz.cell 0; have rf0 := Oz.frozen 0; have r1 : w'.cell? ⟨w.heap.size + 1, 1, none⟩ = some (.slice none 0 0) := Oz.cell 1; have rf1 := Oz.frozen 1; have r2 : w'.cell? ⟨w.heap.size + 1, 2, none⟩ = some (.slice none 0 0) := Oz.cell 2; have rf2 := Oz.frozen 2)))
      all_goals
        go_wp2
        exact bodyPost_ret (v := .agg #[.bool (decide (q < 0)), .slice A8 n8 c8, .slice A9 n9 c9]) (by simp [results, Try.results66, go_sem, r0, r1, r2]) rfl ⟨_, rfl, isR_put Iz Oz _ _ _, on3 (g := w.heap.size + 1) ((PK.drew.trans Po).trans Pz) (by omega) _ _ _⟩
    · have hwz : sgn b (val qs) = sgn b (val xs / val ys + if b = true ∧ val xs % val ys ≠ 0 then 1 else 0) := by
        rw [HVQ.out]
        have hc : ¬ (b = true ∧ val xs % val ys ≠ 0) := fun e => hcase ⟨e.1, by
          rw [← HVR.out] at e
          rcases Nat.eq_zero_or_pos n4 with h | h
          · exact absurd (HRZ.out.1 h) e.2
          · exact h⟩
        rw [if_neg hc, Nat.add_zero]
      have HFR : Hid (fr b (val qs) 1 = q) := Lib.hid (by
        rw [fr_sgn, hwz, ← HQ.out, flr_of r (val xs) (val ys) HV1.out HVD.out, HB.out])
      have PK := on2.trans P3
      have O1k := O1'
      have O2k := O2'
      have RW := RQ
      have LW : n3 ≤ L + 1 := by omega
      have hcd : (b = false) ∨ (b = true ∧ n4 = 0) := by
        cases b
        · exact .inl rfl
        · exact .inr ⟨rfl, by rcases Nat.eq_zero_or_pos n4 with h | h; exact h; exact absurd ⟨rfl, h⟩ hcase⟩
      clear hwz hcase
      rcases hcd with hb1 | ⟨hb1, hn0⟩
      · subst hb1
        have a0 : w3.cell? ⟨w.heap.size, 0, none⟩ = some (.bool false) := O1k.cell 0
        have af0 := O1k.frozen 0
        have a1 : w3.cell? ⟨w.heap.size, 1, none⟩ = some (.slice A n c) := O1k.cell 1
        have af1 := O1k.frozen 1
        have a2 : w3.cell? ⟨w.heap.size, 2, none⟩ = some (.slice A' n' c') := O1k.cell 2
        have af2 := O1k.frozen 2
        have r0 : w3.cell? ⟨w.heap.size + 1, 0, none⟩ = some (.bool false) := O2k.cell 0
        have rf0 := O2k.frozen 0
        have r1 : w3.cell? ⟨w.heap.size + 1, 1, none⟩ = some (.slice none 0 0) := O2k.cell 1
        have rf1 := O2k.frozen 1
        have r2 : w3.cell? ⟨w.heap.size + 1, 2, none⟩ = some (.slice none 0 0) := O2k.cell 2
        have rf2 := O2k.frozen 2
        go_wp2
        go_region_with ((first | (go_at_call 45; refine (of_any _ _ ?_).mono ?_; decide; rintro e w' ⟨Ao, no, co, rfl, ⟨zo, Ro, Co, Vo, Lo⟩, Po⟩; have Oa := (O1k.drew).on Po; have a0 : w'.cell? ⟨w.heap.size, 0, none⟩ = some (.bool false) := Oa.cell 0; have a1 : w'.cell? ⟨w.heap.size, 1, none⟩ = some (.slice A n c) := Oa.cell 1; have a2 : w'.cell? ⟨w.heap.size, 2, none⟩ = some (.slice A' n' c') := Oa.cell 2) | (go_at_call 37; refine (lowest_any _ _ _ _ _ _ _ _ (L + 1) _ _ ((RW.drew).on Po) Ro ?_ ?_ ?_ ?_ ?_).mono ?_; (rw [Vo]; decide); omega; omega; omega; omega; rintro e w' ⟨vz, rfl, Iz, Pz⟩; rw [(show val zo = 1 from Vo), HFR.out] at Iz; obtain ⟨A8, n8, c8, xs8, A9, n9, c9, ys9, rfl, J⟩ := id Iz; have Oz := ((O2k.drew).on Po).on Pz; have r0 : w'.cell? ⟨w.heap.size + 1, 0, none⟩ = some (.bool false) := Oz.cell 0; have rf0 := Oz.frozen 0; have r1 : w'.cell? ⟨w.heap.size + 1, 1, none⟩ = some (.slice none 0 0) := Oz.cell 1; have rf1 := Oz.frozen 1; have r2 : w'.cell? ⟨w.heap.size + 1, 2, none⟩ = some (.slice none 0 0) := Oz.cell 2; have rf2 := Oz.frozen 2)))
        all_goals
          go_wp2
          exact bodyPost_ret (v := .agg #[.bool (decide (q < 0)), .slice A8 n8 c8, .slice A9 n9 c9]) (by simp [results, Try.results66, go_sem, r0, r1, r2]) rfl ⟨_, rfl, isR_put Iz Oz _ _ _, on3 (g := w.heap.size + 1) ((PK.drew.trans Po).trans Pz) (by omega) _ _ _⟩
      · subst hb1
        subst hn0
        have a0 : w3.cell? ⟨w.heap.size, 0, none⟩ = some (.bool true) := O1k.cell 0
        have af0 := O1k.frozen 0
        have a1 : w3.cell? ⟨w.heap.size, 1, none⟩ = some (.slice A n c) := O1k.cell 1
        have af1 := O1k.frozen 1
        have a2 : w3.cell? ⟨w.heap.size, 2, none⟩ = some (.slice A' n' c') := O1k.cell 2
        have af2 := O1k.frozen 2
        have r0 : w3.cell? ⟨w.heap.size + 1, 0, none⟩ = some (.bool false) := O2k.cell 0
        have rf0 := O2k.frozen 0
        have r1 : w3.cell? ⟨w.heap.size + 1, 1, none⟩ = some (.slice none 0 0) := O2k.cell 1
        have rf1 := O2k.frozen 1
        have r2 : w3.cell? ⟨w.heap.size + 1, 2, none⟩ = some (.slice none 0 0) := O2k.cell 2
        have rf2 := O2k.frozen 2
        go_wp2
        go_region_with ((first | (go_at_call 45; refine (of_any _ _ ?_).mono ?_; decide; rintro e w' ⟨Ao, no, co, rfl, ⟨zo, Ro, Co, Vo, Lo⟩, Po⟩; have Oa := (O1k.drew).on Po; have a0 : w'.cell? ⟨w.heap.size, 0, none⟩ = some (.bool true) := Oa.cell 0; have a1 : w'.cell? ⟨w.heap.size, 1, none⟩ = some (.slice A n c) := Oa.cell 1; have a2 : w'.cell? ⟨w.heap.size, 2, none⟩ = some (.slice A' n' c') := Oa.cell 2) | (go_at_call 37; refine (lowest_any _ _ _ _ _ _ _ _ (L + 1) _ _ ((RW.drew).on Po) Ro ?_ ?_ ?_ ?_ ?_).mono ?_; (rw [Vo]; decide); omega; omega; omega; omega; rintro e w' ⟨vz, rfl, Iz, Pz⟩; rw [(show val zo = 1 from Vo), HFR.out] at Iz; obtain ⟨A8, n8, c8, xs8, A9, n9, c9, ys9, rfl, J⟩ := id Iz; have Oz := ((O2k.drew).on Po).on Pz; have r0 : w'.cell? ⟨w.heap.size + 1, 0, none⟩ = some (.bool false) := Oz.cell 0; have rf0 := Oz.frozen 0; have r1 : w'.cell? ⟨w.heap.size + 1, 1, none⟩ = some (.slice none 0 0) := Oz.cell 1; have rf1 := Oz.frozen 1; have r2 : w'.cell? ⟨w.heap.size + 1, 2, none⟩ = some (.slice none 0 0) := Oz.cell 2; have rf2 := Oz.frozen 2)))
        all_goals
          go_wp2
          exact bodyPost_ret (v := .agg #[.bool (decide (q < 0)), .slice A8 n8 c8, .slice A9 n9 c9]) (by simp [results, Try.results66, go_sem, r0, r1, r2]) rfl ⟨_, rfl, isR_put Iz Oz _ _ _, on3 (g := w.heap.size + 1) ((PK.drew.trans Po).trans Pz) (by omega) _ _ _⟩
end Num
end Go.Proofs.Ytkpeliokhmigoaa
