/-
  CubeCounts.
-/
import Derived.Test.YthamjboppnlpdaaDd
namespace Go.Proofs.Ythamjboppnlpdaa.Cu
open Go.RowKit Go.Proofs.Ythamjboppnlpdaa.Sb
set_option linter.unusedVariables false
set_option maxRecDepth 100000
theorem sub_same {p u c : Nat} (h : p - u = c) (hu : u ≤ p) (hp : 0 < p) : c = p ↔ u = 0 := by omega
theorem wrap_add (a b : Nat) (h : a + b ≤ 16777216) : IntKind.i64.wrap ((a : Int) + (b : Int)) = (a : Int) + (b : Int) := by rw [IntKind.wrap_i64]; omega
theorem withE_zero {l : List Cb} {v : Int} (h : withE l v = 0) : ∃ k : Nat, v = (k : Int) ∧ k ≤ 24 ∧ ∀ d ∈ l, evs d < 2 ^ k := by
  unfold withE at h
  by_cases hb : v < 0 ∨ 24 < v
  · rw [if_pos hb] at h; omega
  · rw [if_neg hb] at h
    refine ⟨v.toNat, by omega, by omega, ?_⟩
    by_cases hf : ∀ d ∈ l, evs d < 2 ^ v.toNat
    · exact hf
    · rw [if_neg hf] at h; omega
theorem withE_ok {l : List Cb} {k : Nat} (hk : k ≤ 24) (h : ∀ d ∈ l, evs d < 2 ^ k) : withE l (k : Int) = 0 := by
  unfold withE
  rw [if_neg (by omega), Int.toNat_natCast, if_pos h]
set_option maxHeartbeats 16000000 in
theorem counts_off (w : World) (A : Option Addr) (n c : Nat) (xs : List Cz) (v : Int) (h : RdC w A n c xs) (hv : ¬ (n ≤ 12 ∧ chkL xs = 0)) :
    Calls Try.prog 10 #[.slice A n c, .int .i64 v] w fun e w' => e = .returned (.bool true) ∧ On w w' := by
  have hcap := h.cap
  have hmax := h.max
  have cV := fun W (R : RdC W A n c xs) => valid12_any W A n c xs R
  rw [decide_eq_false hv] at cV
  have HC := Lib.hid cV
  clear cV hv
  have HW := Lib.hid (On.refl w)
  have HR := Lib.hid h
  clear h
  go_enter Try.func10, Try.ntmps10
  have hQ := awake_any w
  go_wp2_with fail
  refine hQ.mono ?_
  rintro e v1 ⟨rfl, P1⟩
  clear hQ
  replace HW := Lib.hid (HW.out.trans P1)
  replace HR := Lib.hid (HR.out.on P1)
  clear P1
  have hQ := HC.out v1 HR.out
  go_wp2_with fail
  refine hQ.mono ?_
  rintro e v2 ⟨rfl, P2⟩
  clear hQ
  replace HW := Lib.hid (HW.out.trans P2)
  replace HR := Lib.hid (HR.out.on P2)
  clear P2
  have hQ := awake_any v2
  go_wp2_with fail
  refine hQ.mono ?_
  rintro e v3 ⟨rfl, P3⟩
  clear hQ
  replace HW := Lib.hid (HW.out.trans P3)
  replace HR := Lib.hid (HR.out.on P3)
  clear P3
  go_wp2
  go_ret
  exact ⟨rfl, HW.out⟩
set_option maxHeartbeats 16000000 in
theorem counts_far (w : World) (A : Option Addr) (n c : Nat) (l : List Cb) (v : Int) (h : RdC w A n c (zl l)) (hn : n ≤ 12) (ho : ∀ x ∈ l, OkC x) (hv : withE l v ≠ 0) :
    Calls Try.prog 10 #[.slice A n c, .int .i64 v] w fun e w' => e = .returned (.bool true) ∧ On w w' := by
  have hcap := h.cap
  have hmax := h.max
  have cV := fun W (R : RdC W A n c (zl l)) => valid12_any W A n c (zl l) R
  rw [decide_eq_true ⟨hn, chkL_ok ho⟩] at cV
  have cT := fun W (R : RdC W A n c (zl l)) => rwithin_ok W A n c l R ho (by omega) v
  obtain ⟨x, hx⟩ : ∃ x, withE l v = x := ⟨_, rfl⟩
  rw [hx] at cT hv
  have hxi : ((x : Int) != 0) = true := by rw [bne_iff_ne]; omega
  have HC := Lib.hid (And.intro cV cT)
  clear cV cT hx hv ho
  have HW := Lib.hid (On.refl w)
  have HR := Lib.hid h
  clear h
  go_enter Try.func10, Try.ntmps10
  have hQ := awake_any w
  go_wp2_with fail
  refine hQ.mono ?_
  rintro e v1 ⟨rfl, P1⟩
  clear hQ
  replace HW := Lib.hid (HW.out.trans P1)
  replace HR := Lib.hid (HR.out.on P1)
  clear P1
  have hQ := HC.out.1 v1 HR.out
  go_wp2_with fail
  refine hQ.mono ?_
  rintro e v2 ⟨rfl, P2⟩
  clear hQ
  replace HW := Lib.hid (HW.out.trans P2)
  replace HR := Lib.hid (HR.out.on P2)
  clear P2
  have hQ := HC.out.2 v2 HR.out
  go_wp2_with fail
  refine hQ.mono ?_
  rintro e v3 ⟨rfl, P3⟩
  clear hQ
  replace HW := Lib.hid (HW.out.trans P3)
  replace HR := Lib.hid (HR.out.on P3)
  clear P3
  have hQ := awake_any v3
  go_wp2_with fail
  refine hQ.mono ?_
  rintro e v4 ⟨rfl, P4⟩
  clear hQ
  replace HW := Lib.hid (HW.out.trans P4)
  replace HR := Lib.hid (HR.out.on P4)
  clear P4
  go_wp2
  go_ret
  exact ⟨rfl, HW.out⟩
set_option maxHeartbeats 16000000 in
theorem counts_ok (w : World) (A : Option Addr) (n c : Nat) (l : List Cb) (v : Nat) (h : RdC w A n c (zl l)) (hn : n ≤ 12) (ho : ∀ x ∈ l, OkC x) (hv : v ≤ 24) (hf : ∀ d ∈ l, evs d < 2 ^ v) :
    Calls Try.prog 10 #[.slice A n c, .int .i64 (v : Int)] w fun e w' => e = .returned (.bool true) ∧ On w w' := by
  have hcap := h.cap
  have hmax := h.max
  have cV := fun W (R : RdC W A n c (zl l)) => valid12_any W A n c (zl l) R
  rw [decide_eq_true ⟨hn, chkL_ok ho⟩] at cV
  have cT := fun W (R : RdC W A n c (zl l)) => rwithin_ok W A n c l R ho (by omega) (v : Int)
  rw [withE_ok hv hf] at cT
  have cN := fun W (R : RdC W A n c (zl l)) => count_ok W A n c l R ho (by omega) v hv hf
  have cP := fun W (R : RdC W A n c (zl l)) => coverP_ok W A n c l R ho (by omega)
  have cC := fun W (R : RdC W A n c (zl l)) => covers_ok W A n c l R ho (by omega) (0, 0) okC_00
  have hu1 := U_le v l (0, 0)
  have hua := U_any hv hf
  have hsum := fun cv h => cover_sum (cv := cv) hv ho hf h
  have hcok := fun cv h => cover_ok (cv := cv) ho h
  have hcfit := fun cv h => cover_fit (cv := cv) hf h
  have hp24 : 2 ^ v ≤ 16777216 := by
    have : (2 : Nat) ^ v ≤ 2 ^ 24 := Nat.pow_le_pow_right (by decide) hv
    exact this
  have hs := shl1 v
  obtain ⟨uv, huv⟩ : ∃ z, U v l (0, 0) = z := ⟨_, rfl⟩
  obtain ⟨u24, hu24⟩ : ∃ z, U 24 l (0, 0) = z := ⟨_, rfl⟩
  rw [huv] at cN hu1 hua hsum
  rw [hu24] at cC hua
  obtain ⟨p2, hp2⟩ : ∃ z, 2 ^ v = z := ⟨_, rfl⟩
  rw [hp2] at cN hu1 hsum hp24 hs
  obtain ⟨cn, hcn⟩ : ∃ z, p2 - uv = z := ⟨_, rfl⟩
  have heq : ((cn : Int) == (p2 : Int)) = decide (u24 = 0) := by
    rw [beqn]
    rw [decide_eq_decide]
    exact (sub_same hcn hu1 (by rw [← hp2]; exact Nat.two_pow_pos v)).trans hua.symm
  have hcn24 : cn ≤ 16777216 := by rw [← hcn]; exact Nat.le_trans (Nat.sub_le _ _) hp24
  rw [hcn] at cN hsum
  obtain ⟨ab, hab⟩ : ∃ z, decide (u24 = 0) = z := ⟨_, rfl⟩
  rw [hab] at cC heq
  have hbb : (ab != ab) = false := by cases ab <;> rfl
  have hwp := wrap_small p2 hp24
  have hv64 : v < 64 := by omega
  have HE := Lib.hid (And.intro hs (And.intro heq (And.intro hbb hwp)))
  have HCV := Lib.hid (And.intro hsum (And.intro hcok (And.intro hcfit (And.intro hp24 hv))))
  have HC := Lib.hid (And.intro cV (And.intro cT (And.intro cN (And.intro cP cC))))
  clear cV cT cN cP cC hu1 hua hsum hcok hcfit hs heq hbb hwp hab hcn hp2 huv hu24 ho hf hp24
  have HW := Lib.hid (On.refl w)
  have HR := Lib.hid h
  clear h
  go_enter Try.func10, Try.ntmps10
  have hQ := awake_any w
  go_wp2_with fail
  refine hQ.mono ?_
  rintro e v1 ⟨rfl, P1⟩
  clear hQ
  replace HW := Lib.hid (HW.out.trans P1)
  replace HR := Lib.hid (HR.out.on P1)
  clear P1
  have hQ := HC.out.1 v1 HR.out
  go_wp2_with fail
  refine hQ.mono ?_
  rintro e v2 ⟨rfl, P2⟩
  clear hQ
  replace HW := Lib.hid (HW.out.trans P2)
  replace HR := Lib.hid (HR.out.on P2)
  clear P2
  have hQ := HC.out.2.1 v2 HR.out
  go_wp2_with fail
  refine hQ.mono ?_
  rintro e v3 ⟨rfl, P3⟩
  clear hQ
  replace HW := Lib.hid (HW.out.trans P3)
  replace HR := Lib.hid (HR.out.on P3)
  clear P3
  have hQ := HC.out.2.2.1 v3 HR.out
  go_wp2_with fail
  refine hQ.mono ?_
  rintro e v4 ⟨rfl, P4⟩
  clear hQ
  replace HW := Lib.hid (HW.out.trans P4)
  replace HR := Lib.hid (HR.out.on P4)
  clear P4
  have hQ := HC.out.2.2.2.1 v4 HR.out
  go_wp2_with fail
  refine hQ.mono ?_
  rintro e v5 ⟨hM, P5⟩
  clear hQ
  replace HW := Lib.hid (HW.out.trans P5)
  replace HR := Lib.hid (HR.out.on P5)
  clear P5
  rcases hM with ⟨cv, Av, mv, hcov, rfl, Rv⟩ | ⟨hcov, rfl⟩
  rotate_left
  · rw [errV_pos 4 (by decide)]
    have hQ := HC.out.2.2.2.2 v5 HR.out
    unfold cbV at hQ
    have HQ := Lib.hid hQ
    clear hQ
    have hQ := HQ.out
    go_wp2_with fail
    refine hQ.mono ?_
    rintro e v6 ⟨rfl, P6⟩
    clear hQ
    replace HW := Lib.hid (HW.out.trans P6)
    replace HR := Lib.hid (HR.out.on P6)
    clear P6
    have hs := HE.out.1
    have heq := HE.out.2.1
    have hbb := HE.out.2.2.1
    have hwp := HE.out.2.2.2
    have hI := is4_any v6
    rw [errV_pos 4 (by decide)] at hI
    go_wp2_with fail
    refine hI.mono ?_
    rintro e vz ⟨rfl, rfl⟩
    go_wp2
    go_ret
    exact ⟨rfl, HW.out⟩
  have hcap2 := Rv.cap
  have hmax2 := Rv.max
  have HV := Lib.hid Rv
  clear Rv
  have hvs := HCV.out.1 cv hcov
  have hvo := HCV.out.2.1 cv hcov
  have hvf := HCV.out.2.2.1 cv hcov
  have hvl := covTo_len _ cv hcov
  have cL := fun W (R : RdC W Av cv.length mv (zl cv)) => rchecklist_any W Av cv.length mv (zl cv) R
  rw [chkB_ok hvl hvo] at cL
  have cT := fun W (R : RdC W Av cv.length mv (zl cv)) => rwithin_ok W Av cv.length mv cv R hvo (by omega) (v : Int)
  rw [withE_ok HCV.out.2.2.2.2 hvf] at cT
  have cZ := fun W x (hx : x ∈ cv) => rsize_ok W x (hvo x hx)
  have HK := Lib.hid (And.intro cL (And.intro cT (And.intro cZ (And.intro hvs (And.intro hvf hvl)))))
  clear cL cT cZ hvs hvf hvo hcov
  have hQ := HC.out.2.2.2.2 v5 HR.out
  unfold cbV at hQ
  have HQ := Lib.hid hQ
  clear hQ
  have hQ := HQ.out
  go_wp2_with fail
  refine hQ.mono ?_
  rintro e v6 ⟨rfl, P6⟩
  clear hQ
  replace HW := Lib.hid (HW.out.trans P6)
  replace HR := Lib.hid (HR.out.on P6)
  replace HV := Lib.hid (HV.out.on P6)
  clear P6
  have hs := HE.out.1
  have heq := HE.out.2.1
  have hbb := HE.out.2.2.1
  have hwp := HE.out.2.2.2
  go_upto_region 10 with fail
  clear hs heq hbb hwp
  go_wp2
  go_loopw [12, 11] (fun i sv wr => ∃ j : Nat, j ≤ cv.length ∧ i = .int .i64 (j : Int) ∧ sv = .int .i64 (sumTo (fun p => 2 ^ (v - pc (evs p))) cv j : Nat) ∧ On v6 wr) (fun i _ _ => cv.length - (intOf i).toNat)
  case atStart => exact ⟨0, by omega, rfl, rfl, On.refl _⟩
  case round =>
    obtain ⟨j, hj, rfl, rfl, hon⟩ := hrel
    by_cases hlt : j < cv.length
    · have hm := getD_mem (d := (0, 0)) hlt
      have hft := HK.out.2.2.2.2.1 _ hm
      have hcZ := fun W => HK.out.2.2.1 W _ hm
      have hss := sumTo_succ (fun p => 2 ^ (v - pc (evs p))) hlt
      have hle := sumTo_le (fun p => 2 ^ (v - pc (evs p))) cv (j + 1)
      rw [HK.out.2.2.2.1] at hle
      obtain ⟨⟨x, y⟩, hx⟩ : ∃ z, cv.getD j (0, 0) = z := ⟨_, rfl⟩
      rw [hx] at hft hcZ hss
      have hpf := pc_fit HCV.out.2.2.2.2 hft
      obtain ⟨pz, hpz⟩ : ∃ z, pc (evs (x, y)) = z := ⟨_, rfl⟩
      rw [hpz] at hcZ hpf
      unfold cbV at hcZ
      simp only at hss hcZ
      rw [hpz] at hss
      obtain ⟨d, hd⟩ : ∃ d, v - pz = d := ⟨_, rfl⟩
      have hvp : ((v : Int) - (pz : Int)) = (d : Int) := by omega
      have hd64 : d < 64 := by omega
      have hs := shl1 d
      rw [hd] at hss
      obtain ⟨pw, hpw⟩ : ∃ z, 2 ^ d = z := ⟨_, rfl⟩
      rw [hpw] at hss hs
      obtain ⟨s0, hs0⟩ : ∃ z, sumTo (fun p => 2 ^ (v - pc (evs p))) cv j = z := ⟨_, rfl⟩
      rw [hs0] at hss ⊢
      have hbnd : s0 + pw ≤ 16777216 := by rw [← hss]; exact Nat.le_trans hle hcn24
      have hpw24 : pw ≤ 16777216 := Nat.le_trans (Nat.le_add_left _ _) hbnd
      have hwd : IntKind.i64.wrap (d : Int) = (d : Int) := wrap_smalli d (Nat.le_trans (Nat.le_of_lt hd64) (by decide))
      have hwp := wrap_small pw hpw24
      have HJ := Lib.hid (And.intro hss (And.intro hon (And.intro hvp (And.intro hs (And.intro hwp (And.intro hwd (And.intro hbnd hx)))))))
      clear hss hon hvp hs hwp hwd hft hpz hd hpw hs0 hle hm hpf hx
      have hL := HK.out.1 wr (HV.out.on HJ.out.2.1)
      go_wp2_with fail
      refine hL.mono ?_
      rintro e y1 ⟨rfl, Q1⟩
      have HQ1 := Lib.hid (HJ.out.2.1.trans Q1)
      clear hL Q1
      have hT := HK.out.2.1 y1 (HV.out.on HQ1.out)
      go_wp2_with fail
      refine hT.mono ?_
      rintro e y2 ⟨rfl, Q2⟩
      have HQ2 := Lib.hid (HQ1.out.trans Q2)
      clear hT Q2
      obtain ⟨ad, rfl, hb, hc0, hc1⟩ := (HV.out.on HQ2.out).at_ hlt
      rw [zl_cell, HJ.out.2.2.2.2.2.2.2] at hc0 hc1
      simp only at hc0 hc1
      have hZ := hcZ y2
      have hvp := HJ.out.2.2.1
      have hs := HJ.out.2.2.2.1
      have hwp := HJ.out.2.2.2.2.1
      have hwd := HJ.out.2.2.2.2.2.1
      go_wp2_with fail
      refine hZ.mono ?_
      rintro e y3 ⟨rfl, Q3⟩
      have HQ3 := Lib.hid (HQ2.out.trans Q3)
      clear hZ hcZ hc0 hc1 Q3
      have hadd := wrap_add s0 pw HJ.out.2.2.2.2.2.2.1
      go_wp2
      go_roundw
      case rel =>
        refine ⟨j + 1, by omega, by go_num, ?_, HQ3.out⟩
        rw [HJ.out.1]
        go_num
      case measure => simp [intOf] <;> omega
    · obtain rfl : j = cv.length := by omega
      have hz := HK.out.2.2.2.1
      rw [← sumTo_all] at hz
      rw [hz]
      have HF := Lib.hid (HW.out.trans hon)
      clear hon hz
      go_wp2
      go_ret
      exact ⟨by simp, HF.out⟩
theorem ltcounts_any (w : World) (A : Option Addr) (n c : Nat) (xs : List Cz) (h : RdC w A n c xs) (v : Int) :
    Calls Try.prog 10 #[.slice A n c, .int .i64 v] w fun e w' => e = .returned (.bool true) ∧ On w w' := by
  by_cases hv : n ≤ 12 ∧ chkL xs = 0
  · obtain ⟨l, rfl, ho⟩ := chkL_zero hv.2
    by_cases hw : withE l v = 0
    · obtain ⟨k, rfl, hk, hf⟩ := withE_zero hw
      exact counts_ok w A n c l k h hv.1 ho hk hf
    · exact counts_far w A n c l v h hv.1 ho hw
  · exact counts_off w A n c xs v h hv
end Go.Proofs.Ythamjboppnlpdaa.Cu
