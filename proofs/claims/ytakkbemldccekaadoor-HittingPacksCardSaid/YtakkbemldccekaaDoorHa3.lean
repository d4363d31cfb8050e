/-
  HittingCovers, HittingDuality: the walks.
-/
import Derived.Test.YtakkbemldccekaaDoorHa0
namespace Go.Proofs.YtakkbemldccekaaDoor.Sb
open Go.RowKit
set_option linter.unusedVariables false
set_option maxRecDepth 100000
theorem validH_ok {l : List Int} (h : validH l = true) : lerr l = 0 ∧ l.length ≤ 10 := by
  unfold validH at h
  rw [Bool.and_eq_true, decide_eq_true_eq, decide_eq_true_eq] at h
  exact ⟨h.2, h.1⟩
theorem coversR_nat {f : List Nat} (hf : Ok f) (hl : f.length ≤ 1024) {x : Nat} (hx : x < 16777216) : coversR (ints f) (x : Int) = (cov f x, 0) := by
  unfold coversR vI
  rw [if_pos (lerr_ok hf hl), if_pos (decide_eq_true (by omega)), nats_ints]; rfl
theorem chkR_min {f : List Nat} (hf : Ok f) (hl : f.length ≤ 1024) (hm : minL f = f) : chkR (ints f) = 0 := by
  unfold chkR
  rw [if_pos (lerr_ok hf hl), nats_ints, ← hm]
  exact chk_min hf
theorem allR_cases {l : List Int} (hz : lerr l = 0) : (allR l).2 = 0 ∨ (allR l).2 = 4 := by
  unfold allR allN
  rw [if_pos hz]
  rcases hitGo_err (minL (natsOf l)) [0] with h | ⟨h, _⟩
  · exact .inl h
  · exact .inr h
theorem minR_all {l : List Int} (hz : lerr l = 0) (h : (allR l).2 = 0) {x : Nat} (hx : x ∈ (allR l).1) : minR l (x : Int) = (true, 0) := by
  have hok := (lerr_nats l hz).2.1
  have hao := (allR_ok hz h).1
  have hx24 := hao x hx
  unfold allR at h hx
  rw [if_pos hz] at h hx
  obtain ⟨h1, h2⟩ := allN_min hok h hx
  unfold minR
  rw [meetsR_nat hz hx24, if_pos ⟨rfl, h1⟩]
  congr 1
  rw [List.all_eq_true]
  intro i hi
  rw [Int.toNat_natCast] at hi ⊢
  obtain ⟨hi24, hb⟩ := (mem_els x i).1 hi
  rw [h2 _ (wo_sub _ _) (wo_ne hb)]; rfl
set_option maxHeartbeats 8000000 in
theorem hcovers_any (w : World) (A : Option Addr) (n c : Nat) (la : List Int) (s : Int) (R1 : Rd w A n c (VI la)) (_ : -9223372036854775808 ≤ s ∧ s ≤ 9223372036854775807) (hT : Tab w) :
    Calls Tryd.prog 5 #[.slice A n c, .int .i64 s] w fun e w' => e = .returned (.bool true) ∧ On w w' := by
  have hV := hvalid_any w A n c la R1
  have hAW := hawake_any w hT
  by_cases hv : validH la = true
  · obtain ⟨hz, _⟩ := validH_ok hv
    rw [hv] at hV
    have hok := (lerr_nats la hz).2.1
    have hC := fun W => cut_any W s
    have hs24 := cut_lt' s
    have K1 := Lib.hid (fun W (k : On w W) => All_all W A n c la (R1.on k))
    have hME := meetsR_nat hz hs24
    have HM := fun W (k : On w W) => Meets_all W A n c la (R1.on k) ((cut s : Nat) : Int)
    rw [hME] at HM
    have hcs := allR_cases hz
    have hao := allR_ok hz
    have hmn := fun (h0 : (allR la).2 = 0) x (hx : x ∈ (allR la).1) => minR_all hz h0 hx
    have hcv : (allR la).2 = 0 → cov (allR la).1 (cut s) = meets (natsOf la) (cut s) := by
      intro h0
      unfold allR at h0 ⊢
      rw [if_pos hz] at h0 ⊢
      exact (allN_spec hok h0).2.2.2 _
    generalize allR la = F at K1 hcs hao hmn hcv
    obtain ⟨fa, ea⟩ := F
    simp only at K1 hcs hao hmn hcv
    generalize cut s = t at *
    obtain ⟨b, hb⟩ : ∃ b, meets (natsOf la) t = b := ⟨_, rfl⟩
    rw [hb] at HM hcv
    have KM := Lib.hid HM
    have KMIN := Lib.hid (fun W (k : On w W) x => HMinimal_all W A n c la (R1.on k) x)
    have HMN := Lib.hid hmn
    clear hok hME hmn HM R1 hT hz hv hb
    rcases hcs with rfl | rfl
    · obtain ⟨hfo, hfm, hfl⟩ := hao rfl
      have hcc := hcv rfl
      have hcN := coversR_nat hfo hfl hs24
      have hcK := chkR_min hfo hfl hfm
      rw [hcc] at hcN
      have HFL := Lib.hid hfl
      have HCN := Lib.hid hcN
      have HCK := Lib.hid hcK
      clear hao hfo hfm hfl hcc hcv hcN hcK
      go_enter Tryd.func5, Tryd.ntmps5
      go_wp2_with fail
      refine hV.mono ?_
      rintro e w' ⟨rfl, rfl⟩
      go_wp2_with fail
      refine hAW.mono ?_
      rintro e w1 ⟨rfl, P1⟩
      clear hV hAW
      go_wp2_with fail
      refine (hC w1).mono ?_
      rintro e w' ⟨rfl, rfl⟩
      go_wp2_with fail
      refine (K1.out w1 P1).mono ?_
      rintro e w2 ⟨A2, m, c2, rfl, S2, Q2⟩
      rw [errV_zero]
      have P2 := P1.trans Q2
      go_wp2_with fail
      refine (KM.out w2 P2).mono ?_
      rintro e w3 ⟨rfl, Q3⟩
      have P3 := P2.trans Q3
      have S3 := S2.on Q3
      have hCV := Covers_all w3 A2 m c2 _ S3 (t : Int)
      rw [HCN.out] at hCV
      simp only [errV_zero] at hCV ⊢
      go_wp2_with fail
      refine hCV.mono ?_
      rintro e w4 ⟨rfl, Q4⟩
      have P4 := P3.trans Q4
      have S4 := S3.on Q4
      have hCK := Check_all w4 A2 m c2 _ S4
      rw [HCK.out, errV_zero] at hCK
      have hbb : (b != b) = false := by cases b <;> rfl
      clear hC S2 S3 Q2 Q3 Q4 P1 P2 P3 hCV
      go_wp2_with fail
      refine hCK.mono ?_
      rintro e w5 ⟨rfl, Q5⟩
      have HP := Lib.hid (P4.trans Q5)
      have HS := Lib.hid (S4.on Q5)
      have hm : fa.length = m := by have := S4.len; rw [ints_len] at this; exact this
      have hcap := S4.cap
      have hmax := S4.max
      have HM := Lib.hid hm
      clear hCK P4 S4 Q5 hm
      go_wp2
      go_loopw [64] (fun i wr => ∃ j : Nat, j ≤ m ∧ i = .int .i64 (j : Int) ∧ Hid (On w5 wr)) (fun i _ => m - (intOf i).toNat)
      case atStart => exact ⟨0, by omega, rfl, On.refl w5⟩
      case round =>
        obtain ⟨j, hj, rfl, HW⟩ := hrel
        by_cases hlt : j < m
        · have hjl : j < fa.length := by rw [HM.out]; exact hlt
          obtain ⟨ad, e1, _, hc⟩ := (HS.out.on HW.out).at_ j _ (ints_get hjl)
          cases e1
          have hmr := HMN.out (by trivial) _ (getD_mem hjl)
          obtain ⟨x, hx⟩ : ∃ x, fa.getD j 0 = x := ⟨_, rfl⟩
          rw [hx] at hc hmr
          have hMI := KMIN.out wr (HP.out.trans HW.out) (x : Int)
          rw [hmr] at hMI
          simp only [errV_zero] at hMI
          clear hx hmr
          go_wp2_with fail
          refine hMI.mono ?_
          rintro e w6 ⟨rfl, Q6⟩
          have HW6 := Lib.hid (HW.out.trans Q6)
          clear hMI
          go_wp2
          exact ⟨⟨j + 1, by omega, by go_num, HW6⟩, by simp [intOf]; omega⟩
        · obtain rfl : j = m := by omega
          go_wp2
          go_ret
          exact ⟨rfl, HP.out.trans HW.out⟩
    · clear hao hcv HMN KM KMIN
      go_enter Tryd.func5, Tryd.ntmps5
      go_wp2_with fail
      refine hV.mono ?_
      rintro e w' ⟨rfl, rfl⟩
      go_wp2_with fail
      refine hAW.mono ?_
      rintro e w1 ⟨rfl, P1⟩
      clear hV hAW
      go_wp2_with fail
      refine (hC w1).mono ?_
      rintro e w' ⟨rfl, rfl⟩
      go_wp2_with fail
      refine (K1.out w1 P1).mono ?_
      rintro e w2 ⟨A2, m, c2, rfl, S2, Q2⟩
      rw [errV_pos 4 (by decide)]
      have P2 := P1.trans Q2
      have hI := is_err w2 4
      clear S2
      go_wp2_with fail
      refine hI.mono ?_
      rintro e w' ⟨rfl, rfl⟩
      go_wp2
      go_ret
      exact ⟨rfl, P2⟩
  · rw [Bool.not_eq_true] at hv
    rw [hv] at hV
    clear R1 hT
    go_enter Tryd.func5, Tryd.ntmps5
    go_wp2_with fail
    refine hV.mono ?_
    rintro e w' ⟨rfl, rfl⟩
    go_wp2_with fail
    refine hAW.mono ?_
    rintro e w1 ⟨rfl, P1⟩
    go_wp2
    go_ret
    exact ⟨rfl, P1⟩
set_option maxHeartbeats 8000000 in
theorem hduality_any (w : World) (A : Option Addr) (n c : Nat) (la : List Int) (R1 : Rd w A n c (VI la)) (hT : Tab w) :
    Calls Tryd.prog 6 #[.slice A n c] w fun e w' => e = .returned (.bool true) ∧ On w w' := by
  have hV := hvalid_any w A n c la R1
  have hAW := hawake_any w hT
  by_cases hv : validH la = true
  · obtain ⟨hz, _⟩ := validH_ok hv
    rw [hv] at hV
    have hok := (lerr_nats la hz).2.1
    have K1 := Lib.hid (fun W (k : On w W) => All_all W A n c la (R1.on k))
    have K2 := Lib.hid (fun W (k : On w W) => minimal_gives W A n c la (R1.on k) hz)
    have hcs := allR_cases hz
    have hao := allR_ok hz
    have hcs2 : (allR la).2 = 0 → (allR (ints (allR la).1)).2 = 0 ∨ (allR (ints (allR la).1)).2 = 4 := by
      intro h0
      obtain ⟨h1, _, h3⟩ := hao h0
      exact allR_cases (lerr_ok h1 h3)
    have htw : (allR la).2 = 0 → (allR (ints (allR la).1)).2 = 0 → (allR (ints (allR la).1)).1 = minL (natsOf la) := by
      intro h0 h1
      obtain ⟨k1, _, k3⟩ := hao h0
      unfold allR at h1 ⊢
      rw [if_pos (lerr_ok (by unfold allR at k1; exact k1) (by unfold allR at k3; exact k3)), nats_ints] at h1 ⊢
      rw [if_pos hz] at h1 ⊢
      unfold allR at h0
      rw [if_pos hz] at h0
      exact allN_twice hok h0 h1
    have hdu : (allR la).2 = 0 → dualR la (ints (allR la).1) = (true, 0) := by
      intro h0
      obtain ⟨k1, k2, k3⟩ := hao h0
      rw [dualR_c hz (lerr_ok k1 k3), if_pos h0, nats_ints, k2, decide_eq_true rfl]
    have KD := Lib.hid (fun W (k : On w W) A2 m c2 (hS : Rd W A2 m c2 (VI (ints (allR la).1))) => Dual_all W A n c la (R1.on k) A2 m c2 _ hS)
    generalize allR la = F at K1 hcs hao hcs2 htw hdu KD
    obtain ⟨fa, ea⟩ := F
    simp only at K1 hcs hao hcs2 htw hdu KD
    have KA := Lib.hid (fun W A2 m c2 (hS : Rd W A2 m c2 (VI (ints fa))) => All_all W A2 m c2 (ints fa) hS)
    generalize allR (ints fa) = F2 at KA hcs2 htw
    obtain ⟨fb, eb⟩ := F2
    simp only at KA hcs2 htw
    generalize minL (natsOf la) = k at K2 htw
    have HTW := Lib.hid htw
    have HDU := Lib.hid hdu
    have HC2 := Lib.hid hcs2
    clear hok hao hcs2 htw hdu R1 hT hz hv
    rcases hcs with rfl | rfl
    · go_enter Tryd.func6, Tryd.ntmps6
      go_wp2_with fail
      refine hV.mono ?_
      rintro e w' ⟨rfl, rfl⟩
      go_wp2_with fail
      refine hAW.mono ?_
      rintro e w1 ⟨rfl, P1⟩
      clear hV hAW
      go_wp2_with fail
      refine (K1.out w1 P1).mono ?_
      rintro e w2 ⟨A2, m, c2, rfl, S2, Q2⟩
      have P2 := P1.trans Q2
      have hcap := S2.cap
      have hmax := S2.max
      rw [errV_zero]
      by_cases h60 : 60 < m
      · have d1 : decide ((60 : Int) < (m : Int)) = true := decide_eq_true (by omega)
        clear S2
        go_wp2
        go_ret
        exact ⟨rfl, P2⟩
      · have d1 : decide ((60 : Int) < (m : Int)) = false := decide_eq_false (by omega)
        have hA2 := KA.out w2 A2 m c2 S2
        go_wp2_with fail
        refine hA2.mono ?_
        rintro e w3 ⟨A3, m3, c3, rfl, S3, Q3⟩
        have P3 := P2.trans Q3
        have S2' := S2.on Q3
        clear hA2
        go_wp2_with fail
        refine (K2.out w3 P3).mono ?_
        rintro e w4 ⟨A4, m4, c4, rfl, S4, Q4⟩
        have P4 := P3.trans Q4
        have S2'' := S2'.on Q4
        have S3' := S3.on Q4
        simp only [errV_zero]
        rcases HC2.out (by trivial) with rfl | rfl
        · have hD := KD.out w4 P4 A2 m c2 S2''
          have hdu2 := HDU.out (by trivial)
          rw [hdu2] at hD
          simp only [errV_zero] at hD ⊢
          have htw := HTW.out (by trivial) (by trivial)
          go_wp2_with fail
          refine hD.mono ?_
          rintro e w5 ⟨rfl, Q5⟩
          have P5 := P4.trans Q5
          have hI := ints_any _ _ _ _ _ _ _ _ _ (S3'.on Q5) (S4.on Q5)
          rw [htw, decide_eq_true rfl] at hI
          clear hD S2 S2' S2'' S3 S3' S4
          go_wp2_with fail
          refine hI.mono ?_
          rintro e w6 ⟨rfl, Q6⟩
          go_wp2
          go_ret
          exact ⟨rfl, P5.trans Q6⟩
        · rw [errV_pos 4 (by decide)]
          have hI := is_err w4 4
          clear S2 S2' S2'' S3 S3' S4
          go_wp2_with fail
          refine hI.mono ?_
          rintro e w' ⟨rfl, rfl⟩
          go_wp2
          go_ret
          exact ⟨rfl, P4⟩
    · go_enter Tryd.func6, Tryd.ntmps6
      go_wp2_with fail
      refine hV.mono ?_
      rintro e w' ⟨rfl, rfl⟩
      go_wp2_with fail
      refine hAW.mono ?_
      rintro e w1 ⟨rfl, P1⟩
      clear hV hAW
      go_wp2_with fail
      refine (K1.out w1 P1).mono ?_
      rintro e w2 ⟨A2, m, c2, rfl, S2, Q2⟩
      rw [errV_pos 4 (by decide)]
      have P2 := P1.trans Q2
      have hI := is_err w2 4
      clear S2
      go_wp2_with fail
      refine hI.mono ?_
      rintro e w' ⟨rfl, rfl⟩
      go_wp2
      go_ret
      exact ⟨rfl, P2⟩
  · rw [Bool.not_eq_true] at hv
    rw [hv] at hV
    clear R1 hT
    go_enter Tryd.func6, Tryd.ntmps6
    go_wp2_with fail
    refine hV.mono ?_
    rintro e w' ⟨rfl, rfl⟩
    go_wp2_with fail
    refine hAW.mono ?_
    rintro e w1 ⟨rfl, P1⟩
    go_wp2
    go_ret
    exact ⟨rfl, P1⟩
end Go.Proofs.YtakkbemldccekaaDoor.Sb
