/-
  NormalPushed: what Push and Fold return, without the specification.
-/
import Derived.Test.YtmkogcaafkobaaaNasdM
import Derived.BigQuiet
namespace Go.Proofs.Ytmkogcaafkobaaa.Fm
open Go.RowKit Go.Proofs.Ytmkogcaafkobaaa.Sb
set_option linter.unusedVariables false
set_option maxRecDepth 100000
set_option maxHeartbeats 32000000 in
theorem npushed_ok (w : World) (f : Fn) (hf : WF f) (A : Option Addr) (n c : Nat) (h : RdN w A n c (rawL f.nodes)) (hl : lightB (rawL f.nodes) = true) (set : Int) :
    Calls Try.prog 4 #[.agg #[.int .i64 (f.vars : Int), .slice A n c, .int .i64 (f.top : Int)], .int .i64 set] w fun e w' => e = .returned (.bool true) ∧ On w w' := by
  have hI1 : I64 (f.vars : Int) := by have := hf.1; unfold I64; omega
  have hI2 : I64 (f.top : Int) := by have := hf.1; have := hf.2.2.2; have := hf.2.1; unfold I64; omega
  obtain ⟨q, hq⟩ : ∃ q, w.heap.size = q := ⟨_, rfl⟩
  obtain ⟨w0, hw0⟩ : ∃ w0, w.alloc (.cells #[.int .i64 (f.vars : Int), .slice A n c, .int .i64 (f.top : Int)] 24) = w0 := ⟨_, rfl⟩
  have O0 : Own w0 q 24 #[.int .i64 (f.vars : Int), .slice A n c, .int .i64 (f.top : Int)] := by rw [← hw0, ← hq]; exact Own.new _ _ _
  have P0 : On w w0 := by rw [← hw0]; exact (On.refl w).alloc _
  have hv24 := hf.1
  have hv64 : f.vars < 64 := by omega
  have e1 := shl_step f.vars hv24
  have hp24 := pow24 hv24
  have hp1 := pow_posN f.vars
  have hg3 := and_allN set f.vars hv24
  have hs1 : cut set % 2 ^ f.vars < 2 ^ f.vars := Nat.mod_lt _ (Nat.two_pow_pos _)
  obtain ⟨s1, hs1e⟩ : ∃ x, cut set % 2 ^ f.vars = x := ⟨_, rfl⟩
  rw [hs1e] at hg3 hs1
  have cV1 := fun W R => value_ok W f hf A n c R s1 hs1
  have hvx := push_val hf s1
  have hvy := fold_val hf s1
  obtain ⟨bv, hbv⟩ : ∃ b, val f s1 = b := ⟨_, rfl⟩
  rw [hbv] at cV1 hvx hvy
  have cP := fun W R => npush_ok W f hf A n c R
  have cF := fun W R => nfold_ok W f hf A n c R
  have hwx := push_wf hf
  have hwy := fold_wf hf
  have hflat := fun r hr => push_flat hf (r := r) hr
  have hnc := fun hl2 r hr => fold_nc hf hl2 (r := r) hr
  have hxv : (push f).vars = f.vars := rfl
  have hyv : (fold f).vars = f.vars := fold_varsN hf
  obtain ⟨x, hx⟩ : ∃ x, push f = x := ⟨_, rfl⟩
  obtain ⟨y, hy⟩ : ∃ y, fold f = y := ⟨_, rfl⟩
  rw [hx] at cP hwx hflat hxv hvx
  rw [hy] at cF hwy hnc hyv hvy
  have cVx := fun W A1 n1 c1 (hle : x.nodes.length ≤ 128) R => value_ok W x (hwx.small hle) A1 n1 c1 R s1 (by rw [hxv]; exact hs1)
  have cVy := fun W A1 n1 c1 (hle : y.nodes.length ≤ 128) R => value_ok W y (hwy.small hle) A1 n1 c1 R s1 (by rw [hyv]; exact hs1)
  rw [hvx, hxv] at cVx
  rw [hvy, hyv] at cVy
  have hone : ∀ r, r < x.nodes.length → (x.nd r).kind = 1 → (x.nd r).args.length = 1 := fun r hr => (hwx.2.2.1 r hr).2.2.1
  have cAw := fun W => awakeN_any W
  have cL := fun W (R : RdN W A n c (rawL f.nodes)) => light_any W (f.vars : Int) (f.top : Int) A n c _ R
  have cK := fun W (R : RdN W A n c (rawL f.nodes)) => check_any W (f.vars : Int) (f.top : Int) A n c _ R hI1 hI2
  rw [chk_ok hf, errV_zero] at cK
  rw [hl] at cL
  have cC := fun W => clip_any W f.vars hv24
  obtain ⟨p2, hp2⟩ : ∃ p2, 2 ^ f.vars = p2 := ⟨_, rfl⟩
  rw [hp2] at e1 hp24 hp1 hg3
  have ew := wrap_sub1 p2 hp1 hp24
  obtain ⟨tx, htx⟩ : ∃ z, x.top = z := ⟨_, rfl⟩
  obtain ⟨ty, hty⟩ : ∃ z, y.top = z := ⟨_, rfl⟩
  rw [htx] at cVx
  rw [hty] at cVy
  have E1 := Lib.hid (And.intro e1 ew)
  have E3 := Lib.hid hg3
  have EF := Lib.hid (And.intro hflat (And.intro hone (And.intro hxv htx)))
  have EN := Lib.hid (And.intro hnc (And.intro hyv hty))
  have EC := Lib.hid (And.intro cAw (And.intro cL (And.intro cK (And.intro cC (And.intro cV1 (And.intro cP (And.intro cVx (And.intro cF cVy))))))))
  have hbb : (bv != bv) = false := by cases bv <;> rfl
  have HBB := Lib.hid hbb
  have HW := Lib.hid P0
  have HO := Lib.hid O0
  have HR := Lib.hid (h.on P0)
  clear P0 O0 h e1 ew hg3 hflat hone hxv htx hnc hyv hty cAw cL cK cC cV1 cP cVx cF cVy hbb hp24 hp1 hs1 hs1e hp2 hl hf hI1 hI2 hx hy hvx hvy hbv hv24 hwx hwy
  go_enter Try.func4, Try.ntmps4
  subst hq
  have hQ := EC.out.1 w0
  go_wp2_with fail
  refine hQ.mono ?_
  rintro e v1 ⟨rfl, P1⟩
  clear hQ
  replace HW := Lib.hid (HW.out.trans P1)
  replace HO := Lib.hid (HO.out.on P1)
  replace HR := Lib.hid (HR.out.on P1)
  clear P1
  obtain ⟨HOc0, HOc1, HOc2⟩ := own3 HO.out
  have hQ := EC.out.2.1 v1 HR.out
  go_wp2_with fail
  refine hQ.mono ?_
  rintro e v2 ⟨rfl, P2⟩
  clear hQ
  clear HOc0 HOc1 HOc2
  replace HW := Lib.hid (HW.out.trans P2)
  replace HO := Lib.hid (HO.out.on P2)
  replace HR := Lib.hid (HR.out.on P2)
  clear P2
  obtain ⟨HOc0, HOc1, HOc2⟩ := own3 HO.out
  have hQ := EC.out.2.2.1 v2 HR.out
  go_wp2_with fail
  refine hQ.mono ?_
  rintro e v3 ⟨rfl, P3⟩
  clear hQ
  clear HOc0 HOc1 HOc2
  replace HW := Lib.hid (HW.out.trans P3)
  replace HO := Lib.hid (HO.out.on P3)
  replace HR := Lib.hid (HR.out.on P3)
  clear P3
  obtain ⟨HOc0, HOc1, HOc2⟩ := own3 HO.out
  have hQ := EC.out.2.2.2.1 v3
  go_wp2_with fail
  refine hQ.mono ?_
  rintro e v4 ⟨rfl, rfl⟩
  clear hQ
  clear HOc0 HOc1 HOc2
  have e1 := E1.out.1
  have ew := E1.out.2
  go_upto_region 4 with fail
  clear e1
  clear ew
  obtain ⟨HOc0, HOc1, HOc2⟩ := own3 HO.out
  have g3 := E3.out
  have hQ := EC.out.2.2.2.2.1 v3 HR.out
  go_wp2_with fail
  refine hQ.mono ?_
  rintro e v5 ⟨rfl, P5⟩
  clear hQ
  clear g3
  clear HOc0 HOc1 HOc2
  replace HW := Lib.hid (HW.out.trans P5)
  replace HO := Lib.hid (HO.out.on P5)
  replace HR := Lib.hid (HR.out.on P5)
  clear P5
  obtain ⟨HOc0, HOc1, HOc2⟩ := own3 HO.out
  have hQ := EC.out.2.2.2.2.2.1 v5 HR.out
  go_wp2_with fail
  refine hQ.mono ?_
  rintro e v6 ⟨hM, P6⟩
  clear hQ
  clear HOc0 HOc1 HOc2
  replace HW := Lib.hid (HW.out.trans P6)
  replace HO := Lib.hid (HO.out.on P6)
  replace HR := Lib.hid (HR.out.on P6)
  clear P6
  rcases hM with ⟨hle, A1, c1, rfl, X4⟩ | ⟨hgt, rfl⟩
  rotate_left
  · rw [errV_pos 4 (by decide)]
    have Z0 : Own (v6.alloc (.cells #[.int .i64 0, .slice none 0 0, .int .i64 0] 24)) v6.heap.size 24 #[.int .i64 0, .slice none 0 0, .int .i64 0] := Own.new _ _ _
    obtain ⟨k0, k1, k2⟩ := own3 Z0
    have f0 := Z0.frozen 0
    have f1 := Z0.frozen 1
    have f2 := Z0.frozen 2
    go_upto_region 8 with fail
    clear k0 k1 k2 f0 f1 f2 Z0
    have OZ := Own.new v6 24 #[.int .i64 0, .slice none 0 0, .int .i64 0]
    have P7 := (On.refl v6).alloc (.cells #[.int .i64 0, .slice none 0 0, .int .i64 0] 24)
    obtain ⟨v7, hwz⟩ : ∃ z, v6.alloc (.cells #[.int .i64 0, .slice none 0 0, .int .i64 0] 24) = z := ⟨_, rfl⟩
    rw [hwz] at OZ P7 ⊢
    clear hwz
    replace HW := Lib.hid (HW.out.trans P7)
    replace HO := Lib.hid (HO.out.on P7)
    replace HR := Lib.hid (HR.out.on P7)
    have HX := Lib.hid (OZ)
    obtain ⟨bHX, hbHX⟩ : ∃ z, v6.heap.size = z := ⟨_, rfl⟩
    rw [hbHX] at HX ⊢
    clear hbHX OZ P7
    have hQ := is_err v7 4
    go_wp2_with fail
    refine hQ.mono ?_
    rintro e v8 ⟨rfl, rfl⟩
    clear hQ
    obtain ⟨HOc0, HOc1, HOc2⟩ := own3 HO.out
    have hQ := EC.out.2.2.2.2.2.2.2.1 v7 HR.out
    go_wp2_with fail
    refine hQ.mono ?_
    rintro e v9 ⟨hM, P9⟩
    clear hQ
    clear HOc0 HOc1 HOc2
    replace HW := Lib.hid (HW.out.trans P9)
    replace HO := Lib.hid (HO.out.on P9)
    replace HR := Lib.hid (HR.out.on P9)
    replace HX := Lib.hid (HX.out.on P9)
    clear P9
    rcases hM with ⟨hle2, A2, c2, rfl, Y4⟩ | ⟨hgt, rfl⟩
    rotate_left
    · rw [errV_pos 4 (by decide)]
      have Z0 : Own (v9.alloc (.cells #[.int .i64 0, .slice none 0 0, .int .i64 0] 24)) v9.heap.size 24 #[.int .i64 0, .slice none 0 0, .int .i64 0] := Own.new _ _ _
      obtain ⟨k0, k1, k2⟩ := own3 Z0
      have f0 := Z0.frozen 0
      have f1 := Z0.frozen 1
      have f2 := Z0.frozen 2
      go_upto_region 21 with fail
      clear k0 k1 k2 f0 f1 f2 Z0
      have OZ := Own.new v9 24 #[.int .i64 0, .slice none 0 0, .int .i64 0]
      have P10 := (On.refl v9).alloc (.cells #[.int .i64 0, .slice none 0 0, .int .i64 0] 24)
      obtain ⟨v10, hwz⟩ : ∃ z, v9.alloc (.cells #[.int .i64 0, .slice none 0 0, .int .i64 0] 24) = z := ⟨_, rfl⟩
      rw [hwz] at OZ P10 ⊢
      clear hwz
      replace HW := Lib.hid (HW.out.trans P10)
      replace HO := Lib.hid (HO.out.on P10)
      replace HR := Lib.hid (HR.out.on P10)
      replace HX := Lib.hid (HX.out.on P10)
      have HY := Lib.hid (OZ)
      obtain ⟨bHY, hbHY⟩ : ∃ z, v9.heap.size = z := ⟨_, rfl⟩
      rw [hbHY] at HY ⊢
      clear hbHY OZ P10
      have hQ := is_err v10 4
      go_wp2_with fail
      refine hQ.mono ?_
      rintro e v11 ⟨rfl, rfl⟩
      clear hQ
      go_wp2
      go_ret
      exact ⟨rfl, HW.out⟩
    have hVy := fun W A1 n1 c1 R => EC.out.2.2.2.2.2.2.2.2 W A1 n1 c1 hle2 R
    have hnc := EN.out.1
    obtain ⟨n2, hn2⟩ : ∃ n1, y.nodes.length = n1 := ⟨_, rfl⟩
    rw [hn2] at hle2 Y4 hnc ⊢
    rw [EN.out.2.1, EN.out.2.2]
    have HN := Lib.hid (And.intro hVy hnc)
    have hcap2 := Y4.cap
    have hmax2 := Y4.max
    clear hVy hnc hn2
    have HY4 := Lib.hid (Y4)
    clear Y4
    have Z0 : Own (v9.alloc (.cells #[.int .i64 0, .slice none 0 0, .int .i64 0] 24)) v9.heap.size 24 #[.int .i64 0, .slice none 0 0, .int .i64 0] := Own.new _ _ _
    obtain ⟨k0, k1, k2⟩ := own3 Z0
    have f0 := Z0.frozen 0
    have f1 := Z0.frozen 1
    have f2 := Z0.frozen 2
    go_upto_region 21 with fail
    clear k0 k1 k2 f0 f1 f2 Z0
    have OZ := Own.new v9 24 #[.int .i64 (f.vars : Int), .slice A2 n2 c2, .int .i64 (ty : Int)]
    have P10 := (On.refl v9).alloc (.cells #[.int .i64 (f.vars : Int), .slice A2 n2 c2, .int .i64 (ty : Int)] 24)
    obtain ⟨v10, hwz⟩ : ∃ z, v9.alloc (.cells #[.int .i64 (f.vars : Int), .slice A2 n2 c2, .int .i64 (ty : Int)] 24) = z := ⟨_, rfl⟩
    rw [hwz] at OZ P10 ⊢
    clear hwz
    replace HW := Lib.hid (HW.out.trans P10)
    replace HO := Lib.hid (HO.out.on P10)
    replace HR := Lib.hid (HR.out.on P10)
    replace HX := Lib.hid (HX.out.on P10)
    replace HY4 := Lib.hid (HY4.out.on P10)
    have HY := Lib.hid (OZ)
    obtain ⟨bHY, hbHY⟩ : ∃ z, v9.heap.size = z := ⟨_, rfl⟩
    rw [hbHY] at HY ⊢
    clear hbHY OZ P10
    obtain ⟨HYc0, HYc1, HYc2⟩ := own3 HY.out
    have g3 := E3.out
    have hQ := HN.out.1 v10 A2 n2 c2 HY4.out
    go_wp2_with fail
    refine hQ.mono ?_
    rintro e v11 ⟨rfl, P11⟩
    clear hQ
    clear g3
    clear HYc0 HYc1 HYc2
    replace HW := Lib.hid (HW.out.trans P11)
    replace HO := Lib.hid (HO.out.on P11)
    replace HR := Lib.hid (HR.out.on P11)
    replace HX := Lib.hid (HX.out.on P11)
    replace HY4 := Lib.hid (HY4.out.on P11)
    replace HY := Lib.hid (HY.out.on P11)
    clear P11
    have hbb := HBB.out
    go_upto_region 26 with fail
    clear hbb
    obtain ⟨HYc0, HYc1, HYc2⟩ := own3 HY.out
    go_wp2
    clear HYc0 HYc1 HYc2
    go_loopw [131] (fun i wr => ∃ j : Nat, j ≤ n2 ∧ i = .int .i64 (j : Int) ∧ On v11 wr) (fun i _ => n2 - (intOf i).toNat)
    case atStart => exact ⟨0, by omega, rfl, On.refl _⟩
    case round =>
      obtain ⟨j, hj, rfl, hon⟩ := hrel
      by_cases hlt : j < n2
      · obtain ⟨ad, rfl, hb9, PA, m, cA, hc0, hc1, hc2, hRA⟩ := (HY4.out.on hon).at_ j hlt
        rw [raw_get] at hc0 hc1
        have hkk : 1 < n2 → (y.nd j).kind ≠ 0 := fun e => HN.out.2 e j hlt
        obtain ⟨⟨kd, kq, ar⟩, hxx⟩ : ∃ z, y.nd j = z := ⟨_, rfl⟩
        rw [hxx] at hc0 hc1 hkk
        replace hc0 := (show _ = some (Value.int .i64 (kd : Int)) from hc0)
        replace hc1 := (show _ = some (Value.int .i64 (kq : Int)) from hc1)
        simp only at hkk
        clear hxx hRA
        have Z0 : Own (wr.alloc (.cells #[.int .i64 0, .int .i64 0, .slice none 0 0] 41)) wr.heap.size 41 #[.int .i64 0, .int .i64 0, .slice none 0 0] := Own.new _ _ _
        obtain ⟨k0, k1, k2⟩ := own3 Z0
        have f0 := Z0.frozen 0
        have f1 := Z0.frozen 1
        have f2 := Z0.frozen 2
        go_upto_region 29 with fail
        clear k0 k1 k2 f0 f1 f2 Z0
        have OZ := Own.new wr 41 #[.int .i64 (kd : Int), .int .i64 (kq : Int), .slice PA m cA]
        have PZ := (On.refl wr).alloc (.cells #[.int .i64 (kd : Int), .int .i64 (kq : Int), .slice PA m cA] 41)
        obtain ⟨wz, hwz⟩ : ∃ z, wr.alloc (.cells #[.int .i64 (kd : Int), .int .i64 (kq : Int), .slice PA m cA] 41) = z := ⟨_, rfl⟩
        rw [hwz] at OZ PZ ⊢
        clear hwz
        obtain ⟨bz, hbz⟩ : ∃ z, wr.heap.size = z := ⟨_, rfl⟩
        rw [hbz] at OZ ⊢
        clear hbz
        have Pz := Lib.hid (hon.trans PZ)
        obtain ⟨m0, m1, m2⟩ := own3 OZ
        obtain ⟨y0, y1, y2⟩ := own3 (HY.out.on Pz.out)
        clear OZ PZ hc0 hc1 hc2
        by_cases hk0 : kd = 0
        · have hn1 : ¬ (n2 : Int) > 1 := by
            intro e
            exact hkk (by omega) hk0
          subst hk0
          clear hkk
          go_wp2
          go_roundw
          case rel => exact ⟨j + 1, by omega, by go_num, Pz.out⟩
          case measure => simp [intOf] <;> omega
        · have hk0i : ((kd : Int) == 0) = false := beq_eq_false_iff_ne.2 (by omega)
          clear hkk
          go_wp2
          go_roundw
          case rel => exact ⟨j + 1, by omega, by go_num, Pz.out⟩
          case measure => simp [intOf] <;> omega
      · obtain rfl : j = n2 := by omega
        go_wp2
        go_ret
        exact ⟨rfl, HW.out.trans hon⟩
  have hVx := fun W A1 n1 c1 R => EC.out.2.2.2.2.2.2.1 W A1 n1 c1 hle R
  have hfl := EF.out.1
  have hon1 := EF.out.2.1
  obtain ⟨n1, hn1⟩ : ∃ n1, x.nodes.length = n1 := ⟨_, rfl⟩
  rw [hn1] at hle X4 hfl hon1 ⊢
  rw [EF.out.2.2.1, EF.out.2.2.2]
  have HM := Lib.hid (And.intro hVx (And.intro hfl hon1))
  have hcap := X4.cap
  have hmax := X4.max
  clear hVx hfl hon1 hn1
  have HX4 := Lib.hid (X4)
  clear X4
  have Z0 : Own (v6.alloc (.cells #[.int .i64 0, .slice none 0 0, .int .i64 0] 24)) v6.heap.size 24 #[.int .i64 0, .slice none 0 0, .int .i64 0] := Own.new _ _ _
  obtain ⟨k0, k1, k2⟩ := own3 Z0
  have f0 := Z0.frozen 0
  have f1 := Z0.frozen 1
  have f2 := Z0.frozen 2
  go_upto_region 8 with fail
  clear k0 k1 k2 f0 f1 f2 Z0
  have OZ := Own.new v6 24 #[.int .i64 (f.vars : Int), .slice A1 n1 c1, .int .i64 (tx : Int)]
  have P7 := (On.refl v6).alloc (.cells #[.int .i64 (f.vars : Int), .slice A1 n1 c1, .int .i64 (tx : Int)] 24)
  obtain ⟨v7, hwz⟩ : ∃ z, v6.alloc (.cells #[.int .i64 (f.vars : Int), .slice A1 n1 c1, .int .i64 (tx : Int)] 24) = z := ⟨_, rfl⟩
  rw [hwz] at OZ P7 ⊢
  clear hwz
  replace HW := Lib.hid (HW.out.trans P7)
  replace HO := Lib.hid (HO.out.on P7)
  replace HR := Lib.hid (HR.out.on P7)
  replace HX4 := Lib.hid (HX4.out.on P7)
  have HX := Lib.hid (OZ)
  obtain ⟨bHX, hbHX⟩ : ∃ z, v6.heap.size = z := ⟨_, rfl⟩
  rw [hbHX] at HX ⊢
  clear hbHX OZ P7
  obtain ⟨HXc0, HXc1, HXc2⟩ := own3 HX.out
  have g3 := E3.out
  have hQ := HM.out.1 v7 A1 n1 c1 HX4.out
  go_wp2_with fail
  refine hQ.mono ?_
  rintro e v8 ⟨rfl, P8⟩
  clear hQ
  clear g3
  clear HXc0 HXc1 HXc2
  replace HW := Lib.hid (HW.out.trans P8)
  replace HO := Lib.hid (HO.out.on P8)
  replace HR := Lib.hid (HR.out.on P8)
  replace HX4 := Lib.hid (HX4.out.on P8)
  replace HX := Lib.hid (HX.out.on P8)
  clear P8
  have hbb := HBB.out
  go_upto_region 12 with fail
  clear hbb
  obtain ⟨HXc0, HXc1, HXc2⟩ := own3 HX.out
  go_wp2
  clear HXc0 HXc1 HXc2
  go_loopw [73] (fun i wr => ∃ j : Nat, j ≤ n1 ∧ i = .int .i64 (j : Int) ∧ On v8 wr) (fun i _ => n1 - (intOf i).toNat)
  case atStart => exact ⟨0, by omega, rfl, On.refl _⟩
  case round =>
    obtain ⟨j, hj, rfl, hon⟩ := hrel
    by_cases hlt : j < n1
    · obtain ⟨ad, rfl, hb9, PA, m, cA, hc0, hc1, hc2, hRA⟩ := (HX4.out.on hon).at_ j hlt
      rw [raw_get] at hc0 hc1 hRA
      have hk5 := (HM.out.2.1 j hlt).1
      have hk1 := (HM.out.2.1 j hlt).2
      have hkl := HM.out.2.2 j hlt
      obtain ⟨⟨kd, kq, ar⟩, hxx⟩ : ∃ z, x.nd j = z := ⟨_, rfl⟩
      rw [hxx] at hc0 hc1 hk5 hk1 hkl hRA
      replace hc0 := (show _ = some (Value.int .i64 (kd : Int)) from hc0)
      replace hc1 := (show _ = some (Value.int .i64 (kq : Int)) from hc1)
      have hRA := (show Rd wr PA m cA (VI (ints ar)) from hRA)
      simp only at hk5 hk1 hkl
      have hml : ar.length = m := by have := VI_len hRA; rwa [ints_length] at this
      have HRA := Lib.hid (And.intro hRA (And.intro hk1 (And.intro hkl hml)))
      clear hxx hRA hk1 hkl hml
      have Z0 : Own (wr.alloc (.cells #[.int .i64 0, .int .i64 0, .slice none 0 0] 41)) wr.heap.size 41 #[.int .i64 0, .int .i64 0, .slice none 0 0] := Own.new _ _ _
      obtain ⟨k0, k1, k2⟩ := own3 Z0
      have f0 := Z0.frozen 0
      have f1 := Z0.frozen 1
      have f2 := Z0.frozen 2
      go_upto_region 15 with fail
      clear k0 k1 k2 f0 f1 f2 Z0
      have OZ := Own.new wr 41 #[.int .i64 (kd : Int), .int .i64 (kq : Int), .slice PA m cA]
      have PZ := (On.refl wr).alloc (.cells #[.int .i64 (kd : Int), .int .i64 (kq : Int), .slice PA m cA] 41)
      obtain ⟨wz, hwz⟩ : ∃ z, wr.alloc (.cells #[.int .i64 (kd : Int), .int .i64 (kq : Int), .slice PA m cA] 41) = z := ⟨_, rfl⟩
      rw [hwz] at OZ PZ ⊢
      clear hwz
      obtain ⟨bz, hbz⟩ : ∃ z, wr.heap.size = z := ⟨_, rfl⟩
      rw [hbz] at OZ ⊢
      clear hbz
      have Pz := Lib.hid (hon.trans PZ)
      have HRZ := Lib.hid (HRA.out.1.on PZ)
      obtain ⟨m0, m1, m2⟩ := own3 OZ
      obtain ⟨y0, y1, y2⟩ := own3 (HX.out.on Pz.out)
      clear OZ PZ hc0 hc1 hc2
      have b5i : ((kd : Int) == 5) = false := beq_eq_false_iff_ne.2 (by omega)
      by_cases h1 : kd = 1
      · obtain ⟨ar0, rfl⟩ := List.length_eq_one_iff.1 (HRA.out.2.2.1 h1)
        obtain rfl : m = 1 := by have := HRA.out.2.2.2; simpa using this.symm
        have hal := HRA.out.2.1 h1 ar0 (List.mem_singleton.2 rfl)
        obtain ⟨ad2, rfl, hb2, hcc⟩ := VI_at HRZ.out (j := 0) (by omega)
        rw [ints_getD (by simp)] at hcc
        replace hcc := (show wz.cell? (ad2.add 0) = some (Value.int .i64 (ar0 : Int)) from hcc)
        have hcc2 := hcc
        rw [add_nil] at hcc2
        have hcap0 := HRZ.out.cap
        have hmax0 := HRZ.out.max
        have halt : ¬ (ar0 : Int) ≥ (f.vars : Int) := by omega
        have hald : decide ((f.vars : Int) ≤ (ar0 : Int)) = false := decide_eq_false (by omega)
        subst h1
        clear hal hk5
        go_quiet (fail)
        go_wp2
        go_roundw
        case rel => exact ⟨j + 1, by omega, by go_num, On.drewN Pz.out _⟩
        case measure => simp [intOf] <;> omega
      · have b1i : ((kd : Int) == 1) = false := beq_eq_false_iff_ne.2 (by omega)
        clear hk5
        go_quiet (fail)
        go_wp2
        go_roundw
        case rel => exact ⟨j + 1, by omega, by go_num, On.drewN Pz.out _⟩
        case measure => simp [intOf] <;> omega
    · obtain rfl : j = n1 := by omega
      obtain ⟨wq, hwq⟩ : ∃ z, z = wr := ⟨_, rfl⟩
      subst hwq
      replace HW := Lib.hid (HW.out.trans hon)
      replace HO := Lib.hid (HO.out.on hon)
      replace HR := Lib.hid (HR.out.on hon)
      replace HX4 := Lib.hid (HX4.out.on hon)
      replace HX := Lib.hid (HX.out.on hon)
      clear hon
      obtain ⟨HOc0, HOc1, HOc2⟩ := own3 HO.out
      have hQ := EC.out.2.2.2.2.2.2.2.1 wq HR.out
      go_wp2_with fail
      refine hQ.mono ?_
      rintro e v9 ⟨hM, P9⟩
      clear hQ
      clear HOc0 HOc1 HOc2
      replace HW := Lib.hid (HW.out.trans P9)
      replace HO := Lib.hid (HO.out.on P9)
      replace HR := Lib.hid (HR.out.on P9)
      replace HX4 := Lib.hid (HX4.out.on P9)
      replace HX := Lib.hid (HX.out.on P9)
      clear P9
      rcases hM with ⟨hle2, A2, c2, rfl, Y4⟩ | ⟨hgt, rfl⟩
      rotate_left
      · rw [errV_pos 4 (by decide)]
        have Z0 : Own (v9.alloc (.cells #[.int .i64 0, .slice none 0 0, .int .i64 0] 24)) v9.heap.size 24 #[.int .i64 0, .slice none 0 0, .int .i64 0] := Own.new _ _ _
        obtain ⟨k0, k1, k2⟩ := own3 Z0
        have f0 := Z0.frozen 0
        have f1 := Z0.frozen 1
        have f2 := Z0.frozen 2
        go_upto_region 21 with fail
        clear k0 k1 k2 f0 f1 f2 Z0
        have OZ := Own.new v9 24 #[.int .i64 0, .slice none 0 0, .int .i64 0]
        have P10 := (On.refl v9).alloc (.cells #[.int .i64 0, .slice none 0 0, .int .i64 0] 24)
        obtain ⟨v10, hwz⟩ : ∃ z, v9.alloc (.cells #[.int .i64 0, .slice none 0 0, .int .i64 0] 24) = z := ⟨_, rfl⟩
        rw [hwz] at OZ P10 ⊢
        clear hwz
        replace HW := Lib.hid (HW.out.trans P10)
        replace HO := Lib.hid (HO.out.on P10)
        replace HR := Lib.hid (HR.out.on P10)
        replace HX4 := Lib.hid (HX4.out.on P10)
        replace HX := Lib.hid (HX.out.on P10)
        have HY := Lib.hid (OZ)
        obtain ⟨bHY, hbHY⟩ : ∃ z, v9.heap.size = z := ⟨_, rfl⟩
        rw [hbHY] at HY ⊢
        clear hbHY OZ P10
        have hQ := is_err v10 4
        go_wp2_with fail
        refine hQ.mono ?_
        rintro e v11 ⟨rfl, rfl⟩
        clear hQ
        go_wp2
        go_ret
        exact ⟨rfl, HW.out⟩
      have hVy := fun W A1 n1 c1 R => EC.out.2.2.2.2.2.2.2.2 W A1 n1 c1 hle2 R
      have hnc := EN.out.1
      obtain ⟨n2, hn2⟩ : ∃ n1, y.nodes.length = n1 := ⟨_, rfl⟩
      rw [hn2] at hle2 Y4 hnc ⊢
      rw [EN.out.2.1, EN.out.2.2]
      have HN := Lib.hid (And.intro hVy hnc)
      have hcap2 := Y4.cap
      have hmax2 := Y4.max
      clear hVy hnc hn2
      have HY4 := Lib.hid (Y4)
      clear Y4
      have Z0 : Own (v9.alloc (.cells #[.int .i64 0, .slice none 0 0, .int .i64 0] 24)) v9.heap.size 24 #[.int .i64 0, .slice none 0 0, .int .i64 0] := Own.new _ _ _
      obtain ⟨k0, k1, k2⟩ := own3 Z0
      have f0 := Z0.frozen 0
      have f1 := Z0.frozen 1
      have f2 := Z0.frozen 2
      go_upto_region 21 with fail
      clear k0 k1 k2 f0 f1 f2 Z0
      have OZ := Own.new v9 24 #[.int .i64 (f.vars : Int), .slice A2 n2 c2, .int .i64 (ty : Int)]
      have P10 := (On.refl v9).alloc (.cells #[.int .i64 (f.vars : Int), .slice A2 n2 c2, .int .i64 (ty : Int)] 24)
      obtain ⟨v10, hwz⟩ : ∃ z, v9.alloc (.cells #[.int .i64 (f.vars : Int), .slice A2 n2 c2, .int .i64 (ty : Int)] 24) = z := ⟨_, rfl⟩
      rw [hwz] at OZ P10 ⊢
      clear hwz
      replace HW := Lib.hid (HW.out.trans P10)
      replace HO := Lib.hid (HO.out.on P10)
      replace HR := Lib.hid (HR.out.on P10)
      replace HX4 := Lib.hid (HX4.out.on P10)
      replace HX := Lib.hid (HX.out.on P10)
      replace HY4 := Lib.hid (HY4.out.on P10)
      have HY := Lib.hid (OZ)
      obtain ⟨bHY, hbHY⟩ : ∃ z, v9.heap.size = z := ⟨_, rfl⟩
      rw [hbHY] at HY ⊢
      clear hbHY OZ P10
      obtain ⟨HYc0, HYc1, HYc2⟩ := own3 HY.out
      have g3 := E3.out
      have hQ := HN.out.1 v10 A2 n2 c2 HY4.out
      go_wp2_with fail
      refine hQ.mono ?_
      rintro e v11 ⟨rfl, P11⟩
      clear hQ
      clear g3
      clear HYc0 HYc1 HYc2
      replace HW := Lib.hid (HW.out.trans P11)
      replace HO := Lib.hid (HO.out.on P11)
      replace HR := Lib.hid (HR.out.on P11)
      replace HX4 := Lib.hid (HX4.out.on P11)
      replace HX := Lib.hid (HX.out.on P11)
      replace HY4 := Lib.hid (HY4.out.on P11)
      replace HY := Lib.hid (HY.out.on P11)
      clear P11
      have hbb := HBB.out
      go_upto_region 26 with fail
      clear hbb
      obtain ⟨HYc0, HYc1, HYc2⟩ := own3 HY.out
      go_wp2
      clear HYc0 HYc1 HYc2
      go_loopw [131] (fun i wr => ∃ j : Nat, j ≤ n2 ∧ i = .int .i64 (j : Int) ∧ On v11 wr) (fun i _ => n2 - (intOf i).toNat)
      case atStart => exact ⟨0, by omega, rfl, On.refl _⟩
      case round =>
        obtain ⟨j, hj, rfl, hon⟩ := hrel
        by_cases hlt : j < n2
        · obtain ⟨ad, rfl, hb9, PA, m, cA, hc0, hc1, hc2, hRA⟩ := (HY4.out.on hon).at_ j hlt
          rw [raw_get] at hc0 hc1
          have hkk : 1 < n2 → (y.nd j).kind ≠ 0 := fun e => HN.out.2 e j hlt
          obtain ⟨⟨kd, kq, ar⟩, hxx⟩ : ∃ z, y.nd j = z := ⟨_, rfl⟩
          rw [hxx] at hc0 hc1 hkk
          replace hc0 := (show _ = some (Value.int .i64 (kd : Int)) from hc0)
          replace hc1 := (show _ = some (Value.int .i64 (kq : Int)) from hc1)
          simp only at hkk
          clear hxx hRA
          have Z0 : Own (wr.alloc (.cells #[.int .i64 0, .int .i64 0, .slice none 0 0] 41)) wr.heap.size 41 #[.int .i64 0, .int .i64 0, .slice none 0 0] := Own.new _ _ _
          obtain ⟨k0, k1, k2⟩ := own3 Z0
          have f0 := Z0.frozen 0
          have f1 := Z0.frozen 1
          have f2 := Z0.frozen 2
          go_upto_region 29 with fail
          clear k0 k1 k2 f0 f1 f2 Z0
          have OZ := Own.new wr 41 #[.int .i64 (kd : Int), .int .i64 (kq : Int), .slice PA m cA]
          have PZ := (On.refl wr).alloc (.cells #[.int .i64 (kd : Int), .int .i64 (kq : Int), .slice PA m cA] 41)
          obtain ⟨wz, hwz⟩ : ∃ z, wr.alloc (.cells #[.int .i64 (kd : Int), .int .i64 (kq : Int), .slice PA m cA] 41) = z := ⟨_, rfl⟩
          rw [hwz] at OZ PZ ⊢
          clear hwz
          obtain ⟨bz, hbz⟩ : ∃ z, wr.heap.size = z := ⟨_, rfl⟩
          rw [hbz] at OZ ⊢
          clear hbz
          have Pz := Lib.hid (hon.trans PZ)
          obtain ⟨m0, m1, m2⟩ := own3 OZ
          obtain ⟨y0, y1, y2⟩ := own3 (HY.out.on Pz.out)
          clear OZ PZ hc0 hc1 hc2
          by_cases hk0 : kd = 0
          · have hn1 : ¬ (n2 : Int) > 1 := by
              intro e
              exact hkk (by omega) hk0
            subst hk0
            clear hkk
            go_wp2
            go_roundw
            case rel => exact ⟨j + 1, by omega, by go_num, Pz.out⟩
            case measure => simp [intOf] <;> omega
          · have hk0i : ((kd : Int) == 0) = false := beq_eq_false_iff_ne.2 (by omega)
            clear hkk
            go_wp2
            go_roundw
            case rel => exact ⟨j + 1, by omega, by go_num, Pz.out⟩
            case measure => simp [intOf] <;> omega
        · obtain rfl : j = n2 := by omega
          go_wp2
          go_ret
          exact ⟨rfl, HW.out.trans hon⟩
set_option maxHeartbeats 8000000 in
theorem npushed_dark (w : World) (vars top : Int) (A : Option Addr) (n c : Nat) (xs : List Nd) (h : RdN w A n c xs) (hv : I64 vars) (ht : I64 top) (hl : lightB xs = false) (set : Int) :
    Calls Try.prog 4 #[.agg #[.int .i64 vars, .slice A n c, .int .i64 top], .int .i64 set] w fun e w' => e = .returned (.bool true) ∧ On w w' := by
  obtain ⟨q, hq⟩ : ∃ q, w.heap.size = q := ⟨_, rfl⟩
  obtain ⟨w0, hw0⟩ : ∃ w0, w.alloc (.cells #[.int .i64 vars, .slice A n c, .int .i64 top] 24) = w0 := ⟨_, rfl⟩
  have O0 : Own w0 q 24 #[.int .i64 vars, .slice A n c, .int .i64 top] := by rw [← hw0, ← hq]; exact (Own.new _ _ _)
  have P0 : On w w0 := by rw [← hw0]; exact ((On.refl w).alloc _)
  have cAw := fun W => awakeN_any W
  have cL := fun W (R : RdN W A n c xs) => light_any W vars top A n c xs R
  have cK := fun W (R : RdN W A n c xs) => check_any W vars top A n c xs R hv ht
  rw [hl] at cL
  have EC := Lib.hid (And.intro cAw (And.intro cL cK))
  have HW := Lib.hid P0
  have HO := Lib.hid O0
  have HR := Lib.hid (h.on P0)
  clear P0 O0 h cAw cL cK hl hv ht
  go_enter Try.func4, Try.ntmps4
  subst hq
  have hQ := EC.out.1 w0
  go_wp2_with fail
  refine hQ.mono ?_
  rintro e v1 ⟨rfl, P1⟩
  clear hQ
  replace HW := Lib.hid (HW.out.trans P1)
  replace HO := Lib.hid (HO.out.on P1)
  replace HR := Lib.hid (HR.out.on P1)
  clear P1
  obtain ⟨HOc0, HOc1, HOc2⟩ := own3 HO.out
  have hQ := EC.out.2.1 v1 HR.out
  go_wp2_with fail
  refine hQ.mono ?_
  rintro e v2 ⟨rfl, P2⟩
  clear hQ
  clear HOc0 HOc1 HOc2
  replace HW := Lib.hid (HW.out.trans P2)
  replace HO := Lib.hid (HO.out.on P2)
  replace HR := Lib.hid (HR.out.on P2)
  clear P2
  have hQ := EC.out.1 v2
  go_wp2_with fail
  refine hQ.mono ?_
  rintro e v3 ⟨rfl, P3⟩
  clear hQ
  replace HW := Lib.hid (HW.out.trans P3)
  replace HO := Lib.hid (HO.out.on P3)
  replace HR := Lib.hid (HR.out.on P3)
  clear P3
  go_wp2
  go_ret
  exact ⟨rfl, HW.out⟩
set_option maxHeartbeats 8000000 in
theorem npushed_bad (w : World) (vars top : Int) (A : Option Addr) (n c : Nat) (xs : List Nd) (h : RdN w A n c xs) (hv : I64 vars) (ht : I64 top) (hl : lightB xs = true) (hc : chk vars xs top ≠ 0) (set : Int) :
    Calls Try.prog 4 #[.agg #[.int .i64 vars, .slice A n c, .int .i64 top], .int .i64 set] w fun e w' => e = .returned (.bool true) ∧ On w w' := by
  obtain ⟨q, hq⟩ : ∃ q, w.heap.size = q := ⟨_, rfl⟩
  obtain ⟨w0, hw0⟩ : ∃ w0, w.alloc (.cells #[.int .i64 vars, .slice A n c, .int .i64 top] 24) = w0 := ⟨_, rfl⟩
  have O0 : Own w0 q 24 #[.int .i64 vars, .slice A n c, .int .i64 top] := by rw [← hw0, ← hq]; exact (Own.new _ _ _)
  have P0 : On w w0 := by rw [← hw0]; exact ((On.refl w).alloc _)
  have cAw := fun W => awakeN_any W
  have cL := fun W (R : RdN W A n c xs) => light_any W vars top A n c xs R
  have cK := fun W (R : RdN W A n c xs) => check_any W vars top A n c xs R hv ht
  rw [hl] at cL
  obtain ⟨er, her⟩ : ∃ er, chk vars xs top = er := ⟨_, rfl⟩
  rw [her] at cK hc
  rw [errV_pos er hc] at cK
  clear her hc
  have EC := Lib.hid (And.intro cAw (And.intro cL cK))
  have HW := Lib.hid P0
  have HO := Lib.hid O0
  have HR := Lib.hid (h.on P0)
  clear P0 O0 h cAw cL cK hl hv ht
  go_enter Try.func4, Try.ntmps4
  subst hq
  have hQ := EC.out.1 w0
  go_wp2_with fail
  refine hQ.mono ?_
  rintro e v1 ⟨rfl, P1⟩
  clear hQ
  replace HW := Lib.hid (HW.out.trans P1)
  replace HO := Lib.hid (HO.out.on P1)
  replace HR := Lib.hid (HR.out.on P1)
  clear P1
  obtain ⟨HOc0, HOc1, HOc2⟩ := own3 HO.out
  have hQ := EC.out.2.1 v1 HR.out
  go_wp2_with fail
  refine hQ.mono ?_
  rintro e v2 ⟨rfl, P2⟩
  clear hQ
  clear HOc0 HOc1 HOc2
  replace HW := Lib.hid (HW.out.trans P2)
  replace HO := Lib.hid (HO.out.on P2)
  replace HR := Lib.hid (HR.out.on P2)
  clear P2
  obtain ⟨HOc0, HOc1, HOc2⟩ := own3 HO.out
  have hQ := EC.out.2.2 v2 HR.out
  go_wp2_with fail
  refine hQ.mono ?_
  rintro e v3 ⟨rfl, P3⟩
  clear hQ
  clear HOc0 HOc1 HOc2
  replace HW := Lib.hid (HW.out.trans P3)
  replace HO := Lib.hid (HO.out.on P3)
  replace HR := Lib.hid (HR.out.on P3)
  clear P3
  have hQ := EC.out.1 v3
  go_wp2_with fail
  refine hQ.mono ?_
  rintro e v4 ⟨rfl, P4⟩
  clear hQ
  replace HW := Lib.hid (HW.out.trans P4)
  replace HO := Lib.hid (HO.out.on P4)
  replace HR := Lib.hid (HR.out.on P4)
  clear P4
  go_wp2
  go_ret
  exact ⟨rfl, HW.out⟩
theorem npushedL_any (w : World) (vars top : Int) (A : Option Addr) (n c : Nat) (xs : List Nd) (h : RdN w A n c xs) (hv : I64 vars) (ht : I64 top) (set : Int) :
    Calls Try.prog 4 #[.agg #[.int .i64 vars, .slice A n c, .int .i64 top], .int .i64 set] w fun e w' => e = .returned (.bool true) ∧ On w w' := by
  cases hl : lightB xs with
  | false => exact npushed_dark w vars top A n c xs h hv ht hl set
  | true =>
    by_cases hc : chk vars xs top = 0
    · obtain ⟨f, hf, rfl, rfl, rfl⟩ := chk_zero hc
      exact npushed_ok w f hf A n c h hl set
    · exact npushed_bad w vars top A n c xs h hv ht hl hc set
end Go.Proofs.Ytmkogcaafkobaaa.Fm
