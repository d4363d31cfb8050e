/-
  CubeKeeps.
-/
import Derived.Test.YthamjboppnlpdaaCk
import Derived.Test.YthamjboppnlpdaaDr
namespace Go.Proofs.Ythamjboppnlpdaa.Cu
open Go.RowKit Go.Proofs.Ythamjboppnlpdaa.Sb
set_option linter.unusedVariables false
set_option maxRecDepth 100000
set_option maxHeartbeats 16000000 in
theorem keeps_off (w : World) (A : Option Addr) (n c : Nat) (xs : List Cz) (s : Int) (h : RdC w A n c xs) (hv : ¬ (n ≤ 12 ∧ chkL xs = 0)) :
    Calls Try.prog 8 #[.slice A n c, .int .i64 s] w fun e w' => e = .returned (.bool true) ∧ On w w' := by
  have hcap := h.cap
  have hmax := h.max
  have cV := fun W (R : RdC W A n c xs) => valid12_any W A n c xs R
  rw [decide_eq_false hv] at cV
  have HC := Lib.hid cV
  clear cV hv
  have HW := Lib.hid (On.refl w)
  have HR := Lib.hid h
  clear h
  go_enter Try.func8, Try.ntmps8
  have hQ := awake_any w
  go_wp2_with fail
  refine hQ.mono ?_
  rintro e v1 ⟨rfl, P1⟩
  clear hQ
  replace HW := Lib.hid (HW.out.trans P1)
  replace HR := Lib.hid (HR.out.on P1)
  clear P1
  have hQ := HC.out v1 HR.out
  go_wp2_with fail
  refine hQ.mono ?_
  rintro e v2 ⟨rfl, P2⟩
  clear hQ
  replace HW := Lib.hid (HW.out.trans P2)
  replace HR := Lib.hid (HR.out.on P2)
  clear P2
  have hQ := awake_any v2
  go_wp2_with fail
  refine hQ.mono ?_
  rintro e v3 ⟨rfl, P3⟩
  clear hQ
  replace HW := Lib.hid (HW.out.trans P3)
  replace HR := Lib.hid (HR.out.on P3)
  clear P3
  go_wp2
  go_ret
  exact ⟨rfl, HW.out⟩
set_option maxHeartbeats 16000000 in
theorem keeps_far (w : World) (A : Option Addr) (n c : Nat) (l : List Cb) (s : Int) (h : RdC w A n c (zl l)) (hn : n ≤ 12) (ho : ∀ x ∈ l, OkC x) (hm : maskZ s = false) :
    Calls Try.prog 8 #[.slice A n c, .int .i64 s] w fun e w' => e = .returned (.bool true) ∧ On w w' := by
  have hcap := h.cap
  have hmax := h.max
  have cV := fun W (R : RdC W A n c (zl l)) => valid12_any W A n c (zl l) R
  rw [decide_eq_true ⟨hn, chkL_ok ho⟩] at cV
  have cX := fun W => rmask_any W s
  rw [hm] at cX
  have HC := Lib.hid (And.intro cV cX)
  clear cV cX hm ho
  have HW := Lib.hid (On.refl w)
  have HR := Lib.hid h
  clear h
  go_enter Try.func8, Try.ntmps8
  have hQ := awake_any w
  go_wp2_with fail
  refine hQ.mono ?_
  rintro e v1 ⟨rfl, P1⟩
  clear hQ
  replace HW := Lib.hid (HW.out.trans P1)
  replace HR := Lib.hid (HR.out.on P1)
  clear P1
  have hQ := HC.out.1 v1 HR.out
  go_wp2_with fail
  refine hQ.mono ?_
  rintro e v2 ⟨rfl, P2⟩
  clear hQ
  replace HW := Lib.hid (HW.out.trans P2)
  replace HR := Lib.hid (HR.out.on P2)
  clear P2
  have hQ := HC.out.2 v2
  go_wp2_with fail
  refine hQ.mono ?_
  rintro e v3 ⟨rfl, rfl⟩
  clear hQ
  have hQ := awake_any v2
  go_wp2_with fail
  refine hQ.mono ?_
  rintro e v4 ⟨rfl, P4⟩
  clear hQ
  replace HW := Lib.hid (HW.out.trans P4)
  replace HR := Lib.hid (HR.out.on P4)
  clear P4
  go_wp2
  go_ret
  exact ⟨rfl, HW.out⟩
set_option maxHeartbeats 16000000 in
theorem keeps_zero (w : World) (A : Option Addr) (n c : Nat) (l : List Cb) (s : Nat) (h : RdC w A n c (zl l)) (hn : n ≤ 12) (ho : ∀ x ∈ l, OkC x) (hs : s < 16777216) (hq0 : inL l s = 0) :
    Calls Try.prog 8 #[.slice A n c, .int .i64 (s : Int)] w fun e w' => e = .returned (.bool true) ∧ On w w' := by
  have hcap := h.cap
  have hmax := h.max
  have cV := fun W (R : RdC W A n c (zl l)) => valid12_any W A n c (zl l) R
  rw [decide_eq_true ⟨hn, chkL_ok ho⟩] at cV
  have cX := fun W => rmask_any W (s : Int)
  rw [maskZ_of hs] at cX
  have cP := fun W (R : RdC W A n c (zl l)) => coverP_ok W A n c l R ho (by omega)
  have cA := fun W (R : RdC W A n c (zl l)) => absorb_ok W A n c l R ho (by omega)
  have hnl : l.length = n := by have := h.len; rwa [zl_len] at this
  have hal : (absL l).length ≤ 12 := by
    have := absF_len (sortL l)
    rw [sortL_len] at this
    unfold absL
    omega
  have hao : ∀ x ∈ absL l, OkC x := fun x hx => ho x ((sortL_perm l).mem_iff.1 (absF_sub hx))
  have hpq := abs_in l s
  have cI := fun W (R : RdC W A n c (zl l)) => rin_ok W A n c l R ho s hs (by omega)
  have cJ := fun W A' m (R : RdC W A' (absL l).length m (zl (absL l))) => rin_ok W A' (absL l).length m (absL l) R hao s hs (by omega)
  have hvo := fun cv h => cover_ok (cv := cv) ho h
  have hvd := fun cv h => cover_disj (cv := cv) ho h
  have hvm := fun cv h => cover_min (cv := cv) ho h s
  obtain ⟨al, hall⟩ : ∃ z, absL l = z := ⟨_, rfl⟩
  rw [hall] at cA cJ hpq hal
  obtain ⟨p, hp⟩ : ∃ z, inL al s = z := ⟨_, rfl⟩
  rw [hp] at cJ hpq
  obtain ⟨q, hq⟩ : ∃ z, inL l s = z := ⟨_, rfl⟩
  rw [hq] at cI hpq hvm hq0
  subst hq0
  have hp0 : p = 0 := by omega
  subst hp0
  have HC := Lib.hid (And.intro cV (And.intro cX (And.intro cP (And.intro cA (And.intro cI cJ)))))
  have HV := Lib.hid (And.intro hvo (And.intro hvd (And.intro hvm hs)))
  clear cV cX cP cA cI cJ hvo hvd hvm hao hall hp hq hpq ho hs hnl
  have HW := Lib.hid (On.refl w)
  have HR := Lib.hid h
  clear h
  go_enter Try.func8, Try.ntmps8
  have hQ := awake_any w
  go_wp2_with fail
  refine hQ.mono ?_
  rintro e v1 ⟨rfl, P1⟩
  clear hQ
  replace HW := Lib.hid (HW.out.trans P1)
  replace HR := Lib.hid (HR.out.on P1)
  clear P1
  have hQ := HC.out.1 v1 HR.out
  go_wp2_with fail
  refine hQ.mono ?_
  rintro e v2 ⟨rfl, P2⟩
  clear hQ
  replace HW := Lib.hid (HW.out.trans P2)
  replace HR := Lib.hid (HR.out.on P2)
  clear P2
  have hQ := HC.out.2.1 v2
  go_wp2_with fail
  refine hQ.mono ?_
  rintro e v3 ⟨rfl, rfl⟩
  clear hQ
  have hQ := HC.out.2.2.1 v2 HR.out
  go_wp2_with fail
  refine hQ.mono ?_
  rintro e v4 ⟨hM, P4⟩
  clear hQ
  replace HW := Lib.hid (HW.out.trans P4)
  replace HR := Lib.hid (HR.out.on P4)
  clear P4
  rcases hM with ⟨cv, Av, mv, hcov, rfl, Rv⟩ | ⟨hcov, rfl⟩
  rotate_left
  · rw [errV_pos 4 (by decide)]
    have hQ := HC.out.2.2.2.1 v4 HR.out
    go_wp2_with fail
    refine hQ.mono ?_
    rintro e v5 ⟨Aa, ma, rfl, Ra, P5⟩
    clear hQ
    replace HW := Lib.hid (HW.out.trans P5)
    replace HR := Lib.hid (HR.out.on P5)
    have HA := Lib.hid (Ra)
    clear P5
    have hcapa := HA.out.cap
    have hmaxa := HA.out.max
    clear Ra
    have hQ := HC.out.2.2.2.2.2 v5 _ _ HA.out
    go_wp2_with fail
    refine hQ.mono ?_
    rintro e v6 ⟨rfl, P6⟩
    clear hQ
    replace HW := Lib.hid (HW.out.trans P6)
    replace HR := Lib.hid (HR.out.on P6)
    replace HA := Lib.hid (HA.out.on P6)
    clear P6
    have hQ := HC.out.2.2.2.2.1 v6 HR.out
    go_wp2_with fail
    refine hQ.mono ?_
    rintro e v7 ⟨rfl, P7⟩
    clear hQ
    replace HW := Lib.hid (HW.out.trans P7)
    replace HR := Lib.hid (HR.out.on P7)
    replace HA := Lib.hid (HA.out.on P7)
    clear P7
    have hI := is4_any v7
    rw [errV_pos 4 (by decide)] at hI
    go_wp2_with fail
    refine hI.mono ?_
    rintro e vz ⟨rfl, rfl⟩
    go_wp2
    go_ret
    exact ⟨rfl, HW.out⟩
  have hcap2 := Rv.cap
  have hmax2 := Rv.max
  have HD := Lib.hid Rv
  clear Rv
  have hvl := covTo_len _ cv hcov
  have cD : ∀ W, RdC W Av cv.length mv (zl cv) → Calls Try.prog 28 #[.slice Av cv.length mv] W fun e w' => e = .returned (.tuple #[.bool true, .nilIface]) ∧ On W w' := fun W R => (disjoint_ok W Av cv.length mv cv R (HV.out.1 cv hcov) hvl).mono fun e w' ⟨⟨b, h1, h2⟩, h3⟩ => ⟨by rw [h1, h2.2 (HV.out.2.1 cv hcov)], h3⟩
  have cN := fun W (R : RdC W Av cv.length mv (zl cv)) => rin_ok W Av cv.length mv cv R (HV.out.1 cv hcov) s HV.out.2.2.2 (by omega)
  rw [HV.out.2.2.1 cv hcov, show min 0 1 = 0 by omega] at cN
  have HK := Lib.hid (And.intro cD cN)
  clear cD cN hcov
  have hQ := HC.out.2.2.2.1 v4 HR.out
  go_wp2_with fail
  refine hQ.mono ?_
  rintro e v5 ⟨Aa, ma, rfl, Ra, P5⟩
  clear hQ
  replace HW := Lib.hid (HW.out.trans P5)
  replace HR := Lib.hid (HR.out.on P5)
  replace HD := Lib.hid (HD.out.on P5)
  have HA := Lib.hid (Ra)
  clear P5
  have hcapa := HA.out.cap
  have hmaxa := HA.out.max
  clear Ra
  have hQ := HC.out.2.2.2.2.2 v5 _ _ HA.out
  go_wp2_with fail
  refine hQ.mono ?_
  rintro e v6 ⟨rfl, P6⟩
  clear hQ
  replace HW := Lib.hid (HW.out.trans P6)
  replace HR := Lib.hid (HR.out.on P6)
  replace HD := Lib.hid (HD.out.on P6)
  replace HA := Lib.hid (HA.out.on P6)
  clear P6
  have hQ := HC.out.2.2.2.2.1 v6 HR.out
  go_wp2_with fail
  refine hQ.mono ?_
  rintro e v7 ⟨rfl, P7⟩
  clear hQ
  replace HW := Lib.hid (HW.out.trans P7)
  replace HR := Lib.hid (HR.out.on P7)
  replace HD := Lib.hid (HD.out.on P7)
  replace HA := Lib.hid (HA.out.on P7)
  clear P7
  have hQ := HK.out.1 v7 HD.out
  go_wp2_with fail
  refine hQ.mono ?_
  rintro e v8 ⟨rfl, P8⟩
  clear hQ
  replace HW := Lib.hid (HW.out.trans P8)
  replace HR := Lib.hid (HR.out.on P8)
  replace HD := Lib.hid (HD.out.on P8)
  replace HA := Lib.hid (HA.out.on P8)
  clear P8
  have hQ := HK.out.2 v8 HD.out
  go_wp2_with fail
  refine hQ.mono ?_
  rintro e v9 ⟨rfl, P9⟩
  clear hQ
  replace HW := Lib.hid (HW.out.trans P9)
  replace HR := Lib.hid (HR.out.on P9)
  replace HD := Lib.hid (HD.out.on P9)
  replace HA := Lib.hid (HA.out.on P9)
  clear P9
  have hQ := HC.out.2.2.2.2.1 v9 HR.out
  go_wp2_with fail
  refine hQ.mono ?_
  rintro e v10 ⟨rfl, P10⟩
  clear hQ
  replace HW := Lib.hid (HW.out.trans P10)
  replace HR := Lib.hid (HR.out.on P10)
  replace HD := Lib.hid (HD.out.on P10)
  replace HA := Lib.hid (HA.out.on P10)
  clear P10
  go_wp2
  go_ret
  exact ⟨by first | rfl | simp, HW.out⟩
set_option maxHeartbeats 16000000 in
theorem keeps_pos (w : World) (A : Option Addr) (n c : Nat) (l : List Cb) (s : Nat) (h : RdC w A n c (zl l)) (hn : n ≤ 12) (ho : ∀ x ∈ l, OkC x) (hs : s < 16777216) (hq0 : 0 < inL l s) :
    Calls Try.prog 8 #[.slice A n c, .int .i64 (s : Int)] w fun e w' => e = .returned (.bool true) ∧ On w w' := by
  have hcap := h.cap
  have hmax := h.max
  have cV := fun W (R : RdC W A n c (zl l)) => valid12_any W A n c (zl l) R
  rw [decide_eq_true ⟨hn, chkL_ok ho⟩] at cV
  have cX := fun W => rmask_any W (s : Int)
  rw [maskZ_of hs] at cX
  have cP := fun W (R : RdC W A n c (zl l)) => coverP_ok W A n c l R ho (by omega)
  have cA := fun W (R : RdC W A n c (zl l)) => absorb_ok W A n c l R ho (by omega)
  have hnl : l.length = n := by have := h.len; rwa [zl_len] at this
  have hal : (absL l).length ≤ 12 := by
    have := absF_len (sortL l)
    rw [sortL_len] at this
    unfold absL
    omega
  have hao : ∀ x ∈ absL l, OkC x := fun x hx => ho x ((sortL_perm l).mem_iff.1 (absF_sub hx))
  have hpq := abs_in l s
  have cI := fun W (R : RdC W A n c (zl l)) => rin_ok W A n c l R ho s hs (by omega)
  have cJ := fun W A' m (R : RdC W A' (absL l).length m (zl (absL l))) => rin_ok W A' (absL l).length m (absL l) R hao s hs (by omega)
  have hvo := fun cv h => cover_ok (cv := cv) ho h
  have hvd := fun cv h => cover_disj (cv := cv) ho h
  have hvm := fun cv h => cover_min (cv := cv) ho h s
  obtain ⟨al, hall⟩ : ∃ z, absL l = z := ⟨_, rfl⟩
  rw [hall] at cA cJ hpq hal
  obtain ⟨p, hp⟩ : ∃ z, inL al s = z := ⟨_, rfl⟩
  rw [hp] at cJ hpq
  obtain ⟨q, hq⟩ : ∃ z, inL l s = z := ⟨_, rfl⟩
  rw [hq] at cI hpq hvm hq0
  have hp0 : 0 < p := hpq.2 hq0
  have hq1 : (0 : Int) < (q : Int) := by omega
  have hmn : min (q : Int) 1 = 1 := by omega
  have HC := Lib.hid (And.intro cV (And.intro cX (And.intro cP (And.intro cA (And.intro cI cJ)))))
  have HV := Lib.hid (And.intro hvo (And.intro hvd (And.intro hvm hs)))
  clear cV cX cP cA cI cJ hvo hvd hvm hao hall hp hq hpq ho hs hnl
  have HW := Lib.hid (On.refl w)
  have HR := Lib.hid h
  clear h
  go_enter Try.func8, Try.ntmps8
  have hQ := awake_any w
  go_wp2_with fail
  refine hQ.mono ?_
  rintro e v1 ⟨rfl, P1⟩
  clear hQ
  replace HW := Lib.hid (HW.out.trans P1)
  replace HR := Lib.hid (HR.out.on P1)
  clear P1
  have hQ := HC.out.1 v1 HR.out
  go_wp2_with fail
  refine hQ.mono ?_
  rintro e v2 ⟨rfl, P2⟩
  clear hQ
  replace HW := Lib.hid (HW.out.trans P2)
  replace HR := Lib.hid (HR.out.on P2)
  clear P2
  have hQ := HC.out.2.1 v2
  go_wp2_with fail
  refine hQ.mono ?_
  rintro e v3 ⟨rfl, rfl⟩
  clear hQ
  have hQ := HC.out.2.2.1 v2 HR.out
  go_wp2_with fail
  refine hQ.mono ?_
  rintro e v4 ⟨hM, P4⟩
  clear hQ
  replace HW := Lib.hid (HW.out.trans P4)
  replace HR := Lib.hid (HR.out.on P4)
  clear P4
  rcases hM with ⟨cv, Av, mv, hcov, rfl, Rv⟩ | ⟨hcov, rfl⟩
  rotate_left
  · rw [errV_pos 4 (by decide)]
    have hQ := HC.out.2.2.2.1 v4 HR.out
    go_wp2_with fail
    refine hQ.mono ?_
    rintro e v5 ⟨Aa, ma, rfl, Ra, P5⟩
    clear hQ
    replace HW := Lib.hid (HW.out.trans P5)
    replace HR := Lib.hid (HR.out.on P5)
    have HA := Lib.hid (Ra)
    clear P5
    have hcapa := HA.out.cap
    have hmaxa := HA.out.max
    clear Ra
    have hQ := HC.out.2.2.2.2.2 v5 _ _ HA.out
    go_wp2_with fail
    refine hQ.mono ?_
    rintro e v6 ⟨rfl, P6⟩
    clear hQ
    replace HW := Lib.hid (HW.out.trans P6)
    replace HR := Lib.hid (HR.out.on P6)
    replace HA := Lib.hid (HA.out.on P6)
    clear P6
    have hQ := HC.out.2.2.2.2.1 v6 HR.out
    go_wp2_with fail
    refine hQ.mono ?_
    rintro e v7 ⟨rfl, P7⟩
    clear hQ
    replace HW := Lib.hid (HW.out.trans P7)
    replace HR := Lib.hid (HR.out.on P7)
    replace HA := Lib.hid (HA.out.on P7)
    clear P7
    have hI := is4_any v7
    rw [errV_pos 4 (by decide)] at hI
    go_wp2_with fail
    refine hI.mono ?_
    rintro e vz ⟨rfl, rfl⟩
    go_wp2
    go_ret
    exact ⟨rfl, HW.out⟩
  have hcap2 := Rv.cap
  have hmax2 := Rv.max
  have HD := Lib.hid Rv
  clear Rv
  have hvl := covTo_len _ cv hcov
  have cD : ∀ W, RdC W Av cv.length mv (zl cv) → Calls Try.prog 28 #[.slice Av cv.length mv] W fun e w' => e = .returned (.tuple #[.bool true, .nilIface]) ∧ On W w' := fun W R => (disjoint_ok W Av cv.length mv cv R (HV.out.1 cv hcov) hvl).mono fun e w' ⟨⟨b, h1, h2⟩, h3⟩ => ⟨by rw [h1, h2.2 (HV.out.2.1 cv hcov)], h3⟩
  have cN := fun W (R : RdC W Av cv.length mv (zl cv)) => rin_ok W Av cv.length mv cv R (HV.out.1 cv hcov) s HV.out.2.2.2 (by omega)
  rw [HV.out.2.2.1 cv hcov, show min q 1 = 1 by omega] at cN
  have HK := Lib.hid (And.intro cD cN)
  clear cD cN hcov
  have hQ := HC.out.2.2.2.1 v4 HR.out
  go_wp2_with fail
  refine hQ.mono ?_
  rintro e v5 ⟨Aa, ma, rfl, Ra, P5⟩
  clear hQ
  replace HW := Lib.hid (HW.out.trans P5)
  replace HR := Lib.hid (HR.out.on P5)
  replace HD := Lib.hid (HD.out.on P5)
  have HA := Lib.hid (Ra)
  clear P5
  have hcapa := HA.out.cap
  have hmaxa := HA.out.max
  clear Ra
  have hQ := HC.out.2.2.2.2.2 v5 _ _ HA.out
  go_wp2_with fail
  refine hQ.mono ?_
  rintro e v6 ⟨rfl, P6⟩
  clear hQ
  replace HW := Lib.hid (HW.out.trans P6)
  replace HR := Lib.hid (HR.out.on P6)
  replace HD := Lib.hid (HD.out.on P6)
  replace HA := Lib.hid (HA.out.on P6)
  clear P6
  have hQ := HC.out.2.2.2.2.1 v6 HR.out
  go_wp2_with fail
  refine hQ.mono ?_
  rintro e v7 ⟨rfl, P7⟩
  clear hQ
  replace HW := Lib.hid (HW.out.trans P7)
  replace HR := Lib.hid (HR.out.on P7)
  replace HD := Lib.hid (HD.out.on P7)
  replace HA := Lib.hid (HA.out.on P7)
  clear P7
  have hQ := HK.out.1 v7 HD.out
  go_wp2_with fail
  refine hQ.mono ?_
  rintro e v8 ⟨rfl, P8⟩
  clear hQ
  replace HW := Lib.hid (HW.out.trans P8)
  replace HR := Lib.hid (HR.out.on P8)
  replace HD := Lib.hid (HD.out.on P8)
  replace HA := Lib.hid (HA.out.on P8)
  clear P8
  have hQ := HK.out.2 v8 HD.out
  go_wp2_with fail
  refine hQ.mono ?_
  rintro e v9 ⟨rfl, P9⟩
  clear hQ
  replace HW := Lib.hid (HW.out.trans P9)
  replace HR := Lib.hid (HR.out.on P9)
  replace HD := Lib.hid (HD.out.on P9)
  replace HA := Lib.hid (HA.out.on P9)
  clear P9
  have hQ := HC.out.2.2.2.2.1 v9 HR.out
  go_wp2_with fail
  refine hQ.mono ?_
  rintro e v10 ⟨rfl, P10⟩
  clear hQ
  replace HW := Lib.hid (HW.out.trans P10)
  replace HR := Lib.hid (HR.out.on P10)
  replace HD := Lib.hid (HD.out.on P10)
  replace HA := Lib.hid (HA.out.on P10)
  clear P10
  go_wp2
  go_ret
  exact ⟨by first | rfl | simp [hmn], HW.out⟩
theorem ltkeeps_any (w : World) (A : Option Addr) (n c : Nat) (xs : List Cz) (h : RdC w A n c xs) (s : Int) :
    Calls Try.prog 8 #[.slice A n c, .int .i64 s] w fun e w' => e = .returned (.bool true) ∧ On w w' := by
  by_cases hv : n ≤ 12 ∧ chkL xs = 0
  · obtain ⟨l, rfl, hl⟩ := chkL_zero hv.2
    cases hm : maskZ s with
    | false => exact keeps_far w A n c l s h hv.1 hl hm
    | true =>
      obtain ⟨k, rfl, hk⟩ := maskZ_nat hm
      by_cases hq : inL l k = 0
      · exact keeps_zero w A n c l k h hv.1 hl hk hq
      · exact keeps_pos w A n c l k h hv.1 hl hk (by omega)
  · exact keeps_off w A n c xs s h hv
end Go.Proofs.Ythamjboppnlpdaa.Cu
