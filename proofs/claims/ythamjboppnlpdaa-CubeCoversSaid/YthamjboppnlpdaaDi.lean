/-
  CubeCovers.
-/
import Derived.Test.YthamjboppnlpdaaDe
import Derived.Test.YthamjboppnlpdaaDg
import Derived.Test.YthamjboppnlpdaaDh
namespace Go.Proofs.Ythamjboppnlpdaa.Cu
open Go.RowKit Go.Proofs.Ythamjboppnlpdaa.Sb
set_option linter.unusedVariables false
set_option maxRecDepth 100000
theorem rcovers_ok (w : World) (A : Option Addr) (n cc : Nat) (l : List Cb) (h : RdC w A n cc (zl l)) (hl : ∀ x ∈ l, OkC x) (hn : n ≤ 2000) (c : Cb) (hc : OkC c) :
    Calls Try.prog 38 #[.slice A n cc, cbV c] w fun e w' => e = .returned (.bool (decide (U 24 l c = 0))) ∧ On w w' :=
  rcovers_gen 24 (Nat.le_refl _) 25 c (by omega) hc (evs_lt hc) l hl (fun x hx => evs_lt (hl x hx)) w A n cc h hn
theorem rcount_ok (w : World) (A : Option Addr) (n cc : Nat) (l : List Cb) (h : RdC w A n cc (zl l)) (hl : ∀ x ∈ l, OkC x) (hn : n ≤ 2000) (v : Nat) (hv : v ≤ 24) (hf : ∀ x ∈ l, evs x < 2 ^ v) :
    Calls Try.prog 39 #[.slice A n cc, .agg #[.int .i64 0, .int .i64 0], .int .i64 (v : Int)] w fun e w' => e = .returned (.int .i64 ((2 ^ v - U v l (0, 0) : Nat) : Int)) ∧ On w w' := by
  have h1 := rcount_gen v hv 25 (0, 0) (by omega) okC_00 (by rw [show evs (0, 0) = 0 from rfl]; exact Nat.two_pow_pos v) l hl hf w A n cc h hn
  have e : v - pc (evs (0, 0)) = v := by rw [show evs (0, 0) = 0 from rfl, pc_zero, Nat.sub_zero]
  rw [e] at h1
  obtain ⟨r, hr⟩ : ∃ z, 2 ^ v - U v l (0, 0) = z := ⟨_, rfl⟩
  rw [hr] at h1 ⊢
  exact h1
set_option maxHeartbeats 16000000 in
theorem covers_skip (w : World) (A : Option Addr) (n cc : Nat) (xs : List Cz) (h : RdC w A n cc xs) (c1 c2 v : Int) (h1 : 12 < n) (h2 : n ≤ 1024) :
    Calls Try.prog 6 #[.slice A n cc, .agg #[.int .i64 c1, .int .i64 c2], .int .i64 v] w fun e w' => e = .returned (.bool true) ∧ On w w' := by
  have hcap := h.cap
  have hmax := h.max
  obtain ⟨q, hq⟩ : ∃ q, w.heap.size = q := ⟨_, rfl⟩
  obtain ⟨w0, hw0⟩ : ∃ w0, w.alloc (.cells #[.int .i64 c1, .int .i64 c2] 23) = w0 := ⟨_, rfl⟩
  obtain ⟨O0, P0⟩ := box1 hq hw0
  have HW := Lib.hid P0
  have HA := Lib.hid O0
  have HR := Lib.hid (h.on P0)
  clear h P0 O0
  go_enter Try.func6, Try.ntmps6
  subst hq
  have hQ := awake_any w0
  go_wp2_with fail
  refine hQ.mono ?_
  rintro e v1 ⟨rfl, P1⟩
  clear hQ
  replace HW := Lib.hid (HW.out.trans P1)
  replace HA := Lib.hid (HA.out.on P1)
  replace HR := Lib.hid (HR.out.on P1)
  clear P1
  have hQ := awake_any v1
  go_wp2_with fail
  refine hQ.mono ?_
  rintro e v2 ⟨rfl, P2⟩
  clear hQ
  replace HW := Lib.hid (HW.out.trans P2)
  replace HA := Lib.hid (HA.out.on P2)
  replace HR := Lib.hid (HR.out.on P2)
  clear P2
  go_wp2
  go_ret
  exact ⟨rfl, HW.out⟩
set_option maxHeartbeats 16000000 in
theorem covers_list_big (w : World) (A : Option Addr) (n cc : Nat) (xs : List Cz) (h : RdC w A n cc xs) (c1 c2 v : Int) (h1 : 1024 < n) (hx : chkB n xs ≠ 0) :
    Calls Try.prog 6 #[.slice A n cc, .agg #[.int .i64 c1, .int .i64 c2], .int .i64 v] w fun e w' => e = .returned (.bool true) ∧ On w w' := by
  have hcap := h.cap
  have hmax := h.max
  obtain ⟨q, hq⟩ : ∃ q, w.heap.size = q := ⟨_, rfl⟩
  obtain ⟨w0, hw0⟩ : ∃ w0, w.alloc (.cells #[.int .i64 c1, .int .i64 c2] 23) = w0 := ⟨_, rfl⟩
  obtain ⟨O0, P0⟩ := box1 hq hw0
  have c1' := fun W (R : RdC W A n cc xs) => covers_bad1 W A n cc xs R c1 c2 hx
  have c2' := fun W (R : RdC W A n cc xs) => count_bad1 W A n cc xs R v hx
  have c3' := fun W (R : RdC W A n cc xs) => rchecklist_any W A n cc xs R
  obtain ⟨x, hxx⟩ : ∃ z, chkB n xs = z := ⟨_, rfl⟩
  rw [hxx] at c1' c2' c3' hx
  have c4' := fun W => num_any W x
  rw [errV_pos _ hx] at c1' c2' c4'
  have hxi : ¬ (x : Int) = 0 := by omega
  have HC := Lib.hid (And.intro c1' (And.intro c2' (And.intro c3' c4')))
  clear c1' c2' c3' c4' hxx hx
  have HW := Lib.hid P0
  have HA := Lib.hid O0
  have HR := Lib.hid (h.on P0)
  clear h P0 O0
  go_enter Try.func6, Try.ntmps6
  subst hq
  have hQ := awake_any w0
  go_wp2_with fail
  refine hQ.mono ?_
  rintro e v1 ⟨rfl, P1⟩
  clear hQ
  replace HW := Lib.hid (HW.out.trans P1)
  replace HA := Lib.hid (HA.out.on P1)
  replace HR := Lib.hid (HR.out.on P1)
  clear P1
  obtain ⟨HAc0, HAc1⟩ := own2 HA.out
  have hQ := HC.out.1 v1 HR.out
  go_wp2_with fail
  refine hQ.mono ?_
  rintro e v2 ⟨rfl, P2⟩
  clear hQ
  clear HAc0 HAc1
  replace HW := Lib.hid (HW.out.trans P2)
  replace HA := Lib.hid (HA.out.on P2)
  replace HR := Lib.hid (HR.out.on P2)
  clear P2
  have hQ := HC.out.2.1 v2 HR.out
  go_wp2_with fail
  refine hQ.mono ?_
  rintro e v3 ⟨rfl, P3⟩
  clear hQ
  replace HW := Lib.hid (HW.out.trans P3)
  replace HA := Lib.hid (HA.out.on P3)
  replace HR := Lib.hid (HR.out.on P3)
  clear P3
  have hQ := HC.out.2.2.1 v3 HR.out
  go_wp2_with fail
  refine hQ.mono ?_
  rintro e v4 ⟨rfl, P4⟩
  clear hQ
  replace HW := Lib.hid (HW.out.trans P4)
  replace HA := Lib.hid (HA.out.on P4)
  replace HR := Lib.hid (HR.out.on P4)
  clear P4
  have hQ := HC.out.2.2.2 v4
  go_wp2_with fail
  refine hQ.mono ?_
  rintro e v5 ⟨rfl, rfl⟩
  clear hQ
  have hQ := HC.out.2.2.2 v4
  go_wp2_with fail
  refine hQ.mono ?_
  rintro e v6 ⟨rfl, rfl⟩
  clear hQ
  go_wp2
  go_ret
  exact ⟨by simp, HW.out⟩
set_option maxHeartbeats 16000000 in
theorem covers_list_small (w : World) (A : Option Addr) (n cc : Nat) (xs : List Cz) (h : RdC w A n cc xs) (c1 c2 v : Int) (h1 : n ≤ 12) (hx : chkB n xs ≠ 0) :
    Calls Try.prog 6 #[.slice A n cc, .agg #[.int .i64 c1, .int .i64 c2], .int .i64 v] w fun e w' => e = .returned (.bool true) ∧ On w w' := by
  have hcap := h.cap
  have hmax := h.max
  obtain ⟨q, hq⟩ : ∃ q, w.heap.size = q := ⟨_, rfl⟩
  obtain ⟨w0, hw0⟩ : ∃ w0, w.alloc (.cells #[.int .i64 c1, .int .i64 c2] 23) = w0 := ⟨_, rfl⟩
  obtain ⟨O0, P0⟩ := box1 hq hw0
  have c1' := fun W (R : RdC W A n cc xs) => covers_bad1 W A n cc xs R c1 c2 hx
  have c2' := fun W (R : RdC W A n cc xs) => count_bad1 W A n cc xs R v hx
  have c3' := fun W (R : RdC W A n cc xs) => rchecklist_any W A n cc xs R
  obtain ⟨x, hxx⟩ : ∃ z, chkB n xs = z := ⟨_, rfl⟩
  rw [hxx] at c1' c2' c3' hx
  have c4' := fun W => num_any W x
  rw [errV_pos _ hx] at c1' c2' c4'
  have hxi : ¬ (x : Int) = 0 := by omega
  have HC := Lib.hid (And.intro c1' (And.intro c2' (And.intro c3' c4')))
  clear c1' c2' c3' c4' hxx hx
  have HW := Lib.hid P0
  have HA := Lib.hid O0
  have HR := Lib.hid (h.on P0)
  clear h P0 O0
  go_enter Try.func6, Try.ntmps6
  subst hq
  have hQ := awake_any w0
  go_wp2_with fail
  refine hQ.mono ?_
  rintro e v1 ⟨rfl, P1⟩
  clear hQ
  replace HW := Lib.hid (HW.out.trans P1)
  replace HA := Lib.hid (HA.out.on P1)
  replace HR := Lib.hid (HR.out.on P1)
  clear P1
  obtain ⟨HAc0, HAc1⟩ := own2 HA.out
  have hQ := HC.out.1 v1 HR.out
  go_wp2_with fail
  refine hQ.mono ?_
  rintro e v2 ⟨rfl, P2⟩
  clear hQ
  clear HAc0 HAc1
  replace HW := Lib.hid (HW.out.trans P2)
  replace HA := Lib.hid (HA.out.on P2)
  replace HR := Lib.hid (HR.out.on P2)
  clear P2
  have hQ := HC.out.2.1 v2 HR.out
  go_wp2_with fail
  refine hQ.mono ?_
  rintro e v3 ⟨rfl, P3⟩
  clear hQ
  replace HW := Lib.hid (HW.out.trans P3)
  replace HA := Lib.hid (HA.out.on P3)
  replace HR := Lib.hid (HR.out.on P3)
  clear P3
  have hQ := HC.out.2.2.1 v3 HR.out
  go_wp2_with fail
  refine hQ.mono ?_
  rintro e v4 ⟨rfl, P4⟩
  clear hQ
  replace HW := Lib.hid (HW.out.trans P4)
  replace HA := Lib.hid (HA.out.on P4)
  replace HR := Lib.hid (HR.out.on P4)
  clear P4
  have hQ := HC.out.2.2.2 v4
  go_wp2_with fail
  refine hQ.mono ?_
  rintro e v5 ⟨rfl, rfl⟩
  clear hQ
  have hQ := HC.out.2.2.2 v4
  go_wp2_with fail
  refine hQ.mono ?_
  rintro e v6 ⟨rfl, rfl⟩
  clear hQ
  go_wp2
  go_ret
  exact ⟨by simp, HW.out⟩
set_option maxHeartbeats 16000000 in
theorem coversL_11 (w : World) (A : Option Addr) (n cc : Nat) (l : List Cb) (h : RdC w A n cc (zl l)) (hl : ∀ x ∈ l, OkC x) (h1 : n ≤ 12) (c1 c2 : Nat) (hc : OkC (c1, c2)) (v : Nat) (hv : v ≤ 24) (hf : ∀ x ∈ l, evs x < 2 ^ v) :
    Calls Try.prog 6 #[.slice A n cc, .agg #[.int .i64 (c1 : Int), .int .i64 (c2 : Int)], .int .i64 (v : Int)] w fun e w' => e = .returned (.bool true) ∧ On w w' := by
  have hcap := h.cap
  have hmax := h.max
  obtain ⟨q, hq⟩ : ∃ q, w.heap.size = q := ⟨_, rfl⟩
  obtain ⟨w0, hw0⟩ : ∃ w0, w.alloc (.cells #[.int .i64 (c1 : Int), .int .i64 (c2 : Int)] 23) = w0 := ⟨_, rfl⟩
  obtain ⟨O0, P0⟩ := box1 hq hw0
  have c3' := fun W (R : RdC W A n cc (zl l)) => rchecklist_any W A n cc (zl l) R
  have hb0 : chkB n (zl l) = 0 := chkB_ok (by omega) hl
  rw [hb0] at c3'
  have c5' := fun W (R : RdC W A n cc (zl l)) => rwithin_ok W A n cc l R hl (by omega) (v : Int)
  have c1' := fun W (R : RdC W A n cc (zl l)) => covers_ok W A n cc l R hl (by omega) (c1, c2) hc
  have c6' := fun W (R : RdC W A n cc (zl l)) => rcovers_ok W A n cc l R hl (by omega) (c1, c2) hc
  have c4' := fun W => rcheck_any W ((c1 : Int), (c2 : Int))
  have hcz := chkC_ok hc
  unfold zc at hcz
  rw [hcz] at c4'
  clear hcz
  obtain ⟨b1, hb1⟩ : ∃ z, decide (U 24 l (c1, c2) = 0) = z := ⟨_, rfl⟩
  rw [hb1] at c1' c6'
  unfold cbV at c1' c6'
  unfold czV at c4'
  simp only at c1' c4' c6'
  have c2' := fun W (R : RdC W A n cc (zl l)) => count_ok W A n cc l R hl (by omega) v hv hf
  have c8' := fun W (R : RdC W A n cc (zl l)) => rcount_ok W A n cc l R hl (by omega) v hv hf
  rw [withE_ok hv hf] at c5'
  obtain ⟨m2, hm2⟩ : ∃ z, 2 ^ v - U v l (0, 0) = z := ⟨_, rfl⟩
  rw [hm2] at c2' c8'
  have H1 := Lib.hid c1'
  have H2 := Lib.hid c2'
  have H3 := Lib.hid c3'
  have H4 := Lib.hid c4'
  have H5 := Lib.hid c5'
  have H6 := Lib.hid c6'
  have H8 := Lib.hid c8'
  clear c3' c5' hb0 c1' c6' c4' hb1 hc c2' c8' hm2 hv hf hl
  have HW := Lib.hid P0
  have HA := Lib.hid O0
  have HR := Lib.hid (h.on P0)
  clear h P0 O0
  go_enter Try.func6, Try.ntmps6
  subst hq
  have hQ := awake_any w0
  go_wp2_with fail
  refine hQ.mono ?_
  rintro e v1 ⟨rfl, P1⟩
  clear hQ
  replace HW := Lib.hid (HW.out.trans P1)
  replace HA := Lib.hid (HA.out.on P1)
  replace HR := Lib.hid (HR.out.on P1)
  clear P1
  obtain ⟨HAc0, HAc1⟩ := own2 HA.out
  have hQ := H1.out v1 HR.out
  go_wp2_with fail
  refine hQ.mono ?_
  rintro e v2 ⟨rfl, P2⟩
  clear hQ
  clear HAc0 HAc1
  replace HW := Lib.hid (HW.out.trans P2)
  replace HA := Lib.hid (HA.out.on P2)
  replace HR := Lib.hid (HR.out.on P2)
  clear P2
  have hQ := H2.out v2 HR.out
  go_wp2_with fail
  refine hQ.mono ?_
  rintro e v3 ⟨rfl, P3⟩
  clear hQ
  replace HW := Lib.hid (HW.out.trans P3)
  replace HA := Lib.hid (HA.out.on P3)
  replace HR := Lib.hid (HR.out.on P3)
  clear P3
  have hQ := H3.out v3 HR.out
  go_wp2_with fail
  refine hQ.mono ?_
  rintro e v4 ⟨rfl, P4⟩
  clear hQ
  replace HW := Lib.hid (HW.out.trans P4)
  replace HA := Lib.hid (HA.out.on P4)
  replace HR := Lib.hid (HR.out.on P4)
  clear P4
  obtain ⟨HAc0, HAc1⟩ := own2 HA.out
  have hQ := H4.out v4
  go_wp2_with fail
  refine hQ.mono ?_
  rintro e v5 ⟨rfl, P5⟩
  clear hQ
  clear HAc0 HAc1
  replace HW := Lib.hid (HW.out.trans P5)
  replace HA := Lib.hid (HA.out.on P5)
  replace HR := Lib.hid (HR.out.on P5)
  clear P5
  have hQ := H5.out v5 HR.out
  go_wp2_with fail
  refine hQ.mono ?_
  rintro e v6 ⟨rfl, P6⟩
  clear hQ
  replace HW := Lib.hid (HW.out.trans P6)
  replace HA := Lib.hid (HA.out.on P6)
  replace HR := Lib.hid (HR.out.on P6)
  clear P6
  have hQ := num_any v6 0
  rw [errV_zero] at hQ
  have HQ0 := Lib.hid hQ
  clear hQ
  have hQ := HQ0.out
  go_wp2_with fail
  refine hQ.mono ?_
  rintro e v7 ⟨rfl, rfl⟩
  clear hQ
  have hQ := num_any v6 0
  rw [errV_zero] at hQ
  have HQ1 := Lib.hid hQ
  clear hQ
  have hQ := HQ1.out
  go_wp2_with fail
  refine hQ.mono ?_
  rintro e v8 ⟨rfl, rfl⟩
  clear hQ
  obtain ⟨HAc0, HAc1⟩ := own2 HA.out
  have hQ := H6.out v6 HR.out
  go_wp2_with fail
  refine hQ.mono ?_
  rintro e v9 ⟨rfl, P9⟩
  clear hQ
  clear HAc0 HAc1
  replace HW := Lib.hid (HW.out.trans P9)
  replace HA := Lib.hid (HA.out.on P9)
  replace HR := Lib.hid (HR.out.on P9)
  clear P9
  have hQ := H8.out v9 HR.out
  go_wp2_with fail
  refine hQ.mono ?_
  rintro e v10 ⟨rfl, P10⟩
  clear hQ
  replace HW := Lib.hid (HW.out.trans P10)
  replace HA := Lib.hid (HA.out.on P10)
  replace HR := Lib.hid (HR.out.on P10)
  clear P10
  go_wp2
  go_ret
  exact ⟨by simp, HW.out⟩
set_option maxHeartbeats 16000000 in
theorem coversL_10 (w : World) (A : Option Addr) (n cc : Nat) (l : List Cb) (h : RdC w A n cc (zl l)) (hl : ∀ x ∈ l, OkC x) (h1 : n ≤ 12) (c1 c2 : Nat) (hc : OkC (c1, c2)) (v : Int) (hy : withE l v ≠ 0) :
    Calls Try.prog 6 #[.slice A n cc, .agg #[.int .i64 (c1 : Int), .int .i64 (c2 : Int)], .int .i64 v] w fun e w' => e = .returned (.bool true) ∧ On w w' := by
  have hcap := h.cap
  have hmax := h.max
  obtain ⟨q, hq⟩ : ∃ q, w.heap.size = q := ⟨_, rfl⟩
  obtain ⟨w0, hw0⟩ : ∃ w0, w.alloc (.cells #[.int .i64 (c1 : Int), .int .i64 (c2 : Int)] 23) = w0 := ⟨_, rfl⟩
  obtain ⟨O0, P0⟩ := box1 hq hw0
  have c3' := fun W (R : RdC W A n cc (zl l)) => rchecklist_any W A n cc (zl l) R
  have hb0 : chkB n (zl l) = 0 := chkB_ok (by omega) hl
  rw [hb0] at c3'
  have c5' := fun W (R : RdC W A n cc (zl l)) => rwithin_ok W A n cc l R hl (by omega) v
  have c1' := fun W (R : RdC W A n cc (zl l)) => covers_ok W A n cc l R hl (by omega) (c1, c2) hc
  have c6' := fun W (R : RdC W A n cc (zl l)) => rcovers_ok W A n cc l R hl (by omega) (c1, c2) hc
  have c4' := fun W => rcheck_any W ((c1 : Int), (c2 : Int))
  have hcz := chkC_ok hc
  unfold zc at hcz
  rw [hcz] at c4'
  clear hcz
  obtain ⟨b1, hb1⟩ : ∃ z, decide (U 24 l (c1, c2) = 0) = z := ⟨_, rfl⟩
  rw [hb1] at c1' c6'
  unfold cbV at c1' c6'
  unfold czV at c4'
  simp only at c1' c4' c6'
  have c2' := fun W (R : RdC W A n cc (zl l)) => count_bad2 W A n cc l R hl (by omega) v hy
  obtain ⟨y, hyy⟩ : ∃ z, withE l v = z := ⟨_, rfl⟩
  rw [hyy] at c2' c5' hy
  have c9' := fun W => num_any W y
  rw [errV_pos _ hy] at c2' c9'
  have hyi : ((y : Int) != 0) = true := by rw [bne_iff_ne]; omega
  have H1 := Lib.hid c1'
  have H2 := Lib.hid c2'
  have H3 := Lib.hid c3'
  have H4 := Lib.hid c4'
  have H5 := Lib.hid c5'
  have H6 := Lib.hid c6'
  have H9 := Lib.hid c9'
  clear c3' c5' hb0 c1' c6' c4' hb1 hc c2' c9' hyy hy hl
  have HW := Lib.hid P0
  have HA := Lib.hid O0
  have HR := Lib.hid (h.on P0)
  clear h P0 O0
  go_enter Try.func6, Try.ntmps6
  subst hq
  have hQ := awake_any w0
  go_wp2_with fail
  refine hQ.mono ?_
  rintro e v1 ⟨rfl, P1⟩
  clear hQ
  replace HW := Lib.hid (HW.out.trans P1)
  replace HA := Lib.hid (HA.out.on P1)
  replace HR := Lib.hid (HR.out.on P1)
  clear P1
  obtain ⟨HAc0, HAc1⟩ := own2 HA.out
  have hQ := H1.out v1 HR.out
  go_wp2_with fail
  refine hQ.mono ?_
  rintro e v2 ⟨rfl, P2⟩
  clear hQ
  clear HAc0 HAc1
  replace HW := Lib.hid (HW.out.trans P2)
  replace HA := Lib.hid (HA.out.on P2)
  replace HR := Lib.hid (HR.out.on P2)
  clear P2
  have hQ := H2.out v2 HR.out
  go_wp2_with fail
  refine hQ.mono ?_
  rintro e v3 ⟨rfl, P3⟩
  clear hQ
  replace HW := Lib.hid (HW.out.trans P3)
  replace HA := Lib.hid (HA.out.on P3)
  replace HR := Lib.hid (HR.out.on P3)
  clear P3
  have hQ := H3.out v3 HR.out
  go_wp2_with fail
  refine hQ.mono ?_
  rintro e v4 ⟨rfl, P4⟩
  clear hQ
  replace HW := Lib.hid (HW.out.trans P4)
  replace HA := Lib.hid (HA.out.on P4)
  replace HR := Lib.hid (HR.out.on P4)
  clear P4
  obtain ⟨HAc0, HAc1⟩ := own2 HA.out
  have hQ := H4.out v4
  go_wp2_with fail
  refine hQ.mono ?_
  rintro e v5 ⟨rfl, P5⟩
  clear hQ
  clear HAc0 HAc1
  replace HW := Lib.hid (HW.out.trans P5)
  replace HA := Lib.hid (HA.out.on P5)
  replace HR := Lib.hid (HR.out.on P5)
  clear P5
  have hQ := H5.out v5 HR.out
  go_wp2_with fail
  refine hQ.mono ?_
  rintro e v6 ⟨rfl, P6⟩
  clear hQ
  replace HW := Lib.hid (HW.out.trans P6)
  replace HA := Lib.hid (HA.out.on P6)
  replace HR := Lib.hid (HR.out.on P6)
  clear P6
  have hQ := num_any v6 0
  rw [errV_zero] at hQ
  have HQ0 := Lib.hid hQ
  clear hQ
  have hQ := HQ0.out
  go_wp2_with fail
  refine hQ.mono ?_
  rintro e v7 ⟨rfl, rfl⟩
  clear hQ
  have hQ := H9.out v6
  go_wp2_with fail
  refine hQ.mono ?_
  rintro e v8 ⟨rfl, rfl⟩
  clear hQ
  obtain ⟨HAc0, HAc1⟩ := own2 HA.out
  have hQ := H6.out v6 HR.out
  go_wp2_with fail
  refine hQ.mono ?_
  rintro e v9 ⟨rfl, P9⟩
  clear hQ
  clear HAc0 HAc1
  replace HW := Lib.hid (HW.out.trans P9)
  replace HA := Lib.hid (HA.out.on P9)
  replace HR := Lib.hid (HR.out.on P9)
  clear P9
  go_wp2
  go_ret
  exact ⟨by simp, HW.out⟩
set_option maxHeartbeats 16000000 in
theorem coversL_01 (w : World) (A : Option Addr) (n cc : Nat) (l : List Cb) (h : RdC w A n cc (zl l)) (hl : ∀ x ∈ l, OkC x) (h1 : n ≤ 12) (c1 c2 : Int) (hx : chkC (c1, c2) ≠ 0) (v : Nat) (hv : v ≤ 24) (hf : ∀ x ∈ l, evs x < 2 ^ v) :
    Calls Try.prog 6 #[.slice A n cc, .agg #[.int .i64 c1, .int .i64 c2], .int .i64 (v : Int)] w fun e w' => e = .returned (.bool true) ∧ On w w' := by
  have hcap := h.cap
  have hmax := h.max
  obtain ⟨q, hq⟩ : ∃ q, w.heap.size = q := ⟨_, rfl⟩
  obtain ⟨w0, hw0⟩ : ∃ w0, w.alloc (.cells #[.int .i64 c1, .int .i64 c2] 23) = w0 := ⟨_, rfl⟩
  obtain ⟨O0, P0⟩ := box1 hq hw0
  have c3' := fun W (R : RdC W A n cc (zl l)) => rchecklist_any W A n cc (zl l) R
  have hb0 : chkB n (zl l) = 0 := chkB_ok (by omega) hl
  rw [hb0] at c3'
  have c5' := fun W (R : RdC W A n cc (zl l)) => rwithin_ok W A n cc l R hl (by omega) (v : Int)
  have c1' := fun W (R : RdC W A n cc (zl l)) => covers_bad2 W A n cc (zl l) R c1 c2 hb0 hx
  have c4' := fun W => rcheck_any W (c1, c2)
  obtain ⟨x, hxx⟩ : ∃ z, chkC (c1, c2) = z := ⟨_, rfl⟩
  rw [hxx] at c1' c4' hx
  have c7' := fun W => num_any W x
  rw [errV_pos _ hx] at c1' c7'
  unfold czV at c4'
  simp only at c4'
  have hxi : ((x : Int) != 0) = true := by rw [bne_iff_ne]; omega
  have c2' := fun W (R : RdC W A n cc (zl l)) => count_ok W A n cc l R hl (by omega) v hv hf
  have c8' := fun W (R : RdC W A n cc (zl l)) => rcount_ok W A n cc l R hl (by omega) v hv hf
  rw [withE_ok hv hf] at c5'
  obtain ⟨m2, hm2⟩ : ∃ z, 2 ^ v - U v l (0, 0) = z := ⟨_, rfl⟩
  rw [hm2] at c2' c8'
  have H1 := Lib.hid c1'
  have H2 := Lib.hid c2'
  have H3 := Lib.hid c3'
  have H4 := Lib.hid c4'
  have H5 := Lib.hid c5'
  have H7 := Lib.hid c7'
  have H8 := Lib.hid c8'
  clear c3' c5' hb0 c1' c4' c7' hxx hx c2' c8' hm2 hv hf hl
  have HW := Lib.hid P0
  have HA := Lib.hid O0
  have HR := Lib.hid (h.on P0)
  clear h P0 O0
  go_enter Try.func6, Try.ntmps6
  subst hq
  have hQ := awake_any w0
  go_wp2_with fail
  refine hQ.mono ?_
  rintro e v1 ⟨rfl, P1⟩
  clear hQ
  replace HW := Lib.hid (HW.out.trans P1)
  replace HA := Lib.hid (HA.out.on P1)
  replace HR := Lib.hid (HR.out.on P1)
  clear P1
  obtain ⟨HAc0, HAc1⟩ := own2 HA.out
  have hQ := H1.out v1 HR.out
  go_wp2_with fail
  refine hQ.mono ?_
  rintro e v2 ⟨rfl, P2⟩
  clear hQ
  clear HAc0 HAc1
  replace HW := Lib.hid (HW.out.trans P2)
  replace HA := Lib.hid (HA.out.on P2)
  replace HR := Lib.hid (HR.out.on P2)
  clear P2
  have hQ := H2.out v2 HR.out
  go_wp2_with fail
  refine hQ.mono ?_
  rintro e v3 ⟨rfl, P3⟩
  clear hQ
  replace HW := Lib.hid (HW.out.trans P3)
  replace HA := Lib.hid (HA.out.on P3)
  replace HR := Lib.hid (HR.out.on P3)
  clear P3
  have hQ := H3.out v3 HR.out
  go_wp2_with fail
  refine hQ.mono ?_
  rintro e v4 ⟨rfl, P4⟩
  clear hQ
  replace HW := Lib.hid (HW.out.trans P4)
  replace HA := Lib.hid (HA.out.on P4)
  replace HR := Lib.hid (HR.out.on P4)
  clear P4
  obtain ⟨HAc0, HAc1⟩ := own2 HA.out
  have hQ := H4.out v4
  go_wp2_with fail
  refine hQ.mono ?_
  rintro e v5 ⟨rfl, P5⟩
  clear hQ
  clear HAc0 HAc1
  replace HW := Lib.hid (HW.out.trans P5)
  replace HA := Lib.hid (HA.out.on P5)
  replace HR := Lib.hid (HR.out.on P5)
  clear P5
  have hQ := H5.out v5 HR.out
  go_wp2_with fail
  refine hQ.mono ?_
  rintro e v6 ⟨rfl, P6⟩
  clear hQ
  replace HW := Lib.hid (HW.out.trans P6)
  replace HA := Lib.hid (HA.out.on P6)
  replace HR := Lib.hid (HR.out.on P6)
  clear P6
  have hQ := H7.out v6
  go_wp2_with fail
  refine hQ.mono ?_
  rintro e v7 ⟨rfl, rfl⟩
  clear hQ
  have hQ := num_any v6 0
  rw [errV_zero] at hQ
  have HQ1 := Lib.hid hQ
  clear hQ
  have hQ := HQ1.out
  go_wp2_with fail
  refine hQ.mono ?_
  rintro e v8 ⟨rfl, rfl⟩
  clear hQ
  have hQ := H8.out v6 HR.out
  go_wp2_with fail
  refine hQ.mono ?_
  rintro e v9 ⟨rfl, P9⟩
  clear hQ
  replace HW := Lib.hid (HW.out.trans P9)
  replace HA := Lib.hid (HA.out.on P9)
  replace HR := Lib.hid (HR.out.on P9)
  clear P9
  go_wp2
  go_ret
  exact ⟨by simp, HW.out⟩
set_option maxHeartbeats 16000000 in
theorem coversL_00 (w : World) (A : Option Addr) (n cc : Nat) (l : List Cb) (h : RdC w A n cc (zl l)) (hl : ∀ x ∈ l, OkC x) (h1 : n ≤ 12) (c1 c2 : Int) (hx : chkC (c1, c2) ≠ 0) (v : Int) (hy : withE l v ≠ 0) :
    Calls Try.prog 6 #[.slice A n cc, .agg #[.int .i64 c1, .int .i64 c2], .int .i64 v] w fun e w' => e = .returned (.bool true) ∧ On w w' := by
  have hcap := h.cap
  have hmax := h.max
  obtain ⟨q, hq⟩ : ∃ q, w.heap.size = q := ⟨_, rfl⟩
  obtain ⟨w0, hw0⟩ : ∃ w0, w.alloc (.cells #[.int .i64 c1, .int .i64 c2] 23) = w0 := ⟨_, rfl⟩
  obtain ⟨O0, P0⟩ := box1 hq hw0
  have c3' := fun W (R : RdC W A n cc (zl l)) => rchecklist_any W A n cc (zl l) R
  have hb0 : chkB n (zl l) = 0 := chkB_ok (by omega) hl
  rw [hb0] at c3'
  have c5' := fun W (R : RdC W A n cc (zl l)) => rwithin_ok W A n cc l R hl (by omega) v
  have c1' := fun W (R : RdC W A n cc (zl l)) => covers_bad2 W A n cc (zl l) R c1 c2 hb0 hx
  have c4' := fun W => rcheck_any W (c1, c2)
  obtain ⟨x, hxx⟩ : ∃ z, chkC (c1, c2) = z := ⟨_, rfl⟩
  rw [hxx] at c1' c4' hx
  have c7' := fun W => num_any W x
  rw [errV_pos _ hx] at c1' c7'
  unfold czV at c4'
  simp only at c4'
  have hxi : ((x : Int) != 0) = true := by rw [bne_iff_ne]; omega
  have c2' := fun W (R : RdC W A n cc (zl l)) => count_bad2 W A n cc l R hl (by omega) v hy
  obtain ⟨y, hyy⟩ : ∃ z, withE l v = z := ⟨_, rfl⟩
  rw [hyy] at c2' c5' hy
  have c9' := fun W => num_any W y
  rw [errV_pos _ hy] at c2' c9'
  have hyi : ((y : Int) != 0) = true := by rw [bne_iff_ne]; omega
  have H1 := Lib.hid c1'
  have H2 := Lib.hid c2'
  have H3 := Lib.hid c3'
  have H4 := Lib.hid c4'
  have H5 := Lib.hid c5'
  have H7 := Lib.hid c7'
  have H9 := Lib.hid c9'
  clear c3' c5' hb0 c1' c4' c7' hxx hx c2' c9' hyy hy hl
  have HW := Lib.hid P0
  have HA := Lib.hid O0
  have HR := Lib.hid (h.on P0)
  clear h P0 O0
  go_enter Try.func6, Try.ntmps6
  subst hq
  have hQ := awake_any w0
  go_wp2_with fail
  refine hQ.mono ?_
  rintro e v1 ⟨rfl, P1⟩
  clear hQ
  replace HW := Lib.hid (HW.out.trans P1)
  replace HA := Lib.hid (HA.out.on P1)
  replace HR := Lib.hid (HR.out.on P1)
  clear P1
  obtain ⟨HAc0, HAc1⟩ := own2 HA.out
  have hQ := H1.out v1 HR.out
  go_wp2_with fail
  refine hQ.mono ?_
  rintro e v2 ⟨rfl, P2⟩
  clear hQ
  clear HAc0 HAc1
  replace HW := Lib.hid (HW.out.trans P2)
  replace HA := Lib.hid (HA.out.on P2)
  replace HR := Lib.hid (HR.out.on P2)
  clear P2
  have hQ := H2.out v2 HR.out
  go_wp2_with fail
  refine hQ.mono ?_
  rintro e v3 ⟨rfl, P3⟩
  clear hQ
  replace HW := Lib.hid (HW.out.trans P3)
  replace HA := Lib.hid (HA.out.on P3)
  replace HR := Lib.hid (HR.out.on P3)
  clear P3
  have hQ := H3.out v3 HR.out
  go_wp2_with fail
  refine hQ.mono ?_
  rintro e v4 ⟨rfl, P4⟩
  clear hQ
  replace HW := Lib.hid (HW.out.trans P4)
  replace HA := Lib.hid (HA.out.on P4)
  replace HR := Lib.hid (HR.out.on P4)
  clear P4
  obtain ⟨HAc0, HAc1⟩ := own2 HA.out
  have hQ := H4.out v4
  go_wp2_with fail
  refine hQ.mono ?_
  rintro e v5 ⟨rfl, P5⟩
  clear hQ
  clear HAc0 HAc1
  replace HW := Lib.hid (HW.out.trans P5)
  replace HA := Lib.hid (HA.out.on P5)
  replace HR := Lib.hid (HR.out.on P5)
  clear P5
  have hQ := H5.out v5 HR.out
  go_wp2_with fail
  refine hQ.mono ?_
  rintro e v6 ⟨rfl, P6⟩
  clear hQ
  replace HW := Lib.hid (HW.out.trans P6)
  replace HA := Lib.hid (HA.out.on P6)
  replace HR := Lib.hid (HR.out.on P6)
  clear P6
  have hQ := H7.out v6
  go_wp2_with fail
  refine hQ.mono ?_
  rintro e v7 ⟨rfl, rfl⟩
  clear hQ
  have hQ := H9.out v6
  go_wp2_with fail
  refine hQ.mono ?_
  rintro e v8 ⟨rfl, rfl⟩
  clear hQ
  go_wp2
  go_ret
  exact ⟨by simp, HW.out⟩
theorem ltcovers_any (w : World) (A : Option Addr) (n cc : Nat) (xs : List Cz) (h : RdC w A n cc xs) (c1 c2 v : Int) :
    Calls Try.prog 6 #[.slice A n cc, .agg #[.int .i64 c1, .int .i64 c2], .int .i64 v] w fun e w' => e = .returned (.bool true) ∧ On w w' := by
  by_cases hs : 12 < n ∧ n ≤ 1024
  · exact covers_skip w A n cc xs h c1 c2 v hs.1 hs.2
  · by_cases hb : chkB n xs = 0
    · obtain ⟨hn, l, rfl, hl⟩ := chkB_zero hb
      have h12 : n ≤ 12 := by omega
      by_cases hc : chkC (c1, c2) = 0
      · obtain ⟨⟨d1, d2⟩, he, ho⟩ := chkC_zero hc
        unfold zc at he
        injection he with e1 e2
        simp only at e1 e2
        subst e1; subst e2
        by_cases hw : withE l v = 0
        · obtain ⟨k, rfl, hk, hf⟩ := withE_zero hw
          exact coversL_11 w A n cc l h hl h12 d1 d2 ho k hk hf
        · exact coversL_10 w A n cc l h hl h12 d1 d2 ho v hw
      · by_cases hw : withE l v = 0
        · obtain ⟨k, rfl, hk, hf⟩ := withE_zero hw
          exact coversL_01 w A n cc l h hl h12 c1 c2 hc k hk hf
        · exact coversL_00 w A n cc l h hl h12 c1 c2 hc v hw
    · by_cases hn : 1024 < n
      · exact covers_list_big w A n cc xs h c1 c2 v hn hb
      · exact covers_list_small w A n cc xs h c1 c2 v (by omega) hb
end Go.Proofs.Ythamjboppnlpdaa.Cu
