/-
  CubeSplits, CubeAgrees.
-/
import Derived.Test.YthamjboppnlpdaaCj
namespace Go.Proofs.Ythamjboppnlpdaa.Cu
open Go.RowKit Go.Proofs.Ythamjboppnlpdaa.Sb
set_option linter.unusedVariables false
set_option maxRecDepth 100000
theorem inL_take {l : List Cb} {j : Nat} (s : Nat) (h : j < l.length) : inL (l.take (j + 1)) s = inL (l.take j) s + (if holdsC (l.getD j (0, 0)) s = true then 1 else 0) := by
  have e : l.getD j (0, 0) = l[j] := by rw [List.getD_eq_getElem?_getD, List.getElem?_eq_getElem h]; rfl
  rw [List.take_add_one, List.getElem?_eq_getElem h, inL_append, e]
  show _ + inL [l[j]] s = _
  rw [inL_one]
theorem inL_le (l : List Cb) (s : Nat) : inL l s ≤ l.length := List.countP_le_length
set_option maxHeartbeats 4000000 in
theorem rin_ok (w : World) (A : Option Addr) (n c : Nat) (l : List Cb) (h : RdC w A n c (zl l)) (ho : ∀ x ∈ l, OkC x) (s : Nat) (hs : s < 16777216) (hn1 : n ≤ 1000000) :
    Calls Try.prog 40 #[.slice A n c, .int .i64 (s : Int)] w fun e w' => e = .returned (.int .i64 (inL l s : Nat)) ∧ On w w' := by
  have hn : l.length = n := by have := h.len; rwa [zl_len] at this
  have hcap := h.cap
  have hmax := h.max
  have HR := Lib.hid (And.intro h (And.intro hn (And.intro ho hs)))
  clear h hn ho hs
  go_enter Try.func40, Try.ntmps40
  go_wp2
  go_loopw [6, 5] (fun i v wr => ∃ j : Nat, j ≤ n ∧ i = .int .i64 (j : Int) ∧ v = .int .i64 (inL (l.take j) s : Nat) ∧ On w wr) (fun i _ _ => n - (intOf i).toNat)
  case atStart => exact ⟨0, by omega, rfl, rfl, On.refl _⟩
  case round =>
    obtain ⟨j, hj, rfl, rfl, hon⟩ := hrel
    by_cases hlt : j < n
    · have hjl : j < l.length := by rw [HR.out.2.1]; exact hlt
      have hm := HR.out.2.2.1 _ (getD_mem (d := (0, 0)) hjl)
      have ht := inL_take s hjl
      have hle := inL_le (l.take j) s
      rw [List.length_take] at hle
      obtain ⟨ad, rfl, hb, hc0, hc1⟩ := (HR.out.1.on hon).at_ hlt
      rw [zl_cell] at hc0 hc1
      simp only at hc0 hc1
      obtain ⟨⟨x, y⟩, hx⟩ : ∃ z, l.getD j (0, 0) = z := ⟨_, rfl⟩
      rw [hx] at hc0 hc1 hm ht
      simp only at hc0 hc1
      have hC := rholds_ok wr (x, y) s hm HR.out.2.2.2
      unfold cbV at hC
      simp only at hC
      obtain ⟨a, ha⟩ : ∃ a, inL (l.take j) s = a := ⟨_, rfl⟩
      rw [ha] at ht hle ⊢
      have HT := Lib.hid (And.intro hon ht)
      obtain ⟨b, hbb⟩ : ∃ b, holdsC (x, y) s = b := ⟨_, rfl⟩
      rw [hbb] at hC HT
      clear hx hm ha hbb ht
      cases b with
      | true =>
        go_wp2_with fail
        refine hC.mono ?_
        rintro e w2 ⟨rfl, P2⟩
        clear hC
        go_wp2
        go_roundw
        case rel => exact ⟨j + 1, by omega, by go_num, by rw [HT.out.2]; go_num, HT.out.1.trans P2⟩
        case measure => simp [intOf] <;> omega
      | false =>
        go_wp2_with fail
        refine hC.mono ?_
        rintro e w2 ⟨rfl, P2⟩
        clear hC
        go_wp2
        go_roundw
        case rel => exact ⟨j + 1, by omega, by go_num, by rw [HT.out.2]; rfl, HT.out.1.trans P2⟩
        case measure => simp [intOf] <;> omega
    · obtain rfl : j = n := by omega
      have e : l.take j = l := List.take_of_length_le (by rw [HR.out.2.1]; omega)
      rw [e]
      go_wp2
      go_ret
      exact ⟨rfl, hon⟩
set_option maxHeartbeats 8000000 in
theorem splits_bad (w : World) (a1 a2 b1 b2 s : Int) (hz : chkL [(a1, a2), (b1, b2)] ≠ 0) :
    Calls Try.prog 7 #[.agg #[.int .i64 a1, .int .i64 a2], .agg #[.int .i64 b1, .int .i64 b2], .int .i64 s] w fun e w' => e = .returned (.bool true) ∧ On w w' := by
  obtain ⟨q, hq⟩ : ∃ q, w.heap.size = q := ⟨_, rfl⟩
  obtain ⟨w0, hw0⟩ : ∃ w0, (w.alloc (.cells #[.int .i64 a1, .int .i64 a2] 23)).alloc (.cells #[.int .i64 b1, .int .i64 b2] 23) = w0 := ⟨_, rfl⟩
  obtain ⟨O0, E0, P0⟩ := box2 hq hw0
  have cB := fun W => both_any W (a1, a2) (b1, b2)
  obtain ⟨x, hx⟩ : ∃ x, chkL [(a1, a2), (b1, b2)] = x := ⟨_, rfl⟩
  rw [hx] at cB hz
  have hx1 : ((x : Int) != 0) = true := by rw [bne_iff_ne]; omega
  unfold czV at cB
  simp only at cB
  clear hx hz
  have HC := Lib.hid cB
  clear cB
  have HW := Lib.hid P0
  have HA := Lib.hid O0
  have HB := Lib.hid E0
  clear P0 O0 E0
  go_enter Try.func7, Try.ntmps7
  subst hq
  have hQ := awake_any w0
  go_wp2_with fail
  refine hQ.mono ?_
  rintro e v1 ⟨rfl, P1⟩
  clear hQ
  replace HW := Lib.hid (HW.out.trans P1)
  replace HA := Lib.hid (HA.out.on P1)
  replace HB := Lib.hid (HB.out.on P1)
  clear P1
  obtain ⟨HAc0, HAc1⟩ := own2 HA.out
  obtain ⟨HBc0, HBc1⟩ := own2 HB.out
  have hQ := HC.out v1
  go_wp2_with fail
  refine hQ.mono ?_
  rintro e v2 ⟨rfl, P2⟩
  clear hQ
  clear HAc0 HAc1 HBc0 HBc1
  replace HW := Lib.hid (HW.out.trans P2)
  replace HA := Lib.hid (HA.out.on P2)
  replace HB := Lib.hid (HB.out.on P2)
  clear P2
  have hQ := awake_any v2
  go_wp2_with fail
  refine hQ.mono ?_
  rintro e v3 ⟨rfl, P3⟩
  clear hQ
  replace HW := Lib.hid (HW.out.trans P3)
  replace HA := Lib.hid (HA.out.on P3)
  replace HB := Lib.hid (HB.out.on P3)
  clear P3
  go_wp2
  go_ret
  exact ⟨rfl, HW.out⟩
set_option maxHeartbeats 8000000 in
theorem splits_off (w : World) (a1 a2 b1 b2 s : Int) (hz : chkL [(a1, a2), (b1, b2)] = 0) (hm : maskZ s = false) :
    Calls Try.prog 7 #[.agg #[.int .i64 a1, .int .i64 a2], .agg #[.int .i64 b1, .int .i64 b2], .int .i64 s] w fun e w' => e = .returned (.bool true) ∧ On w w' := by
  obtain ⟨q, hq⟩ : ∃ q, w.heap.size = q := ⟨_, rfl⟩
  obtain ⟨w0, hw0⟩ : ∃ w0, (w.alloc (.cells #[.int .i64 a1, .int .i64 a2] 23)).alloc (.cells #[.int .i64 b1, .int .i64 b2] 23) = w0 := ⟨_, rfl⟩
  obtain ⟨O0, E0, P0⟩ := box2 hq hw0
  have cB := fun W => both_any W (a1, a2) (b1, b2)
  rw [hz] at cB
  have cX := fun W => rmask_any W s
  rw [hm] at cX
  unfold czV at cB
  simp only at cB
  clear hm hz
  have HC := Lib.hid (And.intro cB cX)
  clear cB cX
  have HW := Lib.hid P0
  have HA := Lib.hid O0
  have HB := Lib.hid E0
  clear P0 O0 E0
  go_enter Try.func7, Try.ntmps7
  subst hq
  have hQ := awake_any w0
  go_wp2_with fail
  refine hQ.mono ?_
  rintro e v1 ⟨rfl, P1⟩
  clear hQ
  replace HW := Lib.hid (HW.out.trans P1)
  replace HA := Lib.hid (HA.out.on P1)
  replace HB := Lib.hid (HB.out.on P1)
  clear P1
  obtain ⟨HAc0, HAc1⟩ := own2 HA.out
  obtain ⟨HBc0, HBc1⟩ := own2 HB.out
  have hQ := HC.out.1 v1
  go_wp2_with fail
  refine hQ.mono ?_
  rintro e v2 ⟨rfl, P2⟩
  clear hQ
  clear HAc0 HAc1 HBc0 HBc1
  replace HW := Lib.hid (HW.out.trans P2)
  replace HA := Lib.hid (HA.out.on P2)
  replace HB := Lib.hid (HB.out.on P2)
  clear P2
  have hQ := HC.out.2 v2
  go_wp2_with fail
  refine hQ.mono ?_
  rintro e v3 ⟨rfl, rfl⟩
  clear hQ
  have hQ := awake_any v2
  go_wp2_with fail
  refine hQ.mono ?_
  rintro e v4 ⟨rfl, P4⟩
  clear hQ
  replace HW := Lib.hid (HW.out.trans P4)
  replace HA := Lib.hid (HA.out.on P4)
  replace HB := Lib.hid (HB.out.on P4)
  clear P4
  go_wp2
  go_ret
  exact ⟨rfl, HW.out⟩
set_option maxHeartbeats 8000000 in
theorem splits_ok (w : World) (a1 a2 b1 b2 s : Nat) (ha : OkC (a1, a2)) (hb : OkC (b1, b2)) (hs : s < 16777216) :
    Calls Try.prog 7 #[.agg #[.int .i64 (a1 : Int), .int .i64 (a2 : Int)], .agg #[.int .i64 (b1 : Int), .int .i64 (b2 : Int)], .int .i64 (s : Int)] w fun e w' => e = .returned (.bool true) ∧ On w w' := by
  obtain ⟨q, hq⟩ : ∃ q, w.heap.size = q := ⟨_, rfl⟩
  obtain ⟨w0, hw0⟩ : ∃ w0, (w.alloc (.cells #[.int .i64 (a1 : Int), .int .i64 (a2 : Int)] 23)).alloc (.cells #[.int .i64 (b1 : Int), .int .i64 (b2 : Int)] 23) = w0 := ⟨_, rfl⟩
  obtain ⟨O0, E0, P0⟩ := box2 hq hw0
  have cB := fun W => both_any W ((a1 : Int), (a2 : Int)) ((b1 : Int), (b2 : Int))
  have h0 := chk_two ha hb
  simp only at h0
  rw [h0] at cB
  have cX := fun W => rmask_any W (s : Int)
  rw [maskZ_of hs] at cX
  have cA := fun W => holds_ok W (a1, a2) s ha hs
  have cE := fun W => holds_ok W (b1, b2) s hb hs
  have cD := fun W => minus2_ok W (a1, a2) (b1, b2) ha hb
  have hml := minusL_ok ha hb
  have hln := minusL_len (a1, a2) (b1, b2)
  have hin := minus_in (a := (a1, a2)) hb s
  obtain ⟨l, hl⟩ : ∃ z, minusL (a1, a2) (b1, b2) = z := ⟨_, rfl⟩
  rw [hl] at cD hml hin hln
  obtain ⟨x, hx⟩ : ∃ z, holdsC (a1, a2) s = z := ⟨_, rfl⟩
  obtain ⟨y, hy⟩ : ∃ z, holdsC (b1, b2) s = z := ⟨_, rfl⟩
  rw [hx] at cA hin
  rw [hy] at cE hin
  have cI := fun W A c (R : RdC W A l.length c (zl l)) => rin_ok W A l.length c l R hml s hs (by omega)
  obtain ⟨i, hi⟩ : ∃ z, inL l s = z := ⟨_, rfl⟩
  rw [hi] at hin cI
  unfold cbV at cA cE cD
  unfold czV at cB
  simp only at cA cE cD cB
  clear hx hy hi hl h0 ha hb hml hs hln
  have HC := Lib.hid (And.intro cB (And.intro cX (And.intro cD (And.intro cA (And.intro cE cI)))))
  clear cB cX cD cA cE cI
  have HW := Lib.hid P0
  have HA := Lib.hid O0
  have HB := Lib.hid E0
  clear P0 O0 E0
  go_enter Try.func7, Try.ntmps7
  subst hq
  have hQ := awake_any w0
  go_wp2_with fail
  refine hQ.mono ?_
  rintro e v1 ⟨rfl, P1⟩
  clear hQ
  replace HW := Lib.hid (HW.out.trans P1)
  replace HA := Lib.hid (HA.out.on P1)
  replace HB := Lib.hid (HB.out.on P1)
  clear P1
  obtain ⟨HAc0, HAc1⟩ := own2 HA.out
  obtain ⟨HBc0, HBc1⟩ := own2 HB.out
  have hQ := HC.out.1 v1
  go_wp2_with fail
  refine hQ.mono ?_
  rintro e v2 ⟨rfl, P2⟩
  clear hQ
  clear HAc0 HAc1 HBc0 HBc1
  replace HW := Lib.hid (HW.out.trans P2)
  replace HA := Lib.hid (HA.out.on P2)
  replace HB := Lib.hid (HB.out.on P2)
  clear P2
  have hQ := HC.out.2.1 v2
  go_wp2_with fail
  refine hQ.mono ?_
  rintro e v3 ⟨rfl, rfl⟩
  clear hQ
  obtain ⟨HAc0, HAc1⟩ := own2 HA.out
  obtain ⟨HBc0, HBc1⟩ := own2 HB.out
  have hQ := HC.out.2.2.1 v2
  go_wp2_with fail
  refine hQ.mono ?_
  rintro e v4 ⟨AL, cL, rfl, RL, P4⟩
  clear hQ
  clear HAc0 HAc1 HBc0 HBc1
  replace HW := Lib.hid (HW.out.trans P4)
  replace HA := Lib.hid (HA.out.on P4)
  replace HB := Lib.hid (HB.out.on P4)
  have HL := Lib.hid (RL)
  clear P4
  clear RL
  have hcap := HL.out.cap
  have hmax := HL.out.max
  obtain ⟨HAc0, HAc1⟩ := own2 HA.out
  have hQ := HC.out.2.2.2.1 v4
  go_wp2_with fail
  refine hQ.mono ?_
  rintro e v5 ⟨rfl, P5⟩
  clear hQ
  clear HAc0 HAc1
  replace HW := Lib.hid (HW.out.trans P5)
  replace HA := Lib.hid (HA.out.on P5)
  replace HB := Lib.hid (HB.out.on P5)
  replace HL := Lib.hid (HL.out.on P5)
  clear P5
  obtain ⟨HBc0, HBc1⟩ := own2 HB.out
  have hQ := HC.out.2.2.2.2.1 v5
  go_wp2_with fail
  refine hQ.mono ?_
  rintro e v6 ⟨rfl, P6⟩
  clear hQ
  clear HBc0 HBc1
  replace HW := Lib.hid (HW.out.trans P6)
  replace HA := Lib.hid (HA.out.on P6)
  replace HB := Lib.hid (HB.out.on P6)
  replace HL := Lib.hid (HL.out.on P6)
  clear P6
  have hQ := HC.out.2.2.2.2.2 v6 AL cL HL.out
  cases x <;> cases y <;> (simp only [Bool.true_and, Bool.false_and, Bool.not_true, Bool.not_false, Bool.false_eq_true, if_true, if_false] at hin; subst hin)
  all_goals
    go_wp2_with fail
    refine hQ.mono ?_
    rintro e z1 ⟨rfl, PZ⟩
    go_wp2
    go_ret
    exact ⟨rfl, HW.out.trans PZ⟩
set_option maxHeartbeats 8000000 in
theorem agrees_bad (w : World) (a1 a2 b1 b2 s : Int) (hz : chkL [(a1, a2), (b1, b2)] ≠ 0) :
    Calls Try.prog 9 #[.agg #[.int .i64 a1, .int .i64 a2], .agg #[.int .i64 b1, .int .i64 b2], .int .i64 s] w fun e w' => e = .returned (.bool true) ∧ On w w' := by
  obtain ⟨q, hq⟩ : ∃ q, w.heap.size = q := ⟨_, rfl⟩
  obtain ⟨w0, hw0⟩ : ∃ w0, (w.alloc (.cells #[.int .i64 a1, .int .i64 a2] 23)).alloc (.cells #[.int .i64 b1, .int .i64 b2] 23) = w0 := ⟨_, rfl⟩
  obtain ⟨O0, E0, P0⟩ := box2 hq hw0
  have cB := fun W => both_any W (a1, a2) (b1, b2)
  obtain ⟨x, hx⟩ : ∃ x, chkL [(a1, a2), (b1, b2)] = x := ⟨_, rfl⟩
  rw [hx] at cB hz
  have hx1 : ((x : Int) != 0) = true := by rw [bne_iff_ne]; omega
  unfold czV at cB
  simp only at cB
  clear hx hz
  have HC := Lib.hid cB
  clear cB
  have HW := Lib.hid P0
  have HA := Lib.hid O0
  have HB := Lib.hid E0
  clear P0 O0 E0
  go_enter Try.func9, Try.ntmps9
  subst hq
  have hQ := awake_any w0
  go_wp2_with fail
  refine hQ.mono ?_
  rintro e v1 ⟨rfl, P1⟩
  clear hQ
  replace HW := Lib.hid (HW.out.trans P1)
  replace HA := Lib.hid (HA.out.on P1)
  replace HB := Lib.hid (HB.out.on P1)
  clear P1
  obtain ⟨HAc0, HAc1⟩ := own2 HA.out
  obtain ⟨HBc0, HBc1⟩ := own2 HB.out
  have hQ := HC.out v1
  go_wp2_with fail
  refine hQ.mono ?_
  rintro e v2 ⟨rfl, P2⟩
  clear hQ
  clear HAc0 HAc1 HBc0 HBc1
  replace HW := Lib.hid (HW.out.trans P2)
  replace HA := Lib.hid (HA.out.on P2)
  replace HB := Lib.hid (HB.out.on P2)
  clear P2
  have hQ := awake_any v2
  go_wp2_with fail
  refine hQ.mono ?_
  rintro e v3 ⟨rfl, P3⟩
  clear hQ
  replace HW := Lib.hid (HW.out.trans P3)
  replace HA := Lib.hid (HA.out.on P3)
  replace HB := Lib.hid (HB.out.on P3)
  clear P3
  go_wp2
  go_ret
  exact ⟨rfl, HW.out⟩
set_option maxHeartbeats 8000000 in
theorem agrees_off (w : World) (a1 a2 b1 b2 s : Int) (hz : chkL [(a1, a2), (b1, b2)] = 0) (hm : maskZ s = false) :
    Calls Try.prog 9 #[.agg #[.int .i64 a1, .int .i64 a2], .agg #[.int .i64 b1, .int .i64 b2], .int .i64 s] w fun e w' => e = .returned (.bool true) ∧ On w w' := by
  obtain ⟨q, hq⟩ : ∃ q, w.heap.size = q := ⟨_, rfl⟩
  obtain ⟨w0, hw0⟩ : ∃ w0, (w.alloc (.cells #[.int .i64 a1, .int .i64 a2] 23)).alloc (.cells #[.int .i64 b1, .int .i64 b2] 23) = w0 := ⟨_, rfl⟩
  obtain ⟨O0, E0, P0⟩ := box2 hq hw0
  have cB := fun W => both_any W (a1, a2) (b1, b2)
  rw [hz] at cB
  have cX := fun W => rmask_any W s
  rw [hm] at cX
  unfold czV at cB
  simp only at cB
  clear hm hz
  have HC := Lib.hid (And.intro cB cX)
  clear cB cX
  have HW := Lib.hid P0
  have HA := Lib.hid O0
  have HB := Lib.hid E0
  clear P0 O0 E0
  go_enter Try.func9, Try.ntmps9
  subst hq
  have hQ := awake_any w0
  go_wp2_with fail
  refine hQ.mono ?_
  rintro e v1 ⟨rfl, P1⟩
  clear hQ
  replace HW := Lib.hid (HW.out.trans P1)
  replace HA := Lib.hid (HA.out.on P1)
  replace HB := Lib.hid (HB.out.on P1)
  clear P1
  obtain ⟨HAc0, HAc1⟩ := own2 HA.out
  obtain ⟨HBc0, HBc1⟩ := own2 HB.out
  have hQ := HC.out.1 v1
  go_wp2_with fail
  refine hQ.mono ?_
  rintro e v2 ⟨rfl, P2⟩
  clear hQ
  clear HAc0 HAc1 HBc0 HBc1
  replace HW := Lib.hid (HW.out.trans P2)
  replace HA := Lib.hid (HA.out.on P2)
  replace HB := Lib.hid (HB.out.on P2)
  clear P2
  have hQ := HC.out.2 v2
  go_wp2_with fail
  refine hQ.mono ?_
  rintro e v3 ⟨rfl, rfl⟩
  clear hQ
  have hQ := awake_any v2
  go_wp2_with fail
  refine hQ.mono ?_
  rintro e v4 ⟨rfl, P4⟩
  clear hQ
  replace HW := Lib.hid (HW.out.trans P4)
  replace HA := Lib.hid (HA.out.on P4)
  replace HB := Lib.hid (HB.out.on P4)
  clear P4
  go_wp2
  go_ret
  exact ⟨rfl, HW.out⟩
set_option maxHeartbeats 8000000 in
theorem agrees_ok (w : World) (a1 a2 b1 b2 s : Nat) (ha : OkC (a1, a2)) (hb : OkC (b1, b2)) (hs : s < 16777216) :
    Calls Try.prog 9 #[.agg #[.int .i64 (a1 : Int), .int .i64 (a2 : Int)], .agg #[.int .i64 (b1 : Int), .int .i64 (b2 : Int)], .int .i64 (s : Int)] w fun e w' => e = .returned (.bool true) ∧ On w w' := by
  obtain ⟨q, hq⟩ : ∃ q, w.heap.size = q := ⟨_, rfl⟩
  obtain ⟨w0, hw0⟩ : ∃ w0, (w.alloc (.cells #[.int .i64 (a1 : Int), .int .i64 (a2 : Int)] 23)).alloc (.cells #[.int .i64 (b1 : Int), .int .i64 (b2 : Int)] 23) = w0 := ⟨_, rfl⟩
  obtain ⟨O0, E0, P0⟩ := box2 hq hw0
  have cB := fun W => both_any W ((a1 : Int), (a2 : Int)) ((b1 : Int), (b2 : Int))
  have h0 := chk_two ha hb
  simp only at h0
  rw [h0] at cB
  have cX := fun W => rmask_any W (s : Int)
  rw [maskZ_of hs] at cX
  have cA := fun W => holds_ok W (a1, a2) s ha hs
  have cE := fun W => holds_ok W (b1, b2) s hb hs
  have cC := fun W => cons_ok W (a1, a2) (b1, b2) ha hb
  have cM := fun W => meet_ok W (a1, a2) (b1, b2) ha hb
  have cI := fun W => implies2_ok W (a1, a2) (b1, b2) ha hb
  have hcs := cons_states ha hb s
  have hms := meet_states (a1, a2) (b1, b2) s
  have his := fun h => implC_holds (a := (a1, a2)) (b := (b1, b2)) (s := s) h
  have oc := consOut_ok ha hb
  have om := meetOut_ok ha hb
  obtain ⟨⟨⟨m1, m2⟩, mb⟩, hm⟩ : ∃ z, meetOut (a1, a2) (b1, b2) = z := ⟨_, rfl⟩
  obtain ⟨⟨⟨c1, c2⟩, cb⟩, hc⟩ : ∃ z, consOut (a1, a2) (b1, b2) = z := ⟨_, rfl⟩
  obtain ⟨ib, hi⟩ : ∃ z, implC (a1, a2) (b1, b2) = z := ⟨_, rfl⟩
  rw [hm] at cM hms om
  rw [hc] at cC hcs oc
  rw [hi] at cI his
  have rK := fun W => rholds_ok W (c1, c2) s oc hs
  have rM := fun W => rholds_ok W (m1, m2) s om hs
  obtain ⟨x, hx⟩ : ∃ z, holdsC (a1, a2) s = z := ⟨_, rfl⟩
  obtain ⟨y, hy⟩ : ∃ z, holdsC (b1, b2) s = z := ⟨_, rfl⟩
  obtain ⟨kx, hkx⟩ : ∃ z, holdsC (c1, c2) s = z := ⟨_, rfl⟩
  obtain ⟨mx, hmx⟩ : ∃ z, holdsC (m1, m2) s = z := ⟨_, rfl⟩
  rw [hx] at cA hcs hms his
  rw [hy] at cE hcs hms his
  simp only at hcs hms
  rw [hkx] at rK hcs
  rw [hmx] at rM hms
  unfold cbV at cA cE cC cM rK rM cI
  unfold czV at cB
  simp only at cA cE cC cM rK rM cI cB
  clear hx hy hkx hmx hm hc hi h0 ha hb hs oc om
  have HC := Lib.hid (And.intro (And.intro cB (And.intro cX (And.intro cC (And.intro cM cI)))) (And.intro (And.intro cA cE) (And.intro rK rM)))
  clear cB cX cC cM cI cA cE rK rM
  have HW := Lib.hid P0
  have HA := Lib.hid O0
  have HB := Lib.hid E0
  clear P0 O0 E0
  go_enter Try.func9, Try.ntmps9
  subst hq
  have hQ := awake_any w0
  go_wp2_with fail
  refine hQ.mono ?_
  rintro e v1 ⟨rfl, P1⟩
  clear hQ
  replace HW := Lib.hid (HW.out.trans P1)
  replace HA := Lib.hid (HA.out.on P1)
  replace HB := Lib.hid (HB.out.on P1)
  clear P1
  obtain ⟨HAc0, HAc1⟩ := own2 HA.out
  obtain ⟨HBc0, HBc1⟩ := own2 HB.out
  have hQ := HC.out.1.1 v1
  go_wp2_with fail
  refine hQ.mono ?_
  rintro e v2 ⟨rfl, P2⟩
  clear hQ
  clear HAc0 HAc1 HBc0 HBc1
  replace HW := Lib.hid (HW.out.trans P2)
  replace HA := Lib.hid (HA.out.on P2)
  replace HB := Lib.hid (HB.out.on P2)
  clear P2
  have hQ := HC.out.1.2.1 v2
  go_wp2_with fail
  refine hQ.mono ?_
  rintro e v3 ⟨rfl, rfl⟩
  clear hQ
  obtain ⟨HAc0, HAc1⟩ := own2 HA.out
  obtain ⟨HBc0, HBc1⟩ := own2 HB.out
  have hQ := HC.out.1.2.2.1 v2
  go_wp2_with fail
  refine hQ.mono ?_
  rintro e v4 ⟨rfl, P4⟩
  clear hQ
  clear HAc0 HAc1 HBc0 HBc1
  replace HW := Lib.hid (HW.out.trans P4)
  replace HA := Lib.hid (HA.out.on P4)
  replace HB := Lib.hid (HB.out.on P4)
  clear P4
  have Z0 : Own (v4.alloc (.cells #[.int .i64 0, .int .i64 0] 23)) v4.heap.size 23 #[.int .i64 0, .int .i64 0] := Own.new _ _ _
  obtain ⟨k0, k1⟩ := own2 Z0
  have f0 := Z0.frozen 0
  have f1 := Z0.frozen 1
  go_upto_region 4 with fail
  clear k0 k1 f0 f1 Z0
  obtain ⟨v5, hwv5⟩ : ∃ z, v4.alloc (.cells #[.int .i64 (c1 : Int), .int .i64 (c2 : Int)] 23) = z := ⟨_, rfl⟩
  obtain ⟨OZ, P5⟩ := box1 rfl hwv5
  rw [hwv5]
  clear hwv5
  replace HW := Lib.hid (HW.out.trans P5)
  replace HA := Lib.hid (HA.out.on P5)
  replace HB := Lib.hid (HB.out.on P5)
  have HK := Lib.hid (OZ)
  obtain ⟨bHK, hbHK⟩ : ∃ z, v4.heap.size = z := ⟨_, rfl⟩
  rw [hbHK] at HK ⊢
  clear hbHK OZ P5
  obtain ⟨HAc0, HAc1⟩ := own2 HA.out
  obtain ⟨HBc0, HBc1⟩ := own2 HB.out
  have hQ := HC.out.1.2.2.2.1 v5
  go_wp2_with fail
  refine hQ.mono ?_
  rintro e v6 ⟨rfl, P6⟩
  clear hQ
  clear HAc0 HAc1 HBc0 HBc1
  replace HW := Lib.hid (HW.out.trans P6)
  replace HA := Lib.hid (HA.out.on P6)
  replace HB := Lib.hid (HB.out.on P6)
  replace HK := Lib.hid (HK.out.on P6)
  clear P6
  have Z0 : Own (v6.alloc (.cells #[.int .i64 0, .int .i64 0] 23)) v6.heap.size 23 #[.int .i64 0, .int .i64 0] := Own.new _ _ _
  obtain ⟨k0, k1⟩ := own2 Z0
  have f0 := Z0.frozen 0
  have f1 := Z0.frozen 1
  go_upto_region 5 with fail
  clear k0 k1 f0 f1 Z0
  obtain ⟨v7, hwv7⟩ : ∃ z, v6.alloc (.cells #[.int .i64 (m1 : Int), .int .i64 (m2 : Int)] 23) = z := ⟨_, rfl⟩
  obtain ⟨OZ, P7⟩ := box1 rfl hwv7
  rw [hwv7]
  clear hwv7
  replace HW := Lib.hid (HW.out.trans P7)
  replace HA := Lib.hid (HA.out.on P7)
  replace HB := Lib.hid (HB.out.on P7)
  replace HK := Lib.hid (HK.out.on P7)
  have HM := Lib.hid (OZ)
  obtain ⟨bHM, hbHM⟩ : ∃ z, v6.heap.size = z := ⟨_, rfl⟩
  rw [hbHM] at HM ⊢
  clear hbHM OZ P7
  obtain ⟨HAc0, HAc1⟩ := own2 HA.out
  obtain ⟨HBc0, HBc1⟩ := own2 HB.out
  have hQ := HC.out.1.2.2.2.2 v7
  go_wp2_with fail
  refine hQ.mono ?_
  rintro e v8 ⟨rfl, P8⟩
  clear hQ
  clear HAc0 HAc1 HBc0 HBc1
  replace HW := Lib.hid (HW.out.trans P8)
  replace HA := Lib.hid (HA.out.on P8)
  replace HB := Lib.hid (HB.out.on P8)
  replace HK := Lib.hid (HK.out.on P8)
  replace HM := Lib.hid (HM.out.on P8)
  clear P8
  obtain ⟨HAc0, HAc1⟩ := own2 HA.out
  have hQ := HC.out.2.1.1 v8
  go_wp2_with fail
  refine hQ.mono ?_
  rintro e v9 ⟨rfl, P9⟩
  clear hQ
  clear HAc0 HAc1
  replace HW := Lib.hid (HW.out.trans P9)
  replace HA := Lib.hid (HA.out.on P9)
  replace HB := Lib.hid (HB.out.on P9)
  replace HK := Lib.hid (HK.out.on P9)
  replace HM := Lib.hid (HM.out.on P9)
  clear P9
  obtain ⟨HBc0, HBc1⟩ := own2 HB.out
  have hQ := HC.out.2.1.2 v9
  go_wp2_with fail
  refine hQ.mono ?_
  rintro e v10 ⟨rfl, P10⟩
  clear hQ
  clear HBc0 HBc1
  replace HW := Lib.hid (HW.out.trans P10)
  replace HA := Lib.hid (HA.out.on P10)
  replace HB := Lib.hid (HB.out.on P10)
  replace HK := Lib.hid (HK.out.on P10)
  replace HM := Lib.hid (HM.out.on P10)
  clear P10
  have rK := HC.out.2.2.1
  have rM := HC.out.2.2.2
  clear HC
  cases cb
  · cases mb
    · clear rK rM
      cases x <;> cases y <;> cases ib
      all_goals first | (exfalso; revert hms his; cases mx <;> decide) | (go_wp2; go_ret; exact ⟨rfl, HW.out⟩)
    · clear rK
      cases mx <;> cases x <;> cases y <;> cases ib
      all_goals first | (exfalso; revert hms his; decide) | skip
      all_goals
        obtain ⟨c0, c1⟩ := own2 HM.out
        have hQ := rM v10
        go_wp2_with fail
        refine hQ.mono ?_
        rintro e z1 ⟨rfl, PZ⟩
        go_wp2
        go_ret
        exact ⟨rfl, HW.out.trans PZ⟩
  · cases mb
    · clear rM
      cases kx <;> cases x <;> cases y <;> cases ib
      all_goals first | (exfalso; revert hcs hms his; cases mx <;> decide) | skip
      all_goals
        obtain ⟨c0, c1⟩ := own2 HK.out
        have hQ := rK v10
        go_wp2_with fail
        refine hQ.mono ?_
        rintro e z1 ⟨rfl, PZ⟩
        go_wp2
        go_ret
        exact ⟨rfl, HW.out.trans PZ⟩
    · cases kx <;> cases mx <;> cases x <;> cases y <;> cases ib
      all_goals first | (exfalso; revert hcs hms his; decide) | skip
      all_goals
        obtain ⟨c0, c1⟩ := own2 HK.out
        have hQ := rK v10
        go_wp2_with fail
        refine hQ.mono ?_
        rintro e z1 ⟨rfl, PZ⟩
        clear c0 c1 hQ
        obtain ⟨c0, c1⟩ := own2 (HM.out.on PZ)
        have hQ := rM z1
        go_wp2_with fail
        refine hQ.mono ?_
        rintro e z2 ⟨rfl, PY⟩
        go_wp2
        go_ret
        exact ⟨rfl, (HW.out.trans PZ).trans PY⟩
theorem ltsplits_any (w : World) (a1 a2 b1 b2 s : Int) :
    Calls Try.prog 7 #[.agg #[.int .i64 a1, .int .i64 a2], .agg #[.int .i64 b1, .int .i64 b2], .int .i64 s] w fun e w' => e = .returned (.bool true) ∧ On w w' := by
  by_cases hz : chkL [(a1, a2), (b1, b2)] = 0
  · cases hm : maskZ s with
    | true =>
      obtain ⟨⟨x1, x2⟩, ⟨y1, y2⟩, h1, h2, o1, o2⟩ := chk_pair hz
      obtain ⟨t, rfl, ht⟩ := maskZ_nat hm
      unfold zc at h1 h2
      injection h1 with e1 e2
      injection h2 with e3 e4
      simp only at e1 e2 e3 e4
      subst e1; subst e2; subst e3; subst e4
      exact splits_ok w x1 x2 y1 y2 t o1 o2 ht
    | false => exact splits_off w a1 a2 b1 b2 s hz hm
  · exact splits_bad w a1 a2 b1 b2 s hz
theorem ltagrees_any (w : World) (a1 a2 b1 b2 s : Int) :
    Calls Try.prog 9 #[.agg #[.int .i64 a1, .int .i64 a2], .agg #[.int .i64 b1, .int .i64 b2], .int .i64 s] w fun e w' => e = .returned (.bool true) ∧ On w w' := by
  by_cases hz : chkL [(a1, a2), (b1, b2)] = 0
  · cases hm : maskZ s with
    | true =>
      obtain ⟨⟨x1, x2⟩, ⟨y1, y2⟩, h1, h2, o1, o2⟩ := chk_pair hz
      obtain ⟨t, rfl, ht⟩ := maskZ_nat hm
      unfold zc at h1 h2
      injection h1 with e1 e2
      injection h2 with e3 e4
      simp only at e1 e2 e3 e4
      subst e1; subst e2; subst e3; subst e4
      exact agrees_ok w x1 x2 y1 y2 t o1 o2 ht
    | false => exact agrees_off w a1 a2 b1 b2 s hz hm
  · exact agrees_bad w a1 a2 b1 b2 s hz
end Go.Proofs.Ythamjboppnlpdaa.Cu
