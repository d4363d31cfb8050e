/-
  Package cube: Meet, Consensus; the specification's.
-/
import Derived.Test.YthamjboppnlpdaaCc
import Derived.Test.YthamjboppnlpdaaCt
namespace Go.Proofs.Ythamjboppnlpdaa.Cu
open Go.RowKit Go.Proofs.Ythamjboppnlpdaa.Sb
set_option linter.unusedVariables false
set_option maxRecDepth 100000
set_option maxHeartbeats 4000000 in
theorem meet_bad (w : World) (a b : Cz) (hb : chkL [a, b] ≠ 0) :
    Calls Try.prog 19 #[czV a, czV b] w fun e w' => e = .returned (.tuple #[cbV (0, 0), .bool false, errV (chkL [a, b])]) ∧ On w w' := by
  obtain ⟨q, hq⟩ : ∃ q, w.heap.size = q := ⟨_, rfl⟩
  obtain ⟨a1, a2⟩ := a
  obtain ⟨b1, b2⟩ := b
  unfold czV
  simp only
  obtain ⟨w0, hw0⟩ : ∃ w0, ((w.alloc (.cells #[.int .i64 a1, .int .i64 a2] 23)).alloc (.cells #[.int .i64 b1, .int .i64 b2] 23)).alloc (.cells #[.int .i64 0, .int .i64 0] 23) = w0 := ⟨_, rfl⟩
  obtain ⟨O0, E0, F0, P0⟩ := box3 hq hw0
  obtain ⟨r0, r1⟩ := own2 O0
  obtain ⟨s0, s1⟩ := own2 E0
  obtain ⟨w1, hw1⟩ : ∃ w1, w0.alloc (.cells #[.int .i64 a1, .int .i64 a2, .int .i64 b1, .int .i64 b2] 23) = w1 := ⟨_, rfl⟩
  obtain ⟨O1, P1⟩ := own4 rfl hw1
  have hC := check_any w1 _ 2 2 [(a1, a2), (b1, b2)] (rdc_two O1)
  have HP := Lib.hid (And.intro (P0.trans P1) (F0.on P1))
  clear P0 P1 O0 O1 E0 F0
  obtain ⟨x, hx⟩ : ∃ x, chkL [(a1, a2), (b1, b2)] = x := ⟨_, rfl⟩
  rw [hx] at hC hb ⊢
  clear hx
  rw [errV_pos _ hb] at hC ⊢
  clear hb
  go_enter Try.func19, Try.ntmps19
  subst hq
  go_wp2_with fail
  refine hC.mono ?_
  rintro e w2 ⟨rfl, P2⟩
  clear hC r0 r1 s0 s1
  have F2 := HP.out.2.on P2
  obtain ⟨k0, k1⟩ := own2 F2
  have f0 := F2.frozen 0
  have f1 := F2.frozen 1
  have HF := Lib.hid F2
  clear F2
  go_wp2
  obtain ⟨F3, P3⟩ := store2 HF.out (HP.out.1.trans P2) (show w.heap.size ≤ w.heap.size + 1 + 1 by omega) (.int .i64 0) (.int .i64 0)
  obtain ⟨x0, x1⟩ := own2 F3
  exact bodyPost_ret (v := .tuple #[.agg #[.int .i64 0, .int .i64 0], .bool false, .iface 62 (.int .i64 (x : Int))]) (by simp [results, Try.results19, go_sem, x0, x1]) rfl ⟨rfl, P3⟩
set_option maxHeartbeats 4000000 in
theorem cons_bad (w : World) (a b : Cz) (hb : chkL [a, b] ≠ 0) :
    Calls Try.prog 21 #[czV a, czV b] w fun e w' => e = .returned (.tuple #[cbV (0, 0), .bool false, errV (chkL [a, b])]) ∧ On w w' := by
  obtain ⟨q, hq⟩ : ∃ q, w.heap.size = q := ⟨_, rfl⟩
  obtain ⟨a1, a2⟩ := a
  obtain ⟨b1, b2⟩ := b
  unfold czV
  simp only
  obtain ⟨w0, hw0⟩ : ∃ w0, ((w.alloc (.cells #[.int .i64 a1, .int .i64 a2] 23)).alloc (.cells #[.int .i64 b1, .int .i64 b2] 23)).alloc (.cells #[.int .i64 0, .int .i64 0] 23) = w0 := ⟨_, rfl⟩
  obtain ⟨O0, E0, F0, P0⟩ := box3 hq hw0
  obtain ⟨r0, r1⟩ := own2 O0
  obtain ⟨s0, s1⟩ := own2 E0
  obtain ⟨w1, hw1⟩ : ∃ w1, w0.alloc (.cells #[.int .i64 a1, .int .i64 a2, .int .i64 b1, .int .i64 b2] 23) = w1 := ⟨_, rfl⟩
  obtain ⟨O1, P1⟩ := own4 rfl hw1
  have hC := check_any w1 _ 2 2 [(a1, a2), (b1, b2)] (rdc_two O1)
  have HP := Lib.hid (And.intro (P0.trans P1) (F0.on P1))
  clear P0 P1 O0 O1 E0 F0
  obtain ⟨x, hx⟩ : ∃ x, chkL [(a1, a2), (b1, b2)] = x := ⟨_, rfl⟩
  rw [hx] at hC hb ⊢
  clear hx
  rw [errV_pos _ hb] at hC ⊢
  clear hb
  go_enter Try.func21, Try.ntmps21
  subst hq
  go_wp2_with fail
  refine hC.mono ?_
  rintro e w2 ⟨rfl, P2⟩
  clear hC r0 r1 s0 s1
  have F2 := HP.out.2.on P2
  obtain ⟨k0, k1⟩ := own2 F2
  have f0 := F2.frozen 0
  have f1 := F2.frozen 1
  have HF := Lib.hid F2
  clear F2
  go_wp2
  obtain ⟨F3, P3⟩ := store2 HF.out (HP.out.1.trans P2) (show w.heap.size ≤ w.heap.size + 1 + 1 by omega) (.int .i64 0) (.int .i64 0)
  obtain ⟨x0, x1⟩ := own2 F3
  exact bodyPost_ret (v := .tuple #[.agg #[.int .i64 0, .int .i64 0], .bool false, .iface 62 (.int .i64 (x : Int))]) (by simp [results, Try.results21, go_sem, x0, x1]) rfl ⟨rfl, P3⟩
set_option maxHeartbeats 4000000 in
theorem meet_ok (w : World) (a b : Cb) (ha : OkC a) (hb : OkC b) :
    Calls Try.prog 19 #[cbV a, cbV b] w fun e w' => e = .returned (.tuple #[cbV (meetOut a b).1, .bool (meetOut a b).2, .nilIface]) ∧ On w w' := by
  have hK := fun W => clash_ok W a b ha hb
  have h0 := chk_two ha hb
  have h1 := or_nat a.1 b.1 (lt63 ha.1) (lt63 hb.1)
  have h2 := or_nat a.2 b.2 (lt63 ha.2.1) (lt63 hb.2.1)
  unfold meetOut meetC
  obtain ⟨a1, a2⟩ := a
  obtain ⟨b1, b2⟩ := b
  obtain ⟨x, hx⟩ : ∃ x, clash (a1, a2) (b1, b2) = x := ⟨_, rfl⟩
  rw [hx] at hK
  unfold cbV at *
  simp only at hK h0 h1 h2 ⊢
  clear ha hb
  obtain ⟨q, hq⟩ : ∃ q, w.heap.size = q := ⟨_, rfl⟩
  obtain ⟨w0, hw0⟩ : ∃ w0, ((w.alloc (.cells #[.int .i64 (a1 : Int), .int .i64 (a2 : Int)] 23)).alloc (.cells #[.int .i64 (b1 : Int), .int .i64 (b2 : Int)] 23)).alloc (.cells #[.int .i64 0, .int .i64 0] 23) = w0 := ⟨_, rfl⟩
  obtain ⟨O0, E0, F0, P0⟩ := box3 hq hw0
  obtain ⟨r0, r1⟩ := own2 O0
  obtain ⟨s0, s1⟩ := own2 E0
  obtain ⟨w1, hw1⟩ : ∃ w1, w0.alloc (.cells #[.int .i64 (a1 : Int), .int .i64 (a2 : Int), .int .i64 (b1 : Int), .int .i64 (b2 : Int)] 23) = w1 := ⟨_, rfl⟩
  obtain ⟨O1, P1⟩ := own4 rfl hw1
  have hC := check_any w1 _ 2 2 _ (rdc_two O1)
  rw [h0, errV_zero] at hC
  have HP := Lib.hid (And.intro (P0.trans P1) (And.intro (O0.on P1) (And.intro (E0.on P1) (F0.on P1))))
  clear P0 P1 O0 O1 E0 F0 h0
  obtain ⟨u, hu⟩ : ∃ u, a1 ||| b1 = u := ⟨_, rfl⟩
  obtain ⟨v, hv⟩ : ∃ v, a2 ||| b2 = v := ⟨_, rfl⟩
  rw [hu] at h1 ⊢
  rw [hv] at h2 ⊢
  clear hu hv
  by_cases hz : x = 0
  · rw [if_pos (hx.trans hz)]
    clear hx
    subst hz
    go_enter Try.func19, Try.ntmps19
    subst hq
    go_wp2_with fail
    refine hC.mono ?_
    rintro e w2 ⟨rfl, P2⟩
    clear hC r0 r1 s0 s1
    obtain ⟨r0, r1⟩ := own2 (HP.out.2.1.on P2)
    obtain ⟨s0, s1⟩ := own2 (HP.out.2.2.1.on P2)
    have hK2 := hK w2
    clear hK
    go_wp2_with fail
    refine hK2.mono ?_
    rintro e w3 ⟨rfl, P3⟩
    clear hK2 r0 r1 s0 s1
    have P23 := P2.trans P3
    obtain ⟨r0, r1⟩ := own2 (HP.out.2.1.on P23)
    obtain ⟨s0, s1⟩ := own2 (HP.out.2.2.1.on P23)
    have F3 := HP.out.2.2.2.on P23
    obtain ⟨k0, k1⟩ := own2 F3
    have f0 := F3.frozen 0
    have f1 := F3.frozen 1
    have PP := HP.out.1.trans P23
    have HF := Lib.hid F3
    clear F3 P2 P3 P23
    go_wp2
    obtain ⟨F3, P3⟩ := store2 HF.out PP (show w.heap.size ≤ w.heap.size + 1 + 1 by omega) (.int .i64 (u : Int)) (.int .i64 (v : Int))
    obtain ⟨x0, x1⟩ := own2 F3
    exact bodyPost_ret (v := .tuple #[.agg #[.int .i64 (u : Int), .int .i64 (v : Int)], .bool true, .nilIface]) (by simp [results, Try.results19, go_sem, x0, x1]) rfl ⟨rfl, P3⟩
  · rw [if_neg (fun e => hz (hx.symm.trans e))]
    clear hx
    go_enter Try.func19, Try.ntmps19
    subst hq
    go_wp2_with fail
    refine hC.mono ?_
    rintro e w2 ⟨rfl, P2⟩
    clear hC r0 r1 s0 s1
    obtain ⟨r0, r1⟩ := own2 (HP.out.2.1.on P2)
    obtain ⟨s0, s1⟩ := own2 (HP.out.2.2.1.on P2)
    have hK2 := hK w2
    clear hK
    go_wp2_with fail
    refine hK2.mono ?_
    rintro e w3 ⟨rfl, P3⟩
    clear hK2 r0 r1 s0 s1
    have P23 := P2.trans P3
    obtain ⟨r0, r1⟩ := own2 (HP.out.2.1.on P23)
    obtain ⟨s0, s1⟩ := own2 (HP.out.2.2.1.on P23)
    have F3 := HP.out.2.2.2.on P23
    obtain ⟨k0, k1⟩ := own2 F3
    have f0 := F3.frozen 0
    have f1 := F3.frozen 1
    have PP := HP.out.1.trans P23
    have HF := Lib.hid F3
    clear F3 P2 P3 P23
    go_wp2
    obtain ⟨F3, P3⟩ := store2 HF.out PP (show w.heap.size ≤ w.heap.size + 1 + 1 by omega) (.int .i64 0) (.int .i64 0)
    obtain ⟨x0, x1⟩ := own2 F3
    exact bodyPost_ret (v := .tuple #[.agg #[.int .i64 0, .int .i64 0], .bool false, .nilIface]) (by simp [results, Try.results19, go_sem, x0, x1]) rfl ⟨rfl, P3⟩
set_option maxHeartbeats 4000000 in
theorem cons_ok (w : World) (a b : Cb) (ha : OkC a) (hb : OkC b) :
    Calls Try.prog 21 #[cbV a, cbV b] w fun e w' => e = .returned (.tuple #[cbV (consOut a b).1, .bool (consOut a b).2, .nilIface]) ∧ On w w' := by
  have hK := fun W => clash_ok W a b ha hb
  have h0 := chk_two ha hb
  have hl := clash_lt (b := b) ha
  have h1 := or_nat a.1 b.1 (lt63 ha.1) (lt63 hb.1)
  have h2 := or_nat a.2 b.2 (lt63 ha.2.1) (lt63 hb.2.1)
  have h3 := andNot_nat (a.1 ||| b.1) (clash a b) (lt63 (or24 ha.1 hb.1)) (lt63 hl)
  have h4 := andNot_nat (a.2 ||| b.2) (clash a b) (lt63 (or24 ha.2.1 hb.2.1)) (lt63 hl)
  have hN := fun W => count_any W (clash a b : Nat)
  rw [cut_nat _ hl] at hN
  unfold consOut consC
  obtain ⟨x, hx⟩ : ∃ x, clash a b = x := ⟨_, rfl⟩
  rw [hx] at hK h3 h4 hN ⊢
  obtain ⟨a1, a2⟩ := a
  obtain ⟨b1, b2⟩ := b
  unfold cbV at *
  simp only at hK h0 h1 h2 h3 h4 hN ⊢
  clear ha hb hx hl
  obtain ⟨q, hq⟩ : ∃ q, w.heap.size = q := ⟨_, rfl⟩
  obtain ⟨w0, hw0⟩ : ∃ w0, ((w.alloc (.cells #[.int .i64 (a1 : Int), .int .i64 (a2 : Int)] 23)).alloc (.cells #[.int .i64 (b1 : Int), .int .i64 (b2 : Int)] 23)).alloc (.cells #[.int .i64 0, .int .i64 0] 23) = w0 := ⟨_, rfl⟩
  obtain ⟨O0, E0, F0, P0⟩ := box3 hq hw0
  obtain ⟨r0, r1⟩ := own2 O0
  obtain ⟨s0, s1⟩ := own2 E0
  obtain ⟨w1, hw1⟩ : ∃ w1, w0.alloc (.cells #[.int .i64 (a1 : Int), .int .i64 (a2 : Int), .int .i64 (b1 : Int), .int .i64 (b2 : Int)] 23) = w1 := ⟨_, rfl⟩
  obtain ⟨O1, P1⟩ := own4 rfl hw1
  have hC := check_any w1 _ 2 2 _ (rdc_two O1)
  rw [h0, errV_zero] at hC
  have HP := Lib.hid (And.intro (P0.trans P1) (And.intro (O0.on P1) (And.intro (E0.on P1) (F0.on P1))))
  clear P0 P1 O0 O1 E0 F0 h0
  obtain ⟨u, hu⟩ : ∃ u, a1 ||| b1 = u := ⟨_, rfl⟩
  obtain ⟨v, hv⟩ : ∃ v, a2 ||| b2 = v := ⟨_, rfl⟩
  rw [hu] at h1 h3 ⊢
  rw [hv] at h2 h4 ⊢
  obtain ⟨u2, hu2⟩ : ∃ u2, without u x = u2 := ⟨_, rfl⟩
  obtain ⟨v2, hv2⟩ : ∃ v2, without v x = v2 := ⟨_, rfl⟩
  rw [hu2] at h3 ⊢
  rw [hv2] at h4 ⊢
  obtain ⟨p, hp⟩ : ∃ p, pc x = p := ⟨_, rfl⟩
  rw [hp] at hN
  clear hu hv hu2 hv2
  by_cases hz : p = 1
  · rw [if_pos (hp.trans hz)]
    clear hp
    subst hz
    go_enter Try.func21, Try.ntmps21
    subst hq
    go_wp2_with fail
    refine hC.mono ?_
    rintro e w2 ⟨rfl, P2⟩
    clear hC r0 r1 s0 s1
    obtain ⟨r0, r1⟩ := own2 (HP.out.2.1.on P2)
    obtain ⟨s0, s1⟩ := own2 (HP.out.2.2.1.on P2)
    have hK2 := hK w2
    clear hK
    go_wp2_with fail
    refine hK2.mono ?_
    rintro e w3 ⟨rfl, P3⟩
    clear hK2 r0 r1 s0 s1
    have P23 := P2.trans P3
    obtain ⟨r0, r1⟩ := own2 (HP.out.2.1.on P23)
    obtain ⟨s0, s1⟩ := own2 (HP.out.2.2.1.on P23)
    have F3 := HP.out.2.2.2.on P23
    obtain ⟨k0, k1⟩ := own2 F3
    have f0 := F3.frozen 0
    have f1 := F3.frozen 1
    have PP := HP.out.1.trans P23
    have HF := Lib.hid F3
    clear F3 P2 P3 P23
    go_wp2_with fail
    refine (hN _).mono ?_
    rintro e w4 ⟨rfl, rfl⟩
    clear hN
    go_wp2
    obtain ⟨F3, P3⟩ := store2 HF.out PP (show w.heap.size ≤ w.heap.size + 1 + 1 by omega) (.int .i64 (u2 : Int)) (.int .i64 (v2 : Int))
    obtain ⟨x0, x1⟩ := own2 F3
    exact bodyPost_ret (v := .tuple #[.agg #[.int .i64 (u2 : Int), .int .i64 (v2 : Int)], .bool true, .nilIface]) (by simp [results, Try.results21, go_sem, x0, x1]) rfl ⟨rfl, P3⟩
  · rw [if_neg (fun e => hz (hp.symm.trans e))]
    clear hp
    go_enter Try.func21, Try.ntmps21
    subst hq
    go_wp2_with fail
    refine hC.mono ?_
    rintro e w2 ⟨rfl, P2⟩
    clear hC r0 r1 s0 s1
    obtain ⟨r0, r1⟩ := own2 (HP.out.2.1.on P2)
    obtain ⟨s0, s1⟩ := own2 (HP.out.2.2.1.on P2)
    have hK2 := hK w2
    clear hK
    go_wp2_with fail
    refine hK2.mono ?_
    rintro e w3 ⟨rfl, P3⟩
    clear hK2 r0 r1 s0 s1
    have P23 := P2.trans P3
    obtain ⟨r0, r1⟩ := own2 (HP.out.2.1.on P23)
    obtain ⟨s0, s1⟩ := own2 (HP.out.2.2.1.on P23)
    have F3 := HP.out.2.2.2.on P23
    obtain ⟨k0, k1⟩ := own2 F3
    have f0 := F3.frozen 0
    have f1 := F3.frozen 1
    have PP := HP.out.1.trans P23
    have HF := Lib.hid F3
    clear F3 P2 P3 P23
    go_wp2_with fail
    refine (hN _).mono ?_
    rintro e w4 ⟨rfl, rfl⟩
    clear hN
    go_wp2
    obtain ⟨F3, P3⟩ := store2 HF.out PP (show w.heap.size ≤ w.heap.size + 1 + 1 by omega) (.int .i64 0) (.int .i64 0)
    obtain ⟨x0, x1⟩ := own2 F3
    exact bodyPost_ret (v := .tuple #[.agg #[.int .i64 0, .int .i64 0], .bool false, .nilIface]) (by simp [results, Try.results21, go_sem, x0, x1]) rfl ⟨rfl, P3⟩
end Go.Proofs.Ythamjboppnlpdaa.Cu
