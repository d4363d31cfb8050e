/-
  What the statements of cubes begin with: the example.
-/
import Derived.Test.YthamjboppnlpdaaCh
namespace Go.Proofs.Ythamjboppnlpdaa.Cu
open Go.RowKit Go.Proofs.Ythamjboppnlpdaa.Sb
set_option linter.unusedVariables false
set_option maxRecDepth 100000
theorem okC10 : OkC (1, 0) := by refine ⟨by decide, by decide, by decide⟩
theorem okC60 : OkC (6, 0) := by refine ⟨by decide, by decide, by decide⟩
theorem okC30 : OkC (3, 0) := by refine ⟨by decide, by decide, by decide⟩
theorem okC41 : OkC (4, 1) := by refine ⟨by decide, by decide, by decide⟩
set_option maxHeartbeats 4000000 in
theorem awake_any (w : World) :
    Calls Try.prog 11 #[] w fun e w' => e = .returned (.bool true) ∧ On w w' := by
  have e1 : minusL (1, 0) (6, 0) = [(1, 2), (3, 4)] := by decide +kernel
  have e2 : consOut (3, 0) (4, 1) = ((6, 0), true) := by decide +kernel
  have hM := minus2_ok w (1, 0) (6, 0) okC10 okC60
  have hC := fun W => cons_ok W (3, 0) (4, 1) okC30 okC41
  rw [e1] at hM
  rw [e2] at hC
  have hM2 : Calls Try.prog 20 #[.agg #[.int .i64 1, .int .i64 0], .agg #[.int .i64 6, .int .i64 0]] w fun e w' => ∃ A c, e = .returned (.tuple #[.slice A 2 c, .nilIface]) ∧ RdC w' A 2 c (zl [(1, 2), (3, 4)]) ∧ On w w' := hM
  have hC2 : ∀ W, Calls Try.prog 21 #[.agg #[.int .i64 3, .int .i64 0], .agg #[.int .i64 4, .int .i64 1]] W fun e w' => e = .returned (.tuple #[.agg #[.int .i64 6, .int .i64 0], .bool true, .nilIface]) ∧ On W w' := hC
  clear hM hC e1 e2
  go_enter Try.func11, Try.ntmps11
  go_wp2_with fail
  refine hM2.mono ?_
  rintro e w1 ⟨A, c, rfl, R1, P1⟩
  have hcap := R1.cap
  have hmax := R1.max
  have hC3 := hC2 w1
  have HR := Lib.hid (And.intro R1 P1)
  clear hM2 hC2 R1 P1
  go_wp2_with fail
  refine hC3.mono ?_
  rintro e w2 ⟨rfl, P2⟩
  clear hC3
  have Z0 : Own (w2.alloc (.cells #[.int .i64 0, .int .i64 0] 23)) w2.heap.size 23 #[.int .i64 0, .int .i64 0] := Own.new _ _ _
  obtain ⟨k0, k1⟩ := own2 Z0
  have f0 := Z0.frozen 0
  have f1 := Z0.frozen 1
  go_upto_region 3 with fail
  clear k0 k1 f0 f1 Z0
  obtain ⟨w3, hw3⟩ : ∃ w3, w2.alloc (.cells #[.int .i64 6, .int .i64 0] 23) = w3 := ⟨_, rfl⟩
  try rw [hw3]
  obtain ⟨O3, P3⟩ := box1 rfl hw3
  obtain ⟨r0, r1⟩ := own2 O3
  obtain ⟨w4, hw4⟩ : ∃ w4, w3.alloc (.cells #[.int .i64 1, .int .i64 2, .int .i64 3, .int .i64 4] 23) = w4 := ⟨_, rfl⟩
  obtain ⟨O4, P4⟩ := own4 rfl hw4
  have hS := rsame_ok w4 A 2 c [(1, 2), (3, 4)] (((HR.out.1.on P2).on P3).on P4) _ 2 2 (rdc_two O4)
  have HP := Lib.hid (((HR.out.2.trans P2).trans P3).trans P4)
  clear O3 P3 O4 P4 P2
  go_wp2_with fail
  refine hS.mono ?_
  rintro e w5 ⟨rfl, P5⟩
  go_wp2
  go_ret
  exact ⟨rfl, HP.out.trans P5⟩
set_option maxHeartbeats 4000000 in
theorem ltchecks_any (w : World) (c1 c2 : Int) (s : Int) :
    Calls Try.prog 3 #[.agg #[.int .i64 c1, .int .i64 c2], .int .i64 s] w fun e w' => e = .returned (.bool true) ∧ On w w' := by
  obtain ⟨q, hq⟩ : ∃ q, w.heap.size = q := ⟨_, rfl⟩
  obtain ⟨w0, hw0⟩ : ∃ w0, w.alloc (.cells #[.int .i64 c1, .int .i64 c2] 23) = w0 := ⟨_, rfl⟩
  obtain ⟨O0, P0⟩ := box1 hq hw0
  have hAw := awake_any w0
  have hR := fun W => rcheck_any W (c1, c2)
  have hK := fun W => check1_any W (c1, c2)
  have hN := fun W => num_any W (chkC (c1, c2))
  have hX := fun W => rmask_any W s
  have hB := fun W h => holds_bad W (c1, c2) s h
  have HO := Lib.hid (And.intro O0 P0)
  have hle := chkC_le (c1, c2)
  have hout : outH (c1, c2) s = if chkC (c1, c2) = 0 then (if maskZ s = true then 0 else 3) else chkC (c1, c2) := rfl
  unfold czV at hR hK hB
  simp only at hR hK hB
  clear O0 P0
  by_cases hz : chkC (c1, c2) = 0
  · obtain ⟨⟨y, n⟩, hc, hok⟩ := chkC_zero hz
    rw [hz] at hR hK hN hout
    rw [if_pos rfl] at hout
    rw [errV_zero] at hK
    unfold zc at hc
    injection hc with e1 e2
    simp only at e1 e2
    subst e1
    subst e2
    clear hle hz
    cases hm : maskZ s with
    | true =>
      rw [hm] at hX
      obtain ⟨t, rfl, ht⟩ := maskZ_nat hm
      have hH := fun W => holds_ok W (y, n) t hok ht
      have hG := fun W => rholds_ok W (y, n) t hok ht
      unfold cbV at hH hG
      simp only at hH hG
      obtain ⟨b, hb⟩ : ∃ b, holdsC (y, n) t = b := ⟨_, rfl⟩
      rw [hb] at hH hG
      clear hB hout hm hb hN hok ht
      go_enter Try.func3, Try.ntmps3
      subst hq
      go_wp2_with fail
      refine hAw.mono ?_
      rintro e w1 ⟨rfl, P1⟩
      clear hAw
      obtain ⟨r0, r1⟩ := own2 (HO.out.1.on P1)
      have hR1 := hR w1
      clear hR
      go_wp2_with fail
      refine hR1.mono ?_
      rintro e w2 ⟨rfl, P2⟩
      clear hR1 r0 r1
      have P12 := P1.trans P2
      obtain ⟨r0, r1⟩ := own2 (HO.out.1.on P12)
      have hH1 := hH w2
      clear hH
      go_wp2_with fail
      refine hH1.mono ?_
      rintro e w3 ⟨rfl, P3⟩
      clear hH1 r0 r1
      have P13 := P12.trans P3
      obtain ⟨r0, r1⟩ := own2 (HO.out.1.on P13)
      have hK1 := hK w3
      clear hK
      go_wp2_with fail
      refine hK1.mono ?_
      rintro e w4 ⟨rfl, P4⟩
      clear hK1 r0 r1
      have P14 := P13.trans P4
      obtain ⟨r0, r1⟩ := own2 (HO.out.1.on P14)
      have hN4 := num_any w4 0
      rw [errV_zero] at hN4
      go_wp2_with fail
      refine hN4.mono ?_
      rintro e w5 ⟨rfl, rfl⟩
      clear hN4
      go_wp2_with fail
      refine (hX _).mono ?_
      rintro e w6 ⟨rfl, rfl⟩
      clear hX
      have hG1 := hG w4
      clear hG
      go_wp2_with fail
      refine hG1.mono ?_
      rintro e w7 ⟨rfl, P7⟩
      go_wp2
      go_ret
      exact ⟨by simp, HO.out.2.trans (P14.trans P7)⟩
    | false =>
      rw [hm] at hX hout
      rw [if_neg (by decide)] at hout
      have hB1 := fun W => hB W (by rw [hout]; decide)
      rw [hout, errV_pos _ (by decide)] at hB1
      clear hB hout hm hN hok
      go_enter Try.func3, Try.ntmps3
      subst hq
      go_wp2_with fail
      refine hAw.mono ?_
      rintro e w1 ⟨rfl, P1⟩
      clear hAw
      obtain ⟨r0, r1⟩ := own2 (HO.out.1.on P1)
      have hR1 := hR w1
      clear hR
      go_wp2_with fail
      refine hR1.mono ?_
      rintro e w2 ⟨rfl, P2⟩
      clear hR1 r0 r1
      have P12 := P1.trans P2
      obtain ⟨r0, r1⟩ := own2 (HO.out.1.on P12)
      have hB2 := hB1 w2
      clear hB1
      go_wp2_with fail
      refine hB2.mono ?_
      rintro e w3 ⟨rfl, P3⟩
      clear hB2 r0 r1
      have P13 := P12.trans P3
      obtain ⟨r0, r1⟩ := own2 (HO.out.1.on P13)
      have hK1 := hK w3
      clear hK
      go_wp2_with fail
      refine hK1.mono ?_
      rintro e w4 ⟨rfl, P4⟩
      clear hK1 r0 r1
      have P14 := P13.trans P4
      have hN4 := num_any w4 0
      rw [errV_zero] at hN4
      go_wp2_with fail
      refine hN4.mono ?_
      rintro e w5 ⟨rfl, rfl⟩
      clear hN4
      go_wp2_with fail
      refine (hX _).mono ?_
      rintro e w6 ⟨rfl, rfl⟩
      clear hX
      have hN5 := num_any w4 3
      rw [errV_pos _ (by decide)] at hN5
      go_wp2_with fail
      refine hN5.mono ?_
      rintro e w7 ⟨rfl, rfl⟩
      go_wp2
      go_ret
      exact ⟨by simp, HO.out.2.trans P14⟩
  · rw [if_neg hz] at hout
    rw [hout] at hB
    have hB1 := fun W => hB W hz
    obtain ⟨x, hx⟩ : ∃ x, chkC (c1, c2) = x := ⟨_, rfl⟩
    rw [hx] at hR hK hN hB1 hz
    rw [errV_pos _ hz] at hK hN hB1
    clear hB hout hx hX hle
    go_enter Try.func3, Try.ntmps3
    subst hq
    go_wp2_with fail
    refine hAw.mono ?_
    rintro e w1 ⟨rfl, P1⟩
    clear hAw
    obtain ⟨r0, r1⟩ := own2 (HO.out.1.on P1)
    have hR1 := hR w1
    clear hR
    go_wp2_with fail
    refine hR1.mono ?_
    rintro e w2 ⟨rfl, P2⟩
    clear hR1 r0 r1
    have P12 := P1.trans P2
    obtain ⟨r0, r1⟩ := own2 (HO.out.1.on P12)
    have hB2 := hB1 w2
    clear hB1
    go_wp2_with fail
    refine hB2.mono ?_
    rintro e w3 ⟨rfl, P3⟩
    clear hB2 r0 r1
    have P13 := P12.trans P3
    obtain ⟨r0, r1⟩ := own2 (HO.out.1.on P13)
    have hK1 := hK w3
    clear hK
    go_wp2_with fail
    refine hK1.mono ?_
    rintro e w4 ⟨rfl, P4⟩
    clear hK1 r0 r1
    have P14 := P13.trans P4
    go_wp2_with fail
    refine (hN _).mono ?_
    rintro e w5 ⟨rfl, rfl⟩
    go_wp2_with fail
    refine (hN _).mono ?_
    rintro e w6 ⟨rfl, rfl⟩
    go_wp2
    go_ret
    exact ⟨by simp, HO.out.2.trans P14⟩
end Go.Proofs.Ythamjboppnlpdaa.Cu
