/-
  Package cube: Minus; the specification's Holds, Implies, Meets, Meet, Bits, Consensus.
-/
import Derived.Test.YthamjboppnlpdaaCe
namespace Go.Proofs.Ythamjboppnlpdaa.Cu
open Go.RowKit Go.Proofs.Ythamjboppnlpdaa.Sb
set_option linter.unusedVariables false
set_option maxRecDepth 100000
set_option maxHeartbeats 4000000 in
theorem minus2_bad (w : World) (a b : Cz) (hb : chkL [a, b] ≠ 0) :
    Calls Try.prog 20 #[czV a, czV b] w fun e w' => e = .returned (.tuple #[.slice none 0 0, errV (chkL [a, b])]) ∧ On w w' := by
  obtain ⟨q, hq⟩ : ∃ q, w.heap.size = q := ⟨_, rfl⟩
  obtain ⟨a1, a2⟩ := a
  obtain ⟨b1, b2⟩ := b
  unfold czV
  simp only
  obtain ⟨w0, hw0⟩ : ∃ w0, (w.alloc (.cells #[.int .i64 a1, .int .i64 a2] 23)).alloc (.cells #[.int .i64 b1, .int .i64 b2] 23) = w0 := ⟨_, rfl⟩
  obtain ⟨O0, E0, P0⟩ := box2 hq hw0
  obtain ⟨r0, r1⟩ := own2 O0
  obtain ⟨s0, s1⟩ := own2 E0
  obtain ⟨w1, hw1⟩ : ∃ w1, w0.alloc (.cells #[.int .i64 a1, .int .i64 a2, .int .i64 b1, .int .i64 b2] 23) = w1 := ⟨_, rfl⟩
  obtain ⟨O1, P1⟩ := own4 rfl hw1
  have hC := check_any w1 _ 2 2 [(a1, a2), (b1, b2)] (rdc_two O1)
  have HP := Lib.hid (P0.trans P1)
  clear P0 P1 O0 O1 E0
  obtain ⟨x, hx⟩ : ∃ x, chkL [(a1, a2), (b1, b2)] = x := ⟨_, rfl⟩
  rw [hx] at hC hb ⊢
  clear hx
  rw [errV_pos _ hb] at hC ⊢
  clear hb
  go_enter Try.func20, Try.ntmps20
  subst hq
  go_wp2_with fail
  refine hC.mono ?_
  rintro e w2 ⟨rfl, P2⟩
  clear hC
  go_wp2
  go_ret2
  exact ⟨rfl, HP.out.trans P2⟩
set_option maxHeartbeats 4000000 in
theorem minus2_ok (w : World) (a b : Cb) (ha : OkC a) (hb : OkC b) :
    Calls Try.prog 20 #[cbV a, cbV b] w fun e w' => ∃ A c, e = .returned (.tuple #[.slice A (minusL a b).length c, .nilIface]) ∧ RdC w' A (minusL a b).length c (zl (minusL a b)) ∧ On w w' := by
  have hM := fun W => minus_ok W a b ha hb W.heap.size (.slice none 0 0) 0 [] ⟨rfl, .inl ⟨rfl, rfl⟩⟩ (Nat.le_refl _) (by omega)
  have h0 := chk_two ha hb
  obtain ⟨l, hl⟩ : ∃ l, minusL a b = l := ⟨_, rfl⟩
  rw [hl] at hM ⊢
  clear hl ha hb
  obtain ⟨a1, a2⟩ := a
  obtain ⟨b1, b2⟩ := b
  unfold cbV at *
  simp only at hM h0 ⊢
  obtain ⟨q, hq⟩ : ∃ q, w.heap.size = q := ⟨_, rfl⟩
  obtain ⟨w0, hw0⟩ : ∃ w0, (w.alloc (.cells #[.int .i64 (a1 : Int), .int .i64 (a2 : Int)] 23)).alloc (.cells #[.int .i64 (b1 : Int), .int .i64 (b2 : Int)] 23) = w0 := ⟨_, rfl⟩
  obtain ⟨O0, E0, P0⟩ := box2 hq hw0
  obtain ⟨r0, r1⟩ := own2 O0
  obtain ⟨s0, s1⟩ := own2 E0
  obtain ⟨w1, hw1⟩ : ∃ w1, w0.alloc (.cells #[.int .i64 (a1 : Int), .int .i64 (a2 : Int), .int .i64 (b1 : Int), .int .i64 (b2 : Int)] 23) = w1 := ⟨_, rfl⟩
  obtain ⟨O1, P1⟩ := own4 rfl hw1
  have hC := check_any w1 _ 2 2 _ (rdc_two O1)
  rw [h0, errV_zero] at hC
  have HP := Lib.hid (And.intro (P0.trans P1) (And.intro (O0.on P1) (E0.on P1)))
  clear P0 P1 O0 O1 E0 h0
  go_enter Try.func20, Try.ntmps20
  subst hq
  go_wp2_with fail
  refine hC.mono ?_
  rintro e w2 ⟨rfl, P2⟩
  clear hC r0 r1 s0 s1
  obtain ⟨r0, r1⟩ := own2 (HP.out.2.1.on P2)
  obtain ⟨s0, s1⟩ := own2 (HP.out.2.2.on P2)
  have hM2 := hM w2
  clear hM
  go_wp2_with fail
  refine hM2.mono ?_
  rintro e w3 ⟨v', rfl, hrow, hgr, hb⟩
  have P3 : On w2 w3 := on_gr (On.refl w2) hgr (fun g e => by simp [Value.ownBlock] at e)
  rw [Nat.zero_add, List.nil_append] at hrow
  obtain ⟨A, c, rfl⟩ : ∃ A c, v' = .slice A l.length c := by
    rcases hrow.2 with ⟨rfl, h0⟩ | ⟨g, cap, cur, rfl, _⟩
    · exact ⟨none, 0, by rw [h0]⟩
    · exact ⟨_, _, rfl⟩
  have hR := Lib.hid (And.intro (rdc_of_row hrow (zl_len l)) P3)
  clear hrow hgr hb P3 hM2
  go_wp2
  go_ret2
  exact ⟨A, c, rfl, hR.out.1, (HP.out.1.trans P2).trans hR.out.2⟩
set_option maxHeartbeats 4000000 in
theorem rmeets_ok (w : World) (a b : Cb) (ha : OkC a) (hb : OkC b) :
    Calls Try.prog 50 #[cbV a, cbV b] w fun e w' => e = .returned (.bool (decide (clash a b = 0))) ∧ On w w' := by
  have h1 := and_nat a.1 b.2 ha.1 hb.2.1
  have h2 := and_nat a.2 b.1 ha.2.1 hb.1
  have hd : decide (clash a b = 0) = (decide (a.1 &&& b.2 = 0) && decide (a.2 &&& b.1 = 0)) := by unfold clash; rw [← Bool.decide_and]; congr 1; exact propext or_zero
  rw [hd]
  unfold cbV
  obtain ⟨a1, a2⟩ := a
  obtain ⟨b1, b2⟩ := b
  simp only at h1 h2 ⊢
  clear hd ha hb
  obtain ⟨u, hu⟩ : ∃ u, a1 &&& b2 = u := ⟨_, rfl⟩
  obtain ⟨v, hv⟩ : ∃ v, a2 &&& b1 = v := ⟨_, rfl⟩
  rw [hu] at h1 ⊢
  rw [hv] at h2 ⊢
  clear hu hv
  obtain ⟨q, hq⟩ : ∃ q, w.heap.size = q := ⟨_, rfl⟩
  obtain ⟨w0, hw0⟩ : ∃ w0, (w.alloc (.cells #[.int .i64 (a1 : Int), .int .i64 (a2 : Int)] 23)).alloc (.cells #[.int .i64 (b1 : Int), .int .i64 (b2 : Int)] 23) = w0 := ⟨_, rfl⟩
  obtain ⟨O0, E0, P0⟩ := box2 hq hw0
  obtain ⟨r0, r1⟩ := own2 O0
  obtain ⟨s0, s1⟩ := own2 E0
  have HP := Lib.hid P0
  clear P0 O0 E0
  by_cases hz : u = 0
  · subst hz
    go_enter Try.func50, Try.ntmps50
    subst hq
    go_wp2
    all_goals (go_ret; refine ⟨?_, HP.out⟩; simp [*, beqz])
  · go_enter Try.func50, Try.ntmps50
    subst hq
    go_wp2
    all_goals (go_ret; refine ⟨?_, HP.out⟩; simp [*, beqz])
set_option maxHeartbeats 4000000 in
theorem rimplies_ok (w : World) (a b : Cb) (ha : OkC a) (hb : OkC b) :
    Calls Try.prog 25 #[cbV a, cbV b] w fun e w' => e = .returned (.bool (implC a b)) ∧ On w w' := by
  have h1 := andNot_nat b.1 a.1 (lt63 hb.1) (lt63 ha.1)
  have h2 := andNot_nat b.2 a.2 (lt63 hb.2.1) (lt63 ha.2.1)
  unfold cbV implC
  obtain ⟨a1, a2⟩ := a
  obtain ⟨b1, b2⟩ := b
  simp only at h1 h2 ⊢
  clear ha hb
  obtain ⟨u, hu⟩ : ∃ u, without b1 a1 = u := ⟨_, rfl⟩
  obtain ⟨v, hv⟩ : ∃ v, without b2 a2 = v := ⟨_, rfl⟩
  rw [hu] at h1 ⊢
  rw [hv] at h2 ⊢
  clear hu hv
  obtain ⟨q, hq⟩ : ∃ q, w.heap.size = q := ⟨_, rfl⟩
  obtain ⟨w0, hw0⟩ : ∃ w0, (w.alloc (.cells #[.int .i64 (a1 : Int), .int .i64 (a2 : Int)] 23)).alloc (.cells #[.int .i64 (b1 : Int), .int .i64 (b2 : Int)] 23) = w0 := ⟨_, rfl⟩
  obtain ⟨O0, E0, P0⟩ := box2 hq hw0
  obtain ⟨r0, r1⟩ := own2 O0
  obtain ⟨s0, s1⟩ := own2 E0
  have HP := Lib.hid P0
  clear P0 O0 E0
  by_cases hz : u = 0
  · subst hz
    go_enter Try.func25, Try.ntmps25
    subst hq
    go_wp2
    all_goals (go_ret; refine ⟨?_, HP.out⟩; simp [*, beqz])
  · go_enter Try.func25, Try.ntmps25
    subst hq
    go_wp2
    all_goals (go_ret; refine ⟨?_, HP.out⟩; simp [*, beqz])
theorem holdsR (y s : Nat) : (s &&& y = y) ↔ without y s = 0 := by
  rw [without_zero]
  constructor
  · intro h i hi
    have e := congrArg (·.testBit i) h
    simp only [Nat.testBit_and, hi, Bool.and_true] at e
    exact e
  · intro h
    apply Nat.eq_of_testBit_eq
    intro i
    rw [Nat.testBit_and]
    cases hy : y.testBit i with
    | true => rw [h i hy]; rfl
    | false => rw [Bool.and_false]
theorem beqn (u v : Nat) : ((u : Int) == (v : Int)) = decide (u = v) := by
  by_cases h : u = v
  · subst h; simp
  · rw [decide_eq_false h, beq_eq_false_iff_ne]; omega
set_option maxHeartbeats 4000000 in
theorem rholds_ok (w : World) (a : Cb) (s : Nat) (ha : OkC a) (hs : s < 16777216) :
    Calls Try.prog 17 #[cbV a, .int .i64 (s : Int)] w fun e w' => e = .returned (.bool (holdsC a s)) ∧ On w w' := by
  have h1 := and_nat s a.1 hs ha.1
  have h2 := and_nat s a.2 hs ha.2.1
  have hd : holdsC a s = (decide (s &&& a.1 = a.1) && decide (s &&& a.2 = 0)) := by
    unfold holdsC
    rw [Nat.and_comm a.2 s]
    congr 2
    exact propext (holdsR a.1 s).symm
  rw [hd]
  unfold cbV
  obtain ⟨a1, a2⟩ := a
  simp only at h1 h2 ⊢
  clear hd ha hs
  obtain ⟨u, hu⟩ : ∃ u, s &&& a1 = u := ⟨_, rfl⟩
  obtain ⟨v, hv⟩ : ∃ v, s &&& a2 = v := ⟨_, rfl⟩
  rw [hu] at h1 ⊢
  rw [hv] at h2 ⊢
  clear hu hv
  obtain ⟨q, hq⟩ : ∃ q, w.heap.size = q := ⟨_, rfl⟩
  obtain ⟨w0, hw0⟩ : ∃ w0, w.alloc (.cells #[.int .i64 (a1 : Int), .int .i64 (a2 : Int)] 23) = w0 := ⟨_, rfl⟩
  obtain ⟨O0, P0⟩ := box1 hq hw0
  obtain ⟨r0, r1⟩ := own2 O0
  have HP := Lib.hid P0
  clear P0 O0
  by_cases hz : u = a1
  · have hz1 : ((u : Int) == (a1 : Int)) = true := by rw [beqn]; exact decide_eq_true hz
    go_enter Try.func17, Try.ntmps17
    subst hq
    go_wp2
    all_goals (go_ret; refine ⟨?_, HP.out⟩; first | (simp [*]; done) | (simp [*, beqz]; done))
  · have hz1 : ((u : Int) == (a1 : Int)) = false := by rw [beqn]; exact decide_eq_false hz
    go_enter Try.func17, Try.ntmps17
    subst hq
    go_wp2
    all_goals (go_ret; refine ⟨?_, HP.out⟩; first | (simp [*]; done) | (simp [*, beqz]; done))
theorem pop_all (k c : Nat) : c < 2 ^ k → k ≤ 24 → Lib.popAux 24 c = Lib.popAux k c := by
  intro h hk
  rw [← pop_range, ← pop_range, filter_upto (fun i => c.testBit i) k 24 hk (fun i hi _ => Nat.testBit_lt_two_pow (Nat.lt_of_lt_of_le h (Nat.pow_le_pow_right (by decide) hi)))]
set_option maxHeartbeats 4000000 in
theorem rbits_ok (w : World) (s : Nat) (hs : s < 16777216) :
    Calls Try.prog 51 #[.int .i64 (s : Int)] w fun e w' => e = .returned (.int .i64 (pc s : Nat)) ∧ w = w' := by
  obtain ⟨t, ht⟩ : ∃ t, pc s = t := ⟨_, rfl⟩
  have ht2 : Lib.popAux 24 s = t := by rw [← pc_pop]; exact ht
  rw [ht]
  clear ht
  have HS := Lib.hid (And.intro ht2 hs)
  clear ht2 hs
  go_enter Try.func51, Try.ntmps51
  go_wp2
  go_loopw [0, 3] (fun nv ov wr => ∃ (k m o : Nat), k ≤ 24 ∧ m < 2 ^ k ∧ nv = .int .i64 (m : Int) ∧ ov = .int .i64 (o : Int) ∧ o ≤ 24 - k ∧ o + Lib.popAux k m = t ∧ w = wr) (fun nv _ _ => (intOf nv).toNat)
  case atStart => exact ⟨24, s, 0, by omega, HS.out.2, rfl, rfl, by omega, by rw [Nat.zero_add]; exact HS.out.1, rfl⟩
  case round =>
    obtain ⟨k, m, o, hk, hm, rfl, rfl, ho, hsum, hwr⟩ := hrel
    subst hwr
    by_cases hz : m = 0
    · subst hz
      have hp0 : ∀ g, Lib.popAux g 0 = 0 := by
        intro g
        induction g with
        | zero => rfl
        | succ g ih => show 0 % 2 + Lib.popAux g (0 / 2) = 0; rw [Nat.zero_div, ih]
      rw [hp0] at hsum
      have hs2 : o = t := hsum
      subst hs2
      go_wp2
      go_ret
      exact ⟨rfl, rfl⟩
    · obtain ⟨j, rfl⟩ : ∃ j, k = j + 1 := by
        cases k with
        | zero => rw [Nat.pow_zero] at hm; omega
        | succ j => exact ⟨j, rfl⟩
      have hsum2 : o + (m % 2 + Lib.popAux j (m / 2)) = t := hsum
      have hm24 : m < 16777216 := by
        have : (2 : Nat) ^ (j + 1) ≤ 2 ^ 24 := Nat.pow_le_pow_right (by decide) hk
        omega
      have ha := and_one (m : Int)
      have hmod : (m : Int) % 2 = ((m % 2 : Nat) : Int) := by omega
      have hdiv : (m : Int) / 2 = ((m / 2 : Nat) : Int) := by omega
      have hlt2 : m / 2 < 2 ^ j := by rw [Nat.pow_succ] at hm; omega
      have hgt : (m : Int) > 0 := by omega
      have hb := Nat.mod_lt m (show 0 < 2 by decide)
      have hdl : m / 2 < m := by omega
      rw [hmod] at ha
      have HX := Lib.hid (And.intro hsum2 hlt2)
      clear hsum hsum2 hlt2 hm hmod hz
      obtain ⟨x, hx⟩ : ∃ x, m % 2 = x := ⟨_, rfl⟩
      obtain ⟨y, hy⟩ : ∃ y, m / 2 = y := ⟨_, rfl⟩
      rw [hx] at ha hb HX
      rw [hy] at hdiv hdl HX
      clear hx hy
      go_wp2
      go_roundw
      case rel => exact ⟨j, y, o + x, by omega, HX.out.2, by go_num, by go_num, by omega, by have := HX.out.1; omega, trivial⟩
      case measure => simp [intOf] <;> omega
end Go.Proofs.Ythamjboppnlpdaa.Cu
