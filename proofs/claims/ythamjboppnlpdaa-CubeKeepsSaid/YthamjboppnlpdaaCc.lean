/-
  Package cube: Holds, Implies, Meet.
-/
import Derived.Test.YthamjboppnlpdaaCb
namespace Go.Proofs.Ythamjboppnlpdaa.Cu
open Go.RowKit Go.Proofs.Ythamjboppnlpdaa.Sb
set_option linter.unusedVariables false
set_option maxRecDepth 100000
theorem rdc_two {w : World} {g : Nat} {t : TypeId} {a b c d : Int} (h : Own w g t #[.int .i64 a, .int .i64 b, .int .i64 c, .int .i64 d]) : RdC w (some ⟨g, 0, none⟩) 2 2 [(a, b), (c, d)] := by
  refine ⟨rfl, by omega, by omega, fun e => (by cases e), fun _ => ⟨_, rfl, h.lt, fun j u hj => ?_⟩⟩
  rw [add_plain, Nat.zero_add, h.cell]
  match j, hj with
  | 0, hj => simpa [CV] using hj
  | 1, hj => simpa [CV] using hj
  | 2, hj => simpa [CV] using hj
  | 3, hj => simpa [CV] using hj
theorem beqz (v : Nat) : ((v : Int) == 0) = decide (v = 0) := by
  by_cases h : v = 0
  · subst h; rfl
  · rw [decide_eq_false h, beq_eq_false_iff_ne]; omega
def outH (c : Cz) (s : Int) : Nat := if chkC c = 0 then (if maskZ s = true then 0 else 3) else chkC c
set_option maxHeartbeats 4000000 in
theorem holds_bad (w : World) (c : Cz) (s : Int) (hb : outH c s ≠ 0) :
    Calls Try.prog 13 #[czV c, .int .i64 s] w fun e w' => e = .returned (.tuple #[.bool false, errV (outH c s)]) ∧ On w w' := by
  obtain ⟨q, hq⟩ : ∃ q, w.heap.size = q := ⟨_, rfl⟩
  obtain ⟨w0, hw0⟩ : ∃ w0, w.alloc (.cells #[.int .i64 c.1, .int .i64 c.2] 23) = w0 := ⟨_, rfl⟩
  obtain ⟨O0, P0⟩ := box1 hq hw0
  obtain ⟨r0, r1⟩ := own2 O0
  obtain ⟨w1, hw1⟩ : ∃ w1, w0.alloc (.cells #[.int .i64 c.1, .int .i64 c.2] 23) = w1 := ⟨_, rfl⟩
  obtain ⟨O1, P1⟩ := box1 rfl hw1
  have hC := check_any w1 _ 1 1 [(c.1, c.2)] (rdc_one O1)
  have hV := fun W => valid_any W s
  have e1 : chkL [(c.1, c.2)] = chkC c := by
    show (if chkC c = 0 then 0 else chkC c) = _
    by_cases k : chkC c = 0
    · rw [if_pos k, k]
    · rw [if_neg k]
  rw [e1] at hC
  unfold outH at hb ⊢
  have HP := Lib.hid (P0.trans P1)
  clear P0 P1 O0 O1 e1
  unfold czV
  obtain ⟨c1, c2⟩ := c
  simp only at hw0 hw1 r0 r1 hC ⊢
  obtain ⟨x, hx⟩ : ∃ x, chkC (c1, c2) = x := ⟨_, rfl⟩
  rw [hx] at hC hb ⊢
  clear hx
  by_cases hz : x = 0
  · subst hz
    rw [if_pos rfl] at hb ⊢
    have hm : maskZ s = false := by
      cases k : maskZ s with
      | false => rfl
      | true => rw [if_pos k] at hb; exact absurd rfl hb
    rw [show decide (0 ≤ s ∧ s < 16777216) = false from hm] at hV
    rw [if_neg (by rw [hm]; decide)]
    rw [errV_zero] at hC
    clear hb hm
    go_enter Try.func13, Try.ntmps13
    subst hq
    go_wp2_with fail
    refine hC.mono ?_
    rintro e w2 ⟨rfl, P2⟩
    clear hC
    go_wp2_with fail
    refine (hV _).mono ?_
    rintro e w3 ⟨rfl, rfl⟩
    go_wp2
    go_ret2
    exact ⟨rfl, HP.out.trans P2⟩
  · rw [if_neg hz] at hb ⊢
    rw [errV_pos _ hz] at hC ⊢
    clear hb
    go_enter Try.func13, Try.ntmps13
    subst hq
    go_wp2_with fail
    refine hC.mono ?_
    rintro e w2 ⟨rfl, P2⟩
    clear hC
    go_wp2
    go_ret2
    exact ⟨rfl, HP.out.trans P2⟩
set_option maxHeartbeats 4000000 in
theorem holds_ok (w : World) (a : Cb) (s : Nat) (ha : OkC a) (hs : s < 16777216) :
    Calls Try.prog 13 #[cbV a, .int .i64 (s : Int)] w fun e w' => e = .returned (.tuple #[.bool (holdsC a s), .nilIface]) ∧ On w w' := by
  have hx := chkC_ok ha
  have h1 := andNot_nat a.1 s (lt63 ha.1) (lt63 hs)
  have h2 := and_nat a.2 s ha.2.1 hs
  unfold zc at hx
  unfold holdsC cbV
  obtain ⟨y, n⟩ := a
  simp only at hx h1 h2 ⊢
  clear ha
  obtain ⟨q, hq⟩ : ∃ q, w.heap.size = q := ⟨_, rfl⟩
  obtain ⟨w0, hw0⟩ : ∃ w0, w.alloc (.cells #[.int .i64 (y : Int), .int .i64 (n : Int)] 23) = w0 := ⟨_, rfl⟩
  obtain ⟨O0, P0⟩ := box1 hq hw0
  obtain ⟨r0, r1⟩ := own2 O0
  obtain ⟨w1, hw1⟩ : ∃ w1, w0.alloc (.cells #[.int .i64 (y : Int), .int .i64 (n : Int)] 23) = w1 := ⟨_, rfl⟩
  obtain ⟨O1, P1⟩ := box1 rfl hw1
  have hC := check_any w1 _ 1 1 [((y : Int), (n : Int))] (rdc_one O1)
  have hV := fun W => valid_any W (s : Int)
  rw [show decide (0 ≤ (s : Int) ∧ (s : Int) < 16777216) = true from maskZ_of hs] at hV
  have e1 : chkL [((y : Int), (n : Int))] = 0 := by
    show (if chkC ((y : Int), (n : Int)) = 0 then 0 else _) = _
    rw [if_pos hx]
  rw [e1, errV_zero] at hC
  have HP := Lib.hid (And.intro (P0.trans P1) (O0.on P1))
  clear P0 P1 O0 O1 e1 hx hs
  obtain ⟨u, hu⟩ : ∃ u, without y s = u := ⟨_, rfl⟩
  obtain ⟨v, hv⟩ : ∃ v, n &&& s = v := ⟨_, rfl⟩
  rw [hu] at h1 ⊢
  rw [hv] at h2 ⊢
  clear hu hv
  go_enter Try.func13, Try.ntmps13
  subst hq
  go_wp2_with fail
  refine hC.mono ?_
  rintro e w2 ⟨rfl, P2⟩
  obtain ⟨r0, r1⟩ := own2 (HP.out.2.on P2)
  clear hC
  by_cases hz : u = 0
  · subst hz
    go_wp2_with fail
    refine (hV _).mono ?_
    rintro e w3 ⟨rfl, rfl⟩
    clear hV
    go_wp2
    all_goals (go_ret2; refine ⟨?_, HP.out.1.trans P2⟩; simp [*, beqz])
  · go_wp2_with fail
    refine (hV _).mono ?_
    rintro e w3 ⟨rfl, rfl⟩
    clear hV
    go_wp2
    all_goals (go_ret2; refine ⟨?_, HP.out.1.trans P2⟩; simp [*, beqz])
/-- two cubes and the error of the first that is none -/
theorem chk_two {a b : Cb} (ha : OkC a) (hb : OkC b) : chkL [((a.1 : Int), (a.2 : Int)), ((b.1 : Int), (b.2 : Int))] = 0 := chkL_ok (l := [a, b]) (fun c h => by
  simp only [List.mem_cons, List.not_mem_nil, or_false] at h
  rcases h with rfl | rfl
  · exact ha
  · exact hb)
theorem own4 {w w0 : World} {g : Nat} {a b c d : Value} (hg : w.heap.size = g) (h : w.alloc (.cells #[a, b, c, d] 23) = w0) : Own w0 g 23 #[a, b, c, d] ∧ On w w0 := by
  subst hg; subst h
  exact ⟨Own.new _ _ _, (On.refl w).alloc _⟩
set_option maxHeartbeats 4000000 in
theorem implies2_bad (w : World) (a b : Cz) (hb : chkL [a, b] ≠ 0) :
    Calls Try.prog 18 #[czV a, czV b] w fun e w' => e = .returned (.tuple #[.bool false, errV (chkL [a, b])]) ∧ On w w' := by
  obtain ⟨q, hq⟩ : ∃ q, w.heap.size = q := ⟨_, rfl⟩
  obtain ⟨a1, a2⟩ := a
  obtain ⟨b1, b2⟩ := b
  unfold czV
  simp only
  obtain ⟨w0, hw0⟩ : ∃ w0, (w.alloc (.cells #[.int .i64 a1, .int .i64 a2] 23)).alloc (.cells #[.int .i64 b1, .int .i64 b2] 23) = w0 := ⟨_, rfl⟩
  obtain ⟨O0, E0, P0⟩ := box2 hq hw0
  obtain ⟨r0, r1⟩ := own2 O0
  obtain ⟨s0, s1⟩ := own2 E0
  obtain ⟨w1, hw1⟩ : ∃ w1, w0.alloc (.cells #[.int .i64 a1, .int .i64 a2, .int .i64 b1, .int .i64 b2] 23) = w1 := ⟨_, rfl⟩
  obtain ⟨O1, P1⟩ := own4 rfl hw1
  have hC := check_any w1 _ 2 2 [(a1, a2), (b1, b2)] (rdc_two O1)
  have HP := Lib.hid (P0.trans P1)
  clear P0 P1 O0 O1 E0
  obtain ⟨x, hx⟩ : ∃ x, chkL [(a1, a2), (b1, b2)] = x := ⟨_, rfl⟩
  rw [hx] at hC hb ⊢
  clear hx
  rw [errV_pos _ hb] at hC ⊢
  clear hb
  go_enter Try.func18, Try.ntmps18
  subst hq
  go_wp2_with fail
  refine hC.mono ?_
  rintro e w2 ⟨rfl, P2⟩
  clear hC
  go_wp2
  go_ret2
  exact ⟨rfl, HP.out.trans P2⟩
set_option maxHeartbeats 4000000 in
theorem implies2_ok (w : World) (a b : Cb) (ha : OkC a) (hb : OkC b) :
    Calls Try.prog 18 #[cbV a, cbV b] w fun e w' => e = .returned (.tuple #[.bool (implC a b), .nilIface]) ∧ On w w' := by
  have hI := fun W => implies_ok W a b ha hb
  have h0 := chk_two ha hb
  obtain ⟨q, hq⟩ : ∃ q, w.heap.size = q := ⟨_, rfl⟩
  obtain ⟨x, hx⟩ : ∃ x, implC a b = x := ⟨_, rfl⟩
  rw [hx] at hI ⊢
  clear hx ha hb
  obtain ⟨a1, a2⟩ := a
  obtain ⟨b1, b2⟩ := b
  unfold cbV at *
  simp only at hI h0 ⊢
  obtain ⟨w0, hw0⟩ : ∃ w0, (w.alloc (.cells #[.int .i64 (a1 : Int), .int .i64 (a2 : Int)] 23)).alloc (.cells #[.int .i64 (b1 : Int), .int .i64 (b2 : Int)] 23) = w0 := ⟨_, rfl⟩
  obtain ⟨O0, E0, P0⟩ := box2 hq hw0
  obtain ⟨r0, r1⟩ := own2 O0
  obtain ⟨s0, s1⟩ := own2 E0
  obtain ⟨w1, hw1⟩ : ∃ w1, w0.alloc (.cells #[.int .i64 (a1 : Int), .int .i64 (a2 : Int), .int .i64 (b1 : Int), .int .i64 (b2 : Int)] 23) = w1 := ⟨_, rfl⟩
  obtain ⟨O1, P1⟩ := own4 rfl hw1
  have hC := check_any w1 _ 2 2 _ (rdc_two O1)
  rw [h0, errV_zero] at hC
  have HP := Lib.hid (And.intro (P0.trans P1) (And.intro (O0.on P1) (E0.on P1)))
  clear P0 P1 O0 O1 E0 h0
  go_enter Try.func18, Try.ntmps18
  subst hq
  go_wp2_with fail
  refine hC.mono ?_
  rintro e w2 ⟨rfl, P2⟩
  clear hC r0 r1 s0 s1
  obtain ⟨r0, r1⟩ := own2 (HP.out.2.1.on P2)
  obtain ⟨s0, s1⟩ := own2 (HP.out.2.2.on P2)
  have hI2 := hI w2
  clear hI
  go_wp2_with fail
  refine hI2.mono ?_
  rintro e w3 ⟨rfl, P3⟩
  go_wp2
  go_ret2
  exact ⟨rfl, (HP.out.1.trans P2).trans P3⟩
end Go.Proofs.Ythamjboppnlpdaa.Cu
