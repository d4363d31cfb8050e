/-
  The specification of cubes: Meet, Consensus, Same.
-/
import Derived.Test.YthamjboppnlpdaaCf
namespace Go.Proofs.Ythamjboppnlpdaa.Cu
open Go.RowKit Go.Proofs.Ythamjboppnlpdaa.Sb
set_option linter.unusedVariables false
set_option maxRecDepth 100000
set_option maxHeartbeats 4000000 in
theorem rmeet_ok (w : World) (a b : Cb) (ha : OkC a) (hb : OkC b) :
    Calls Try.prog 23 #[cbV a, cbV b] w fun e w' => e = .returned (.tuple #[cbV (meetOut a b).1, .bool (meetOut a b).2]) ∧ On w w' := by
  have hK := fun W => rmeets_ok W a b ha hb
  have h1 := or_nat a.1 b.1 (lt63 ha.1) (lt63 hb.1)
  have h2 := or_nat a.2 b.2 (lt63 ha.2.1) (lt63 hb.2.1)
  unfold meetOut meetC
  obtain ⟨a1, a2⟩ := a
  obtain ⟨b1, b2⟩ := b
  unfold cbV at *
  simp only at hK h1 h2 ⊢
  clear ha hb
  obtain ⟨q, hq⟩ : ∃ q, w.heap.size = q := ⟨_, rfl⟩
  obtain ⟨w0, hw0⟩ : ∃ w0, ((w.alloc (.cells #[.int .i64 (a1 : Int), .int .i64 (a2 : Int)] 23)).alloc (.cells #[.int .i64 (b1 : Int), .int .i64 (b2 : Int)] 23)).alloc (.cells #[.int .i64 0, .int .i64 0] 23) = w0 := ⟨_, rfl⟩
  obtain ⟨O0, E0, F0, P0⟩ := box3 hq hw0
  obtain ⟨r0, r1⟩ := own2 O0
  obtain ⟨s0, s1⟩ := own2 E0
  have hK0 := hK w0
  have HP := Lib.hid (And.intro P0 (And.intro O0 (And.intro E0 F0)))
  clear P0 O0 E0 F0 hK
  obtain ⟨u, hu⟩ : ∃ u, a1 ||| b1 = u := ⟨_, rfl⟩
  obtain ⟨v, hv⟩ : ∃ v, a2 ||| b2 = v := ⟨_, rfl⟩
  rw [hu] at h1 ⊢
  rw [hv] at h2 ⊢
  clear hu hv
  by_cases hz : clash (a1, a2) (b1, b2) = 0
  · rw [if_pos hz]
    rw [decide_eq_true hz] at hK0
    clear hz
    go_enter Try.func23, Try.ntmps23
    subst hq
    go_wp2_with fail
    refine hK0.mono ?_
    rintro e w2 ⟨rfl, P2⟩
    clear hK0 r0 r1 s0 s1
    obtain ⟨r0, r1⟩ := own2 (HP.out.2.1.on P2)
    obtain ⟨s0, s1⟩ := own2 (HP.out.2.2.1.on P2)
    have F3 := HP.out.2.2.2.on P2
    obtain ⟨k0, k1⟩ := own2 F3
    have f0 := F3.frozen 0
    have f1 := F3.frozen 1
    have PP := HP.out.1.trans P2
    have HF := Lib.hid F3
    clear F3 P2
    go_wp2
    obtain ⟨F3, P3⟩ := store2 HF.out PP (show w.heap.size ≤ w.heap.size + 1 + 1 by omega) (.int .i64 (u : Int)) (.int .i64 (v : Int))
    obtain ⟨x0, x1⟩ := own2 F3
    exact bodyPost_ret (v := .tuple #[.agg #[.int .i64 (u : Int), .int .i64 (v : Int)], .bool true]) (by simp [results, Try.results23, go_sem, x0, x1]) rfl ⟨rfl, P3⟩
  · rw [if_neg hz]
    rw [decide_eq_false hz] at hK0
    clear hz
    go_enter Try.func23, Try.ntmps23
    subst hq
    go_wp2_with fail
    refine hK0.mono ?_
    rintro e w2 ⟨rfl, P2⟩
    clear hK0 r0 r1 s0 s1
    obtain ⟨r0, r1⟩ := own2 (HP.out.2.1.on P2)
    obtain ⟨s0, s1⟩ := own2 (HP.out.2.2.1.on P2)
    have F3 := HP.out.2.2.2.on P2
    obtain ⟨k0, k1⟩ := own2 F3
    have f0 := F3.frozen 0
    have f1 := F3.frozen 1
    have PP := HP.out.1.trans P2
    have HF := Lib.hid F3
    clear F3 P2
    go_wp2
    obtain ⟨F3, P3⟩ := store2 HF.out PP (show w.heap.size ≤ w.heap.size + 1 + 1 by omega) (.int .i64 0) (.int .i64 0)
    obtain ⟨x0, x1⟩ := own2 F3
    exact bodyPost_ret (v := .tuple #[.agg #[.int .i64 0, .int .i64 0], .bool false]) (by simp [results, Try.results23, go_sem, x0, x1]) rfl ⟨rfl, P3⟩
set_option maxHeartbeats 4000000 in
theorem rcons_ok (w : World) (a b : Cb) (ha : OkC a) (hb : OkC b) :
    Calls Try.prog 24 #[cbV a, cbV b] w fun e w' => e = .returned (.tuple #[cbV (consOut a b).1, .bool (consOut a b).2]) ∧ On w w' := by
  have g1 := and_nat a.1 b.2 ha.1 hb.2.1
  have g2 := and_nat a.2 b.1 ha.2.1 hb.1
  have l1 : a.1 &&& b.2 ≤ a.1 := Nat.and_le_left
  have l2 : a.2 &&& b.1 ≤ a.2 := Nat.and_le_left
  have g3 := or_nat (a.1 &&& b.2) (a.2 &&& b.1) (by have := ha.1; omega) (by have := ha.2.1; omega)
  clear l1 l2
  have hl := clash_lt (b := b) ha
  have h1 := or_nat a.1 b.1 (lt63 ha.1) (lt63 hb.1)
  have h2 := or_nat a.2 b.2 (lt63 ha.2.1) (lt63 hb.2.1)
  have h3 := andNot_nat (a.1 ||| b.1) (clash a b) (lt63 (or24 ha.1 hb.1)) (lt63 hl)
  have h4 := andNot_nat (a.2 ||| b.2) (clash a b) (lt63 (or24 ha.2.1 hb.2.1)) (lt63 hl)
  have hN := fun W => rbits_ok W (clash a b) hl
  have hxe : (a.1 &&& b.2) ||| (a.2 &&& b.1) = clash a b := rfl
  unfold consOut consC
  obtain ⟨x, hx⟩ : ∃ x, clash a b = x := ⟨_, rfl⟩
  rw [hx] at h3 h4 hN hxe ⊢
  rw [hxe] at g3
  obtain ⟨a1, a2⟩ := a
  obtain ⟨b1, b2⟩ := b
  unfold cbV at *
  simp only at g1 g2 g3 h1 h2 h3 h4 hN ⊢
  clear ha hb hx hl hxe
  obtain ⟨q, hq⟩ : ∃ q, w.heap.size = q := ⟨_, rfl⟩
  obtain ⟨w0, hw0⟩ : ∃ w0, ((w.alloc (.cells #[.int .i64 (a1 : Int), .int .i64 (a2 : Int)] 23)).alloc (.cells #[.int .i64 (b1 : Int), .int .i64 (b2 : Int)] 23)).alloc (.cells #[.int .i64 0, .int .i64 0] 23) = w0 := ⟨_, rfl⟩
  obtain ⟨O0, E0, F0, P0⟩ := box3 hq hw0
  obtain ⟨r0, r1⟩ := own2 O0
  obtain ⟨s0, s1⟩ := own2 E0
  have HP := Lib.hid (And.intro P0 (And.intro O0 (And.intro E0 F0)))
  clear P0 O0 E0 F0
  obtain ⟨x1, hx1⟩ : ∃ z, a1 &&& b2 = z := ⟨_, rfl⟩
  obtain ⟨x2, hx2⟩ : ∃ z, a2 &&& b1 = z := ⟨_, rfl⟩
  rw [hx1] at g1 g3
  rw [hx2] at g2 g3
  obtain ⟨u, hu⟩ : ∃ u, a1 ||| b1 = u := ⟨_, rfl⟩
  obtain ⟨v, hv⟩ : ∃ v, a2 ||| b2 = v := ⟨_, rfl⟩
  rw [hu] at h1 h3 ⊢
  rw [hv] at h2 h4 ⊢
  obtain ⟨u2, hu2⟩ : ∃ u2, without u x = u2 := ⟨_, rfl⟩
  obtain ⟨v2, hv2⟩ : ∃ v2, without v x = v2 := ⟨_, rfl⟩
  rw [hu2] at h3 ⊢
  rw [hv2] at h4 ⊢
  obtain ⟨p, hp⟩ : ∃ p, pc x = p := ⟨_, rfl⟩
  rw [hp] at hN
  clear hu hv hu2 hv2 hx1 hx2
  by_cases hz : p = 1
  · rw [if_pos (hp.trans hz)]
    clear hp
    subst hz
    have k0 := (own2 HP.out.2.2.2).1
    have k1 := (own2 HP.out.2.2.2).2
    have f0 := HP.out.2.2.2.frozen 0
    have f1 := HP.out.2.2.2.frozen 1
    have PP := HP.out.1
    have HF := Lib.hid HP.out.2.2.2
    go_enter Try.func24, Try.ntmps24
    subst hq
    go_wp2_with fail
    refine (hN _).mono ?_
    rintro e w4 ⟨rfl, rfl⟩
    clear hN
    go_wp2
    obtain ⟨F3, P3⟩ := store2 HF.out PP (show w.heap.size ≤ w.heap.size + 1 + 1 by omega) (.int .i64 (u2 : Int)) (.int .i64 (v2 : Int))
    obtain ⟨x0, x1⟩ := own2 F3
    exact bodyPost_ret (v := .tuple #[.agg #[.int .i64 (u2 : Int), .int .i64 (v2 : Int)], .bool true]) (by simp [results, Try.results24, go_sem, x0, x1]) rfl ⟨rfl, P3⟩
  · rw [if_neg (fun e => hz (hp.symm.trans e))]
    clear hp
    have k0 := (own2 HP.out.2.2.2).1
    have k1 := (own2 HP.out.2.2.2).2
    have f0 := HP.out.2.2.2.frozen 0
    have f1 := HP.out.2.2.2.frozen 1
    have PP := HP.out.1
    have HF := Lib.hid HP.out.2.2.2
    go_enter Try.func24, Try.ntmps24
    subst hq
    go_wp2_with fail
    refine (hN _).mono ?_
    rintro e w4 ⟨rfl, rfl⟩
    clear hN
    go_wp2
    obtain ⟨F3, P3⟩ := store2 HF.out PP (show w.heap.size ≤ w.heap.size + 1 + 1 by omega) (.int .i64 0) (.int .i64 0)
    obtain ⟨x0, x1⟩ := own2 F3
    exact bodyPost_ret (v := .tuple #[.agg #[.int .i64 0, .int .i64 0], .bool false]) (by simp [results, Try.results24, go_sem, x0, x1]) rfl ⟨rfl, P3⟩
theorem zl_cell {l : List Cb} {j : Nat} : (zl l).getD j (0, 0) = (((l.getD j (0, 0)).1 : Int), ((l.getD j (0, 0)).2 : Int)) := zl_get l j
set_option maxHeartbeats 8000000 in
theorem rsame_ok (w : World) (A : Option Addr) (n c : Nat) (l : List Cb) (h : RdC w A n c (zl l)) (A' : Option Addr) (n' c' : Nat) (h' : RdC w A' n' c' (zl l)) :
    Calls Try.prog 26 #[.slice A n c, .slice A' n' c'] w fun e w' => e = .returned (.bool true) ∧ On w w' := by
  have hn : l.length = n := by have := h.len; rwa [zl_len] at this
  have hn' : l.length = n' := by have := h'.len; rwa [zl_len] at this
  obtain rfl : n = n' := by omega
  have hcap := h.cap
  have hmax := h.max
  have hcap' := h'.cap
  have hmax' := h'.max
  have HR := Lib.hid (And.intro h (And.intro h' hn))
  clear h h' hn hn'
  go_enter Try.func26, Try.ntmps26
  go_wp2
  go_loopw [5] (fun i wr => ∃ j : Nat, j ≤ n ∧ i = .int .i64 (j : Int) ∧ On w wr) (fun i _ => n - (intOf i).toNat)
  case atStart => exact ⟨0, by omega, rfl, On.refl _⟩
  case round =>
    obtain ⟨j, hj, rfl, hon⟩ := hrel
    by_cases hlt : j < n
    · obtain ⟨ad, rfl, hb, hc0, hc1⟩ := (HR.out.1.on hon).at_ hlt
      obtain ⟨ad', rfl, hb', hc0', hc1'⟩ := (HR.out.2.1.on hon).at_ hlt
      rw [zl_cell] at hc0 hc1 hc0' hc1'
      simp only at hc0 hc1 hc0' hc1'
      obtain ⟨⟨x, y⟩, hx⟩ : ∃ z, l.getD j (0, 0) = z := ⟨_, rfl⟩
      rw [hx] at hc0 hc1 hc0' hc1'
      simp only at hc0 hc1 hc0' hc1'
      clear hx
      go_wp2_with fail
      go_quiet (fail)
      all_goals go_wp2
      go_roundw
      case rel => exact ⟨j + 1, by omega, by go_num, On.drewN hon _⟩
      case measure => simp [intOf] <;> omega
    · obtain rfl : j = n := by omega
      go_wp2
      go_ret
      exact ⟨rfl, hon⟩
end Go.Proofs.Ythamjboppnlpdaa.Cu
