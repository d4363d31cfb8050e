/-
  Package cube: events, clash, missing, implies.
-/
import Derived.Test.YthamjboppnlpdaaCm
import Derived.Test.YthamjboppnlpdaaCs
namespace Go.Proofs.Ythamjboppnlpdaa.Cu
open Go.RowKit Go.Proofs.Ythamjboppnlpdaa.Sb
set_option linter.unusedVariables false
set_option maxRecDepth 100000
def cbV (a : Cb) : Value := .agg #[.int .i64 (a.1 : Int), .int .i64 (a.2 : Int)]
theorem box1 {w w0 : World} {q : Nat} {a b : Value} (hq : w.heap.size = q) (h : w.alloc (.cells #[a, b] 23) = w0) : Own w0 q 23 #[a, b] ∧ On w w0 := by
  subst hq; subst h
  exact ⟨Own.new _ _ _, (On.refl w).alloc _⟩
theorem box2 {w w0 : World} {q : Nat} {a b c d : Value} (hq : w.heap.size = q) (h : (w.alloc (.cells #[a, b] 23)).alloc (.cells #[c, d] 23) = w0) : Own w0 q 23 #[a, b] ∧ Own w0 (q + 1) 23 #[c, d] ∧ On w w0 := by
  subst hq; subst h
  refine ⟨(Own.new _ _ _).alloc _, ?_, ((On.refl w).alloc _).alloc _⟩
  have := Own.new (w.alloc (.cells #[a, b] 23)) 23 #[c, d]
  simpa using this
theorem box3 {w w0 : World} {q : Nat} {a b c d e f : Value} (hq : w.heap.size = q) (h : ((w.alloc (.cells #[a, b] 23)).alloc (.cells #[c, d] 23)).alloc (.cells #[e, f] 23) = w0) : Own w0 q 23 #[a, b] ∧ Own w0 (q + 1) 23 #[c, d] ∧ Own w0 (q + 1 + 1) 23 #[e, f] ∧ On w w0 := by
  subst hq; subst h
  refine ⟨((Own.new _ _ _).alloc _).alloc _, ?_, ?_, (((On.refl w).alloc _).alloc _).alloc _⟩
  · have := Own.new (w.alloc (.cells #[a, b] 23)) 23 #[c, d]
    exact (show Own ((w.alloc (.cells #[a, b] 23)).alloc (.cells #[c, d] 23)) (w.heap.size + 1) 23 #[c, d] by simpa using this).alloc _
  · have := Own.new ((w.alloc (.cells #[a, b] 23)).alloc (.cells #[c, d] 23)) 23 #[e, f]
    simpa using this
theorem store2 {w w0 : World} {g : Nat} {t : TypeId} {a b : Value} (h : Own w0 g t #[a, b]) (P : On w w0) (hg : w.heap.size ≤ g) (u v : Value) : Own ((w0.setCell ⟨g, 0, none⟩ u).setCell ⟨g, 1, none⟩ v) g t #[u, v] ∧ On w ((w0.setCell ⟨g, 0, none⟩ u).setCell ⟨g, 1, none⟩ v) :=
  ⟨(h.set_ 0 u).set_ 1 v, On.setCell (On.setCell P (p := ⟨g, 0, none⟩) hg u) (p := ⟨g, 1, none⟩) hg v⟩
theorem lt63 {x : Nat} (h : x < 16777216) : x < 9223372036854775808 := by omega
set_option maxHeartbeats 2000000 in
theorem events_ok (w : World) (a : Cb) (ha : OkC a) :
    Calls Try.prog 60 #[cbV a] w fun e w' => e = .returned (.int .i64 (evs a : Nat)) ∧ On w w' := by
  have h1 := or_nat a.1 a.2 (lt63 ha.1) (lt63 ha.2.1)
  unfold evs cbV
  obtain ⟨ay, an⟩ := a
  simp only at h1 ⊢
  obtain ⟨q, hq⟩ : ∃ q, w.heap.size = q := ⟨_, rfl⟩
  obtain ⟨w0, hw0⟩ : ∃ w0, w.alloc (.cells #[.int .i64 (ay : Int), .int .i64 (an : Int)] 23) = w0 := ⟨_, rfl⟩
  obtain ⟨O0, P0⟩ := box1 hq hw0
  obtain ⟨r0, r1⟩ := own2 O0
  have HP := Lib.hid P0
  clear P0 O0 ha
  go_enter Try.func60, Try.ntmps60
  subst hq
  go_wp2
  go_ret
  exact ⟨rfl, HP.out⟩
set_option maxHeartbeats 2000000 in
theorem clash_ok (w : World) (a b : Cb) (ha : OkC a) (hb : OkC b) :
    Calls Try.prog 47 #[cbV a, cbV b] w fun e w' => e = .returned (.int .i64 (clash a b : Nat)) ∧ On w w' := by
  have h1 := and_nat a.1 b.2 ha.1 hb.2.1
  have h2 := and_nat a.2 b.1 ha.2.1 hb.1
  have l1 : a.1 &&& b.2 ≤ a.1 := Nat.and_le_left
  have l2 : a.2 &&& b.1 ≤ a.2 := Nat.and_le_left
  have h3 := or_nat (a.1 &&& b.2) (a.2 &&& b.1) (by have := ha.1; omega) (by have := ha.2.1; omega)
  clear l1 l2
  unfold clash cbV
  obtain ⟨ay, an⟩ := a
  obtain ⟨by_, bn⟩ := b
  simp only at h1 h2 h3 ⊢
  obtain ⟨q, hq⟩ : ∃ q, w.heap.size = q := ⟨_, rfl⟩
  obtain ⟨w0, hw0⟩ : ∃ w0, (w.alloc (.cells #[.int .i64 (ay : Int), .int .i64 (an : Int)] 23)).alloc (.cells #[.int .i64 (by_ : Int), .int .i64 (bn : Int)] 23) = w0 := ⟨_, rfl⟩
  obtain ⟨O0, E0, P0⟩ := box2 hq hw0
  obtain ⟨r0, r1⟩ := own2 O0
  obtain ⟨s0, s1⟩ := own2 E0
  have HP := Lib.hid P0
  clear P0 O0 E0 ha hb
  go_enter Try.func47, Try.ntmps47
  subst hq
  go_wp2
  go_ret
  exact ⟨rfl, HP.out⟩
set_option maxHeartbeats 2000000 in
theorem missing_ok (w : World) (a b : Cb) (ha : OkC a) (hb : OkC b) :
    Calls Try.prog 63 #[cbV a, cbV b] w fun e w' => e = .returned (cbV (without b.1 a.1, without b.2 a.2)) ∧ On w w' := by
  have h1 := andNot_nat b.1 a.1 (lt63 hb.1) (lt63 ha.1)
  have h2 := andNot_nat b.2 a.2 (lt63 hb.2.1) (lt63 ha.2.1)
  unfold cbV
  obtain ⟨ay, an⟩ := a
  obtain ⟨by_, bn⟩ := b
  simp only at h1 h2 ⊢
  obtain ⟨u, hu⟩ : ∃ u, without by_ ay = u := ⟨_, rfl⟩
  obtain ⟨v, hv⟩ : ∃ v, without bn an = v := ⟨_, rfl⟩
  rw [hu] at h1 ⊢
  rw [hv] at h2 ⊢
  clear hu hv
  obtain ⟨q, hq⟩ : ∃ q, w.heap.size = q := ⟨_, rfl⟩
  obtain ⟨w0, hw0⟩ : ∃ w0, ((w.alloc (.cells #[.int .i64 (ay : Int), .int .i64 (an : Int)] 23)).alloc (.cells #[.int .i64 (by_ : Int), .int .i64 (bn : Int)] 23)).alloc (.cells #[.int .i64 0, .int .i64 0] 23) = w0 := ⟨_, rfl⟩
  obtain ⟨O0, E0, F0, P0⟩ := box3 hq hw0
  obtain ⟨r0, r1⟩ := own2 O0
  obtain ⟨s0, s1⟩ := own2 E0
  obtain ⟨k0, k1⟩ := own2 F0
  have f0 := F0.frozen 0
  have f1 := F0.frozen 1
  have HP := Lib.hid (And.intro P0 F0)
  clear P0 O0 E0 F0 ha hb
  go_enter Try.func63, Try.ntmps63
  subst hq
  go_wp2
  obtain ⟨F1, P1⟩ := store2 HP.out.2 HP.out.1 (show w.heap.size ≤ w.heap.size + 1 + 1 by omega) (.int .i64 (u : Int)) (.int .i64 (v : Int))
  obtain ⟨x0, x1⟩ := own2 F1
  exact bodyPost_ret (v := .agg #[.int .i64 (u : Int), .int .i64 (v : Int)]) (by simp [results, Try.results63, go_sem, x0, x1]) rfl ⟨rfl, P1⟩
set_option maxHeartbeats 2000000 in
theorem implies_ok (w : World) (a b : Cb) (ha : OkC a) (hb : OkC b) :
    Calls Try.prog 46 #[cbV a, cbV b] w fun e w' => e = .returned (.bool (implC a b)) ∧ On w w' := by
  have hM := fun W => missing_ok W a b ha hb
  unfold implC
  obtain ⟨ay, an⟩ := a
  obtain ⟨by_, bn⟩ := b
  unfold cbV at hM ⊢
  simp only at hM ⊢
  obtain ⟨u, hu⟩ : ∃ u, without by_ ay = u := ⟨_, rfl⟩
  obtain ⟨v, hv⟩ : ∃ v, without bn an = v := ⟨_, rfl⟩
  rw [hu, hv] at hM ⊢
  clear hu hv
  obtain ⟨q, hq⟩ : ∃ q, w.heap.size = q := ⟨_, rfl⟩
  obtain ⟨w0, hw0⟩ : ∃ w0, (w.alloc (.cells #[.int .i64 (ay : Int), .int .i64 (an : Int)] 23)).alloc (.cells #[.int .i64 (by_ : Int), .int .i64 (bn : Int)] 23) = w0 := ⟨_, rfl⟩
  obtain ⟨O0, E0, P0⟩ := box2 hq hw0
  obtain ⟨r0, r1⟩ := own2 O0
  obtain ⟨s0, s1⟩ := own2 E0
  have hM0 := hM w0
  have HP := Lib.hid P0
  clear P0 O0 E0 ha hb hM
  go_enter Try.func46, Try.ntmps46
  subst hq
  go_wp2_with fail
  refine hM0.mono ?_
  rintro e w1 ⟨rfl, P1⟩
  clear hM0
  go_wp2
  all_goals (go_ret; refine ⟨?_, HP.out.trans P1⟩; simp [*])
end Go.Proofs.Ythamjboppnlpdaa.Cu
