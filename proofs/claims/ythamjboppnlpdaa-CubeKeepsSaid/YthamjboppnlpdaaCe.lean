/-
  Package cube: minus, Minus.
-/
import Derived.Test.YthamjboppnlpdaaCd
import Derived.Test.YthamjboppnlpdaaCq
import Derived.BigQuiet
import Derived.Deep.DeepCutAuto
namespace Go.Proofs.Ythamjboppnlpdaa.Cu
open Go.RowKit Go.Proofs.Ythamjboppnlpdaa.Sb
set_option linter.unusedVariables false
set_option maxRecDepth 100000
theorem gr_trans {a b c : World} {r r1 : Option Nat} (h : a.grownBy b r) (k : b.grownBy c r1) (hr : r1 = r ∨ ∃ g, r1 = some g ∧ a.heap.size ≤ g) : a.grownBy c r :=
  ⟨k.os.trans h.os, k.tape.trans h.tape, k.output.trans h.output, Nat.le_trans h.size k.size, fun i hi hne => (k.block i (Nat.lt_of_lt_of_le hi h.size) (fun e => by
    rcases hr with rfl | ⟨g, rfl, hg⟩
    · exact hne e
    · injection e with e; omega)).trans (h.block i hi hne)⟩
theorem gr_on {a b : World} {r : Option Nat} (h : On a b) : a.grownBy b r := ⟨h.os, h.tape, h.output, h.size, fun i hi _ => h.block i hi⟩
theorem on_gr {a b c : World} {r : Option Nat} (h : On a b) (k : b.grownBy c r) (hr : ∀ g, r = some g → a.heap.size ≤ g) : On a c := Below.grown h k h.size (fun g e => hr g e)
theorem own_gr {w w' : World} {g : Nat} {t : TypeId} {cur : Array Value} {row : Option Nat} (h : Own w g t cur) (k : w.grownBy w' row) (hr : ∀ b, row = some b → b ≠ g) : Own w' g t cur :=
  (k.block g h.lt (fun e => hr g e.symm rfl)).trans h
theorem owns_blk {w : World} {base s : Nat} {e : TypeId} {v : Value} {n : Nat} {xs : List Value} (h : w.ownsRow base e s v n xs) : ∀ g, v.ownBlock = some g → base ≤ g ∧ g < w.heap.size := by
  intro g hg
  rcases h.2 with ⟨rfl, _⟩ | ⟨g', cap, cur, rfl, hb, hh, _⟩
  · simp [Value.ownBlock] at hg
  · simp [Value.ownBlock] at hg
    subst hg
    exact ⟨hb, (Array.getElem?_eq_some_iff.1 hh).1⟩
/-- a row stands when another block turns -/
theorem owns_gr {w w' : World} {base s : Nat} {e : TypeId} {v : Value} {n : Nat} {xs : List Value} {row : Option Nat} (h : w.ownsRow base e s v n xs) (k : w.grownBy w' row) (hr : ∀ b, row = some b → v.ownBlock ≠ some b) : w'.ownsRow base e s v n xs := by
  refine ⟨h.1, ?_⟩
  rcases h.2 with h2 | ⟨g, cap, cur, hv, hb, hh, h3⟩
  · exact .inl h2
  · refine .inr ⟨g, cap, cur, hv, hb, (k.block g (Array.getElem?_eq_some_iff.1 hh).1 (fun e => ?_)).trans hh, h3⟩
    exact hr g e.symm (by rw [hv]; rfl)
theorem cell_gr {w : World} {p : Addr} {g : Nat} (hp : p.block = g) (u : Value) : w.grownBy (w.setCell p u) (some g) :=
  ⟨rfl, rfl, rfl, by simp [World.setCell], fun k _ hne => Below.heap_setCell _ _ _ _ (fun e => hne (by rw [e, hp]))⟩
/-- a block that is neither the row's nor newer -/
def Off (g : Nat) (v : Value) : Prop := v.ownBlock ≠ some g
theorem zl_app (l k : List Cb) : zl (l ++ k) = zl l ++ zl k := by unfold zl; rw [List.map_append]
theorem zl_one (a : Cb) : zl [a] = [((a.1 : Int), (a.2 : Int))] := rfl
/-- events of b that a lacks -/
theorem lack_missing {a b : Cb} (h : clash a b = 0) (j : Nat) : (evs (without b.1 a.1, without b.2 a.2)).testBit j = lack a b j := by
  unfold evs lack evs
  have h1 := (clash_zero.1 h j).1
  have h2 := (clash_zero.1 h j).2
  simp only [Nat.testBit_or, without_tb]
  revert h1 h2
  cases a.1.testBit j <;> cases a.2.testBit j <;> cases b.1.testBit j <;> cases b.2.testBit j <;> simp
theorem step_minus {a b : Cb} (h : clash a b = 0) {i k L : Nat} (hL : ∀ j, L.testBit j = (decide (i ≤ j) && lack a b j)) (hk : L.testBit k = true) (hlow : ∀ j, j < k → L.testBit j = false) :
    i ≤ k ∧ pieces a b k = pieces a b i ∧ joinTo a b k = joinTo a b i ∧ pieces a b (k + 1) = pieces a b i ++ [piece a b k] := by
  have h1 := hL k
  rw [hk] at h1
  have h2 := h1.symm
  rw [Bool.and_eq_true, decide_eq_true_eq] at h2
  obtain ⟨d, rfl⟩ : ∃ d, k = i + d := ⟨k - i, by omega⟩
  have hz : ∀ j, i ≤ j → j < i + d → lack a b j = false := by
    intro j hj hjd
    have := hL j
    rw [hlow j hjd, decide_eq_true hj, Bool.true_and] at this
    exact this.symm
  have e := pieces_skip a b i d hz
  refine ⟨h2.1, e, joinTo_skip h i d hz, ?_⟩
  show (if lack a b (i + d) then pieces a b (i + d) ++ [piece a b (i + d)] else _) = _
  rw [if_pos h2.2, e]
set_option maxHeartbeats 16000000 in
theorem minus_ok (w : World) (a b : Cb) (ha : OkC a) (hb : OkC b) (base : Nat) (v : Value) (n : Nat) (xs : List Cz) (hrow : w.ownsRow base 23 2 v n (CV xs)) (hbase : base ≤ w.heap.size) (hn : n ≤ 1000000) :
    Calls Try.prog 48 #[v, cbV a, cbV b] w fun e w' => ∃ v', e = .returned v' ∧ w'.ownsRow base 23 2 v' (n + (minusL a b).length) (CV (xs ++ zl (minusL a b))) ∧ w.grownBy w' v.ownBlock ∧ (v'.ownBlock = v.ownBlock ∨ ∃ g, v'.ownBlock = some g ∧ w.heap.size ≤ g) := by
  have hK := fun W => clash_ok W a b ha hb
  have hM := fun W => missing_ok W a b ha hb
  obtain ⟨q, hq⟩ : ∃ q, w.heap.size = q := ⟨_, rfl⟩
  obtain ⟨a1, a2⟩ := a
  obtain ⟨b1, b2⟩ := b
  obtain ⟨w0, hw0⟩ : ∃ w0, (w.alloc (.cells #[.int .i64 (a1 : Int), .int .i64 (a2 : Int)] 23)).alloc (.cells #[.int .i64 (b1 : Int), .int .i64 (b2 : Int)] 23) = w0 := ⟨_, rfl⟩
  obtain ⟨O0, E0, P0⟩ := box2 hq hw0
  obtain ⟨r0, r1⟩ := own2 O0
  obtain ⟨s0, s1⟩ := own2 E0
  obtain ⟨A, c, rfl⟩ : ∃ A c, v = .slice A n c := by
    rcases hrow.2 with ⟨rfl, h0⟩ | ⟨g, cap, cur, rfl, _⟩
    · exact ⟨none, 0, by rw [h0]⟩
    · exact ⟨_, _, rfl⟩
  have hblk := owns_blk hrow
  have hK0 := hK w0
  have HR := Lib.hid (And.intro hrow (And.intro P0 (And.intro O0 E0)))
  have HB := Lib.hid (And.intro ha hb)
  clear hrow P0 O0 E0 ha hb hK
  unfold minusL
  by_cases hc : clash (a1, a2) (b1, b2) = 0
  · rw [if_pos hc]
    have hM0 := fun W => hM W
    have hE := fun W => events_ok W (without b1 a1, without b2 a2) ⟨Nat.lt_of_le_of_lt (without_le _ _) HB.out.2.1, Nat.lt_of_le_of_lt (without_le _ _) HB.out.2.2.1, by
      have h := and_zero.1 HB.out.2.2.2
      rw [and_zero]
      intro j hj
      rw [without_tb] at hj ⊢
      rw [Bool.and_eq_true] at hj
      rw [h j hj.1]
      rfl⟩
    have hlk := lack_missing hc
    have hev : evs (without b1 a1, without b2 a2) < 16777216 := or24 (Nat.lt_of_le_of_lt (without_le _ _) HB.out.2.1) (Nat.lt_of_le_of_lt (without_le _ _) HB.out.2.2.1)
    rw [hc] at hK0
    obtain ⟨m1, hm1⟩ : ∃ m1, without b1 a1 = m1 := ⟨_, rfl⟩
    obtain ⟨m2, hm2⟩ : ∃ m2, without b2 a2 = m2 := ⟨_, rfl⟩
    simp only at hlk hev hE hM0
    rw [hm1, hm2] at hlk hev hE hM0
    obtain ⟨ev, hevn⟩ : ∃ ev, evs (m1, m2) = ev := ⟨_, rfl⟩
    rw [hevn] at hlk hev hE
    unfold cbV at *
    simp only at hK0 hM0 hE ⊢
    have HC := Lib.hid (And.intro hc (And.intro hlk hev))
    clear hc hlk hevn hm1 hm2 hM
    go_enter Try.func48, Try.ntmps48
    subst hq
    go_wp2_with fail
    refine hK0.mono ?_
    rintro e w1 ⟨rfl, P1⟩
    clear hK0 r0 r1 s0 s1
    obtain ⟨r0, r1⟩ := own2 (HR.out.2.2.1.on P1)
    obtain ⟨s0, s1⟩ := own2 (HR.out.2.2.2.on P1)
    have hM1 := hM0 w1
    clear hM0
    go_wp2_with fail
    refine hM1.mono ?_
    rintro e w2 ⟨rfl, P2⟩
    clear hM1 r0 r1 s0 s1
    have hE2 := hE w2
    clear hE
    go_wp2_with fail
    refine hE2.mono ?_
    rintro e w3 ⟨rfl, P3⟩
    clear hE2
    have PW := ((HR.out.2.1.trans P1).trans P2).trans P3
    have H3 := Lib.hid (And.intro PW (And.intro (owns_on HR.out.1 PW) (And.intro (((HR.out.2.2.1.on P1).on P2).on P3) (((HR.out.2.2.2.on P1).on P2).on P3))))
    clear PW P1 P2 P3
    go_wp2
    go_loopw [7, 0] (fun lv u wr => ∃ (i L : Nat), i ≤ 24 ∧ lv = .int .i64 (L : Int) ∧ L < 16777216 ∧ (∀ j, L.testBit j = (decide (i ≤ j) && lack (a1, a2) (b1, b2) j)) ∧ wr.ownsRow base 23 2 u (n + (pieces (a1, a2) (b1, b2) i).length) (CV (xs ++ zl (pieces (a1, a2) (b1, b2) i))) ∧ Own wr w.heap.size 23 #[.int .i64 ((joinTo (a1, a2) (b1, b2) i).1 : Int), .int .i64 ((joinTo (a1, a2) (b1, b2) i).2 : Int)] ∧ Own wr (w.heap.size + 1) 23 #[.int .i64 (b1 : Int), .int .i64 (b2 : Int)] ∧ w.grownBy wr (Value.slice A n c).ownBlock ∧ (u.ownBlock = (Value.slice A n c).ownBlock ∨ ∃ g, u.ownBlock = some g ∧ w.heap.size + 1 < g)) (fun lv _ _ => (intOf lv).toNat)
    case atStart =>
      refine ⟨0, ev, by omega, rfl, HC.out.2.2, fun j => by rw [HC.out.2.1 j, decide_eq_true (Nat.zero_le j), Bool.true_and], ?_, ?_, H3.out.2.2.2, gr_on H3.out.1, .inl rfl⟩
      · show World.ownsRow _ _ _ _ _ (n + 0) (CV (xs ++ zl []))
        rw [show zl [] = [] from rfl, List.append_nil]
        exact H3.out.2.1
      · rw [joinTo_zero]
        exact H3.out.2.2.1
    case round =>
      obtain ⟨i, L, hi, rfl, hL, hbits, hrow, hO, hE, hgr, hown⟩ := hrel
      by_cases hz : L = 0
      · subst hz
        have hlz : ∀ j, i ≤ j → j < i + (24 - i) → lack (a1, a2) (b1, b2) j = false := by
          intro j hj _
          have := hbits j
          rw [Nat.zero_testBit, decide_eq_true hj, Bool.true_and] at this
          exact this.symm
        have e24 := pieces_skip (a1, a2) (b1, b2) i (24 - i) hlz
        rw [show i + (24 - i) = 24 by omega] at e24
        have HF := Lib.hid (And.intro e24 (And.intro hrow (And.intro hgr hown)))
        clear hlz e24 hrow hgr hown hbits
        go_wp2
        go_ret
        refine ⟨u0, rfl, ?_, HF.out.2.2.1, ?_⟩
        · rw [HF.out.1]; exact HF.out.2.1
        · rcases HF.out.2.2.2 with h | ⟨g, h, hg⟩
          · exact .inl h
          · exact .inr ⟨g, h, by omega⟩
      · obtain ⟨k, d, hk, hbk, hd, hsum, hels, hlow, hdrop, _⟩ := els_cons L hL hz
        obtain ⟨hik, hpk, hjk, hps⟩ := step_minus HC.out.1 hbits hbk (fun j hj => by
          refine Classical.byContradiction fun hn => ?_
          have hn' : L.testBit j = true := by simpa using hn
          have hj24 : j < 24 := by omega
          have := (mem_els L j).2 ⟨hj24, hn'⟩
          rw [hels] at this
          rcases List.mem_cons.1 this with rfl | hm
          · omega
          · have hs := els_sorted L
            rw [hels, List.pairwise_cons] at hs
            have := hs.1 j hm
            omega)
        have hdb : ∀ j, d.testBit j = (decide (k + 1 ≤ j) && lack (a1, a2) (b1, b2) j) := by
          intro j
          rw [hd, without_tb, tb_two, hbits j]
          by_cases hj : k + 1 ≤ j
          · rw [decide_eq_true hj, decide_eq_true (show i ≤ j by omega), decide_eq_false (show ¬ k = j by omega)]
            simp
          · rw [decide_eq_false hj, Bool.false_and]
            by_cases hkj : k = j
            · rw [decide_eq_true hkj]; simp
            · have hjk2 : j < k := by omega
              have : L.testBit j = false := by
                cases hn' : L.testBit j with
                | false => rfl
                | true =>
                  have := (mem_els L j).2 ⟨by omega, hn'⟩
                  rw [hels] at this
                  rcases List.mem_cons.1 this with rfl | hm
                  · omega
                  · have hs := els_sorted L
                    rw [hels, List.pairwise_cons] at hs
                    have := hs.1 j hm
                    omega
              rw [hbits j] at this
              rw [this]; rfl
        have hdl : d < L := by have := Nat.two_pow_pos k; omega
        have hJ := joinTo_ok HB.out.1 HB.out.2 HC.out.1 i
        have hjs := joinTo_succ (a1, a2) (b1, b2) k
        have hpd : piece (a1, a2) (b1, b2) k = meetC (joinTo (a1, a2) (b1, b2) k) (opp (b1, b2) k) := rfl
        rw [hjk] at hjs hpd
        have hlo := low_run L (2 ^ k) hL hz hlow
        rw [show wrap64 (-(L : Int)) = -(L : Int) by unfold wrap64; omega] at hlo
        have hlen : (pieces (a1, a2) (b1, b2) i).length ≤ i := pieces_len _ _ _
        have hp24 : 2 ^ k < 16777216 := by have : (2 : Nat) ^ k < 2 ^ 24 := Nat.pow_lt_pow_right (by decide) hk; exact this
        obtain ⟨⟨y, m⟩, hym⟩ : ∃ z, joinTo (a1, a2) (b1, b2) i = z := ⟨_, rfl⟩
        obtain ⟨pc_, hpcn⟩ : ∃ z, piece (a1, a2) (b1, b2) k = z := ⟨_, rfl⟩
        obtain ⟨pl, hpl⟩ : ∃ z, pieces (a1, a2) (b1, b2) i = z := ⟨_, rfl⟩
        rw [hym] at hJ hjs hpd hO
        rw [hpcn] at hpd hps
        rw [hpl] at hps hrow hlen
        unfold meetC opp at hpd
        unfold meetC at hjs
        simp only at hpd hjs hO
        have hb1 := HB.out.2.1
        have hb2 := HB.out.2.2.1
        simp only at hb1 hb2
        obtain ⟨p, hp⟩ : ∃ p, 2 ^ k = p := ⟨_, rfl⟩
        rw [hp] at hpd hjs hlo hp24
        rw [Nat.and_comm b2 p, Nat.and_comm b1 p] at hpd hjs
        have t1 := and_nat p b1 hp24 hb1
        have t2 := and_nat p b2 hp24 hb2
        have lu : p &&& b1 < 16777216 := Nat.lt_of_le_of_lt Nat.and_le_left hp24
        have lv : p &&& b2 < 16777216 := Nat.lt_of_le_of_lt Nat.and_le_left hp24
        obtain ⟨us, hus⟩ : ∃ us, p &&& b1 = us := ⟨_, rfl⟩
        obtain ⟨vs, hvs⟩ : ∃ vs, p &&& b2 = vs := ⟨_, rfl⟩
        rw [hus] at t1 lu hpd hjs
        rw [hvs] at t2 lv hpd hjs
        have o1 := or_nat y vs (lt63 hJ.1) (lt63 lv)
        have o2 := or_nat m us (lt63 hJ.2.1) (lt63 lu)
        have o3 := or_nat y us (lt63 hJ.1) (lt63 lu)
        have o4 := or_nat m vs (lt63 hJ.2.1) (lt63 lv)
        obtain ⟨k1, hk1⟩ : ∃ z, y ||| vs = z := ⟨_, rfl⟩
        obtain ⟨k2, hk2⟩ : ∃ z, m ||| us = z := ⟨_, rfl⟩
        obtain ⟨k3, hk3⟩ : ∃ z, y ||| us = z := ⟨_, rfl⟩
        obtain ⟨k4, hk4⟩ : ∃ z, m ||| vs = z := ⟨_, rfl⟩
        rw [hk1] at o1 hpd
        rw [hk2] at o2 hpd
        rw [hk3] at o3 hjs
        rw [hk4] at o4 hjs
        subst hpd
        have hdr : bits .and .i64 (L : Int) ((L : Int) - 1) = (d : Int) := by
          rw [show (L : Int) - 1 = ((L - 1 : Nat) : Int) by omega, and_nat L (L - 1) hL (by omega), hdrop]
        obtain ⟨Au, cu, rfl⟩ : ∃ Au cu, u0 = .slice Au (n + pl.length) cu := by
          rcases hrow.2 with ⟨rfl, h0⟩ | ⟨g, cap, cur, rfl, _⟩
          · exact ⟨none, 0, by rw [h0]⟩
          · exact ⟨_, _, rfl⟩
        obtain ⟨q0, q1⟩ := own2 hO
        obtain ⟨z0, z1⟩ := own2 hE
        have hO1 := hO.frozen 0
        have hO2 := hO.frozen 1
        have HX := Lib.hid (And.intro hO (And.intro hE (And.intro hrow (And.intro hgr (And.intro hown (And.intro hps (And.intro hjs (And.intro hdb hbits))))))))
        have HY := Lib.hid (And.intro hdr (And.intro (And.intro o1 o2) (And.intro o3 o4)))
        clear hO hE hrow hgr hown hps hjs hdb hbits hd hsum hels hlow hdrop hbk hik hpk hjk hpcn hpl hym hk1 hk2 hk3 hk4 hus hvs hp hJ hdr o1 o2 o3 o4 lu lv hb1 hb2
        go_wp2_with fail
        go_quiet (fail)
        obtain ⟨wq, hwq⟩ : ∃ wq, wr.drewN nq = wq := ⟨_, rfl⟩
        have OQ : Own wq w.heap.size 23 #[.int .i64 (y : Int), .int .i64 (m : Int)] := by rw [← hwq]; exact HX.out.1.drewN _
        have EQ : Own wq (w.heap.size + 1) 23 #[.int .i64 (b1 : Int), .int .i64 (b2 : Int)] := by rw [← hwq]; exact HX.out.2.1.drewN _
        have RQ : wq.ownsRow base 23 2 (.slice Au (n + pl.length) cu) (n + pl.length) (CV (xs ++ zl pl)) := by rw [← hwq]; exact HX.out.2.2.1
        have GQ : w.grownBy wq (Value.slice A n c).ownBlock := by rw [← hwq]; have h := HX.out.2.2.2.1; exact ⟨h.os, h.tape, h.output, h.size, h.block⟩
        rw [hwq]
        clear q0 q1 z0 z1 hO1 hO2 hwq hlo t1 t2
        obtain ⟨q0, q1⟩ := own2 OQ
        have o1 := HY.out.2.1.1
        have o2 := HY.out.2.1.2
        obtain ⟨w5, hw5⟩ : ∃ w5, wq.alloc (.cells #[.int .i64 (k1 : Int), .int .i64 (k2 : Int)] 23) = w5 := ⟨_, rfl⟩
        obtain ⟨O5, P5⟩ := box1 rfl hw5
        have HS := Lib.hid (And.intro (src_one O5) (And.intro P5 (And.intro (owns_on RQ P5) (And.intro (OQ.on P5) (And.intro (EQ.on P5) GQ)))))
        have hgs := GQ.size
        have hqs := EQ.lt
        have h5s := P5.size
        clear O5 P5 RQ OQ EQ GQ
        have hoff : ∀ b, (Value.slice Au (n + pl.length) cu).ownBlock = some b → b ≠ w.heap.size ∧ b ≠ w.heap.size + 1 := by
          intro b e
          rcases HX.out.2.2.2.2.1 with h | ⟨g, h, hg⟩
          · rw [h] at e; have := (hblk b e).2; omega
          · rw [h] at e; injection e with e; omega
        have HOF := Lib.hid hoff
        clear hoff
        go_upto_region 8 with (at_builtin; refine wpList_appC rfl (.tmp 42) (.tmp 52) 37 rfl base 23 _ 2 16 Try.underlying37 cubeInfo rfl (by decide) (by decide) (.slice Au (n + pl.length) cu) (n + pl.length) (CV (xs ++ zl pl)) rfl HS.out.2.2.1 (some ⟨wq.heap.size, 0, none⟩) 1 1 (CV [((k1 : Int), (k2 : Int))]) rfl HS.out.1 (CV_cell _) (by omega) (by omega) ?_; intro v' w6 hown6 hgrow6 hblk6)
        have O6 := own_gr HS.out.2.2.2.1 hgrow6 (fun b e => (HOF.out b e).1)
        have E6 := own_gr HS.out.2.2.2.2.1 hgrow6 (fun b e => (HOF.out b e).2)
        have G6 : w.grownBy w6 (Value.slice A n c).ownBlock := by
          refine gr_trans (gr_trans HS.out.2.2.2.2.2 (gr_on HS.out.2.1) (.inl rfl)) hgrow6 ?_
          rcases HX.out.2.2.2.2.1 with h | ⟨g, h, hg⟩
          · exact .inl h
          · exact .inr ⟨g, h, by omega⟩
        have B6 : v'.ownBlock = (Value.slice A n c).ownBlock ∨ ∃ g, v'.ownBlock = some g ∧ w.heap.size + 1 < g := by
          rcases hblk6 with h | h
          · rw [h]; exact HX.out.2.2.2.2.1
          · exact .inr ⟨_, h, by omega⟩
        have H6 := Lib.hid (And.intro O6 (And.intro E6 (And.intro G6 (And.intro B6 hown6))))
        obtain ⟨q0, q1⟩ := own2 O6
        have f0 := O6.frozen 0
        have f1 := O6.frozen 1
        have o3 := HY.out.2.2.1
        have o4 := HY.out.2.2.2
        clear O6 E6 G6 B6 hown6 hgrow6 hblk6 o1 o2
        go_upto_region 5 with fail
        have O7 := (H6.out.1.set_ 0 (.int .i64 (k3 : Int))).set_ 1 (.int .i64 (k4 : Int))
        have E7 := (H6.out.2.1.far (p := ⟨w.heap.size, 0, none⟩) (by show w.heap.size + 1 ≠ w.heap.size; omega) (.int .i64 (k3 : Int))).far (p := ⟨w.heap.size, 1, none⟩) (by show w.heap.size + 1 ≠ w.heap.size; omega) (.int .i64 (k4 : Int))
        have C1 : w6.grownBy (w6.setCell ⟨w.heap.size, 0, none⟩ (.int .i64 (k3 : Int))) (some w.heap.size) := cell_gr rfl _
        have C2 : (w6.setCell ⟨w.heap.size, 0, none⟩ (.int .i64 (k3 : Int))).grownBy ((w6.setCell ⟨w.heap.size, 0, none⟩ (.int .i64 (k3 : Int))).setCell ⟨w.heap.size, 1, none⟩ (.int .i64 (k4 : Int))) (some w.heap.size) := cell_gr rfl _
        have C12 := gr_trans C1 C2 (.inl rfl)
        have hvq : ∀ b, some w.heap.size = some b → v'.ownBlock ≠ some b := by
          intro b e
          injection e with e
          subst e
          intro e2
          rcases H6.out.2.2.2.1 with h | ⟨g, h, hg⟩
          · rw [h] at e2; have := (hblk _ e2).2; omega
          · rw [h] at e2; injection e2 with e2; omega
        have R7 := owns_gr H6.out.2.2.2.2 C12 hvq
        have G7 := gr_trans H6.out.2.2.1 C12 (.inr ⟨_, rfl, Nat.le_refl _⟩)
        obtain ⟨w7, hw7⟩ : ∃ w7, (w6.setCell ⟨w.heap.size, 0, none⟩ (.int .i64 (k3 : Int))).setCell ⟨w.heap.size, 1, none⟩ (.int .i64 (k4 : Int)) = w7 := ⟨_, rfl⟩
        rw [hw7] at O7 E7 R7 G7 ⊢
        have hdr := HY.out.1
        have H7 := Lib.hid (And.intro O7 (And.intro E7 (And.intro R7 (And.intro G7 H6.out.2.2.2.1))))
        clear O7 E7 C1 C2 C12 hvq R7 G7 hw7 q0 q1 f0 f1 o3 o4
        go_wp2
        go_roundw
        case rel =>
          refine ⟨k + 1, d, by omega, rfl, by omega, HX.out.2.2.2.2.2.2.2.1, ?_, ?_, H7.out.2.1, H7.out.2.2.2.1, H7.out.2.2.2.2⟩
          · have h1 := H7.out.2.2.1
            rw [HX.out.2.2.2.2.2.1, List.length_append, List.length_singleton, zl_app, ← List.append_assoc, CV_app (xs ++ zl pl) (zl [(k1, k2)])]
            exact h1
          · rw [HX.out.2.2.2.2.2.2.1]
            exact H7.out.1
        case measure => simp [intOf] <;> omega
  · rw [if_neg hc]
    obtain ⟨x, hx⟩ : ∃ x, clash (a1, a2) (b1, b2) = x := ⟨_, rfl⟩
    rw [hx] at hK0 hc
    clear hx hM
    unfold cbV at *
    simp only at hK0 ⊢
    go_enter Try.func48, Try.ntmps48
    subst hq
    go_wp2_with fail
    refine hK0.mono ?_
    rintro e w1 ⟨rfl, P1⟩
    clear hK0 r0 r1 s0 s1
    obtain ⟨r0, r1⟩ := own2 (HR.out.2.2.1.on P1)
    obtain ⟨w2, hw2⟩ : ∃ w2, w1.alloc (.cells #[.int .i64 (a1 : Int), .int .i64 (a2 : Int)] 23) = w2 := ⟨_, rfl⟩
    obtain ⟨O2, P2⟩ := box1 rfl hw2
    have PW := (HR.out.2.1.trans P1).trans P2
    have HS := Lib.hid (And.intro (src_one O2) (And.intro PW (owns_on HR.out.1 PW)))
    have hsz := PW.size
    clear O2 P2 PW
    go_wp2_with (at_builtin; refine wpList_appC rfl (.tmp 14) (.tmp 16) 37 rfl base 23 _ 2 16 Try.underlying37 cubeInfo rfl (by decide) (by decide) (.slice A n c) n (CV xs) rfl HS.out.2.2 (some ⟨w1.heap.size, 0, none⟩) 1 1 (CV [((a1 : Int), (a2 : Int))]) rfl HS.out.1 (CV_cell _) (by omega) (by omega) ?_; intro v' w5 hown5 hgrow5 hblk5)
    go_ret
    refine ⟨v', rfl, by rw [CV_app]; exact hown5, gr_trans (gr_on HS.out.2.1) hgrow5 (.inl rfl), ?_⟩
    rcases hblk5 with h | h
    · exact .inl h
    · exact .inr ⟨_, h, hsz⟩
end Go.Proofs.Ythamjboppnlpdaa.Cu
