/-
  cmp.Compare of ints; literals; the closure by which the nearest cube is found.
-/
import Derived.Test.YthamjboppnlpdaaCi
import Derived.Deep.RegionHeld3
namespace Go.Proofs.Ythamjboppnlpdaa.Cu
open Go.RowKit Go.Proofs.Ythamjboppnlpdaa.Sb
set_option linter.unusedVariables false
set_option maxRecDepth 100000
def cmpI (m n : Int) : Int := if m < n then -1 else if n < m then 1 else 0
set_option maxHeartbeats 2000000 in
theorem isnan_any (w : World) (x : Int) :
    Calls Try.prog 79 #[.int .i64 x] w fun e w' => e = .returned (.bool false) ∧ w = w' := by
  have hx : (x != x) = false := by simp
  go_enter Try.func79, Try.ntmps79
  go_wp2
  go_ret
  exact ⟨rfl, rfl⟩
set_option maxHeartbeats 2000000 in
theorem cmpi_any (w : World) (m n : Int) :
    Calls Try.prog 70 #[.int .i64 m, .int .i64 n] w fun e w' => e = .returned (.int .i64 (cmpI m n)) ∧ w = w' := by
  unfold cmpI
  by_cases h1 : m < n
  · rw [if_pos h1]
    go_enter Try.func70, Try.ntmps70
    go_wp2_with (refine (isnan_any _ _).mono ?_; rintro e w' ⟨rfl, rfl⟩)
    go_ret
    exact ⟨rfl, rfl⟩
  · rw [if_neg h1]
    by_cases h2 : n < m
    · rw [if_pos h2]
      go_enter Try.func70, Try.ntmps70
      go_wp2_with (refine (isnan_any _ _).mono ?_; rintro e w' ⟨rfl, rfl⟩)
      go_ret
      exact ⟨rfl, rfl⟩
    · rw [if_neg h2]
      go_enter Try.func70, Try.ntmps70
      go_wp2_with (refine (isnan_any _ _).mono ?_; rintro e w' ⟨rfl, rfl⟩)
      go_ret
      exact ⟨rfl, rfl⟩
theorem evs_lt {a : Cb} (h : OkC a) : evs a < 16777216 := or24 h.1 h.2.1
set_option maxHeartbeats 2000000 in
theorem literals_ok (w : World) (a : Cb) (ha : OkC a) :
    Calls Try.prog 62 #[cbV a] w fun e w' => e = .returned (.int .i64 (pc (evs a) : Nat)) ∧ On w w' := by
  have hE := fun W => events_ok W a ha
  have hN := fun W => count_any W (evs a : Nat)
  rw [cut_nat _ (evs_lt ha)] at hN
  obtain ⟨k, hk⟩ : ∃ k, evs a = k := ⟨_, rfl⟩
  rw [hk] at hE hN ⊢
  obtain ⟨p, hp⟩ : ∃ p, pc k = p := ⟨_, rfl⟩
  rw [hp] at hN ⊢
  unfold cbV at *
  obtain ⟨ay, an⟩ := a
  simp only at hE ⊢
  clear ha hk hp
  obtain ⟨q, hq⟩ : ∃ q, w.heap.size = q := ⟨_, rfl⟩
  obtain ⟨w0, hw0⟩ : ∃ w0, w.alloc (.cells #[.int .i64 (ay : Int), .int .i64 (an : Int)] 23) = w0 := ⟨_, rfl⟩
  obtain ⟨O0, P0⟩ := box1 hq hw0
  obtain ⟨r0, r1⟩ := own2 O0
  have HP := Lib.hid P0
  clear P0 O0
  have hE0 := hE w0
  clear hE
  go_enter Try.func62, Try.ntmps62
  subst hq
  go_wp2_with fail
  refine hE0.mono ?_
  rintro e w1 ⟨rfl, P1⟩
  clear hE0
  go_wp2_with fail
  refine (hN _).mono ?_
  rintro e w2 ⟨rfl, rfl⟩
  go_wp2
  go_ret
  exact ⟨rfl, HP.out.trans P1⟩
theorem okC_missing {a b : Cb} (hb : OkC b) : OkC (without b.1 a.1, without b.2 a.2) := by
  refine ⟨Nat.lt_of_le_of_lt (without_le _ _) hb.1, Nat.lt_of_le_of_lt (without_le _ _) hb.2.1, ?_⟩
  have h := and_zero.1 hb.2.2
  rw [and_zero]
  intro j hj
  rw [without_tb] at hj ⊢
  rw [Bool.and_eq_true] at hj
  rw [h j hj.1]
  rfl
/-- how many literals of b the cube c lacks -/
def lk (c b : Cb) : Nat := pc (evs (without b.1 c.1, without b.2 c.2))
set_option maxHeartbeats 8000000 in
theorem nearer_ok (w : World) (c a b : Cb) (hc : OkC c) (ha : OkC a) (hb : OkC b) (g : Nat) (hg : Own w g 23 #[.int .i64 (c.1 : Int), .int .i64 (c.2 : Int)]) :
    Calls Try.prog 73 #[cbV a, cbV b, .pointer (some ⟨g, 0, none⟩)] w fun e w' => e = .returned (.int .i64 (cmpI (lk c a : Nat) (lk c b : Nat))) ∧ On w w' := by
  have hM1 := fun W => missing_ok W c a hc ha
  have hM2 := fun W => missing_ok W c b hc hb
  have hL1 := fun W => literals_ok W _ (okC_missing (a := c) ha)
  have hL2 := fun W => literals_ok W _ (okC_missing (a := c) hb)
  unfold lk
  obtain ⟨⟨x1, x2⟩, hx⟩ : ∃ z, (without a.1 c.1, without a.2 c.2) = z := ⟨_, rfl⟩
  obtain ⟨⟨y1, y2⟩, hy⟩ : ∃ z, (without b.1 c.1, without b.2 c.2) = z := ⟨_, rfl⟩
  rw [hx] at hM1 hL1 ⊢
  rw [hy] at hM2 hL2 ⊢
  obtain ⟨p1, hp1⟩ : ∃ z, pc (evs (x1, x2)) = z := ⟨_, rfl⟩
  obtain ⟨p2, hp2⟩ : ∃ z, pc (evs (y1, y2)) = z := ⟨_, rfl⟩
  rw [hp1] at hL1 ⊢
  rw [hp2] at hL2 ⊢
  have hI := fun W => cmpi_any W (p1 : Int) (p2 : Int)
  obtain ⟨r, hr⟩ : ∃ r, cmpI (p1 : Int) (p2 : Int) = r := ⟨_, rfl⟩
  rw [hr] at hI ⊢
  unfold cbV at *
  obtain ⟨c1, c2⟩ := c
  obtain ⟨a1, a2⟩ := a
  obtain ⟨b1, b2⟩ := b
  simp only at hM1 hM2 hL1 hL2 hg ⊢
  clear hc ha hb hx hy hp1 hp2 hr
  obtain ⟨q, hq⟩ : ∃ q, w.heap.size = q := ⟨_, rfl⟩
  obtain ⟨w0, hw0⟩ : ∃ w0, (w.alloc (.cells #[.int .i64 (a1 : Int), .int .i64 (a2 : Int)] 23)).alloc (.cells #[.int .i64 (b1 : Int), .int .i64 (b2 : Int)] 23) = w0 := ⟨_, rfl⟩
  obtain ⟨O0, E0, P0⟩ := box2 hq hw0
  have G0 := hg.on P0
  have hS0 : ∀ W, On w0 W → On w0 W ∧ W.cell? ⟨q, 0, none⟩ = some (.int .i64 (a1 : Int)) ∧ W.cell? ⟨q, 1, none⟩ = some (.int .i64 (a2 : Int)) ∧ W.cell? ⟨q + 1, 0, none⟩ = some (.int .i64 (b1 : Int)) ∧ W.cell? ⟨q + 1, 1, none⟩ = some (.int .i64 (b2 : Int)) ∧ W.cell? ⟨g, 0, none⟩ = some (.int .i64 (c1 : Int)) ∧ W.cell? ⟨g, 1, none⟩ = some (.int .i64 (c2 : Int)) := fun W k => ⟨k, (own2 (O0.on k)).1, (own2 (O0.on k)).2, (own2 (E0.on k)).1, (own2 (E0.on k)).2, (own2 (G0.on k)).1, (own2 (G0.on k)).2⟩
  have HS := Lib.hid hS0
  have HK := Lib.hid (And.intro hM1 (And.intro hM2 (And.intro hL1 (And.intro hL2 (And.intro hI P0)))))
  clear hM1 hM2 hL1 hL2 hI O0 E0 G0 hg hS0 P0
  go_enter Try.func73, Try.ntmps73
  subst hq
  have hS6 := HS.out w0 (On.refl _)
  go_wp2
  go_region_held3 (fun W => On w0 W ∧ W.cell? ⟨w.heap.size, 0, none⟩ = some (.int .i64 (a1 : Int)) ∧ W.cell? ⟨w.heap.size, 1, none⟩ = some (.int .i64 (a2 : Int)) ∧ W.cell? ⟨w.heap.size + 1, 0, none⟩ = some (.int .i64 (b1 : Int)) ∧ W.cell? ⟨w.heap.size + 1, 1, none⟩ = some (.int .i64 (b2 : Int)) ∧ W.cell? ⟨g, 0, none⟩ = some (.int .i64 (c1 : Int)) ∧ W.cell? ⟨g, 1, none⟩ = some (.int .i64 (c2 : Int)))
    (first | exact HS.out _ (On.refl _).drew | exact HS.out _ (On.refl _) | assumption | (go_split_ands; exact HS.out _ (On.trans (by assumption) PA)))
    (first
      | (go_at_call 63; (with_reducible refine (HK.out.1 _).mono ?_); rintro e wA ⟨rfl, PA⟩)
      | (go_at_call 63; (with_reducible refine (HK.out.2.1 _).mono ?_); rintro e wA ⟨rfl, PA⟩)
      | (go_at_call 62; (with_reducible refine (HK.out.2.2.1 _).mono ?_); rintro e wA ⟨rfl, PA⟩)
      | (go_at_call 62; (with_reducible refine (HK.out.2.2.2.1 _).mono ?_); rintro e wA ⟨rfl, PA⟩)
      | (go_at_call 70; (with_reducible refine (HK.out.2.2.2.2.1 _).mono ?_); rintro e wA ⟨rfl, rfl⟩))
  rename_i hHe
  have hOn := hHe.1
  clear hHe
  go_wp2
  go_ret
  exact ⟨rfl, HK.out.2.2.2.2.2.trans hOn⟩
set_option maxHeartbeats 8000000 in
theorem minf_ok (w : World) (A : Option Addr) (n c : Nat) (l : List Cb) (h : RdC w A n c (zl l)) (ho : ∀ x ∈ l, OkC x) (h0 : 0 < n) (cc : Cb) (hc : OkC cc) (g : Nat) (hg : Own w g 23 #[.int .i64 (cc.1 : Int), .int .i64 (cc.2 : Int)]) :
    Calls Try.prog 72 #[.slice A n c, .func (.func 73) #[] #[.pointer (some ⟨g, 0, none⟩)]] w fun e w' => (∃ x ∈ l, e = .returned (cbV x)) ∧ On w w' := by
  have hn : l.length = n := by have := h.len; rwa [zl_len] at this
  have hcap := h.cap
  have hmax := h.max
  obtain ⟨q, hq⟩ : ∃ q, w.heap.size = q := ⟨_, rfl⟩
  obtain ⟨w0, hw0⟩ : ∃ w0, w.alloc (.cells #[.int .i64 0, .int .i64 0] 23) = w0 := ⟨_, rfl⟩
  obtain ⟨O0, P0⟩ := box1 hq hw0
  have hx0 := getD_mem (l := l) (j := 0) (d := (0, 0)) (by rw [hn]; exact h0)
  obtain ⟨ad, e1, hbl, hc0, hc1⟩ := (h.on P0).at_ h0
  cases e1
  rw [zl_cell] at hc0 hc1
  simp only at hc0 hc1
  rw [Nat.zero_mul, add_nil] at hc0 hc1
  obtain ⟨⟨x, y⟩, hx⟩ : ∃ z, l.getD 0 (0, 0) = z := ⟨_, rfl⟩
  rw [hx] at hc0 hc1 hx0
  simp only at hc0 hc1
  have HR := Lib.hid (And.intro (h.on P0) (And.intro hn ho))
  have HX0 := Lib.hid hx0
  have HP := Lib.hid (And.intro P0 (And.intro O0 (And.intro (hg.on P0) hc)))
  clear h hn ho hx hx0 P0 O0 hg hc
  have Z0 : Own (w0.alloc (.cells #[.int .i64 0, .int .i64 0] 23)) w0.heap.size 23 #[.int .i64 0, .int .i64 0] := Own.new _ _ _
  obtain ⟨k0, k1⟩ := own2 Z0
  have f0 := Z0.frozen 0
  have f1 := Z0.frozen 1
  go_enter Try.func72, Try.ntmps72
  subst hq
  go_upto_region 4 with fail
  clear k0 k1 f0 f1 Z0 hc0 hc1
  obtain ⟨w1, hw1⟩ : ∃ z, w0.alloc (.cells #[.int .i64 (x : Int), .int .i64 (y : Int)] 23) = z := ⟨_, rfl⟩
  obtain ⟨O1, P1⟩ := box1 rfl hw1
  rw [hw1]
  obtain ⟨b, hb⟩ : ∃ z, w0.heap.size = z := ⟨_, rfl⟩
  rw [hb] at O1 ⊢
  have hqb : w.heap.size < b := by have := HP.out.2.1.lt; omega
  have H1 := Lib.hid (And.intro P1 (And.intro O1 (HP.out.2.1.on P1)))
  clear P1 O1 hw1
  go_wp2
  go_loopw [6] (fun i wr => ∃ (j : Nat) (z : Cb), j ≤ n ∧ 0 < j ∧ i = .int .i64 (j : Int) ∧ Hid (z ∈ l) ∧ Own wr b 23 #[.int .i64 (z.1 : Int), .int .i64 (z.2 : Int)] ∧ Own wr w.heap.size 23 #[.int .i64 0, .int .i64 0] ∧ On w0 wr) (fun i _ => n - (intOf i).toNat)
  case atStart => exact ⟨1, (x, y), by omega, by omega, rfl, HX0, H1.out.2.1, H1.out.2.2, H1.out.1⟩
  case round =>
    obtain ⟨j, ⟨z1, z2⟩, hj, hj0, rfl, HZ, hO, hQ, hon⟩ := hrel
    simp only at hO
    by_cases hlt : j < n
    · have hjl : j < l.length := by rw [HR.out.2.1]; exact hlt
      have hm := getD_mem (d := (0, 0)) hjl
      obtain ⟨ad2, e2, hb2, hc2, hc3⟩ := (HR.out.1.on hon).at_ hlt
      cases e2
      rw [zl_cell] at hc2 hc3
      simp only at hc2 hc3
      obtain ⟨⟨u, v⟩, hx⟩ : ∃ z, l.getD j (0, 0) = z := ⟨_, rfl⟩
      rw [hx] at hc2 hc3 hm
      simp only at hc2 hc3
      have hN := fun W (k : On wr W) => nearer_ok W cc (u, v) (z1, z2) HP.out.2.2.2 (HR.out.2.2 _ hm) (HR.out.2.2 _ HZ.out) g ((HP.out.2.2.1.on hon).on k)
      obtain ⟨r, hr⟩ : ∃ r, cmpI (lk cc (u, v) : Nat) (lk cc (z1, z2) : Nat) = r := ⟨_, rfl⟩
      rw [hr] at hN
      unfold cbV at hN
      simp only at hN
      have hlR := (HR.out.1.on hon)
      have hbb : (ad.add (j * 2)).block < wr.heap.size := by rw [block_of_add]; exact hb2
      have hS0 : ∀ W, On wr W → On wr W ∧ W.cell? (ad.add (j * 2)) = some (.int .i64 (u : Int)) ∧ W.cell? ⟨(ad.add (j * 2)).block, (ad.add (j * 2)).off + 1, none⟩ = some (.int .i64 (v : Int)) ∧ W.cell? ⟨b, 0, none⟩ = some (.int .i64 (z1 : Int)) ∧ W.cell? ⟨b, 1, none⟩ = some (.int .i64 (z2 : Int)) := fun W k => ⟨k, (Below.cell k hbb).trans hc2, (Below.cell k (p := ⟨(ad.add (j * 2)).block, (ad.add (j * 2)).off + 1, none⟩) hbb).trans hc3, (own2 (hO.on k)).1, (own2 (hO.on k)).2⟩
      have HS := Lib.hid hS0
      have HNH := Lib.hid hN
      have HM := Lib.hid (And.intro hm (And.intro hO (And.intro hQ hon)))
      have hS6 := hS0 wr (On.refl _)
      clear hN hS0 hm hO hQ hon hx hlR hc2 hc3 hr hjl hbb
      go_wp2
      go_region_held3 (fun W => On wr W ∧ W.cell? (ad.add (j * 2)) = some (.int .i64 (u : Int)) ∧ W.cell? ⟨(ad.add (j * 2)).block, (ad.add (j * 2)).off + 1, none⟩ = some (.int .i64 (v : Int)) ∧ W.cell? ⟨b, 0, none⟩ = some (.int .i64 (z1 : Int)) ∧ W.cell? ⟨b, 1, none⟩ = some (.int .i64 (z2 : Int)))
        (first | exact HS.out _ (On.refl _).drew | exact HS.out _ (On.refl _) | assumption | (go_split_ands; exact HS.out _ (On.trans (by assumption) PA)))
        (first
          | (go_at_call 73; go_split_ands; (with_reducible refine (HNH.out _ ?_).mono ?_); assumption; rintro e wA ⟨rfl, PA⟩))
      rename_i hHe
      obtain ⟨hOn, d0, d1, m0, m1⟩ := hHe
      have OB := HM.out.2.1.on hOn
      have hf0 := OB.frozen 0
      have hf1 := OB.frozen 1
      have HA := Lib.hid (And.intro OB (And.intro (HM.out.2.2.1.on hOn) (HM.out.2.2.2.trans hOn)))
      clear OB hOn PA
      by_cases hr0 : r < 0
      · have HT := store2 HA.out.1 HA.out.2.2 (show w0.heap.size ≤ b by omega) (.int .i64 (u : Int)) (.int .i64 (v : Int))
        have HQ := (HA.out.2.1.far (p := ⟨b, 0, none⟩) (by show w.heap.size ≠ b; omega) (.int .i64 (u : Int))).far (p := ⟨b, 1, none⟩) (by show w.heap.size ≠ b; omega) (.int .i64 (v : Int))
        have HTQ := Lib.hid (And.intro HT HQ)
        have HMM := Lib.hid HM.out.1
        clear HT HQ
        go_wp2
        go_roundw
        case rel => exact ⟨j + 1, (u, v), by omega, by omega, by go_num, HMM, HTQ.out.1.1, HTQ.out.2, HTQ.out.1.2⟩
        case measure => simp [intOf] <;> omega
      · go_wp2
        go_roundw
        case rel => exact ⟨j + 1, (z1, z2), by omega, by omega, by go_num, HZ, HA.out.1, HA.out.2.1, HA.out.2.2⟩
        case measure => simp [intOf] <;> omega
    · obtain rfl : j = n := by omega
      obtain ⟨m0, m1⟩ := own2 hO
      obtain ⟨q0, q1⟩ := own2 hQ
      have hf0 := hQ.frozen 0
      have hf1 := hQ.frozen 1
      have HF := Lib.hid (And.intro hQ hon)
      have HPW := Lib.hid (HP.out.1.trans hon)
      clear hO hQ hon
      go_wp2
      obtain ⟨F3, P3⟩ := store2 HF.out.1 HPW.out (show w.heap.size ≤ w.heap.size by omega) (.int .i64 (z1 : Int)) (.int .i64 (z2 : Int))
      obtain ⟨x0, x1⟩ := own2 F3
      exact bodyPost_ret (v := .agg #[.int .i64 (z1 : Int), .int .i64 (z2 : Int)]) (by simp [results, Try.results72, go_sem, x0, x1]) rfl ⟨⟨(z1, z2), HZ.out, rfl⟩, P3⟩
end Go.Proofs.Ythamjboppnlpdaa.Cu
