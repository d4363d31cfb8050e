/-
  The specification's tables: Weights, Count.
-/
import Derived.Test.YtpllgpjplliadaaTa
import Derived.Deep.DeepCutAuto
namespace Go.Proofs.Ytpllgpjplliadaa.Fm
open Go.RowKit Go.Proofs.Ytpllgpjplliadaa.Sb
set_option linter.unusedVariables false
set_option maxRecDepth 100000
theorem bit_int (s a : Nat) (hs : s < 16777216) : bits .and .i64 ((s : Int) / 2 ^ a) 1 = ((s / 2 ^ a % 2 : Nat) : Int) := by
  have e : ((s : Int) / 2 ^ a) = ((s >>> a : Nat) : Int) := by
    rw [Nat.shiftRight_eq_div_pow, Int.natCast_ediv, Int.natCast_pow]; rfl
  rw [e, bit_step s a hs, Nat.shiftRight_eq_div_pow]
theorem VB_at2 {w : World} {P : Option Addr} {m k : Nat} {f : Fn} (h : Rd w P m k (VB (tab f))) (hm : 2 ^ f.vars = m) {j : Nat} (hj : j < m) : ∃ ad, P = some ad ∧ ad.block < w.heap.size ∧ w.cell? (ad.add j) = some (.bool (val f j)) := by
  obtain ⟨ad, h1, h2, h3⟩ := VB_at h hj
  rw [tab_get (by rw [hm]; exact hj)] at h3
  exact ⟨ad, h1, h2, h3⟩
theorem wts_big (f : Fn) (k i : Nat) (h : i ≤ f.vars) : (wtsTo f k).getD i 0 ≤ k := by
  rw [wtsTo_get h]; exact numK_le _ _ _ _
set_option maxHeartbeats 16000000 in
theorem rweights_ok (w : World) (f : Fn) (hf : WF f) (hv12 : f.vars ≤ 12) (A : Option Addr) (n c : Nat) (h : RdN w A n c (rawL f.nodes)) :
    Calls Try.prog 22 #[.agg #[.int .i64 (f.vars : Int), .slice A n c, .int .i64 (f.top : Int)]] w fun e w' => ∃ g, e = .returned (.slice (some ⟨g, 0, none⟩) (f.vars + 1) (f.vars + 1)) ∧ Own w' g 3 (VI (ints (wts f))).toArray ∧ w.heap.size ≤ g ∧ On w w' := by
  obtain ⟨m, hm⟩ : ∃ m, 2 ^ f.vars = m := ⟨_, rfl⟩
  have hm12 := pow12 hv12
  rw [hm] at hm12
  obtain ⟨q, hq⟩ : ∃ q, w.heap.size = q := ⟨_, rfl⟩
  obtain ⟨w0, hw0⟩ : ∃ w0, w.alloc (.cells #[.int .i64 (f.vars : Int), .slice A n c, .int .i64 (f.top : Int)] 24) = w0 := ⟨_, rfl⟩
  have O0 : Own w0 q 24 #[.int .i64 (f.vars : Int), .slice A n c, .int .i64 (f.top : Int)] := by rw [← hw0, ← hq]; exact Own.new _ _ _
  have P0 : On w w0 := by rw [← hw0]; exact (On.refl w).alloc _
  obtain ⟨r0, r1, r2⟩ := own3 O0
  have hmk := run_mkI (f.vars + 1) (by omega) w0
  obtain ⟨g, hg⟩ : ∃ g, w0.heap.size = g := ⟨_, rfl⟩
  obtain ⟨w1, hw1⟩ : ∃ w1, w0.alloc (.cells (VI (ints (List.replicate (f.vars + 1) 0))).toArray 3) = w1 := ⟨_, rfl⟩
  have OG : Own w1 g 3 (VI (ints (List.replicate (f.vars + 1) 0))).toArray := by rw [← hw1, ← hg]; exact Own.new _ _ _
  have P1 : On w0 w1 := by rw [← hw1]; exact (On.refl w0).alloc _
  rw [hg, hw1] at hmk
  rw [show ((f.vars + 1 : Nat) : Int) = (f.vars : Int) + 1 by omega] at hmk
  have hgq : q < g := by have := O0.lt; omega
  have hT := rtable_ok w1 f hf hv12 A n c (h.on (P0.trans P1)) m hm
  obtain ⟨s0, s1, s2⟩ := own3 (O0.on P1)
  have HO := Lib.hid (And.intro (O0.on P1) (And.intro OG (And.intro (P0.trans P1) hm)))
  have HW0 := Lib.hid hw0
  clear h O0 P0 hf hw0 hw1 hm OG P1
  go_enter Try.func22, Try.ntmps22
  go_upto_region 1 with fail
  rw [HW0.out]
  go_wp2_with fail
  refine hT.mono ?_
  rintro e w2 ⟨B, d, rfl, hR, hfr, P2⟩
  clear hT r0 r1 r2 s0 s1 s2 HW0 hmk
  have hB2 := hR.cap
  have hB3 := hR.max
  have hfr2 : ∀ ad, B = some ad → ad.block ≠ g := fun ad e => by have h1 := hfr ad e; have h2 := HO.out.2.1.lt; omega
  have HFR := Lib.hid hfr2
  have H2 := Lib.hid (And.intro hR (And.intro (HO.out.2.1.on P2) (And.intro (HO.out.1.on P2) (HO.out.2.2.1.trans P2))))
  clear hR P2 hfr hfr2
  go_wp2
  go_loopw [15] (fun i wr => ∃ k : Nat, k ≤ m ∧ i = .int .i64 (k : Int) ∧ On w wr ∧ Own wr g 3 (VI (ints (wtsTo f k))).toArray ∧ Own wr q 24 #[.int .i64 (f.vars : Int), .slice A n c, .int .i64 (f.top : Int)] ∧ Rd wr B m d (VB (tab f))) (fun i _ => m - (intOf i).toNat)
  case atStart =>
    exact ⟨0, by omega, rfl, H2.out.2.2.2, by rw [wtsTo_zero]; exact H2.out.2.1, H2.out.2.2.1, H2.out.1⟩
  case round =>
    obtain ⟨k, hk, rfl, hon, hG, hQ, hR⟩ := hrel
    obtain ⟨wo, hwo⟩ : ∃ wo, wo = wr := ⟨_, rfl⟩
    subst hwo
    by_cases hlt : k < m
    · obtain ⟨ad, rfl, hb, hc⟩ := VB_at2 hR HO.out.2.2.2 hlt
      have hgl : (wtsTo f k).length = f.vars + 1 := wtsTo_len f k
      obtain ⟨b, hbv⟩ : ∃ b, val f k = b := ⟨_, rfl⟩
      rw [hbv] at hc
      have H3 := Lib.hid (And.intro hon (And.intro hG (And.intro hQ (And.intro hR (And.intro hgl hbv)))))
      clear hon hG hQ hR hgl hbv
      obtain ⟨r0, r1, r2⟩ := own3 H3.out.2.2.1
      go_wp2
      clear r0 r1 r2 hc
      go_loopw [22, 6] (fun j x wr => ∃ t : Nat, t ≤ f.vars ∧ j = .int .i64 (t : Int) ∧ x = .int .i64 (pcT k t : Nat) ∧ ∃ z, wr = wo.drewN z) (fun j _ _ => f.vars - (intOf j).toNat)
      case atStart => exact ⟨0, by omega, rfl, rfl, 0, rfl⟩
      case round =>
        obtain ⟨t, ht, rfl, rfl, z, rfl⟩ := hrel
        have hp := pcT_le k t
        by_cases ht2 : t < f.vars
        · have hb := bit_int k t (by omega)
          have hs : pcT k (t + 1) = pcT k t + k / 2 ^ t % 2 := rfl
          have h2 : k / 2 ^ t % 2 < 2 := Nat.mod_lt _ (by omega)
          obtain ⟨x, hx⟩ : ∃ x, k / 2 ^ t % 2 = x := ⟨_, rfl⟩
          rw [hx] at hb hs h2
          have HS := Lib.hid hs
          obtain ⟨p, hpe⟩ : ∃ p, pcT k t = p := ⟨_, rfl⟩
          have HPE := Lib.hid hpe
          rw [hpe] at hp ⊢
          have ht64 : t < 64 := by omega
          clear hs hx hpe
          go_wp2
          go_roundw
          case rel => exact ⟨t + 1, by omega, by go_num, by rw [HS.out, HPE.out]; go_num, z, rfl⟩
          case measure => simp [intOf] <;> omega
        · have htv : t = f.vars := by omega
          subst htv
          have hG := H3.out.2.1
          have hgl := H3.out.2.2.2.2.1
          have hbig := wts_big f k (pcT k f.vars) hp
          have hyes := fun h => wtsTo_yes (f := f) (m := k) h
          have hno := fun h => wtsTo_no (f := f) (m := k) h
          obtain ⟨p, hpe⟩ : ∃ p, pcT k f.vars = p := ⟨_, rfl⟩
          rw [hpe] at hp hbig hyes ⊢
          have hat := own_atI hG (i := p) (by omega)
          obtain ⟨y, hy⟩ : ∃ y, (wtsTo f k).getD p 0 = y := ⟨_, rfl⟩
          rw [hy] at hbig hyes hat
          have hcz : (wo.drewN z).cell? ⟨g, p, none⟩ = some (.int .i64 (y : Int)) := hat
          have hfz : (wo.drewN z).frozen? ⟨g, p, none⟩ = false := hG.frozen p
          have HY := Lib.hid (And.intro hyes hno)
          have HG := Lib.hid (show Own (wo.drewN z) g 3 (VI (ints (wtsTo f k))).toArray from hG)
          clear hyes hno hy hpe hG hgl hat
          cases b with
          | true =>
            go_wp2
            go_roundw
            case rel =>
              exact ⟨k + 1, by omega, by go_num, On.setCell (H3.out.1.drewN z) (p := ⟨g, p, none⟩) (by show w.heap.size ≤ g; omega) _, own_setI HG.out p (by go_num) (HY.out.1 H3.out.2.2.2.2.2).symm, (show Own (wo.drewN z) q _ _ from H3.out.2.2.1).far (by show q ≠ g; omega) _, rd_far (H3.out.2.2.2.1.drewN z) _ _ (fun ad e => HFR.out ad e)⟩
            case measure => simp [intOf] <;> omega
          | false =>
            go_wp2
            go_roundw
            case rel => exact ⟨k + 1, by omega, by go_num, H3.out.1.drewN z, by rw [HY.out.2 H3.out.2.2.2.2.2]; exact HG.out, H3.out.2.2.1, H3.out.2.2.2.1.drewN z⟩
            case measure => simp [intOf] <;> omega
    · obtain rfl : k = m := by omega
      have ew : wtsTo f k = wts f := by rw [← HO.out.2.2.2]; rfl
      rw [ew] at hG
      have HG := Lib.hid (And.intro hG hon)
      clear hG hon hQ hR
      go_wp2
      go_ret
      exact ⟨g, rfl, HG.out.1, by omega, HG.out.2⟩
end Go.Proofs.Ytpllgpjplliadaa.Fm
