/-
  The specification's tables: Count, Differ.
-/
import Derived.Test.YtpllgpjplliadaaTb
import Derived.BigQuiet
namespace Go.Proofs.Ytpllgpjplliadaa.Fm
open Go.RowKit Go.Proofs.Ytpllgpjplliadaa.Sb
set_option linter.unusedVariables false
set_option maxRecDepth 100000
set_option maxHeartbeats 8000000 in
theorem rcount_ok (w : World) (f : Fn) (hf : WF f) (hv12 : f.vars ≤ 12) (A : Option Addr) (n c : Nat) (h : RdN w A n c (rawL f.nodes)) :
    Calls Try.prog 20 #[.agg #[.int .i64 (f.vars : Int), .slice A n c, .int .i64 (f.top : Int)]] w fun e w' => e = .returned (.int .i64 (cnt f : Nat)) ∧ On w w' := by
  have P0 := (On.refl w).alloc (.cells #[.int .i64 (f.vars : Int), .slice A n c, .int .i64 (f.top : Int)] 24)
  have hW := rweights_ok _ f hf hv12 A n c (h.on P0)
  have hm12 := pow12 hv12
  have hsum := sum_wts f
  have hle := sumTo_le f (2 ^ f.vars)
  have hwl := wts_len f
  have hw0 : wts f = wtsTo f (2 ^ f.vars) := rfl
  rw [← hw0] at hle
  obtain ⟨m, hm⟩ : ∃ m, 2 ^ f.vars = m := ⟨_, rfl⟩
  rw [hm] at hm12 hle
  have HS := Lib.hid (And.intro hsum (And.intro hle hwl))
  clear h hf hw0 hm hsum hle hwl
  go_enter Try.func20, Try.ntmps20
  go_wp2_with fail
  refine hW.mono ?_
  rintro e w1 ⟨g, rfl, OG, hg, P1⟩
  clear hW
  have HG := Lib.hid (And.intro OG (P0.trans P1))
  clear OG P1 P0 hg
  go_wp2
  go_loopw [9, 3] (fun j x wr => ∃ t : Nat, t ≤ f.vars + 1 ∧ j = .int .i64 (t : Int) ∧ x = .int .i64 (sumTo (wts f) t : Nat) ∧ ∃ z, wr = w1.drewN z) (fun j _ _ => f.vars + 1 - (intOf j).toNat)
  case atStart => exact ⟨0, by omega, rfl, rfl, 0, rfl⟩
  case round =>
    obtain ⟨t, ht, rfl, rfl, z, rfl⟩ := hrel
    by_cases ht2 : t < f.vars + 1
    · have hat := own_atI (HG.out.1.drewN z) (i := t) (by rw [HS.out.2.2]; exact ht2)
      have hs : sumTo (wts f) (t + 1) = sumTo (wts f) t + (wts f).getD t 0 := rfl
      have hb1 := HS.out.2.1 (t + 1) (by omega)
      have hb2 := HS.out.2.1 t (by omega)
      obtain ⟨x, hx⟩ : ∃ x, (wts f).getD t 0 = x := ⟨_, rfl⟩
      obtain ⟨y, hy⟩ : ∃ y, sumTo (wts f) t = y := ⟨_, rfl⟩
      rw [hx, hy] at hs
      rw [hs] at hb1
      rw [hx] at hat
      rw [hy] at hb2 ⊢
      have HS2 := Lib.hid hs
      clear hs hx hy
      go_wp2
      go_roundw
      case rel => exact ⟨t + 1, by omega, by go_num, by rw [HS2.out]; go_num, z, rfl⟩
      case measure => simp [intOf] <;> omega
    · obtain rfl : t = f.vars + 1 := by omega
      have hs := HS.out.1
      rw [hs]
      have HE := Lib.hid hs
      go_wp2
      go_ret
      exact ⟨rfl, HG.out.2.drewN z⟩
set_option maxHeartbeats 16000000 in
theorem rdiffer_ok (w : World) (f f2 : Fn) (hf : WF f) (hf2 : WF f2) (hv12 : f.vars ≤ 12) (hvv : f2.vars = f.vars) (A : Option Addr) (n c : Nat) (h : RdN w A n c (rawL f.nodes)) (A2 : Option Addr) (n2 c2 : Nat) (h2 : RdN w A2 n2 c2 (rawL f2.nodes)) :
    Calls Try.prog 28 #[.agg #[.int .i64 (f.vars : Int), .slice A n c, .int .i64 (f.top : Int)], .agg #[.int .i64 (f2.vars : Int), .slice A2 n2 c2, .int .i64 (f2.top : Int)]] w fun e w' => e = .returned (.int .i64 (difZ f f2)) ∧ On w w' := by
  obtain ⟨m, hm⟩ : ∃ m, 2 ^ f.vars = m := ⟨_, rfl⟩
  have hm12 := pow12 hv12
  rw [hm] at hm12
  obtain ⟨q, hq⟩ : ∃ q, w.heap.size = q := ⟨_, rfl⟩
  obtain ⟨w0, hw0⟩ : ∃ w0, (w.alloc (.cells #[.int .i64 (f.vars : Int), .slice A n c, .int .i64 (f.top : Int)] 24)).alloc (.cells #[.int .i64 (f2.vars : Int), .slice A2 n2 c2, .int .i64 (f2.top : Int)] 24) = w0 := ⟨_, rfl⟩
  have O0 : Own w0 q 24 #[.int .i64 (f.vars : Int), .slice A n c, .int .i64 (f.top : Int)] := by rw [← hw0, ← hq]; exact (Own.new _ _ _).alloc _
  have C0 : Own w0 (q + 1) 24 #[.int .i64 (f2.vars : Int), .slice A2 n2 c2, .int .i64 (f2.top : Int)] := by
    rw [← hw0, ← hq]
    have := Own.new (w.alloc (.cells #[.int .i64 (f.vars : Int), .slice A n c, .int .i64 (f.top : Int)] 24)) 24 #[.int .i64 (f2.vars : Int), .slice A2 n2 c2, .int .i64 (f2.top : Int)]
    simpa using this
  have P0 : On w w0 := by rw [← hw0]; exact ((On.refl w).alloc _).alloc _
  have hT1 := fun W (k : On w0 W) => rtable_ok W f hf hv12 A n c (h.on (P0.trans k)) m hm
  have hT2 := fun W (k : On w0 W) => rtable_ok W f2 hf2 (by rw [hvv]; exact hv12) A2 n2 c2 (h2.on (P0.trans k)) m (by rw [hvv]; exact hm)
  have hS0 : ∀ W, On w0 W → On w0 W ∧ W.cell? ⟨q, 0, none⟩ = some (.int .i64 (f.vars : Int)) ∧ W.cell? ⟨q, 1, none⟩ = some (.slice A n c) ∧ W.cell? ⟨q, 2, none⟩ = some (.int .i64 (f.top : Int)) ∧ W.cell? ⟨q + 1, 0, none⟩ = some (.int .i64 (f2.vars : Int)) ∧ W.cell? ⟨q + 1, 1, none⟩ = some (.slice A2 n2 c2) ∧ W.cell? ⟨q + 1, 2, none⟩ = some (.int .i64 (f2.top : Int)) := fun W k => ⟨k, (own3 (O0.on k)).1, (own3 (O0.on k)).2.1, (own3 (O0.on k)).2.2, own3 (C0.on k)⟩
  have hG : ∀ {w1 w2 : World} {B B2 : Option Addr} {d d2 : Nat}, Rd w1 B m d (VB (tab f)) → Rd w2 B2 m d2 (VB (tab f2)) → True := fun _ _ => trivial
  have HS := Lib.hid hS0
  have HO := Lib.hid (And.intro P0 (And.intro hw0 (And.intro hm hvv)))
  have HK := Lib.hid (And.intro hT1 hT2)
  obtain ⟨res, hres⟩ : ∃ res, difZ f f2 = res := ⟨_, rfl⟩
  rw [hres]
  have HRES := Lib.hid hres
  clear h h2 O0 C0 P0 hf hf2 hS0 hT1 hT2 hw0 hm hres hG hvv
  go_enter Try.func28, Try.ntmps28
  go_upto_region 1 with fail
  rw [HO.out.2.1]
  go_region_held3 (fun W => On w0 W ∧ W.cell? ⟨q, 0, none⟩ = some (.int .i64 (f.vars : Int)) ∧ W.cell? ⟨q, 1, none⟩ = some (.slice A n c) ∧ W.cell? ⟨q, 2, none⟩ = some (.int .i64 (f.top : Int)) ∧ W.cell? ⟨q + 1, 0, none⟩ = some (.int .i64 (f2.vars : Int)) ∧ W.cell? ⟨q + 1, 1, none⟩ = some (.slice A2 n2 c2) ∧ W.cell? ⟨q + 1, 2, none⟩ = some (.int .i64 (f2.top : Int)))
    (first | exact HS.out _ (On.refl _).drew | exact HS.out _ (On.refl _) | (go_split_ands; exact HS.out _ (On.trans (by assumption) PA)) | assumption)
    (first
      | (go_at_call 19; go_split_ands; (with_reducible refine (HK.out.1 _ ?_).mono ?_); assumption; rintro e wA ⟨B1, d1, rfl, hR1, hfr1, PA⟩)
      | (go_at_call 19; go_split_ands; (with_reducible refine (HK.out.2 _ ?_).mono ?_); assumption; rintro e wA ⟨B2, d2, rfl, hR2, hfr2, PA⟩))
  rename_i hHe
  have hRf := hR1.on PA
  have hcap1 := hRf.cap
  have hmax1 := hRf.max
  have hcap2 := hR2.cap
  have hmax2 := hR2.max
  have hvv2 : 2 ^ f2.vars = m := by rw [HO.out.2.2.2]; exact HO.out.2.2.1
  have HP := Lib.hid (HO.out.1.trans hHe.1)
  have HRR := Lib.hid (And.intro hRf (And.intro hR2 hvv2))
  obtain ⟨wX, hwX⟩ : ∃ wX, wX = wA := ⟨_, rfl⟩
  subst hwX
  clear hHe hRf hR1 hR2 hfr1 hfr2 PA hvv2
  go_wp2
  go_loopw [14] (fun i wr => ∃ k : Nat, k ≤ m ∧ i = .int .i64 (k : Int) ∧ (∀ t, t < k → val f t = val f2 t) ∧ ∃ z, wr = wX.drewN z) (fun i _ => m - (intOf i).toNat)
  case atStart => exact ⟨0, by omega, rfl, fun t ht => absurd ht (by omega), 0, rfl⟩
  case round =>
    obtain ⟨k, hk, rfl, hbef, z, rfl⟩ := hrel
    have HB := Lib.hid hbef
    clear hbef
    by_cases hlt : k < m
    · obtain ⟨ad1, rfl, _, hc1⟩ := VB_at2 HRR.out.1 HO.out.2.2.1 hlt
      obtain ⟨ad2, rfl, _, hc2⟩ := VB_at2 HRR.out.2.1 HRR.out.2.2 hlt
      obtain ⟨b1, hb1⟩ : ∃ b, val f k = b := ⟨_, rfl⟩
      obtain ⟨b2, hb2⟩ : ∃ b, val f2 k = b := ⟨_, rfl⟩
      rw [hb1] at hc1
      rw [hb2] at hc2
      have HV := Lib.hid (And.intro hb1 hb2)
      clear hb1 hb2
      cases b1 with
      | true =>
        cases b2 with
        | true =>
            go_wp2_with fail
            go_quiet (fail)
            all_goals go_wp2
            go_roundw
            case rel => exact ⟨k + 1, by omega, by go_num, fun t ht => by
              by_cases e : t = k
              · subst e; rw [HV.out.1, HV.out.2]
              · exact HB.out t (by omega), _, rfl⟩
            case measure => simp [intOf] <;> omega
        | false =>
            have hr : res = (k : Int) := by
              rw [← HRES.out]
              exact difZ_at (by rw [HO.out.2.2.1]; exact hlt) HB.out (by rw [HV.out.1, HV.out.2]; decide)
            subst hr
            go_wp2_with fail
            go_quiet (fail)
            all_goals go_wp2
            go_ret
            exact ⟨rfl, by first | exact HP.out.drewN _ | exact (HP.out.drewN _).drewN _⟩
      | false =>
        cases b2 with
        | true =>
            have hr : res = (k : Int) := by
              rw [← HRES.out]
              exact difZ_at (by rw [HO.out.2.2.1]; exact hlt) HB.out (by rw [HV.out.1, HV.out.2]; decide)
            subst hr
            go_wp2_with fail
            go_quiet (fail)
            all_goals go_wp2
            go_ret
            exact ⟨rfl, by first | exact HP.out.drewN _ | exact (HP.out.drewN _).drewN _⟩
        | false =>
            go_wp2_with fail
            go_quiet (fail)
            all_goals go_wp2
            go_roundw
            case rel => exact ⟨k + 1, by omega, by go_num, fun t ht => by
              by_cases e : t = k
              · subst e; rw [HV.out.1, HV.out.2]
              · exact HB.out t (by omega), _, rfl⟩
            case measure => simp [intOf] <;> omega
    · obtain rfl : k = m := by omega
      have hr : res = -1 := by
        rw [← HRES.out]
        exact difZ_none (by rw [HO.out.2.2.1]; exact HB.out)
      subst hr
      go_wp2
      go_ret
      exact ⟨rfl, by first | exact HP.out.drewN _ | exact (HP.out.drewN _).drewN _⟩
end Go.Proofs.Ytpllgpjplliadaa.Fm
