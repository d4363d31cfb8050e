/-
  The program's tables: Weights, Count.
-/
import Derived.Test.YtpllgpjplliadaaTsa
import Derived.Test.YtpllgpjplliadaaTw
namespace Go.Proofs.Ytpllgpjplliadaa.Fm
open Go.RowKit Go.Proofs.Ytpllgpjplliadaa.Sb
set_option linter.unusedVariables false
set_option maxRecDepth 100000
set_option maxHeartbeats 8000000 in
theorem twts_bad (w : World) (vars top : Int) (A : Option Addr) (n c : Nat) (xs : List Nd) (h : RdN w A n c xs) (hv : I64 vars) (ht : I64 top) (hbad : chkT vars xs top ≠ 0) :
    Calls Try.prog 13 #[.agg #[.int .i64 vars, .slice A n c, .int .i64 top]] w fun e w' => ∃ B d, e = .returned (.tuple #[.slice B 0 d, errV (chkT vars xs top)]) ∧ On w w' := by
  have P0 := (On.refl w).alloc (.cells #[.int .i64 vars, .slice A n c, .int .i64 top] 24)
  have hT := ttab_bad _ vars top A n c xs (h.on P0) hv ht hbad
  obtain ⟨er, her⟩ : ∃ er, chkT vars xs top = er := ⟨_, rfl⟩
  rw [her] at hT hbad ⊢
  rw [errV_pos er hbad] at hT ⊢
  clear h hv ht her
  go_enter Try.func13, Try.ntmps13
  go_wp2_with fail
  refine hT.mono ?_
  rintro e w1 ⟨B, d, rfl, P1⟩
  clear hT
  go_wp2
  go_ret2
  exact ⟨none, 0, rfl, P0.trans P1⟩
set_option maxHeartbeats 8000000 in
theorem tcnt_bad (w : World) (vars top : Int) (A : Option Addr) (n c : Nat) (xs : List Nd) (h : RdN w A n c xs) (hv : I64 vars) (ht : I64 top) (hbad : chkT vars xs top ≠ 0) :
    Calls Try.prog 12 #[.agg #[.int .i64 vars, .slice A n c, .int .i64 top]] w fun e w' => e = .returned (.tuple #[.int .i64 0, errV (chkT vars xs top)]) ∧ On w w' := by
  have P0 := (On.refl w).alloc (.cells #[.int .i64 vars, .slice A n c, .int .i64 top] 24)
  have hT := twts_bad _ vars top A n c xs (h.on P0) hv ht hbad
  obtain ⟨er, her⟩ : ∃ er, chkT vars xs top = er := ⟨_, rfl⟩
  rw [her] at hT hbad ⊢
  rw [errV_pos er hbad] at hT ⊢
  clear h hv ht her
  go_enter Try.func12, Try.ntmps12
  go_wp2_with fail
  refine hT.mono ?_
  rintro e w1 ⟨B, d, rfl, P1⟩
  clear hT
  have HP := Lib.hid (P0.trans P1)
  clear P0 P1
  go_wp2
  go_loopw [16, 6] (fun j x wr => j = .int .i64 0 ∧ x = .int .i64 0 ∧ ∃ z, wr = w1.drewN z) (fun j _ _ => 0)
  case atStart => exact ⟨rfl, rfl, 0, rfl⟩
  case round =>
    obtain ⟨rfl, rfl, z, rfl⟩ := hrel
    go_wp2
    go_ret2
    exact ⟨rfl, HP.out.drewN z⟩
set_option maxHeartbeats 16000000 in
theorem twts_own (w : World) (f : Fn) (hf : WF f) (hv12 : f.vars ≤ 12) (A : Option Addr) (n c : Nat) (h : RdN w A n c (rawL f.nodes)) :
    Calls Try.prog 13 #[.agg #[.int .i64 (f.vars : Int), .slice A n c, .int .i64 (f.top : Int)]] w fun e w' => ∃ g, e = .returned (.tuple #[.slice (some ⟨g, 0, none⟩) (f.vars + 1) (f.vars + 1), .nilIface]) ∧ Own w' g 3 (VI (ints (wts f))).toArray ∧ w.heap.size ≤ g ∧ On w w' := by
  obtain ⟨m, hm⟩ : ∃ m, 2 ^ f.vars = m := ⟨_, rfl⟩
  have hm12 := pow12 hv12
  have hm0 : 0 < 2 ^ f.vars := Nat.two_pow_pos _
  rw [hm] at hm12 hm0
  obtain ⟨q, hq⟩ : ∃ q, w.heap.size = q := ⟨_, rfl⟩
  obtain ⟨w0, hw0⟩ : ∃ w0, w.alloc (.cells #[.int .i64 (f.vars : Int), .slice A n c, .int .i64 (f.top : Int)] 24) = w0 := ⟨_, rfl⟩
  have O0 : Own w0 q 24 #[.int .i64 (f.vars : Int), .slice A n c, .int .i64 (f.top : Int)] := by rw [← hw0, ← hq]; exact Own.new _ _ _
  have P0 : On w w0 := by rw [← hw0]; exact (On.refl w).alloc _
  have hT := ttab_ok w0 f hf hv12 A n c (h.on P0) m hm
  rw [← hw0] at hT
  have HO := Lib.hid (And.intro O0 (And.intro P0 (And.intro hw0 hm)))
  clear h O0 P0 hf hw0 hm
  go_enter Try.func13, Try.ntmps13
  go_wp2_with fail
  refine hT.mono ?_
  rintro e w1 ⟨B, d, rfl, hR, P1⟩
  rw [HO.out.2.2.1] at P1
  clear hT
  obtain ⟨r0, r1, r2⟩ := own3 (HO.out.1.on P1)
  have hmk := run_mkI (f.vars + 1) (by omega) w1
  obtain ⟨g, hg⟩ : ∃ g, w1.heap.size = g := ⟨_, rfl⟩
  obtain ⟨w2, hw2⟩ : ∃ w2, w1.alloc (.cells (VI (ints (List.replicate (f.vars + 1) 0))).toArray 3) = w2 := ⟨_, rfl⟩
  have OG : Own w2 g 3 (VI (ints (List.replicate (f.vars + 1) 0))).toArray := by rw [← hw2, ← hg]; exact Own.new _ _ _
  have P2 : On w1 w2 := by rw [← hw2]; exact (On.refl w1).alloc _
  rw [hg, hw2] at hmk
  rw [show ((f.vars + 1 : Nat) : Int) = (f.vars : Int) + 1 by omega] at hmk
  have hgq : q < g := by have := HO.out.1.lt; have := P1.size; omega
  have hwg : w.heap.size ≤ g := by omega
  have hfr : ∀ ad, B = some ad → ad.block ≠ g := fun ad e => by
    obtain ⟨ad', e', hb, _⟩ := VB_at2 hR HO.out.2.2.2 hm0
    rw [e] at e'; injection e' with e'; subst e'; omega
  have hB2 := hR.cap
  have hB3 := hR.max
  have HFR := Lib.hid hfr
  have H2 := Lib.hid (And.intro (hR.on P2) (And.intro OG ((HO.out.2.1.trans P1).trans P2)))
  clear hR P1 P2 hfr OG hw2
  go_wp2
  clear r0 r1 r2 hmk
  go_loopw [23] (fun i wr => ∃ k : Nat, k ≤ m ∧ i = .int .i64 (k : Int) ∧ On w wr ∧ Own wr g 3 (VI (ints (wtsTo f k))).toArray ∧ Rd wr B m d (VB (tab f))) (fun i _ => m - (intOf i).toNat)
  case atStart =>
    exact ⟨0, by omega, rfl, H2.out.2.2, by rw [wtsTo_zero]; exact H2.out.2.1, H2.out.1⟩
  case round =>
    obtain ⟨k, hk, rfl, hon, hG, hR⟩ := hrel
    obtain ⟨wo, hwo⟩ : ∃ wo, wo = wr := ⟨_, rfl⟩
    subst hwo
    by_cases hlt : k < m
    · obtain ⟨ad, rfl, hb, hc⟩ := VB_at2 hR HO.out.2.2.2 hlt
      have hgl : (wtsTo f k).length = f.vars + 1 := wtsTo_len f k
      obtain ⟨b, hbv⟩ : ∃ b, val f k = b := ⟨_, rfl⟩
      rw [hbv] at hc
      have hS := fun W => count_any W k f.vars (by rw [HO.out.2.2.2]; exact hlt) (by omega)
      have hu : IntKind.u64.wrap (k : Int) = (k : Int) := u64m _ (by omega)
      have hp := pcT_le k f.vars
      have hbig := wts_big f k (pcT k f.vars) hp
      have hyes := fun h => wtsTo_yes (f := f) (m := k) h
      have hno := fun h => wtsTo_no (f := f) (m := k) h
      obtain ⟨p, hpe⟩ : ∃ p, pcT k f.vars = p := ⟨_, rfl⟩
      rw [hpe] at hp hbig hyes hS
      have hat := own_atI hG (i := p) (by omega)
      obtain ⟨y, hy⟩ : ∃ y, (wtsTo f k).getD p 0 = y := ⟨_, rfl⟩
      rw [hy] at hbig hyes hat
      have hcz : wo.cell? ⟨g, p, none⟩ = some (.int .i64 (y : Int)) := hat
      have hfz : wo.frozen? ⟨g, p, none⟩ = false := hG.frozen p
      have HY := Lib.hid (And.intro hyes hno)
      have HG := Lib.hid (And.intro hon (And.intro hG (And.intro hR hbv)))
      clear hyes hno hy hpe hG hgl hat hon hR hbv
      cases b with
      | true =>
        go_wp2_with (refine (hS _).mono ?_; rintro e w' ⟨rfl, rfl⟩)
        go_roundw
        case rel =>
          exact ⟨k + 1, by omega, by go_num, On.setCell HG.out.1 (p := ⟨g, p, none⟩) (by show w.heap.size ≤ g; omega) _, own_setI HG.out.2.1 p (by go_num) (HY.out.1 HG.out.2.2.2).symm, rd_far HG.out.2.2.1 _ _ (fun ad e => HFR.out ad e)⟩
        case measure => simp [intOf] <;> omega
      | false =>
        go_wp2
        go_roundw
        case rel => exact ⟨k + 1, by omega, by go_num, HG.out.1, by rw [HY.out.2 HG.out.2.2.2]; exact HG.out.2.1, HG.out.2.2.1⟩
        case measure => simp [intOf] <;> omega
    · obtain rfl : k = m := by omega
      have ew : wtsTo f k = wts f := by rw [← HO.out.2.2.2]; rfl
      rw [ew] at hG
      have HG := Lib.hid (And.intro hG hon)
      clear hG hon hR
      go_wp2
      go_ret2
      exact ⟨g, rfl, HG.out.1, by omega, HG.out.2⟩
theorem twts_ok (w : World) (f : Fn) (hf : WF f) (hv12 : f.vars ≤ 12) (A : Option Addr) (n c : Nat) (h : RdN w A n c (rawL f.nodes)) :
    Calls Try.prog 13 #[.agg #[.int .i64 (f.vars : Int), .slice A n c, .int .i64 (f.top : Int)]] w fun e w' => ∃ B d, e = .returned (.tuple #[.slice B (f.vars + 1) d, .nilIface]) ∧ Rd w' B (f.vars + 1) d (VI (ints (wts f))) ∧ On w w' := by
  refine (twts_own w f hf hv12 A n c h).mono ?_
  rintro e w1 ⟨g, rfl, OG, hg, P1⟩
  exact ⟨_, _, rfl, own_rdI OG (wts_len f) (by omega), P1⟩
set_option maxHeartbeats 8000000 in
theorem tcnt_ok (w : World) (f : Fn) (hf : WF f) (hv12 : f.vars ≤ 12) (A : Option Addr) (n c : Nat) (h : RdN w A n c (rawL f.nodes)) :
    Calls Try.prog 12 #[.agg #[.int .i64 (f.vars : Int), .slice A n c, .int .i64 (f.top : Int)]] w fun e w' => e = .returned (.tuple #[.int .i64 (cnt f : Nat), .nilIface]) ∧ On w w' := by
  have P0 := (On.refl w).alloc (.cells #[.int .i64 (f.vars : Int), .slice A n c, .int .i64 (f.top : Int)] 24)
  have hW := twts_own _ f hf hv12 A n c (h.on P0)
  have hm12 := pow12 hv12
  have hsum := sum_wts f
  have hle := sumTo_le f (2 ^ f.vars)
  have hwl := wts_len f
  have hw0 : wts f = wtsTo f (2 ^ f.vars) := rfl
  rw [← hw0] at hle
  obtain ⟨m, hm⟩ : ∃ m, 2 ^ f.vars = m := ⟨_, rfl⟩
  rw [hm] at hm12 hle
  have HS := Lib.hid (And.intro hsum (And.intro hle hwl))
  clear h hf hw0 hm hsum hle hwl
  go_enter Try.func12, Try.ntmps12
  go_wp2_with fail
  refine hW.mono ?_
  rintro e w1 ⟨g, rfl, OG, hg, P1⟩
  clear hW
  have HG := Lib.hid (And.intro OG (P0.trans P1))
  clear OG P1 P0 hg
  go_wp2
  go_loopw [16, 6] (fun j x wr => ∃ t : Nat, t ≤ f.vars + 1 ∧ j = .int .i64 (t : Int) ∧ x = .int .i64 (sumTo (wts f) t : Nat) ∧ ∃ z, wr = w1.drewN z) (fun j _ _ => f.vars + 1 - (intOf j).toNat)
  case atStart => exact ⟨0, by omega, rfl, rfl, 0, rfl⟩
  case round =>
    obtain ⟨t, ht, rfl, rfl, z, rfl⟩ := hrel
    by_cases ht2 : t < f.vars + 1
    · have hat := own_atI (HG.out.1.drewN z) (i := t) (by rw [HS.out.2.2]; exact ht2)
      have hs : sumTo (wts f) (t + 1) = sumTo (wts f) t + (wts f).getD t 0 := rfl
      have hb1 := HS.out.2.1 (t + 1) (by omega)
      have hb2 := HS.out.2.1 t (by omega)
      obtain ⟨x, hx⟩ : ∃ x, (wts f).getD t 0 = x := ⟨_, rfl⟩
      obtain ⟨y, hy⟩ : ∃ y, sumTo (wts f) t = y := ⟨_, rfl⟩
      rw [hx, hy] at hs
      rw [hs] at hb1
      rw [hx] at hat
      rw [hy] at hb2 ⊢
      have HS2 := Lib.hid hs
      clear hs hx hy
      go_wp2
      go_roundw
      case rel => exact ⟨t + 1, by omega, by go_num, by rw [HS2.out]; go_num, _, rfl⟩
      case measure => simp [intOf] <;> omega
    · obtain rfl : t = f.vars + 1 := by omega
      have hs := HS.out.1
      rw [hs]
      have HE := Lib.hid hs
      go_wp2
      go_ret2
      exact ⟨rfl, HG.out.2.drewN _⟩
end Go.Proofs.Ytpllgpjplliadaa.Fm
