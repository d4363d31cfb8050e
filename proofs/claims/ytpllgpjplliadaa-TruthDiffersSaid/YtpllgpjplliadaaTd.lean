/-
  The specification's tables: Monotone, Relevant.
-/
import Derived.Test.YtpllgpjplliadaaTc
namespace Go.Proofs.Ytpllgpjplliadaa.Fm
open Go.RowKit Go.Proofs.Ytpllgpjplliadaa.Sb
set_option linter.unusedVariables false
set_option maxRecDepth 100000
/-- set s with event i more -/
theorem or_run {k t m v : Nat} (hk : k < m) (hm : 2 ^ v = m) (ht : t < v) (hm12 : m ≤ 4096) : k ||| 2 ^ t < m ∧ 2 ^ t < m ∧ bits .or .i64 (k : Int) ((2 ^ t : Nat) : Int) = ((k ||| 2 ^ t : Nat) : Int) := by
  have h1 : 2 ^ t < 2 ^ v := Nat.pow_lt_pow_right (by omega) ht
  have h2 : k ||| 2 ^ t < 2 ^ v := Nat.or_lt_two_pow (by omega) h1
  rw [hm] at h1 h2
  exact ⟨h2, h1, or_nat _ _ (by omega) (by omega)⟩
theorem cell_drewN {w : World} {z : Nat} {p : Addr} {v : Value} (h : w.cell? p = some v) : (w.drewN z).cell? p = some v := h
set_option maxHeartbeats 16000000 in
theorem rmonotone_ok (w : World) (f : Fn) (hf : WF f) (hv12 : f.vars ≤ 12) (A : Option Addr) (n c : Nat) (h : RdN w A n c (rawL f.nodes)) :
    Calls Try.prog 23 #[.agg #[.int .i64 (f.vars : Int), .slice A n c, .int .i64 (f.top : Int)]] w fun e w' => e = .returned (.bool (mono f)) ∧ On w w' := by
  obtain ⟨m, hm⟩ : ∃ m, 2 ^ f.vars = m := ⟨_, rfl⟩
  have hm12 := pow12 hv12
  rw [hm] at hm12
  obtain ⟨q, hq⟩ : ∃ q, w.heap.size = q := ⟨_, rfl⟩
  obtain ⟨w0, hw0⟩ : ∃ w0, w.alloc (.cells #[.int .i64 (f.vars : Int), .slice A n c, .int .i64 (f.top : Int)] 24) = w0 := ⟨_, rfl⟩
  have O0 : Own w0 q 24 #[.int .i64 (f.vars : Int), .slice A n c, .int .i64 (f.top : Int)] := by rw [← hw0, ← hq]; exact Own.new _ _ _
  have P0 : On w w0 := by rw [← hw0]; exact (On.refl w).alloc _
  have hT := rtable_ok w0 f hf hv12 A n c (h.on P0) m hm
  rw [← hw0] at hT
  have HO := Lib.hid (And.intro O0 (And.intro P0 (And.intro hm hw0)))
  obtain ⟨res, hres⟩ : ∃ res, mono f = res := ⟨_, rfl⟩
  rw [hres]
  have HRES := Lib.hid hres
  clear h hf O0 P0 hw0 hm hres
  go_enter Try.func23, Try.ntmps23
  go_wp2_with fail
  refine hT.mono ?_
  rintro e w1 ⟨B, d, rfl, hR, _, P1⟩
  rw [HO.out.2.2.2] at P1
  clear hT
  have hcap := hR.cap
  have hmax := hR.max
  have HR := Lib.hid (And.intro hR (And.intro (HO.out.1.on P1) (HO.out.2.1.trans P1)))
  clear hR P1
  go_wp2
  go_loopw [11] (fun i wr => ∃ k : Nat, k ≤ m ∧ i = .int .i64 (k : Int) ∧ (∀ s, s < k → ∀ i, i < f.vars → monS f s i = true) ∧ ∃ z, wr = w1.drewN z) (fun i _ => m - (intOf i).toNat)
  case atStart => exact ⟨0, by omega, rfl, fun s hs => absurd hs (by omega), 0, rfl⟩
  case round =>
    obtain ⟨k, hk, rfl, hbef, z, rfl⟩ := hrel
    have HB := Lib.hid hbef
    clear hbef
    by_cases hlt : k < m
    · obtain ⟨ad, rfl, hbb, hc⟩ := VB_at2 HR.out.1 HO.out.2.2.1 hlt
      obtain ⟨b, hb⟩ : ∃ b, val f k = b := ⟨_, rfl⟩
      rw [hb] at hc
      have HV := Lib.hid hb
      clear hb hbb
      obtain ⟨r0, r1, r2⟩ := own3 HR.out.2.1
      go_wp2
      clear r1 r2 hc
      go_loopw [18] (fun i wr => ∃ t : Nat, t ≤ f.vars ∧ i = .int .i64 (t : Int) ∧ (∀ i, i < t → monS f k i = true) ∧ ∃ z, wr = w1.drewN z) (fun i _ => f.vars - (intOf i).toNat)
      case atStart => exact ⟨0, by omega, rfl, fun s hs => absurd hs (by omega), z, rfl⟩
      case round =>
        obtain ⟨t, ht, rfl, hbef, z2, rfl⟩ := hrel
        have HB2 := Lib.hid hbef
        clear hbef
        by_cases ht2 : t < f.vars
        · cases b with
          | false =>
            go_wp2
            go_roundw
            case rel => exact ⟨t + 1, by omega, by go_num, fun i hi => by
              by_cases e : i = t
              · unfold monS; rw [HV.out]; rfl
              · exact HB2.out i (by omega), _, rfl⟩
            case measure => simp [intOf] <;> omega
          | true =>
            obtain ⟨h1, h2, h3⟩ := or_run hlt HO.out.2.2.1 ht2 hm12
            have e1 := shl_step t (by omega)
            have ht64 : t < 64 := by omega
            obtain ⟨ad2, had2, _, hc2⟩ := VB_at2 HR.out.1 HO.out.2.2.1 h1
            injection had2 with had2
            subst had2
            obtain ⟨b2, hb2⟩ : ∃ b2, val f (k ||| 2 ^ t) = b2 := ⟨_, rfl⟩
            rw [hb2] at hc2
            have HV2 := Lib.hid hb2
            obtain ⟨x, hx⟩ : ∃ x, k ||| 2 ^ t = x := ⟨_, rfl⟩
            obtain ⟨p, hp⟩ : ∃ p, 2 ^ t = p := ⟨_, rfl⟩
            rw [hp] at h2
            rw [hx] at h1 hc2
            rw [hx, hp] at h3
            rw [hp] at e1
            clear hx hp hb2
            cases b2 with
            | true =>
              go_wp2
              go_roundw
              case rel => exact ⟨t + 1, by omega, by go_num, fun i hi => by
                by_cases e : i = t
                · subst e; unfold monS; rw [HV2.out]; simp
                · exact HB2.out i (by omega), _, rfl⟩
              case measure => simp [intOf] <;> omega
            | false =>
              have hr : res = false := by
                rw [← HRES.out]
                exact mono_false (by rw [HO.out.2.2.1]; exact hlt) ht2 (by unfold monS; rw [HV.out, HV2.out]; rfl)
              subst hr
              go_wp2
              go_ret
              exact ⟨rfl, HR.out.2.2.drewN _⟩
        · have htv : t = f.vars := by omega
          subst htv
          go_wp2
          go_roundw
          case rel => exact ⟨k + 1, by omega, by go_num, fun s hs => by
            by_cases e : s = k
            · subst e; exact HB2.out
            · exact HB.out s (by omega), _, rfl⟩
          case measure => simp [intOf] <;> omega
    · obtain rfl : k = m := by omega
      have hr : res = true := by
        rw [← HRES.out, mono_iff, HO.out.2.2.1]
        exact HB.out
      subst hr
      go_wp2
      go_ret
      exact ⟨rfl, HR.out.2.2.drewN _⟩
/-- event b makes a difference at set s -/
def difB (f : Fn) (s b : Nat) : Bool := val f s != val f (s ||| 2 ^ b)
def relTo (f : Fn) (k b : Nat) : Bool := (List.range k).any fun s => difB f s b
theorem relTo_succ (f : Fn) (k b : Nat) : relTo f (k + 1) b = (relTo f k b || difB f k b) := by
  unfold relTo; rw [List.range_succ, List.any_append]; simp
theorem relTo_full (f : Fn) (b : Nat) : relTo f (2 ^ f.vars) b = relB f b := rfl
theorem rel_end {f : Fn} {x : Nat} (h : ∀ b, x.testBit b = (decide (b < f.vars) && relTo f (2 ^ f.vars) b)) : x = relv f := by
  apply Nat.eq_of_testBit_eq
  intro b
  rw [h, relv_bit, relTo_full]
theorem rel_lt {v x : Nat} {p : Nat → Bool} (h : ∀ b, x.testBit b = (decide (b < v) && p b)) : x < 2 ^ v := lt_of_bits fun b hb => by rw [h]; simp; omega
set_option maxHeartbeats 16000000 in
theorem rrelevant_ok (w : World) (f : Fn) (hf : WF f) (hv12 : f.vars ≤ 12) (A : Option Addr) (n c : Nat) (h : RdN w A n c (rawL f.nodes)) :
    Calls Try.prog 24 #[.agg #[.int .i64 (f.vars : Int), .slice A n c, .int .i64 (f.top : Int)]] w fun e w' => e = .returned (.int .i64 (relv f : Nat)) ∧ On w w' := by
  obtain ⟨m, hm⟩ : ∃ m, 2 ^ f.vars = m := ⟨_, rfl⟩
  have hm12 := pow12 hv12
  rw [hm] at hm12
  obtain ⟨q, hq⟩ : ∃ q, w.heap.size = q := ⟨_, rfl⟩
  obtain ⟨w0, hw0⟩ : ∃ w0, w.alloc (.cells #[.int .i64 (f.vars : Int), .slice A n c, .int .i64 (f.top : Int)] 24) = w0 := ⟨_, rfl⟩
  have O0 : Own w0 q 24 #[.int .i64 (f.vars : Int), .slice A n c, .int .i64 (f.top : Int)] := by rw [← hw0, ← hq]; exact Own.new _ _ _
  have P0 : On w w0 := by rw [← hw0]; exact (On.refl w).alloc _
  have hT := rtable_ok w0 f hf hv12 A n c (h.on P0) m hm
  rw [← hw0] at hT
  have HO := Lib.hid (And.intro O0 (And.intro P0 (And.intro hm hw0)))
  obtain ⟨res, hres⟩ : ∃ res, relv f = res := ⟨_, rfl⟩
  rw [hres]
  have HRES := Lib.hid hres
  clear h hf O0 P0 hw0 hm hres
  go_enter Try.func24, Try.ntmps24
  go_wp2_with fail
  refine hT.mono ?_
  rintro e w1 ⟨B, d, rfl, hR, _, P1⟩
  rw [HO.out.2.2.2] at P1
  clear hT
  have hcap := hR.cap
  have hmax := hR.max
  have HR := Lib.hid (And.intro hR (And.intro (HO.out.1.on P1) (HO.out.2.1.trans P1)))
  clear hR P1
  go_wp2
  go_loopw [12, 4] (fun i o wr => ∃ k x : Nat, k ≤ m ∧ i = .int .i64 (k : Int) ∧ o = .int .i64 (x : Int) ∧ (∀ b, x.testBit b = (decide (b < f.vars) && relTo f k b)) ∧ ∃ z, wr = w1.drewN z) (fun i _ _ => m - (intOf i).toNat)
  case atStart => exact ⟨0, 0, by omega, rfl, rfl, fun b => by simp [relTo], 0, rfl⟩
  case round =>
    obtain ⟨k, x, hk, rfl, rfl, hbits, z, rfl⟩ := hrel
    have HB := Lib.hid hbits
    clear hbits
    by_cases hlt : k < m
    · obtain ⟨ad, rfl, hbb, hc⟩ := VB_at2 HR.out.1 HO.out.2.2.1 hlt
      obtain ⟨b, hb⟩ : ∃ b, val f k = b := ⟨_, rfl⟩
      rw [hb] at hc
      have HV := Lib.hid hb
      clear hb hbb
      obtain ⟨r0, r1, r2⟩ := own3 HR.out.2.1
      go_wp2
      clear r1 r2 hc
      go_loopw [19, 4] (fun i o wr => ∃ t y : Nat, t ≤ f.vars ∧ i = .int .i64 (t : Int) ∧ o = .int .i64 (y : Int) ∧ (∀ b, y.testBit b = (decide (b < f.vars) && (relTo f k b || (decide (b < t) && difB f k b)))) ∧ ∃ z, wr = w1.drewN z) (fun i _ _ => f.vars - (intOf i).toNat)
      case atStart => exact ⟨0, x, by omega, rfl, rfl, fun b => by rw [HB.out]; simp, z, rfl⟩
      case round =>
        obtain ⟨t, y, ht, rfl, rfl, hbits, z2, rfl⟩ := hrel
        have hy := rel_lt hbits
        rw [HO.out.2.2.1] at hy
        have HB2 := Lib.hid hbits
        clear hbits
        by_cases ht2 : t < f.vars
        · obtain ⟨h1, h2, h3⟩ := or_run hlt HO.out.2.2.1 ht2 hm12
          obtain ⟨q1, _, q3⟩ := or_run hy HO.out.2.2.1 ht2 hm12
          have e1 := shl_step t (by omega)
          have ht64 : t < 64 := by omega
          obtain ⟨ad2, had2, _, hc2⟩ := VB_at2 HR.out.1 HO.out.2.2.1 h1
          injection had2 with had2
          subst had2
          obtain ⟨b2, hb2⟩ : ∃ b2, val f (k ||| 2 ^ t) = b2 := ⟨_, rfl⟩
          rw [hb2] at hc2
          have hd : difB f k t = (b != b2) := by unfold difB; rw [HV.out, hb2]
          have HV2 := Lib.hid hd
          have hyb : ∀ i, (y ||| 2 ^ t).testBit i = (y.testBit i || decide (t = i)) := fun i => by rw [Nat.testBit_or, Nat.testBit_two_pow]
          have HYB := Lib.hid hyb
          obtain ⟨x2, hx⟩ : ∃ x2, k ||| 2 ^ t = x2 := ⟨_, rfl⟩
          obtain ⟨y2, hy2⟩ : ∃ y2, y ||| 2 ^ t = y2 := ⟨_, rfl⟩
          obtain ⟨p, hp⟩ : ∃ p, 2 ^ t = p := ⟨_, rfl⟩
          rw [hy2] at HYB q1
          rw [hp] at h2
          rw [hx] at h1 hc2
          rw [hx, hp] at h3
          rw [hy2, hp] at q3
          rw [hp] at e1
          clear hx hp hb2 hd hyb hy2
          have hstep : (b != b2) = false → ∀ i, y.testBit i = (decide (i < f.vars) && (relTo f k i || (decide (i < t + 1) && difB f k i))) := fun e i => by
            rw [HB2.out]
            by_cases h : i = t
            · subst h; rw [HV2.out, e]; simp
            · have : decide (i < t + 1) = decide (i < t) := by
                by_cases h2 : i < t
                · rw [decide_eq_true h2, decide_eq_true (by omega)]
                · rw [decide_eq_false h2, decide_eq_false (by omega)]
              rw [this]
          have hstep2 : (b != b2) = true → ∀ i, y2.testBit i = (decide (i < f.vars) && (relTo f k i || (decide (i < t + 1) && difB f k i))) := fun e i => by
            rw [HYB.out, HB2.out]
            by_cases h : i = t
            · subst h; rw [HV2.out, e]; simp [ht2]
            · have : decide (i < t + 1) = decide (i < t) := by
                by_cases h2 : i < t
                · rw [decide_eq_true h2, decide_eq_true (by omega)]
                · rw [decide_eq_false h2, decide_eq_false (by omega)]
              rw [this]
              have h3 : ¬ t = i := fun e => h e.symm
              simp [h3]
          have HST := Lib.hid (And.intro hstep hstep2)
          clear hstep hstep2
          cases b with
          | false =>
            cases b2 with
            | false =>
              go_wp2
              go_roundw
              case rel => exact ⟨t + 1, y, by omega, by go_num, rfl, HST.out.1 rfl, _, rfl⟩
              case measure => simp [intOf] <;> omega
            | true =>
              go_wp2
              go_roundw
              case rel => exact ⟨t + 1, y2, by omega, by go_num, by go_num, HST.out.2 rfl, _, rfl⟩
              case measure => simp [intOf] <;> omega
          | true =>
            cases b2 with
            | false =>
              go_wp2
              go_roundw
              case rel => exact ⟨t + 1, y2, by omega, by go_num, by go_num, HST.out.2 rfl, _, rfl⟩
              case measure => simp [intOf] <;> omega
            | true =>
              go_wp2
              go_roundw
              case rel => exact ⟨t + 1, y, by omega, by go_num, rfl, HST.out.1 rfl, _, rfl⟩
              case measure => simp [intOf] <;> omega
        · have htv : t = f.vars := by omega
          subst htv
          go_wp2
          go_roundw
          case rel => exact ⟨k + 1, y, by omega, by go_num, rfl, fun i => by
            rw [HB2.out, relTo_succ]
            by_cases h : i < f.vars
            · simp [h]
            · simp [h], _, rfl⟩
          case measure => simp [intOf] <;> omega
    · obtain rfl : k = m := by omega
      have hr : x = res := by
        rw [← HRES.out]
        exact rel_end (by rw [HO.out.2.2.1]; exact HB.out)
      subst hr
      go_wp2
      go_ret
      exact ⟨rfl, HR.out.2.2.drewN _⟩
end Go.Proofs.Ytpllgpjplliadaa.Fm
