/-
  TruthRelevant.
-/
import Derived.Test.YtpllgpjplliadaaTm
import Derived.Test.YtpllgpjplliadaaFs
namespace Go.Proofs.Ytpllgpjplliadaa.Fm
open Go.RowKit Go.Proofs.Ytpllgpjplliadaa.Sb
set_option linter.unusedVariables false
set_option maxRecDepth 100000
set_option maxHeartbeats 16000000 in
theorem ltrelevant_any (w : World) (vars top : Int) (A : Option Addr) (n c : Nat) (xs : List Nd) (h : RdN w A n c xs) (hv : I64 vars) (ht : I64 top) (x0 x1 : Int) :
    Calls Try.prog 7 #[.agg #[.int .i64 vars, .slice A n c, .int .i64 top], .int .i64 x0, .int .i64 x1] w fun e w' => e = .returned (.bool true) ∧ On w w' := by
  obtain ⟨q, hq⟩ : ∃ q, w.heap.size = q := ⟨_, rfl⟩
  obtain ⟨w0, hw0⟩ : ∃ w0, w.alloc (.cells #[.int .i64 vars, .slice A n c, .int .i64 top] 24) = w0 := ⟨_, rfl⟩
  have O0 : Own w0 q 24 #[.int .i64 vars, .slice A n c, .int .i64 top] := by rw [← hw0, ← hq]; exact Own.new _ _ _
  have P0 : On w w0 := by rw [← hw0]; exact (On.refl w).alloc _
  have hAw := awakeT_any w0
  have hL1 := fun W (k : On w W) => light_any W vars top A n c xs (h.on k)
  have H0 := Lib.hid (And.intro P0 (And.intro hw0 O0))
  clear P0 O0
  go_enter Try.func7, Try.ntmps7
  subst hq
  go_wp2_with fail
  refine hAw.mono ?_
  rintro e w1 ⟨rfl, P1⟩
  have Pw1 := H0.out.1.trans P1
  have O1 := (H0.out.2.2).on P1
  obtain ⟨r0, r1, r2⟩ := own3 O1
  have hl1 := hL1 w1 Pw1
  clear hAw hL1 hw0 H0
  by_cases hb : lightB xs = true
  · rw [hb] at hl1
    go_wp2_with fail
    refine hl1.mono ?_
    rintro e w2 ⟨rfl, P2⟩
    have Pw2 := Pw1.trans P2
    have O2 := O1.on P2
    clear hl1 r0 r1 r2 P2 Pw1 O1 hb
    have R2 := h.on Pw2
    by_cases hc : chkT vars xs top = 0
    · obtain ⟨f, hf, rfl, rfl, rfl, hv12⟩ := chkT_le vars xs top hc
      have hn : f.nodes.length = n := by have := R2.len; rwa [raw_len] at this
      have hcapn := R2.cap
      have hmaxn := R2.max
      clear hc hv ht h
      have hR := trel_ok w2 f hf hv12 A n c R2
      obtain ⟨s0, s1, s2⟩ := own3 O2
      go_wp2_with fail
      refine hR.mono ?_
      rintro e w3 ⟨rfl, P3⟩
      have Pw3 := Pw2.trans P3
      have O3 := O2.on P3
      have R3 := R2.on P3
      clear hR s0 s1 s2 P3 Pw2 O2 R2
      have hM := tmon_ok w3 f hf hv12 A n c R3
      obtain ⟨s0, s1, s2⟩ := own3 O3
      go_wp2_with fail
      refine hM.mono ?_
      rintro e w4 ⟨rfl, P4⟩
      have Pw4 := Pw3.trans P4
      have O4 := O3.on P4
      have R4 := R3.on P4
      clear hM s0 s1 s2 P4 Pw3 O3 R3
      have hS := support_ok w4 f hf A n c R4
      obtain ⟨s0, s1, s2⟩ := own3 O4
      go_wp2_with fail
      refine hS.mono ?_
      rintro e w5 ⟨rfl, P5⟩
      have Pw5 := Pw4.trans P5
      have O5 := O4.on P5
      have R5 := R4.on P5
      clear hS s0 s1 s2 P5 Pw4 O4 R4
      have hcl := fun W => clipT_any W f.vars hv12
      obtain ⟨s0, s1, s2⟩ := own3 O5
      go_wp2_with fail
      refine (hcl _).mono ?_
      rintro e w5b ⟨rfl, rfl⟩
      clear hcl
      have hrn := relv_andNot hf hv12
      have hr24 := relv_24 f hv12
      have ha1 := and_all x0 f.vars (by omega)
      have hb1 := and_all x1 f.vars (by omega)
      have hc1 := or_all x0 x1 f.vars (by omega)
      have hmx := mixR_run f hv12 x0 x1
      have hmv := mixR_val f x0 x1
      have hmz := fun hm => mono_z (f := f) hm x0 x1
      have hpl := fun hk => mono_plain hf hk
      have e1 := shl_step f.vars (by omega)
      have hp1 := pow_pos2 f.vars
      have hp12 := pow12 hv12
      have hv64 : f.vars < 64 := by omega
      have q1 := cut_mod_lt x0 f.vars
      have q2 := mixR_lt f x0 x1
      have q3 := or_mod_lt x0 x1 f.vars
      have hV1 := fun W (R : RdN W A n c (rawL f.nodes)) => value_ok W f hf A n c R _ q1
      have hV2 := fun W (R : RdN W A n c (rawL f.nodes)) => value_ok W f hf A n c R _ q2
      have hV3 := fun W (R : RdN W A n c (rawL f.nodes)) => value_ok W f hf A n c R _ q3
      obtain ⟨r, hre⟩ : ∃ r, relv f = r := ⟨_, rfl⟩
      obtain ⟨sp, hsp⟩ : ∃ sp, sup f = sp := ⟨_, rfl⟩
      obtain ⟨z1, hz1⟩ : ∃ z1, cut x0 % 2 ^ f.vars = z1 := ⟨_, rfl⟩
      obtain ⟨z2, hz2⟩ : ∃ z2, mixR f x0 x1 = z2 := ⟨_, rfl⟩
      obtain ⟨z3, hz3⟩ : ∃ z3, (cut x0 ||| cut x1) % 2 ^ f.vars = z3 := ⟨_, rfl⟩
      obtain ⟨z4, hz4⟩ : ∃ z4, cut x1 % 2 ^ f.vars = z4 := ⟨_, rfl⟩
      obtain ⟨p2, hp2⟩ : ∃ p2, 2 ^ f.vars = p2 := ⟨_, rfl⟩
      obtain ⟨mb, hmb⟩ : ∃ mb, mono f = mb := ⟨_, rfl⟩
      rw [hre] at hrn hmx hr24 ⊢
      rw [hsp] at hrn ⊢
      rw [hz1] at ha1 hV1 hmv hmz
      rw [hz2] at hmx hV2 hmv
      rw [hz3] at hc1 hV3 hmz
      rw [hz4] at hb1 hmx
      rw [hp2] at e1 ha1 hb1 hc1 hp1 hp12
      rw [hmb] at hmz hpl ⊢
      obtain ⟨b1, hb1e⟩ : ∃ b1, val f z1 = b1 := ⟨_, rfl⟩
      obtain ⟨b3, hb3e⟩ : ∃ b3, val f z3 = b3 := ⟨_, rfl⟩
      rw [← hmv] at hV2
      rw [hb1e] at hV1 hV2 hmz
      rw [hb3e] at hV3 hmz
      have HZ := Lib.hid (And.intro hV1 (And.intro hV2 (And.intro hV3 (And.intro hmz (And.intro hpl (And.intro ha1 (And.intro hb1 (And.intro hc1 hmx))))))))
      have HH := Lib.hid (And.intro O5 (And.intro R5 Pw5))
      clear hV1 hV2 hV3 hmz hpl ha1 hb1 hc1 hmx hmv hre hsp hz1 hz2 hz3 hz4 hp2 hmb hb1e hb3e q1 q2 q3 Pw5
      go_upto_region 9 with fail
      go_upto_region 11 with fail
      clear hrn
      have ha1 := HZ.out.2.2.2.2.2.1
      have hV := HZ.out.1 w5 R5
      go_wp2_with fail
      refine hV.mono ?_
      rintro e w6 ⟨rfl, P6⟩
      clear hV ha1 s0 s1 s2
      have hb1 := HZ.out.2.2.2.2.2.2.1
      have hmx := HZ.out.2.2.2.2.2.2.2.2
      have hV := HZ.out.2.1 w6 (R5.on P6)
      obtain ⟨s0, s1, s2⟩ := own3 (O5.on P6)
      go_wp2_with fail
      refine hV.mono ?_
      rintro e w7 ⟨rfl, P7⟩
      clear hV hb1 hmx s0 s1 s2
      have hc1 := HZ.out.2.2.2.2.2.2.2.1
      have P57 := P6.trans P7
      have hV := HZ.out.2.2.1 w7 (R5.on P57)
      obtain ⟨s0, s1, s2⟩ := own3 (O5.on P57)
      go_wp2_with fail
      refine hV.mono ?_
      rintro e w8 ⟨rfl, P8⟩
      clear hV hc1 s0 s1 s2
      have P58 := P57.trans P8
      have O8 := O5.on P58
      have R8 := R5.on P58
      have H8 := Lib.hid (And.intro R8 (HH.out.2.2.trans P58))
      have HN := Lib.hid hn
      have hbb : (b1 != b1) = false := by cases b1 <;> rfl
      obtain ⟨s0, s1, s2⟩ := own3 O8
      clear O5 R5 HH P6 P7 P57 P8 P58 O8 R8 e1 hp1 hp12 hn
      go_wp2
      try simp only [hbb]
      clear s0 s1 s2 hbb
      go_loopw [124, 20] (fun i p wr => ∃ k : Nat, k ≤ n ∧ i = .int .i64 (k : Int) ∧ (∃ pb, p = .bool pb ∧ (pb = true → ∀ t : Nat, t < k → (f.nd t).kind ≠ 1 ∧ (f.nd t).kind ≠ 5)) ∧ On w8 wr) (fun i _ _ => n - (intOf i).toNat)
      case atStart => exact ⟨0, by omega, rfl, ⟨true, rfl, fun _ t ht => absurd ht (by omega)⟩, On.refl _⟩
      case round =>
        obtain ⟨k, hk, rfl, ⟨pb, rfl, hgood⟩, hon⟩ := hrel
        by_cases hlt : k < n
        · obtain ⟨ad, rfl, hb, P, m, kc, hc0, hc1, hc2, hRA⟩ := (H8.out.1.on hon).at_ k hlt
          rw [raw_get] at hc0 hc1
          obtain ⟨x, hx⟩ : ∃ x, f.nd k = x := ⟨_, rfl⟩
          rw [hx] at hc0 hc1
          obtain ⟨kind, hkind⟩ : ∃ kind, x.kind = kind := ⟨_, rfl⟩
          have c0 : wr.cell? (ad.add (k * 3)) = some (.int .i64 (x.kind : Int)) := hc0
          have c1 : wr.cell? ⟨(ad.add (k * 3)).block, (ad.add (k * 3)).off + 1, none⟩ = some (.int .i64 (x.k : Int)) := hc1
          rw [hkind] at c0
          have HG := Lib.hid (And.intro hgood (And.intro hx hkind))
          clear hRA hc0 hc1 hgood hx hkind
          cases pb with
          | false =>
            go_wp2
            go_roundw
            case rel => exact ⟨k + 1, by omega, by go_num, ⟨false, rfl, fun h => by cases h⟩, hon.alloc _⟩
            case measure => simp [intOf] <;> omega
          | true =>
            by_cases h1 : kind = 1
            · subst h1
              have c0' : wr.cell? (ad.add (k * 3)) = some (.int .i64 1) := c0
              clear c0
              go_wp2
              go_roundw
              case rel => exact ⟨k + 1, by omega, by go_num, ⟨false, rfl, fun h => by cases h⟩, hon.alloc _⟩
              case measure => simp [intOf] <;> omega
            · by_cases h5 : kind = 5
              · subst h5
                have c0' : wr.cell? (ad.add (k * 3)) = some (.int .i64 5) := c0
                clear c0
                go_wp2
                go_roundw
                case rel => exact ⟨k + 1, by omega, by go_num, ⟨false, rfl, fun h => by cases h⟩, hon.alloc _⟩
                case measure => simp [intOf] <;> omega
              · have b1' : ((kind : Int) != 1) = true := by simp; omega
                have b5 : ((kind : Int) != 5) = true := by simp; omega
                have d1 : ¬ (kind : Int) = 1 := by omega
                have d5 : ¬ (kind : Int) = 5 := by omega
                go_wp2
                go_roundw
                case rel => exact ⟨k + 1, by omega, by go_num, ⟨true, by first | rfl | simp [d1, d5], fun _ t ht => by
                  by_cases e : t = k
                  · subst e; rw [HG.out.2.1, HG.out.2.2]; exact ⟨h1, h5⟩
                  · exact HG.out.1 rfl t (by omega)⟩, hon.alloc _⟩
                case measure => simp [intOf] <;> omega
        · obtain rfl : k = n := by omega
          have hpm : pb = true → mb = true := fun h => HZ.out.2.2.2.2.1 (fun i hi => hgood h i (by rw [← HN.out]; exact hi))
          have hmz := HZ.out.2.2.2.1
          have Pf := H8.out.2.trans hon
          clear hgood hon H8 HZ
          cases mb with
          | true =>
            have hz := hmz rfl
            clear hmz hpm
            cases b3 with
            | true =>
              clear hz
              go_wp2
              go_ret
              exact ⟨rfl, Pf⟩
            | false =>
              cases b1 with
              | true => exact absurd (hz rfl) (by decide)
              | false =>
                clear hz
                go_wp2
                go_ret
                exact ⟨rfl, Pf⟩
          | false =>
            cases pb with
            | true => exact absurd (hpm rfl) (by decide)
            | false =>
              clear hmz hpm
              go_wp2
              go_ret
              exact ⟨rfl, Pf⟩
    · obtain ⟨er, her⟩ : ∃ er, chkT vars xs top = er := ⟨_, rfl⟩
      have hR := trel_bad w2 vars top A n c xs R2 hv ht hc
      have hM := fun W (k : On w2 W) => tmon_bad W vars top A n c xs (R2.on k) hv ht hc
      rw [her] at hc hR
      simp only [her] at hM
      rw [errV_pos er hc] at hR
      simp only [errV_pos er hc] at hM
      have hNum := fun W => numT_any W er
      rw [errV_pos er hc] at hNum
      clear her hc
      obtain ⟨s0, s1, s2⟩ := own3 O2
      go_wp2_with fail
      refine hR.mono ?_
      rintro e w3 ⟨rfl, P3⟩
      clear hR s0 s1 s2
      have hM2 := hM w3 P3
      clear hM
      obtain ⟨s0, s1, s2⟩ := own3 (O2.on P3)
      go_wp2_with fail
      refine hM2.mono ?_
      rintro e w4 ⟨rfl, P4⟩
      clear hM2 s0 s1 s2
      go_wp2_with (refine (hNum _).mono ?_; rintro e w9 ⟨rfl, rfl⟩)
      go_ret
      exact ⟨rfl, (Pw2.trans P3).trans P4⟩
  · rw [Bool.eq_false_iff.2 hb] at hl1
    have hA2 := fun W => awakeT_any W
    go_wp2_with fail
    refine hl1.mono ?_
    rintro e w7 ⟨rfl, P7⟩
    clear hl1 r0 r1 r2
    go_wp2_with fail
    refine (hA2 _).mono ?_
    rintro e w8 ⟨rfl, P8⟩
    go_wp2
    go_ret
    exact ⟨rfl, (Pw1.trans P7).trans P8⟩
end Go.Proofs.Ytpllgpjplliadaa.Fm
