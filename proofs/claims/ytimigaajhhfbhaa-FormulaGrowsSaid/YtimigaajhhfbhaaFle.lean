/-
  FormulaGrows.
-/
import Derived.Test.YtimigaajhhfbhaaFlm
namespace Go.Proofs.Ytimigaajhhfbhaa.Fm
open Go.RowKit Go.Proofs.Ytimigaajhhfbhaa.Sb
set_option linter.unusedVariables false
set_option maxRecDepth 100000
set_option maxHeartbeats 16000000 in
theorem lgrows_any (w : World) (vars top : Int) (A : Option Addr) (n c : Nat) (xs : List Nd) (h : RdN w A n c xs) (hv : I64 vars) (ht : I64 top) (a b : Int) :
    Calls Try.prog 7 #[.agg #[.int .i64 vars, .slice A n c, .int .i64 top], .int .i64 a, .int .i64 b] w fun e w' => e = .returned (.bool true) ∧ On w w' := by
  obtain ⟨q, hq⟩ : ∃ q, w.heap.size = q := ⟨_, rfl⟩
  obtain ⟨w0, hw0⟩ : ∃ w0, w.alloc (.cells #[.int .i64 vars, .slice A n c, .int .i64 top] 24) = w0 := ⟨_, rfl⟩
  have O0 : Own w0 q 24 #[.int .i64 vars, .slice A n c, .int .i64 top] := by rw [← hw0, ← hq]; exact Own.new _ _ _
  have P0 : On w w0 := by rw [← hw0]; exact (On.refl w).alloc _
  have hAw := awake_any w0
  have hL := fun W (k : On w W) => light_any W vars top A n c xs (h.on k)
  have hC := fun W (k : On w W) => check_any W vars top A n c xs (h.on k) hv ht
  have HO := Lib.hid (And.intro O0 (And.intro P0 hw0))
  have HR := Lib.hid h
  clear h O0 P0
  go_enter Try.func7, Try.ntmps7
  go_wp2_with fail
  refine hAw.mono ?_
  rintro e w1 ⟨rfl, P1⟩
  have Pw1 := HO.out.2.1.trans P1
  have O1 := HO.out.1.on P1
  obtain ⟨r0, r1, r2⟩ := own3 O1
  have hL1 := hL w1 Pw1
  clear hAw hL hw0
  by_cases hl : lightB xs = true
  · rw [hl] at hL1
    go_wp2_with fail
    refine hL1.mono ?_
    rintro e w2 ⟨rfl, P2⟩
    have Pw2 := Pw1.trans P2
    have O2 := O1.on P2
    obtain ⟨s0, s1, s2⟩ := own3 O2
    have hC2 := hC w2 Pw2
    clear hL1 hC r0 r1 r2 P1 P2 Pw1 O1
    by_cases hc : chk vars xs top = 0
    · rw [hc, errV_zero] at hC2
      obtain ⟨f, hf, rfl, rfl, rfl⟩ := chk_zero hc
      go_wp2_with fail
      refine hC2.mono ?_
      rintro e w3 ⟨rfl, P3⟩
      have Pw3 := Pw2.trans P3
      have O3 := O2.on P3
      have R3 := HR.out.on Pw3
      clear hC2 s0 s1 s2 P3 Pw2 O2 HR hv ht hc hl
      have hn : f.nodes.length = n := by have := R3.len; rwa [raw_len] at this
      have hcapn := R3.cap
      have hmaxn := R3.max
      obtain ⟨s0, s1, s2⟩ := own3 O3
      have hsl := sup_lt f hf
      have ha1 := and_all a f.vars hf.1
      have ha2 := or_all a b f.vars hf.1
      have hcl := cut_mod_lt a f.vars
      have hcl2 := or_mod_lt a b f.vars
      have e1 := shl_step f.vars hf.1
      have hp1 := pow_pos2 f.vars
      have hp24 := pow24 hf.1
      have hv64 : f.vars < 64 := by have := hf.1; omega
      have hV1 := fun W (R : RdN W A n c (rawL f.nodes)) => value_ok W f hf A n c R (cut a % 2 ^ f.vars) hcl
      have hV2 := fun W (R : RdN W A n c (rawL f.nodes)) => value_ok W f hf A n c R ((cut a ||| cut b) % 2 ^ f.vars) hcl2
      have hgr := fun hk => val_grows (f := f) hf hk (s := cut a % 2 ^ f.vars) (t := (cut a ||| cut b) % 2 ^ f.vars) (fun x hx hb => by
        rw [Nat.testBit_mod_two_pow] at hb ⊢
        rw [Nat.testBit_or]
        simp at hb
        simp [hb.1, hb.2])
      obtain ⟨s1_, hs1_⟩ : ∃ s1_, cut a % 2 ^ f.vars = s1_ := ⟨_, rfl⟩
      obtain ⟨s2_, hs2_⟩ : ∃ s2_, (cut a ||| cut b) % 2 ^ f.vars = s2_ := ⟨_, rfl⟩
      obtain ⟨p2, hp2⟩ : ∃ p2, 2 ^ f.vars = p2 := ⟨_, rfl⟩
      rw [hs1_] at hV1 ha1 hgr
      rw [hs2_] at hV2 ha2 hgr
      rw [hp2] at e1 ha1 ha2 hp1 hp24
      have HV := Lib.hid (And.intro hV1 hV2)
      have HZ := Lib.hid (And.intro ha1 (And.intro ha2 (And.intro hgr (And.intro e1 (And.intro hp1 hp24)))))
      clear hV1 hV2 hsl hcl hcl2 hs1_ hs2_ hp2 ha1 ha2 hgr e1 hp1 hp24
      have HN := Lib.hid hn
      have H3 := Lib.hid (And.intro O3 (And.intro R3 Pw3))
      clear hn O3 R3 Pw3
      go_wp2
      clear s0 s1 s2
      go_loopw [30] (fun i wr => ∃ k : Nat, k ≤ n ∧ i = .int .i64 (k : Int) ∧ (∀ t : Nat, t < k → (f.nd t).kind ≠ 1 ∧ (f.nd t).kind ≠ 5) ∧ On w3 wr) (fun i _ => n - (intOf i).toNat)
      case atStart => exact ⟨0, by omega, rfl, fun t ht => absurd ht (by omega), On.refl _⟩
      case round =>
        obtain ⟨k, hk, rfl, hgood, hon⟩ := hrel
        by_cases hlt : k < n
        · obtain ⟨ad, rfl, hb, P, m, kc, hc0, hc1, hc2, hRA⟩ := (H3.out.2.1.on hon).at_ k hlt
          rw [raw_get] at hc0 hc1
          obtain ⟨x, hx⟩ : ∃ x, f.nd k = x := ⟨_, rfl⟩
          rw [hx] at hc0 hc1
          obtain ⟨kind, hkind⟩ : ∃ kind, x.kind = kind := ⟨_, rfl⟩
          have c0 : wr.cell? (ad.add (k * 3)) = some (.int .i64 (x.kind : Int)) := hc0
          have c1 : wr.cell? ⟨(ad.add (k * 3)).block, (ad.add (k * 3)).off + 1, none⟩ = some (.int .i64 (x.k : Int)) := hc1
          rw [hkind] at c0
          clear hRA hc0 hc1
          by_cases h1 : kind = 1
          · subst h1
            clear hgood hx hkind
            have c0' : wr.cell? (ad.add (k * 3)) = some (.int .i64 1) := c0
            clear c0
            go_wp2
            go_ret
            exact ⟨rfl, (H3.out.2.2.trans hon).alloc _⟩
          · by_cases h5 : kind = 5
            · subst h5
              clear hgood hx hkind
              have c0' : wr.cell? (ad.add (k * 3)) = some (.int .i64 5) := c0
              clear c0
              go_wp2
              go_ret
              exact ⟨rfl, (H3.out.2.2.trans hon).alloc _⟩
            · have HG := Lib.hid (And.intro hgood (And.intro hx hkind))
              have b1 : ((kind : Int) == 1) = false := by simp; omega
              have b5 : ((kind : Int) == 5) = false := by simp; omega
              have d1 : ¬ (kind : Int) = 1 := by omega
              have d5 : ¬ (kind : Int) = 5 := by omega
              clear hgood hx hkind
              go_wp2
              go_roundw
              case rel =>
                refine ⟨k + 1, by omega, by go_num, fun t ht => ?_, hon.alloc _⟩
                by_cases e : t = k
                · subst e; rw [HG.out.2.1, HG.out.2.2]; exact ⟨h1, h5⟩
                · exact HG.out.1 t (by omega)
              case measure => simp [intOf] <;> omega
        · obtain rfl : k = n := by omega
          obtain ⟨w4, rfl⟩ : ∃ w4, w4 = wr := ⟨_, rfl⟩
          have hgr := HZ.out.2.2.1 (fun i hi => hgood i (by rw [← HN.out]; exact hi))
          have e1 := HZ.out.2.2.2.1
          have hp1 := HZ.out.2.2.2.2.1
          have hp24 := HZ.out.2.2.2.2.2
          have HGR := Lib.hid hgr
          have O4 := H3.out.1.on hon
          have R4 := H3.out.2.1.on hon
          have Pw4 := H3.out.2.2.trans hon
          clear hgr hgood hon
          have hcp := clip_any w4 f.vars hf.1
          obtain ⟨s0, s1, s2⟩ := own3 O4
          go_wp2_with fail
          refine hcp.mono ?_
          rintro e w4b ⟨rfl, rfl⟩
          clear hcp s0 s1 s2
          have ha1 := HZ.out.1
          obtain ⟨s0, s1, s2⟩ := own3 O4
          have hX := HV.out.1 w4 R4
          go_wp2_with fail
          refine hX.mono ?_
          rintro e w5 ⟨rfl, P5⟩
          have Pw5 := Pw4.trans P5
          have O5 := O4.on P5
          have R5 := R4.on P5
          clear hX s0 s1 s2 P5 Pw4 O4 R4 
          clear ha1 hp1 hp24
          have ha2 := HZ.out.2.1
          obtain ⟨s0, s1, s2⟩ := own3 O5
          have hX := HV.out.2 w5 R5
          go_wp2_with fail
          refine hX.mono ?_
          rintro e w6 ⟨rfl, P6⟩
          have Pw6 := Pw5.trans P6
          have O6 := O5.on P6
          have R6 := R5.on P6
          clear hX s0 s1 s2 P6 Pw5 O5 R5 
          clear ha2
          obtain ⟨vx, hvx⟩ : ∃ vx, val f s1_ = vx := ⟨_, rfl⟩
          obtain ⟨vy, hvy⟩ : ∃ vy, val f s2_ = vy := ⟨_, rfl⟩
          have hxy : vx = true → vy = true := by rw [← hvx, ← hvy]; exact HGR.out
          rw [hvx, hvy]
          clear hvx hvy HGR
          cases vy with
          | true =>
            clear hxy
            go_wp2
            go_ret
            exact ⟨rfl, Pw6⟩
          | false =>
            cases vx with
            | true => exact absurd (hxy rfl) (by decide)
            | false =>
              clear hxy
              go_wp2
              go_ret
              exact ⟨rfl, Pw6⟩
    · obtain ⟨er, her⟩ : ∃ er, chk vars xs top = er := ⟨_, rfl⟩
      rw [her] at hC2 hc
      rw [errV_pos _ hc] at hC2
      clear her
      have hA2 := fun W => awake_any W
      go_wp2_with fail
      refine hC2.mono ?_
      rintro e w3 ⟨rfl, P3⟩
      clear hC2
      go_wp2_with fail
      refine (hA2 _).mono ?_
      rintro e w4 ⟨rfl, P4⟩
      go_wp2
      go_ret
      exact ⟨rfl, (Pw2.trans P3).trans P4⟩
  · rw [Bool.eq_false_iff.2 hl] at hL1
    have hA2 := fun W => awake_any W
    clear hC
    go_wp2_with fail
    refine hL1.mono ?_
    rintro e w2 ⟨rfl, P2⟩
    clear hL1
    go_wp2_with fail
    refine (hA2 _).mono ?_
    rintro e w3 ⟨rfl, P3⟩
    go_wp2
    go_ret
    exact ⟨rfl, (Pw1.trans P2).trans P3⟩
end Go.Proofs.Ytimigaajhhfbhaa.Fm
