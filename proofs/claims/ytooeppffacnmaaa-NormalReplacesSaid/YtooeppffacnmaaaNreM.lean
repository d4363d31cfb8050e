/-
  NormalReplaces: an event that becomes a formula.
-/
import Derived.Test.YtooeppffacnmaaaJGM
namespace Go.Proofs.Ytooeppffacnmaaa.Fm
open Go.RowKit Go.Proofs.Ytooeppffacnmaaa.Sb
set_option linter.unusedVariables false
set_option maxRecDepth 100000
set_option maxHeartbeats 16000000 in
theorem nreplaces_any (w : World) (vars top : Int) (A : Option Addr) (n c : Nat) (xs : List Nd) (h : RdN w A n c xs) (hv : I64 vars) (ht : I64 top) (vars2 top2 : Int) (A2 : Option Addr) (n2 c2 : Nat) (xs2 : List Nd) (h2 : RdN w A2 n2 c2 xs2) (hv2 : I64 vars2) (ht2 : I64 top2) (ev : Int) (hev : I64 ev) :
    Calls Try.prog 6 #[.agg #[.int .i64 vars, .slice A n c, .int .i64 top], .agg #[.int .i64 vars2, .slice A2 n2 c2, .int .i64 top2], .int .i64 ev] w fun e w' => e = .returned (.bool true) ∧ On w w' := by
  obtain ⟨q, hq⟩ : ∃ q, w.heap.size = q := ⟨_, rfl⟩
  obtain ⟨w0, hw0⟩ : ∃ w0, (w.alloc (.cells #[.int .i64 vars, .slice A n c, .int .i64 top] 24)).alloc (.cells #[.int .i64 vars2, .slice A2 n2 c2, .int .i64 top2] 24) = w0 := ⟨_, rfl⟩
  have O0 : Own w0 q 24 #[.int .i64 vars, .slice A n c, .int .i64 top] := by rw [← hw0, ← hq]; exact (Own.new _ _ _).alloc _
  have C0 : Own w0 (q + 1) 24 #[.int .i64 vars2, .slice A2 n2 c2, .int .i64 top2] := by
    rw [← hw0, ← hq]
    have := Own.new (w.alloc (.cells #[.int .i64 vars, .slice A n c, .int .i64 top] 24)) 24 #[.int .i64 vars2, .slice A2 n2 c2, .int .i64 top2]
    simpa using this
  have P0 : On w w0 := by rw [← hw0]; exact ((On.refl w).alloc _).alloc _
  have hAw := awakeN_any w0
  have hL1 := fun W (k : On w W) => light_any W vars top A n c xs (h.on k)
  have hL2 := fun W (k : On w W) => light_any W vars2 top2 A2 n2 c2 xs2 (h2.on k)
  have H0 := Lib.hid (And.intro P0 (And.intro hw0 (And.intro O0 C0)))
  clear P0 O0 C0
  go_enter Try.func6, Try.ntmps6
  subst hq
  go_wp2_with fail
  refine hAw.mono ?_
  rintro e w1 ⟨rfl, P1⟩
  have Pw1 := H0.out.1.trans P1
  have O1 := (H0.out.2.2.1).on P1
  have C1 := (H0.out.2.2.2).on P1
  obtain ⟨r0, r1, r2⟩ := own3 O1
  have hl1 := hL1 w1 Pw1
  clear hAw hL1 hw0 H0
  by_cases hb : lightB xs = true
  · rw [hb] at hl1
    have hlen := light_lenN hb
    go_wp2_with fail
    refine hl1.mono ?_
    rintro e w2 ⟨rfl, P2⟩
    have Pw2 := Pw1.trans P2
    have O2 := O1.on P2
    have C2 := C1.on P2
    clear hl1 r0 r1 r2 P2 Pw1 O1 C1 hb
    obtain ⟨r0, r1, r2⟩ := own3 C2
    have hl2 := hL2 w2 Pw2
    clear hL2
    by_cases hb2 : lightB xs2 = true
    · rw [hb2] at hl2
      have hlen2 := light_lenN hb2
      go_wp2_with fail
      refine hl2.mono ?_
      rintro e w3 ⟨rfl, P3⟩
      have Pw3 := Pw2.trans P3
      have O3 := O2.on P3
      have C3 := C2.on P3
      clear hl2 r0 r1 r2 P3 Pw2 O2 C2 hb2
      have R3 := h.on Pw3
      have S3 := h2.on Pw3
      have hZ := fun W => RdN.nil_ W
      have herr := fun hb => nreplace_bad w3 vars top A n c xs R3 hv ht vars2 top2 A2 n2 c2 xs2 S3 hv2 ht2 ev hev hb
      by_cases hc : chk vars xs top = 0
      · by_cases hc2 : chk vars2 xs2 top2 = 0
        · obtain ⟨f, hf, rfl, rfl, rfl⟩ := chk_zero hc
          obtain ⟨g, hg, rfl, rfl, rfl⟩ := chk_zero hc2
          have hfv := hf.1
          have hgv := hg.1
          have hft := hf.2.2.2
          have hgt := hg.2.2.2
          have hfn : f.nodes.length ≤ 128 := hf.2.1
          have hgn : g.nodes.length ≤ 128 := hg.2.1
          have heR : errR (f.vars : Int) (rawL f.nodes) (f.top : Int) (g.vars : Int) (rawL g.nodes) (g.top : Int) ev = repErr f.vars g.vars ev := by
            unfold errR
            rw [if_neg (fun h => h hc), if_neg (fun h => h hc2)]; rfl
          by_cases hr : repErr f.vars g.vars ev = 0
          · have hvv : f.vars = g.vars := by
              unfold repErr at hr
              by_cases e : f.vars = g.vars
              · exact e
              · rw [if_neg e] at hr; omega
            have hev3 : 0 ≤ ev ∧ ev < (f.vars : Int) := by
              unfold repErr at hr
              rw [if_pos hvv] at hr
              by_cases e : 0 ≤ ev ∧ ev < (f.vars : Int)
              · exact e
              · rw [if_neg e] at hr; omega
            obtain ⟨k, rfl⟩ : ∃ k : Nat, ev = (k : Int) := ⟨ev.toNat, by omega⟩
            have hk : k < f.vars := by omega
            obtain ⟨v1, hv1⟩ : ∃ v, oV (replaceF f k g) = v := ⟨_, rfl⟩
            obtain ⟨t1, ht1⟩ : ∃ t, oT (replaceF f k g) = t := ⟨_, rfl⟩
            obtain ⟨x1, hx1⟩ : ∃ x, oX (replaceF f k g) = x := ⟨_, rfl⟩
            obtain ⟨e1, he1⟩ : ∃ e, oE (replaceF f k g) = e := ⟨_, rfl⟩
            obtain ⟨ev1, hev1⟩ : ∃ ev, errV e1 = ev := ⟨_, rfl⟩
            have HV := Lib.hid (And.intro hv1 (And.intro ht1 (And.intro hx1 (And.intro he1 hev1))))
            have HG := Lib.hid (And.intro hf (And.intro hg (And.intro hvv (And.intro hk (And.intro hc hc2)))))
            have hC := nreplace_ok w3 f hf A n c R3 g hg A2 n2 c2 S3 hvv.symm k hk
            clear hv1 ht1 hx1 he1 hev1 hf hg hvv hev3 hr heR herr hc hc2 hft hgt
            obtain ⟨s0, s1, s2⟩ := own3 O3
            obtain ⟨u0, u1, u2⟩ := own3 C3
            go_wp2_with fail
            refine hC.mono ?_
            rintro e w4 ⟨hM, P4⟩
            obtain ⟨A4, n4, c4, he, X4⟩ := hM.out
            rw [HV.out.1, HV.out.2.1, HV.out.2.2.2.1, HV.out.2.2.2.2] at he
            rw [HV.out.2.2.1] at X4
            subst he
            obtain ⟨p1, hp1⟩ : ∃ p, w4.heap.size = p := ⟨_, rfl⟩
            obtain ⟨w5, hw5⟩ : ∃ w5, w4.alloc (.cells #[.int .i64 v1, .slice A4 n4 c4, .int .i64 t1] 24) = w5 := ⟨_, rfl⟩
            have Q5 : On w4 w5 := by rw [← hw5]; exact (On.refl _).alloc _
            have B5 : Own w5 p1 24 #[.int .i64 v1, .slice A4 n4 c4, .int .i64 t1] := by rw [← hw5, ← hp1]; exact Own.new _ _ _
            have D5 := P4.trans Q5
            have Pw5 := Pw3.trans D5
            have O5 := O3.on D5
            have C5 := C3.on D5
            have R5 := R3.on D5
            have S5 := S3.on D5
            have X5 := X4.on Q5
            clear hC hM s0 s1 s2 u0 u1 u2 P4 Q5 D5 Pw3 O3 C3 R3 S3 X4
            have hC := rcheck_any w5 (f.vars : Int) (f.top : Int) A n c _ R5 hv ht
            rw [HG.out.2.2.2.2.1] at hC
            obtain ⟨s0, s1, s2⟩ := own3 O5
            obtain ⟨u0, u1, u2⟩ := own3 C5
            go_wp2_with fail
            refine hC.mono ?_
            rintro e w6 ⟨rfl, P6⟩
            clear hC s0 s1 s2 u0 u1 u2
            have hC := rcheck_any w6 (g.vars : Int) (g.top : Int) A2 n2 c2 _ (S5.on P6) hv2 ht2
            rw [HG.out.2.2.2.2.2] at hC
            obtain ⟨s0, s1, s2⟩ := own3 (O5.on P6)
            obtain ⟨u0, u1, u2⟩ := own3 (C5.on P6)
            go_wp2_with fail
            refine hC.mono ?_
            rintro e w7 ⟨rfl, P7⟩
            clear hC s0 s1 s2 u0 u1 u2
            have D7 := P6.trans P7
            have hC := rreplace_ok w7 f HG.out.1 A n c (R5.on D7) g HG.out.2.1 A2 n2 c2 (S5.on D7) HG.out.2.2.1.symm k HG.out.2.2.2.1
            obtain ⟨s0, s1, s2⟩ := own3 (O5.on D7)
            obtain ⟨u0, u1, u2⟩ := own3 (C5.on D7)
            go_wp2_with fail
            refine hC.mono ?_
            rintro e w8 ⟨hM, P8⟩
            obtain ⟨A8, n8, c8, he, X8⟩ := hM.out
            rw [HV.out.1, HV.out.2.1, HV.out.2.2.2.1] at he
            rw [HV.out.2.2.1] at X8
            subst he
            clear hC hM s0 s1 s2 u0 u1 u2
            obtain ⟨p2, hp2⟩ : ∃ p, w8.heap.size = p := ⟨_, rfl⟩
            obtain ⟨w9, hw9⟩ : ∃ w9, w8.alloc (.cells #[.int .i64 v1, .slice A8 n8 c8, .int .i64 t1] 24) = w9 := ⟨_, rfl⟩
            have Q9 : On w8 w9 := by rw [← hw9]; exact (On.refl _).alloc _
            have B9 : Own w9 p2 24 #[.int .i64 v1, .slice A8 n8 c8, .int .i64 t1] := by rw [← hw9, ← hp2]; exact Own.new _ _ _
            have D9 := (D7.trans P8).trans Q9
            have hS := same_any w9 v1 t1 A4 n4 c4 A8 n8 c8 x1 (X5.on D9) (X8.on Q9) e1
            rw [HV.out.2.2.2.2] at hS
            have BB := B5.on D9
            have Pz := Pw5.trans D9
            clear P6 P7 D7 P8 Q9 D9 O5 C5 R5 S5 X5 X8 B5 Pw5
            obtain ⟨s0, s1, s2⟩ := own3 BB
            obtain ⟨u0, u1, u2⟩ := own3 B9
            go_wp2_with fail
            refine hS.mono ?_
            rintro e w20 ⟨rfl, P20⟩
            go_wp2
            go_ret
            exact ⟨rfl, Pz.trans P20⟩
          · have hC := herr (by rw [heR]; exact hr)
            rw [heR] at hC
            obtain ⟨er, her⟩ : ∃ er, repErr f.vars g.vars ev = er := ⟨_, rfl⟩
            have hE : ¬ (er : Int) = 0 := by rw [her] at hr; omega
            obtain ⟨ev2, hev2⟩ : ∃ e, errV er = e := ⟨_, rfl⟩
            rw [her, hev2] at hC
            have HR := Lib.hid (And.intro hr her)
            have hcap1 := R3.cap
            have hmax1 := R3.max
            have hcap2 := S3.cap
            have hmax2 := S3.max
            clear herr heR
            obtain ⟨s0, s1, s2⟩ := own3 O3
            obtain ⟨u0, u1, u2⟩ := own3 C3
            go_wp2_with fail
            refine hC.mono ?_
            rintro e w4 ⟨rfl, P4⟩
            obtain ⟨p1, hp1⟩ : ∃ p, w4.heap.size = p := ⟨_, rfl⟩
            have Q5 : On w4 (w4.alloc (.cells #[.int .i64 0, .slice none 0 0, .int .i64 0] 24)) := (On.refl _).alloc _
            have B5 : Own (w4.alloc (.cells #[.int .i64 0, .slice none 0 0, .int .i64 0] 24)) p1 24 #[.int .i64 0, .slice none 0 0, .int .i64 0] := by rw [← hp1]; exact Own.new _ _ _
            have D5 := P4.trans Q5
            have Pw5 := Pw3.trans D5
            have O5 := O3.on D5
            have C5 := C3.on D5
            have R5 := R3.on D5
            have S5 := S3.on D5
            clear hC s0 s1 s2 u0 u1 u2 P4 Q5 D5 Pw3 O3 C3 R3 S3
            have hC := rcheck_any _ _ _ A n c _ R5 hv ht
            rw [hc] at hC
            obtain ⟨s0, s1, s2⟩ := own3 O5
            obtain ⟨u0, u1, u2⟩ := own3 C5
            go_wp2_with fail
            refine hC.mono ?_
            rintro e w6 ⟨rfl, P6⟩
            have Pw6 := Pw5.trans P6
            have O6 := O5.on P6
            have C6 := C5.on P6
            have R6 := R5.on P6
            have S6 := S5.on P6
            have B6 := B5.on P6
            clear hC s0 s1 s2 u0 u1 u2 Pw5 O5 C5 R5 S5 B5 P6
            have hC := rcheck_any _ _ _ A2 n2 c2 _ S6 hv2 ht2
            rw [hc2] at hC
            obtain ⟨s0, s1, s2⟩ := own3 O6
            obtain ⟨u0, u1, u2⟩ := own3 C6
            go_wp2_with fail
            refine hC.mono ?_
            rintro e w7 ⟨rfl, P7⟩
            have Pw7 := Pw6.trans P7
            have O7 := O6.on P7
            have C7 := C6.on P7
            have R7 := R6.on P7
            have S7 := S6.on P7
            have B7 := B6.on P7
            clear hC s0 s1 s2 u0 u1 u2 Pw6 O6 C6 R6 S6 B6 P7
            have hC := rreplace_bad w7 f g A n c A2 n2 c2 hfv hgv hcap1 hmax1 hcap2 hmax2 (by omega) (by omega) ev hev HR.out.1
            rw [HR.out.2] at hC
            obtain ⟨s0, s1, s2⟩ := own3 O7
            obtain ⟨u0, u1, u2⟩ := own3 C7
            go_wp2_with fail
            refine hC.mono ?_
            rintro e w8 ⟨rfl, P8⟩
            clear hC s0 s1 s2 u0 u1 u2
            have B8 := B7.on P8
            obtain ⟨p2, hp2⟩ : ∃ p, w8.heap.size = p := ⟨_, rfl⟩
            have Q9 : On w8 (w8.alloc (.cells #[.int .i64 0, .slice none 0 0, .int .i64 0] 24)) := (On.refl _).alloc _
            have B9 : Own (w8.alloc (.cells #[.int .i64 0, .slice none 0 0, .int .i64 0] 24)) p2 24 #[.int .i64 0, .slice none 0 0, .int .i64 0] := by rw [← hp2]; exact Own.new _ _ _
            have BB := B8.on Q9
            have Pz := (Pw7.trans P8).trans Q9
            clear Pw7 P8 O7 C7 R7 S7 B7 B8 Q9
            obtain ⟨s0, s1, s2⟩ := own3 BB
            obtain ⟨u0, u1, u2⟩ := own3 B9
            have hS := same_any _ 0 0 none 0 0 none 0 0 [] (hZ (w8.alloc (.cells #[.int .i64 0, .slice none 0 0, .int .i64 0] 24))) (hZ _) er
            rw [hev2] at hS
            go_wp2_with fail
            refine hS.mono ?_
            rintro e w20 ⟨rfl, P20⟩
            go_wp2
            go_ret
            exact ⟨rfl, Pz.trans P20⟩
        · have heR : errR vars xs top vars2 xs2 top2 ev = chk vars2 xs2 top2 := by unfold errR; rw [if_neg (fun h => h hc), if_pos hc2]
          have hC := herr (by rw [heR]; exact hc2)
          rw [heR] at hC
          obtain ⟨er, her⟩ : ∃ er, chk vars2 xs2 top2 = er := ⟨_, rfl⟩
          have hE : ¬ (er : Int) = 0 := by rw [her] at hc2; omega
          obtain ⟨ev2, hev2⟩ : ∃ e, errV er = e := ⟨_, rfl⟩
          rw [her, hev2] at hC
          clear herr heR
          obtain ⟨s0, s1, s2⟩ := own3 O3
          obtain ⟨u0, u1, u2⟩ := own3 C3
          go_wp2_with fail
          refine hC.mono ?_
          rintro e w4 ⟨rfl, P4⟩
          obtain ⟨p1, hp1⟩ : ∃ p, w4.heap.size = p := ⟨_, rfl⟩
          have Q5 : On w4 (w4.alloc (.cells #[.int .i64 0, .slice none 0 0, .int .i64 0] 24)) := (On.refl _).alloc _
          have B5 : Own (w4.alloc (.cells #[.int .i64 0, .slice none 0 0, .int .i64 0] 24)) p1 24 #[.int .i64 0, .slice none 0 0, .int .i64 0] := by rw [← hp1]; exact Own.new _ _ _
          have D5 := P4.trans Q5
          have Pw5 := Pw3.trans D5
          have O5 := O3.on D5
          have C5 := C3.on D5
          have R5 := R3.on D5
          have S5 := S3.on D5
          clear hC s0 s1 s2 u0 u1 u2 P4 Q5 D5 Pw3 O3 C3 R3 S3
          have hC := rcheck_any _ _ _ A n c _ R5 hv ht
          rw [hc] at hC
          obtain ⟨s0, s1, s2⟩ := own3 O5
          obtain ⟨u0, u1, u2⟩ := own3 C5
          go_wp2_with fail
          refine hC.mono ?_
          rintro e w6 ⟨rfl, P6⟩
          have Pw6 := Pw5.trans P6
          have O6 := O5.on P6
          have C6 := C5.on P6
          have R6 := R5.on P6
          have S6 := S5.on P6
          have B6 := B5.on P6
          clear hC s0 s1 s2 u0 u1 u2 Pw5 O5 C5 R5 S5 B5 P6
          have hC := rcheck_any _ _ _ A2 n2 c2 _ S6 hv2 ht2
          rw [her] at hC
          obtain ⟨s0, s1, s2⟩ := own3 O6
          obtain ⟨u0, u1, u2⟩ := own3 C6
          go_wp2_with fail
          refine hC.mono ?_
          rintro e w7 ⟨rfl, P7⟩
          have Pw7 := Pw6.trans P7
          have O7 := O6.on P7
          have C7 := C6.on P7
          have R7 := R6.on P7
          have S7 := S6.on P7
          have B7 := B6.on P7
          clear hC s0 s1 s2 u0 u1 u2 Pw6 O6 C6 R6 S6 B6 P7
          obtain ⟨s0, s1, s2⟩ := own3 B7
          have hS := same_any _ 0 0 none 0 0 none 0 0 [] (hZ w7) (hZ w7) er
          rw [hev2] at hS
          go_wp2_with fail
          refine hS.mono ?_
          rintro e w20 ⟨rfl, P20⟩
          go_wp2
          go_ret
          exact ⟨rfl, Pw7.trans P20⟩

      · have heR : errR vars xs top vars2 xs2 top2 ev = chk vars xs top := by unfold errR; rw [if_pos hc]
        have hC := herr (by rw [heR]; exact hc)
        rw [heR] at hC
        obtain ⟨er, her⟩ : ∃ er, chk vars xs top = er := ⟨_, rfl⟩
        have hE : ¬ (er : Int) = 0 := by rw [her] at hc; omega
        obtain ⟨ev2, hev2⟩ : ∃ e, errV er = e := ⟨_, rfl⟩
        rw [her, hev2] at hC
        clear herr heR
        obtain ⟨s0, s1, s2⟩ := own3 O3
        obtain ⟨u0, u1, u2⟩ := own3 C3
        go_wp2_with fail
        refine hC.mono ?_
        rintro e w4 ⟨rfl, P4⟩
        obtain ⟨p1, hp1⟩ : ∃ p, w4.heap.size = p := ⟨_, rfl⟩
        have Q5 : On w4 (w4.alloc (.cells #[.int .i64 0, .slice none 0 0, .int .i64 0] 24)) := (On.refl _).alloc _
        have B5 : Own (w4.alloc (.cells #[.int .i64 0, .slice none 0 0, .int .i64 0] 24)) p1 24 #[.int .i64 0, .slice none 0 0, .int .i64 0] := by rw [← hp1]; exact Own.new _ _ _
        have D5 := P4.trans Q5
        have Pw5 := Pw3.trans D5
        have O5 := O3.on D5
        have C5 := C3.on D5
        have R5 := R3.on D5
        have S5 := S3.on D5
        clear hC s0 s1 s2 u0 u1 u2 P4 Q5 D5 Pw3 O3 C3 R3 S3
        have hC := rcheck_any _ _ _ A n c _ R5 hv ht
        rw [her] at hC
        obtain ⟨s0, s1, s2⟩ := own3 O5
        obtain ⟨u0, u1, u2⟩ := own3 C5
        go_wp2_with fail
        refine hC.mono ?_
        rintro e w6 ⟨rfl, P6⟩
        have Pw6 := Pw5.trans P6
        have O6 := O5.on P6
        have C6 := C5.on P6
        have R6 := R5.on P6
        have S6 := S5.on P6
        have B6 := B5.on P6
        clear hC s0 s1 s2 u0 u1 u2 Pw5 O5 C5 R5 S5 B5 P6
        obtain ⟨s0, s1, s2⟩ := own3 B6
        have hS := same_any _ 0 0 none 0 0 none 0 0 [] (hZ w6) (hZ w6) er
        rw [hev2] at hS
        go_wp2_with fail
        refine hS.mono ?_
        rintro e w20 ⟨rfl, P20⟩
        go_wp2
        go_ret
        exact ⟨rfl, Pw6.trans P20⟩
    · rw [Bool.eq_false_iff.2 hb2] at hl2
      have hA2 := fun W => awakeN_any W
      go_wp2_with fail
      refine hl2.mono ?_
      rintro e w7 ⟨rfl, P7⟩
      clear hl2 r0 r1 r2
      go_wp2_with fail
      refine (hA2 _).mono ?_
      rintro e w8 ⟨rfl, P8⟩
      go_wp2
      go_ret
      exact ⟨rfl, (Pw2.trans P7).trans P8⟩
  · rw [Bool.eq_false_iff.2 hb] at hl1
    have hA2 := fun W => awakeN_any W
    clear hL2
    go_wp2_with fail
    refine hl1.mono ?_
    rintro e w7 ⟨rfl, P7⟩
    clear hl1 r0 r1 r2
    go_wp2_with fail
    refine (hA2 _).mono ?_
    rintro e w8 ⟨rfl, P8⟩
    go_wp2
    go_ret
    exact ⟨rfl, (Pw1.trans P7).trans P8⟩
end Go.Proofs.Ytooeppffacnmaaa.Fm
