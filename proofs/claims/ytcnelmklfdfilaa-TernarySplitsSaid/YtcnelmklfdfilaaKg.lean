/-
  TernarySplits.
-/
import Derived.Test.YtcnelmklfdfilaaKb
import Derived.Test.YtcnelmklfdfilaaKd
namespace Go.Proofs.Ytcnelmklfdfilaa.Fm
open Go.RowKit Go.Proofs.Ytcnelmklfdfilaa.Sb
set_option linter.unusedVariables false
set_option maxRecDepth 100000
set_option maxHeartbeats 16000000 in
theorem ltsplits_any (w : World) (vars top : Int) (A : Option Addr) (n c : Nat) (xs : List Nd) (h : RdN w A n c xs) (hv : I64 vars) (ht : I64 top) (x0 x1 x2 : Int) :
    Calls Try.prog 6 #[.agg #[.int .i64 vars, .slice A n c, .int .i64 top], .agg #[.int .i64 x0, .int .i64 x1], .int .i64 x2] w fun e w' => e = .returned (.bool true) ∧ On w w' := by
  obtain ⟨q, hq⟩ : ∃ q, w.heap.size = q := ⟨_, rfl⟩
  obtain ⟨w0, hw0⟩ : ∃ w0, (w.alloc (.cells #[.int .i64 vars, .slice A n c, .int .i64 top] 24)).alloc (.cells #[.int .i64 x0, .int .i64 x1] 51) = w0 := ⟨_, rfl⟩
  have O0 : Own w0 q 24 #[.int .i64 vars, .slice A n c, .int .i64 top] := by rw [← hw0, ← hq]; exact (Own.new _ _ _).alloc _
  have E0 : Own w0 (q + 1) 51 #[.int .i64 x0, .int .i64 x1] := by
    rw [← hw0, ← hq]
    have := Own.new (w.alloc (.cells #[.int .i64 vars, .slice A n c, .int .i64 top] 24)) 51 #[.int .i64 x0, .int .i64 x1]
    have e : (w.alloc (.cells #[.int .i64 vars, .slice A n c, .int .i64 top] 24)).heap.size = w.heap.size + 1 := by simp
    rw [e] at this
    exact this
  have P0 : On w w0 := by rw [← hw0]; exact (((On.refl w)).alloc _).alloc _
  have hAw := awake9_any w0
  have hL := fun W (k : On w W) => light_any W vars top A n c xs (h.on k)
  have hC := fun W (k : On w W) => check_any W vars top A n c xs (h.on k) hv ht
  have H0 := Lib.hid (And.intro P0 (And.intro h (And.intro hw0 (And.intro O0 E0))))
  clear h P0 O0 E0
  go_enter Try.func6, Try.ntmps6
  subst hq
  go_wp2_with fail
  refine hAw.mono ?_
  rintro e w1 ⟨rfl, P1⟩
  have Pw1 := H0.out.1.trans P1
  have O1 := (H0.out.2.2.2.1).on P1
  have E1 := (H0.out.2.2.2.2).on P1
  obtain ⟨r0, r1, r2⟩ := own3 O1
  have hL1 := hL w1 Pw1
  clear hAw hL hw0
  by_cases hl : lightB xs = true
  · rw [hl] at hL1
    go_wp2_with fail
    refine hL1.mono ?_
    rintro e w2 ⟨rfl, P2⟩
    have Pw2 := Pw1.trans P2
    have O2 := O1.on P2
    have E2 := E1.on P2
    obtain ⟨s0, s1, s2⟩ := own3 O2
    have hC2 := hC w2 Pw2
    clear hL1 hC r0 r1 r2 P1 P2 Pw1 O1 E1
    by_cases hc : chk vars xs top = 0
    · rw [hc, errV_zero] at hC2
      obtain ⟨f, hf, rfl, rfl, rfl⟩ := chk_zero hc
      go_wp2_with fail
      refine hC2.mono ?_
      rintro e w3 ⟨rfl, P3⟩
      have Pw3 := Pw2.trans P3
      have O3 := O2.on P3
      have E3 := E2.on P3
      have R3 := H0.out.2.1.on Pw3
      clear hC2 s0 s1 s2 P3 Pw2 O2 E2 H0 hv ht hc hl
      have hn : f.nodes.length = n := by have := R3.len; rwa [raw_len] at this
      have hp24 := pow24 hf.1
      have hv24 := hf.1
      have hn128 := hf.2.1
      have hcb := cube_any w3 f hf A n c x0 x1
      have hy := cuY_lt f.vars x0
      have hnn := cuN_lt f.vars x0 x1
      have hd := cu_dis f.vars x0 x1
      obtain ⟨y0, hye⟩ : ∃ y0, cuY f.vars x0 = y0 := ⟨_, rfl⟩
      obtain ⟨n0, hnne⟩ : ∃ n0, cuN f.vars x0 x1 = n0 := ⟨_, rfl⟩
      rw [hye, hnne] at hcb hd
      rw [hye] at hy
      rw [hnne] at hnn
      clear hye hnne
      have H0' := Lib.hid (And.intro hy (And.intro hnn hd))
      clear hy hnn hd
      obtain ⟨s0, s1, s2⟩ := own3 O3
      obtain ⟨d0, d1⟩ := own2 E3
      go_wp2_with fail
      refine hcb.mono ?_
      rintro e w4 ⟨rfl, P4⟩
      have Pw4 := Pw3.trans P4
      have O4 := O3.on P4
      have R4 := R3.on P4
      clear hcb s0 s1 s2 d0 d1 P4 Pw3 O3 E3 R3
      obtain ⟨al, hal⟩ : ∃ al, (((2 ^ f.vars : Nat) : Int) - 1) = al := ⟨_, rfl⟩
      rw [hal]
      clear hal
      have C0 : Own (w4.alloc (.cells #[.int .i64 0, .int .i64 0] 26)) w4.heap.size 26 #[.int .i64 0, .int .i64 0] := Own.new _ _ _
      obtain ⟨k0, k1⟩ := own2 C0
      have f0 := C0.frozen 0
      have f1 := C0.frozen 1
      have HP := Lib.hid hp24
      clear hp24
      go_upto_region 4 with fail
      clear k0 k1 f0 f1 C0
      have P5 := (On.refl w4).alloc (.cells #[.int .i64 (y0 : Int), .int .i64 (n0 : Int)] 26)
      have C5 := Own.new w4 26 #[.int .i64 (y0 : Int), .int .i64 (n0 : Int)]
      obtain ⟨w5, hw5⟩ : ∃ w5, w4.alloc (.cells #[.int .i64 (y0 : Int), .int .i64 (n0 : Int)] 26) = w5 := ⟨_, rfl⟩
      rw [hw5] at P5 C5 ⊢
      have O5 := O4.on P5
      have hX := support_ok w5 f hf A n c (R4.on P5)
      have hg : w.heap.size < w4.heap.size := by have := O4.lt; omega
      have HR4 := Lib.hid (And.intro R4 (And.intro P5 (And.intro Pw4 O4)))
      clear hw5 P5 Pw4 O4 R4
      obtain ⟨g, hge⟩ : ∃ g, w4.heap.size = g := ⟨_, rfl⟩
      rw [hge] at C5 hg ⊢
      obtain ⟨s0, s1, s2⟩ := own3 O5
      go_wp2_with fail
      refine hX.mono ?_
      rintro e w6 ⟨rfl, P6⟩
      have P46 := HR4.out.2.1.trans P6
      have C6 := C5.on P6
      clear hX s0 s1 s2 P6 O5 C5
      have hsu := sup24 hf
      obtain ⟨su, hsue⟩ : ∃ su, sup f = su := ⟨_, rfl⟩
      have hmk := fun e (he : e < f.vars) (hm : mk f e = true) => sup_mk9 he hm
      rw [hsue] at hsu hmk ⊢
      clear hsue
      have HM := Lib.hid hmk
      clear hmk
      go_wp2
      go_loopw [48] (fun i wr => ∃ k y nn : Nat, k ≤ 25 ∧ i = .int .i64 (k : Int) ∧ (y < 2 ^ f.vars ∧ nn < 2 ^ f.vars ∧ Dis y nn ∧ k + unk y nn f.vars ≤ 24) ∧ On w4 wr ∧ Own wr g 26 #[.int .i64 (y : Int), .int .i64 (nn : Int)]) (fun i _ => 25 - (intOf i).toNat)
      case atStart => exact ⟨0, y0, n0, by omega, rfl, ⟨H0'.out.1, H0'.out.2.1, H0'.out.2.2, by have := unk_le y0 n0 f.vars; omega⟩, P46, C6⟩
      case round =>
        obtain ⟨k, y, nn, hk, rfl, ⟨hy, hnn, hd, hun⟩, hon, hC⟩ := hrel
        obtain ⟨wo, hwo⟩ : ∃ wo, wo = wr := ⟨_, rfl⟩
        subst hwo
        clear P46 C6 H0'
        have hk25 : k < 25 := by omega
        have hQ := HR4.out.2.2.2.on hon
        have hR := HR4.out.1.on hon
        have hX := tnext_ok wo f hf A n c hR y nn hy hnn hd
        obtain ⟨s0, s1, s2⟩ := own3 hQ
        obtain ⟨k0, k1⟩ := own2 hC
        go_wp2_with fail
        refine hX.mono ?_
        rintro e w7 ⟨rfl, P7⟩
        have hon7 := hon.trans P7
        have hQ7 := hQ.on P7
        have hR7 := hR.on P7
        have hC7 := hC.on P7
        clear hX s0 s1 s2 k0 k1 P7 hon hQ hR hC
        have hX := tdecided_ok w7 f hf A n c hR7 y nn hy hnn hd
        obtain ⟨s0, s1, s2⟩ := own3 hQ7
        obtain ⟨k0, k1⟩ := own2 hC7
        go_wp2_with fail
        refine hX.mono ?_
        rintro e w8 ⟨rfl, P8⟩
        have hon8 := hon7.trans P8
        have hQ8 := hQ7.on P8
        have hR8 := hR7.on P8
        have hC8 := hC7.on P8
        clear hX s0 s1 s2 k0 k1 P8 hon7 hQ7 hR7 hC7
        by_cases hu : tval f y nn = 2
        · have hz : nextZ f y nn = (nxt f y nn : Int) := by unfold nextZ; rw [if_pos hu]
          have hsp := nxt_spec hf hu
          obtain ⟨e, he⟩ : ∃ e, nxt f y nn = e := ⟨_, rfl⟩
          rw [he] at hz hsp
          rw [hz, hu]
          clear he hz hu
          have hE := Lib.hid (And.intro hsp.1 (And.intro hsp.1 (And.intro hsp.2.1 hsp.2.1)))
          have h24 : e < 24 := by have := hsp.1; omega
          have hev : e < f.vars := hsp.1
          have hy24 : y < 16777216 := by have := HP.out; omega
          have hn24 : nn < 16777216 := by have := HP.out; omega
          have ho := or_nat y nn (by omega) (by omega)
          have ho24 : y ||| nn < 16777216 := Nat.or_lt_two_pow (n := 24) hy24 hn24
          have t1 := tb_int su e hsu
          rw [if_pos (HM.out e hsp.1 hsp.2.2)] at t1
          have t2 := tb_int (y ||| nn) e ho24
          rw [Nat.testBit_or, (evC_two hsp.2.1).1, (evC_two hsp.2.1).2, if_neg (by decide)] at t2
          obtain ⟨oo, hoo⟩ : ∃ oo, y ||| nn = oo := ⟨_, rfl⟩
          rw [hoo] at ho t2
          have e1 := shl_step e (by omega)
          have e2 := or_bits y e hy24 h24
          have e3 := or_bits nn e hn24 h24
          have h64 : e < 64 := by omega
          have hem : ((e : Int) == -1) = false := by rw [Bool.eq_false_iff]; simp only [ne_eq, beq_iff_eq]; omega
          have hem2 : ¬ (e : Int) = -1 := by omega
          clear hsp ho24 hoo
          obtain ⟨s0, s1, s2⟩ := own3 hQ8
          obtain ⟨k0, k1⟩ := own2 hC8
          obtain ⟨p2, hp2⟩ : ∃ p2, 2 ^ e = p2 := ⟨_, rfl⟩
          obtain ⟨bb, hbb⟩ : ∃ bb : Bool, (bits .and .i64 (x2 / 2 ^ e) 1 == 1) = bb := ⟨_, rfl⟩
          have HB := Lib.hid (And.intro e1 (And.intro e2 e3))
          clear e1 e2 e3 hp2
          cases bb with
          | true =>
            go_upto_region 20 with fail
            clear s0 s1 s2 k1 ho t1 t2 hbb hem hem2
            have e1 := HB.out.1
            have e2 := HB.out.2.1
            have f0 := hC8.frozen 0
            have HY := Lib.hid (And.intro (Own.set_ hC8 0 (.int .i64 ((y ||| 2 ^ e : Nat) : Int))) (On.setCell hon8 (p := ⟨g, 0, none⟩) (by rw [hge]; exact Nat.le_refl _) (.int .i64 ((y ||| 2 ^ e : Nat) : Int))))
            have HD := Lib.hid (And.intro (or_lt9 (y := y) hy hev) (And.intro (dis_yes hd hE.out.2.2.1) (split_yes hev hE.out.2.2.1)))
            obtain ⟨v9, hv9⟩ : ∃ v9, y ||| 2 ^ e = v9 := ⟨_, rfl⟩
            rw [hv9] at e2 HY HD
            obtain ⟨p9, hp9⟩ : ∃ p9, 2 ^ e = p9 := ⟨_, rfl⟩
            have e1' : wrap64 ((2 : Int) ^ e) = (p9 : Int) := by rw [e1, hp9]
            rw [hp9] at e2
            clear e1 HB hv9 hp9 hC8 hon8 hQ8 hR8
            go_region
            all_goals go_wp2
            all_goals go_roundw
            case rel =>
              have hC9 : Own (w8.setCell ⟨g, 0, none⟩ (.int .i64 (v9 : Int))) g 26 #[.int .i64 (v9 : Int), .int .i64 (nn : Int)] := HY.out.1
              exact ⟨k + 1, v9, nn, by omega, by go_num, ⟨HD.out.1, hnn, HD.out.2.1, by have := HD.out.2.2; omega⟩, On.drewN HY.out.2 1, hC9.on (On.drewN (On.refl _) 1)⟩
            case measure => simp [intOf] <;> omega
          | false =>
            go_upto_region 21 with fail
            clear s0 s1 s2 k0 ho t1 t2 hbb hem hem2
            have e1 := HB.out.1
            have e2 := HB.out.2.2
            have f0 := hC8.frozen 1
            have HY := Lib.hid (And.intro (Own.set_ hC8 1 (.int .i64 ((nn ||| 2 ^ e : Nat) : Int))) (On.setCell hon8 (p := ⟨g, 1, none⟩) (by rw [hge]; exact Nat.le_refl _) (.int .i64 ((nn ||| 2 ^ e : Nat) : Int))))
            have HD := Lib.hid (And.intro (or_lt9 (y := nn) hnn hev) (And.intro (dis_no hd hE.out.2.2.1) (split_no hev hE.out.2.2.1)))
            obtain ⟨v9, hv9⟩ : ∃ v9, nn ||| 2 ^ e = v9 := ⟨_, rfl⟩
            rw [hv9] at e2 HY HD
            obtain ⟨p9, hp9⟩ : ∃ p9, 2 ^ e = p9 := ⟨_, rfl⟩
            have e1' : wrap64 ((2 : Int) ^ e) = (p9 : Int) := by rw [e1, hp9]
            rw [hp9] at e2
            clear e1 HB hv9 hp9 hC8 hon8 hQ8 hR8
            go_region
            all_goals go_wp2
            all_goals go_roundw
            case rel =>
              have hC9 : Own (w8.setCell ⟨g, 1, none⟩ (.int .i64 (v9 : Int))) g 26 #[.int .i64 (y : Int), .int .i64 (v9 : Int)] := HY.out.1
              exact ⟨k + 1, y, v9, by omega, by go_num, ⟨hy, HD.out.1, HD.out.2.1, by have := HD.out.2.2; omega⟩, On.drewN HY.out.2 1, hC9.on (On.drewN (On.refl _) 1)⟩
            case measure => simp [intOf] <;> omega
        · have hz : nextZ f y nn = -1 := by unfold nextZ; rw [if_neg hu]
          have hb : (tval f y nn != 2) = true := by simp only [bne_iff_ne, ne_eq]; exact hu
          rw [hz, hb]
          have htr := tval_sound hf (inC_yes (vars := f.vars) hd)
          have hX := tvalue_ok w8 f hf A n c hR8 y nn hy hnn hd
          obtain ⟨s0, s1, s2⟩ := own3 hQ8
          obtain ⟨k0, k1⟩ := own2 hC8
          clear hb hz
          go_wp2_with fail
          refine hX.mono ?_
          rintro e w9 ⟨rfl, P9⟩
          have hon9 := hon8.trans P9
          have hQ9 := hQ8.on P9
          have hR9 := hR8.on P9
          have hC9 := hC8.on P9
          clear hX s0 s1 s2 k0 k1 P9 hon8 hQ8 hR8 hC8
          have hX := value_ok w9 f hf A n c hR9 y hy
          obtain ⟨s0, s1, s2⟩ := own3 hQ9
          obtain ⟨k0, k1⟩ := own2 hC9
          go_wp2_with fail
          refine hX.mono ?_
          rintro e w10 ⟨rfl, P10⟩
          have PF := HR4.out.2.2.1.trans (hon9.trans P10)
          obtain ⟨v, hve⟩ : ∃ v, tval f y nn = v := ⟨_, rfl⟩
          obtain ⟨u, hue⟩ : ∃ u, val f y = u := ⟨_, rfl⟩
          rw [hve] at htr hu ⊢
          rw [hue] at htr ⊢
          clear hX s0 s1 s2 k0 k1 P10 hon9 hQ9 hR9 hC9 hve hue
          rcases htr with rfl | ⟨rfl, rfl⟩ | ⟨rfl, rfl⟩
          · exact absurd rfl hu
          · go_wp2
            go_ret
            exact ⟨rfl, PF⟩
          · go_wp2
            go_ret
            exact ⟨rfl, PF⟩
    · obtain ⟨er, her⟩ : ∃ er, chk vars xs top = er := ⟨_, rfl⟩
      rw [her] at hC2 hc
      rw [errV_pos _ hc] at hC2
      clear her
      have hA2 := fun W => awake9_any W
      go_wp2_with fail
      refine hC2.mono ?_
      rintro e w3 ⟨rfl, P3⟩
      clear hC2
      go_wp2_with fail
      refine (hA2 _).mono ?_
      rintro e w4 ⟨rfl, P4⟩
      go_wp2
      go_ret
      exact ⟨rfl, (Pw2.trans P3).trans P4⟩
  · rw [Bool.eq_false_iff.2 hl] at hL1
    have hA2 := fun W => awake9_any W
    clear hC
    go_wp2_with fail
    refine hL1.mono ?_
    rintro e w2 ⟨rfl, P2⟩
    clear hL1
    go_wp2_with fail
    refine (hA2 _).mono ?_
    rintro e w3 ⟨rfl, P3⟩
    go_wp2
    go_ret
    exact ⟨rfl, (Pw1.trans P2).trans P3⟩
end Go.Proofs.Ytcnelmklfdfilaa.Fm
