/-
  TernarySound.
-/
import Derived.Test.YtcnelmklfdfilaaKb
import Derived.Test.YtcnelmklfdfilaaKd
namespace Go.Proofs.Ytcnelmklfdfilaa.Fm
open Go.RowKit Go.Proofs.Ytcnelmklfdfilaa.Sb
set_option linter.unusedVariables false
set_option maxRecDepth 100000
set_option maxHeartbeats 16000000 in
theorem ltsound_any (w : World) (vars top : Int) (A : Option Addr) (n c : Nat) (xs : List Nd) (h : RdN w A n c xs) (hv : I64 vars) (ht : I64 top) (x0 x1 : Int) :
    Calls Try.prog 4 #[.agg #[.int .i64 vars, .slice A n c, .int .i64 top], .int .i64 x0, .int .i64 x1] w fun e w' => e = .returned (.bool true) ∧ On w w' := by
  obtain ⟨q, hq⟩ : ∃ q, w.heap.size = q := ⟨_, rfl⟩
  obtain ⟨w0, hw0⟩ : ∃ w0, w.alloc (.cells #[.int .i64 vars, .slice A n c, .int .i64 top] 24) = w0 := ⟨_, rfl⟩
  have O0 : Own w0 q 24 #[.int .i64 vars, .slice A n c, .int .i64 top] := by rw [← hw0, ← hq]; exact Own.new _ _ _
  have P0 : On w w0 := by rw [← hw0]; exact ((On.refl w)).alloc _
  have hAw := awake9_any w0
  have hL := fun W (k : On w W) => light_any W vars top A n c xs (h.on k)
  have hC := fun W (k : On w W) => check_any W vars top A n c xs (h.on k) hv ht
  have H0 := Lib.hid (And.intro P0 (And.intro h (And.intro hw0 O0)))
  clear h P0 O0
  go_enter Try.func4, Try.ntmps4
  subst hq
  go_wp2_with fail
  refine hAw.mono ?_
  rintro e w1 ⟨rfl, P1⟩
  have Pw1 := H0.out.1.trans P1
  have O1 := (H0.out.2.2.2).on P1
  obtain ⟨r0, r1, r2⟩ := own3 O1
  have hL1 := hL w1 Pw1
  clear hAw hL hw0
  by_cases hl : lightB xs = true
  · rw [hl] at hL1
    go_wp2_with fail
    refine hL1.mono ?_
    rintro e w2 ⟨rfl, P2⟩
    have Pw2 := Pw1.trans P2
    have O2 := O1.on P2
    obtain ⟨s0, s1, s2⟩ := own3 O2
    have hC2 := hC w2 Pw2
    clear hL1 hC r0 r1 r2 P1 P2 Pw1 O1
    by_cases hc : chk vars xs top = 0
    · rw [hc, errV_zero] at hC2
      obtain ⟨f, hf, rfl, rfl, rfl⟩ := chk_zero hc
      go_wp2_with fail
      refine hC2.mono ?_
      rintro e w3 ⟨rfl, P3⟩
      have Pw3 := Pw2.trans P3
      have O3 := O2.on P3
      have R3 := H0.out.2.1.on Pw3
      clear hC2 s0 s1 s2 P3 Pw2 O2 H0 hv ht hc hl
      have hn : f.nodes.length = n := by have := R3.len; rwa [raw_len] at this
      have hp24 := pow24 hf.1
      have hp1 := pow_pos3 f.vars
      have hv64 : f.vars < 64 := by have := hf.1; omega
      have hn128 := hf.2.1
      have hcb := cube_any w3 f hf A n c x0 x1
      have hy := cuY_lt f.vars x0
      have hnn := cuN_lt f.vars x0 x1
      have hd := cu_dis f.vars x0 x1
      obtain ⟨y, hye⟩ : ∃ y, cuY f.vars x0 = y := ⟨_, rfl⟩
      obtain ⟨nn, hnne⟩ : ∃ nn, cuN f.vars x0 x1 = nn := ⟨_, rfl⟩
      rw [hye, hnne] at hcb hd
      rw [hye] at hy
      rw [hnne] at hnn
      clear hye hnne
      have hlen : (tvals f y nn).length = n := by rw [tvals_len]; exact hn
      obtain ⟨s0, s1, s2⟩ := own3 O3
      go_wp2_with fail
      refine hcb.mono ?_
      rintro e w4 ⟨rfl, P4⟩
      have Pw4 := Pw3.trans P4
      have O4 := O3.on P4
      have R4 := R3.on P4
      clear hcb s0 s1 s2 P4 Pw3 O3 R3
      have eA : (((2 ^ f.vars : Nat) : Int) - 1) = ((2 ^ f.vars - 1 : Nat) : Int) := by omega
      rw [eA]
      clear eA
      obtain ⟨al, hal⟩ : ∃ al, 2 ^ f.vars - 1 = al := ⟨_, rfl⟩
      have hal24 : al < 16777216 := by omega
      rw [hal]
      have C0 : Own (w4.alloc (.cells #[.int .i64 0, .int .i64 0] 26)) w4.heap.size 26 #[.int .i64 0, .int .i64 0] := Own.new _ _ _
      obtain ⟨k0, k1⟩ := own2 C0
      have f0 := C0.frozen 0
      have f1 := C0.frozen 1
      have HP := Lib.hid (And.intro hp24 hp1)
      clear hp24 hp1
      go_upto_region 4 with fail
      clear k0 k1 f0 f1 C0
      have P5 := (On.refl w4).alloc (.cells #[.int .i64 (y : Int), .int .i64 (nn : Int)] 26)
      have C5 := Own.new w4 26 #[.int .i64 (y : Int), .int .i64 (nn : Int)]
      obtain ⟨w5, hw5⟩ : ∃ w5, w4.alloc (.cells #[.int .i64 (y : Int), .int .i64 (nn : Int)] 26) = w5 := ⟨_, rfl⟩
      rw [hw5] at P5 C5 ⊢
      have Pw5 := Pw4.trans P5
      have O5 := O4.on P5
      have R5 := R4.on P5
      clear hw5 P5 Pw4 O4 R4
      obtain ⟨g, hge⟩ : ∃ g, w4.heap.size = g := ⟨_, rfl⟩
      rw [hge] at C5 ⊢
      clear hge
      have hX := tvalues_ok w5 f hf A n c R5 y nn hy hnn hd
      obtain ⟨s0, s1, s2⟩ := own3 O5
      obtain ⟨k0, k1⟩ := own2 C5
      go_wp2_with fail
      refine hX.mono ?_
      rintro e w6 ⟨g1, rfl, G6, hg1, P6⟩
      have Pw6 := Pw5.trans P6
      have O6 := O5.on P6
      have R6 := R5.on P6
      have C6 := C5.on P6
      clear hX s0 s1 s2 k0 k1 P6 Pw5 O5 R5 C5 hg1
      have hn9 : n ≤ 128 := by omega
      -- the three sets
      have hB1 := andNot_nat al nn (by omega) (by have := HP.out; omega)
      have hI1 := inC_yes (vars := f.vars) hd
      have hI2 := inC_most (v := f.vars) hy hd
      have hI3 := fun x => inC_some (v := f.vars) (x := x) hd
      have hL2 := all_lt f.vars nn
      have hL3 := fun x => some_lt (v := f.vars) (n := nn) (x := x) hy
      rw [hal] at hI2 hI3 hL2 hL3
      obtain ⟨mo, hmo⟩ : ∃ mo, without al nn = mo := ⟨_, rfl⟩
      rw [hmo] at hB1 hI2 hI3 hL2 hL3
      clear hmo
      have hB2 : ∀ X : Int, bits .and .i64 (mo : Int) X = ((mo &&& cut X : Nat) : Int) := fun X => small_and mo X (by have := HP.out; omega)
      have hB3 : ∀ X : Nat, bits .or .i64 (y : Int) ((mo &&& X : Nat) : Int) = ((y ||| (mo &&& X) : Nat) : Int) := fun X => or_nat y (mo &&& X) (by have := HP.out; omega) (by have h1 : mo &&& X ≤ mo := Nat.and_le_left; have := HP.out; omega)
      have HI := Lib.hid (And.intro hI1 (And.intro hI2 (And.intro hI3 (And.intro hy (And.intro hL2 hL3)))))
      have HD := Lib.hid (And.intro hn (And.intro hlen (And.intro hnn hd)))
      clear hI1 hI2 hI3 hL2 hL3 hy hn hlen hnn hd
      obtain ⟨s0, s1, s2⟩ := own3 O6
      obtain ⟨k0, k1⟩ := own2 C6
      have hH6 := Lib.hid (And.intro O6 (And.intro R6 (And.intro C6 (And.intro G6 Pw6))))
      clear O6 R6 C6 G6 Pw6
      have hf9 := Lib.hid hf
      clear hf
      go_upto_region 7 with fail
      go_wp2
      clear hB1 hB2 hB3 s0 s1 s2 k0 k1
      obtain ⟨X, hXe⟩ : ∃ X, cut (bits .xor .i64 (x0 / 8) (wrap64 (x1 * 4))) = X := ⟨_, rfl⟩
      rw [hXe]
      clear hXe
      obtain ⟨s3, hs3⟩ : ∃ s3, y ||| (mo &&& X) = s3 := ⟨_, rfl⟩
      rw [hs3]
      have hS : ∀ t, t < 3 → ([y, mo, s3].getD t 0 < 2 ^ f.vars ∧ InC f.vars y nn ([y, mo, s3].getD t 0)) := by
        intro t ht
        have : t = 0 ∨ t = 1 ∨ t = 2 := by omega
        rcases this with rfl | rfl | rfl
        · exact ⟨HI.out.2.2.2.1, HI.out.1⟩
        · exact ⟨HI.out.2.2.2.2.1, HI.out.2.1⟩
        · exact ⟨by rw [← hs3]; exact HI.out.2.2.2.2.2 X, by rw [← hs3]; exact HI.out.2.2.1 X⟩
      have P7 := (On.refl w6).alloc (.cells #[.int .i64 (y : Int), .int .i64 (mo : Int), .int .i64 (s3 : Int)] 3)
      have S7 := Own.new w6 3 #[.int .i64 (y : Int), .int .i64 (mo : Int), .int .i64 (s3 : Int)]
      obtain ⟨b, hbe⟩ : ∃ b, w6.heap.size = b := ⟨_, rfl⟩
      obtain ⟨w7, hw7⟩ : ∃ w7, w6.alloc (.cells #[.int .i64 (y : Int), .int .i64 (mo : Int), .int .i64 (s3 : Int)] 3) = w7 := ⟨_, rfl⟩
      rw [hw7] at P7 S7 ⊢
      rw [hbe] at S7 ⊢
      have S7 : Own w7 b 3 (VI (ints [y, mo, s3])).toArray := S7
      obtain ⟨S, hSe⟩ : ∃ S, [y, mo, s3] = S := ⟨_, rfl⟩
      have hSl : S.length = 3 := by rw [← hSe]; rfl
      rw [hSe] at S7 hS
      have H7 := Lib.hid (And.intro (hH6.out.1.on P7) (And.intro (hH6.out.2.1.on P7) (And.intro (hH6.out.2.2.2.1.on P7) (And.intro S7 (hH6.out.2.2.2.2.trans P7)))))
      have HS := Lib.hid (And.intro hS hSl)
      clear hw7 hbe P7 S7 hSe hS hSl hs3 hH6 HI
      go_loopw [75] (fun i wr => ∃ k : Nat, k ≤ 3 ∧ i = .int .i64 (k : Int) ∧ On w7 wr) (fun i _ => 3 - (intOf i).toNat)
      case atStart => exact ⟨0, by omega, rfl, On.refl _⟩
      case round =>
        obtain ⟨t, ht, rfl, hon⟩ := hrel
        obtain ⟨wo, hwo⟩ : ∃ wo, wo = wr := ⟨_, rfl⟩
        subst hwo
        by_cases hlt : t < 3
        · have c1 := own_atI (H7.out.2.2.2.1.on hon) (i := t) (by rw [HS.out.2]; exact hlt)
          obtain ⟨hs1, hs2⟩ := HS.out.1 t hlt
          obtain ⟨s, hse⟩ : ∃ s, S.getD t 0 = s := ⟨_, rfl⟩
          rw [hse] at c1 hs1 hs2
          have hfull := full_all hf9.out s
          have hL := all_lt f.vars s
          have hDs := dis_all f.vars s
          rw [hal] at hfull hL hDs
          have hB1 := andNot_nat al s (by omega) (by have := HP.out; omega)
          obtain ⟨rs, hrs⟩ : ∃ rs, without al s = rs := ⟨_, rfl⟩
          rw [hrs] at hfull hL hDs hB1
          have hsnd := fun i hi => tvals_sound hf9.out hs2 (i := i) (by rw [HD.out.1]; exact hi)
          have hvl : (vals f s).length = n := by rw [vals_len]; exact HD.out.1
          have HZ := Lib.hid (And.intro hsnd hvl)
          clear hse hrs hsnd hvl hs2
          have O8 := H7.out.1.on hon
          have R8 := H7.out.2.1.on hon
          obtain ⟨s0, s1, s2⟩ := own3 O8
          have hX := values_ok wo f hf9.out A n c R8 s hs1
          go_wp2_with fail
          refine hX.mono ?_
          rintro e w8 ⟨g2, rfl, G8, hg2, P8⟩
          have O9 := O8.on P8
          have R9 := R8.on P8
          have hon8 := hon.trans P8
          clear hX s0 s1 s2 O8 R8 hg2 P8 hon c1
          have hX := tdecided_ok w8 f hf9.out A n c R9 s rs hs1 hL hDs
          have hb : (tval f s rs != 2) = true := by simp only [bne_iff_ne, ne_eq]; exact hfull
          rw [hb] at hX
          obtain ⟨s0, s1, s2⟩ := own3 O9
          go_wp2_with fail
          refine hX.mono ?_
          rintro e w9 ⟨rfl, P9⟩
          have hon9 := hon8.trans P9
          have HG := Lib.hid (And.intro (G8.on P9) (H7.out.2.2.1.on hon9))
          clear hX s0 s1 s2 O9 R9 P9 hon8 G8 hb hfull hL hDs hB1 hs1
          go_wp2
          go_loopw [114] (fun i wr => ∃ k : Nat, k ≤ n ∧ i = .int .i64 (k : Int) ∧ On w9 wr) (fun i _ => n - (intOf i).toNat)
          case atStart => exact ⟨0, by omega, rfl, On.refl _⟩
          case round =>
            obtain ⟨k, hk, rfl, hon⟩ := hrel
            by_cases hlt2 : k < n
            · have c1 := own_atI (HG.out.2.on hon) (i := k) (by rw [HD.out.2.1]; exact hlt2)
              have c2 := own_atB9 (HG.out.1.on hon) (i := k) (by rw [HZ.out.2]; exact hlt2)
              have l3 := HZ.out.1 k hlt2
              obtain ⟨v, hve⟩ : ∃ v, (tvals f y nn).getD k 0 = v := ⟨_, rfl⟩
              obtain ⟨u, hue⟩ : ∃ u, (vals f s).getD k false = u := ⟨_, rfl⟩
              rw [hve] at c1 l3
              rw [hue] at c2 l3
              clear hve hue
              rcases l3 with rfl | ⟨rfl, rfl⟩ | ⟨rfl, rfl⟩
              · have c1' : wr.cell? ⟨g1, k, none⟩ = some (.int .i64 2) := c1
                clear c1
                go_wp2_with fail
                go_quiet (fail)
                all_goals go_wp2
                go_roundw
                case rel => exact ⟨k + 1, by omega, by go_num, On.drewN hon _⟩
                case measure => simp [intOf] <;> omega
              · have c1' : wr.cell? ⟨g1, k, none⟩ = some (.int .i64 1) := c1
                clear c1
                go_wp2_with fail
                go_quiet (fail)
                all_goals go_wp2
                go_roundw
                case rel => exact ⟨k + 1, by omega, by go_num, On.drewN hon _⟩
                case measure => simp [intOf] <;> omega
              · have c1' : wr.cell? ⟨g1, k, none⟩ = some (.int .i64 0) := c1
                clear c1
                go_wp2_with fail
                go_quiet (fail)
                all_goals go_wp2
                go_roundw
                case rel => exact ⟨k + 1, by omega, by go_num, On.drewN hon _⟩
                case measure => simp [intOf] <;> omega
            · obtain rfl : k = n := by omega
              go_wp2
              go_roundw
              case rel => exact ⟨t + 1, by omega, by go_num, hon9.trans hon⟩
              case measure => simp [intOf] <;> omega
        · obtain rfl : t = 3 := by omega
          go_wp2
          go_ret
          exact ⟨rfl, H7.out.2.2.2.2.trans hon⟩
    · obtain ⟨er, her⟩ : ∃ er, chk vars xs top = er := ⟨_, rfl⟩
      rw [her] at hC2 hc
      rw [errV_pos _ hc] at hC2
      clear her
      have hA2 := fun W => awake9_any W
      go_wp2_with fail
      refine hC2.mono ?_
      rintro e w3 ⟨rfl, P3⟩
      clear hC2
      go_wp2_with fail
      refine (hA2 _).mono ?_
      rintro e w4 ⟨rfl, P4⟩
      go_wp2
      go_ret
      exact ⟨rfl, (Pw2.trans P3).trans P4⟩
  · rw [Bool.eq_false_iff.2 hl] at hL1
    have hA2 := fun W => awake9_any W
    clear hC
    go_wp2_with fail
    refine hL1.mono ?_
    rintro e w2 ⟨rfl, P2⟩
    clear hL1
    go_wp2_with fail
    refine (hA2 _).mono ?_
    rintro e w3 ⟨rfl, P3⟩
    go_wp2
    go_ret
    exact ⟨rfl, (Pw1.trans P2).trans P3⟩
end Go.Proofs.Ytcnelmklfdfilaa.Fm
