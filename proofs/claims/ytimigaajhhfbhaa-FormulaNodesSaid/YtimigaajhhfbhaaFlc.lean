/-
  FormulaNodes.
-/
import Derived.Test.YtimigaajhhfbhaaFlm
namespace Go.Proofs.Ytimigaajhhfbhaa.Fm
open Go.RowKit Go.Proofs.Ytimigaajhhfbhaa.Sb
set_option linter.unusedVariables false
set_option maxRecDepth 100000
theorem node_val (f : Fn) (hf : WF f) (s : Nat) {i : Nat} (hi : i < f.nodes.length) : (vals f s).getD i false = decB (f.nd i).kind (f.nd i).k (f.nd i).args.length (cntA f.vars (vals f s) s (f.nd i).args (f.nd i).args.length) := by
  unfold vals valsTo
  rw [evTo_get hi (Nat.le_refl _), cmbV_dec, List.length_map]
  unfold cntA
  rw [List.take_length]
  congr 2
  refine List.map_congr_left fun a ha => ?_
  have h1 := hf.arg hi ha
  unfold argV argE
  by_cases hv : a < f.vars
  · rw [if_pos hv, if_pos hv]
  · rw [if_neg hv, if_neg hv]
    exact evTo_mono (by omega) (by omega) (by omega) (Nat.le_refl _)
set_option maxHeartbeats 16000000 in
theorem lnodes_any (w : World) (vars top : Int) (A : Option Addr) (n c : Nat) (xs : List Nd) (h : RdN w A n c xs) (hv : I64 vars) (ht : I64 top) (failed : Int) :
    Calls Try.prog 5 #[.agg #[.int .i64 vars, .slice A n c, .int .i64 top], .int .i64 failed] w fun e w' => e = .returned (.bool true) ∧ On w w' := by
  obtain ⟨q, hq⟩ : ∃ q, w.heap.size = q := ⟨_, rfl⟩
  obtain ⟨w0, hw0⟩ : ∃ w0, w.alloc (.cells #[.int .i64 vars, .slice A n c, .int .i64 top] 24) = w0 := ⟨_, rfl⟩
  have O0 : Own w0 q 24 #[.int .i64 vars, .slice A n c, .int .i64 top] := by rw [← hw0, ← hq]; exact Own.new _ _ _
  have P0 : On w w0 := by rw [← hw0]; exact (On.refl w).alloc _
  have hAw := awake_any w0
  have hL := fun W (k : On w W) => light_any W vars top A n c xs (h.on k)
  have hC := fun W (k : On w W) => check_any W vars top A n c xs (h.on k) hv ht
  have HO := Lib.hid (And.intro O0 (And.intro P0 hw0))
  have HR := Lib.hid h
  clear h O0 P0
  go_enter Try.func5, Try.ntmps5
  go_wp2_with fail
  refine hAw.mono ?_
  rintro e w1 ⟨rfl, P1⟩
  have Pw1 := HO.out.2.1.trans P1
  have O1 := HO.out.1.on P1
  obtain ⟨r0, r1, r2⟩ := own3 O1
  have hL1 := hL w1 Pw1
  clear hAw hL hw0
  by_cases hl : lightB xs = true
  · rw [hl] at hL1
    go_wp2_with fail
    refine hL1.mono ?_
    rintro e w2 ⟨rfl, P2⟩
    have Pw2 := Pw1.trans P2
    have O2 := O1.on P2
    obtain ⟨s0, s1, s2⟩ := own3 O2
    have hC2 := hC w2 Pw2
    clear hL1 hC r0 r1 r2 P1 P2 Pw1 O1
    by_cases hc : chk vars xs top = 0
    · rw [hc, errV_zero] at hC2
      obtain ⟨f, hf, rfl, rfl, rfl⟩ := chk_zero hc
      go_wp2_with fail
      refine hC2.mono ?_
      rintro e w3 ⟨rfl, P3⟩
      have Pw3 := Pw2.trans P3
      have O3 := O2.on P3
      have R3 := HR.out.on Pw3
      clear hC2 s0 s1 s2 P3 Pw2 O2 HR hv ht hc hl
      have hn : f.nodes.length = n := by have := R3.len; rwa [raw_len] at this
      by_cases hs : setB f.vars failed = true
      · obtain ⟨s, rfl, hs2⟩ := setB_nat hs
        have hV := values_ok w3 f hf A n c R3 s hs2
        obtain ⟨s0, s1, s2⟩ := own3 O3
        go_wp2_with fail
        refine hV.mono ?_
        rintro e w4 ⟨g, rfl, G4, hg, P4⟩
        have Pw4 := Pw3.trans P4
        have O4 := O3.on P4
        have R4 := R3.on P4
        clear hV s0 s1 s2 P4 Pw3 O3 R3 hg
        have hV := value_ok w4 f hf A n c R4 s hs2
        obtain ⟨s0, s1, s2⟩ := own3 O4
        go_wp2_with fail
        refine hV.mono ?_
        rintro e w5 ⟨rfl, P5⟩
        have Pw5 := Pw4.trans P5
        have O5 := O4.on P5
        have R5 := R4.on P5
        have G5 := G4.on P5
        clear hV s0 s1 s2 P5 Pw4 O4 R4 G4
        have htop := hf.2.2.2
        have hn128 := hf.2.1
        rw [hn] at htop hn128
        have hv24 := hf.1
        have hVa := valid_any w5 (f.vars : Int) A n c (f.top : Int) (f.top : Int) (by unfold I64; omega) (by unfold I64; omega) (by omega)
        have hvt : validB (f.vars : Int) n (f.top : Int) = true := by unfold validB; simp; omega
        rw [hvt] at hVa
        obtain ⟨s0, s1, s2⟩ := own3 O5
        go_wp2_with fail
        refine hVa.mono ?_
        rintro e w6 ⟨rfl, P6⟩
        have Pw6 := Pw5.trans P6
        have O6 := O5.on P6
        have R6 := R5.on P6
        have G6 := G5.on P6
        clear hVa s0 s1 s2 P6 Pw5 O5 R5 G5 hvt
        have hvl := vals_len f s
        rw [hn] at hvl
        have hs24 : s < 16777216 := by have := pow24 hf.1; omega
        have hfin : val f s = argV f.vars (vals f s) s f.top := rfl
        obtain ⟨vl, hvlv⟩ : ∃ vl, val f s = vl := ⟨_, rfl⟩
        rw [hvlv] at hfin ⊢
        clear hvlv
        have hnv := fun i (hi : i < f.nodes.length) => node_val f hf s hi
        obtain ⟨vs, hvs⟩ : ∃ vs, vals f s = vs := ⟨_, rfl⟩
        rw [hvs] at hvl hfin hnv G6
        have HK := Lib.hid (And.intro hnv (And.intro hf (And.intro hn (And.intro hvl (And.intro hfin hs24)))))
        have hcapn := R6.cap
        have hmaxn := R6.max
        obtain ⟨s0, s1, s2⟩ := own3 O6
        have H6 := Lib.hid (And.intro O6 (And.intro R6 (And.intro G6 Pw6)))
        clear hnv hf hn hvl hfin hs24 O6 R6 G6 Pw6 hvs hs hs2
        go_wp2
        clear s0 s1 s2
        go_loopw [69] (fun i wr => ∃ k : Nat, k ≤ n ∧ i = .int .i64 (k : Int) ∧ On w6 wr) (fun i _ => n - (intOf i).toNat)
        case atStart => exact ⟨0, by omega, rfl, On.refl _⟩
        case round =>
          obtain ⟨i, hi, rfl, hon⟩ := hrel
          obtain ⟨wo, hwo⟩ : ∃ wo, wo = wr := ⟨_, rfl⟩
          subst hwo
          by_cases hlt : i < n
          · obtain ⟨ad, rfl, hb, P, m, k, hc0, hc1, hc2, hRA⟩ := (H6.out.2.1.on hon).at_ i hlt
            rw [raw_get] at hc0 hc1 hRA
            have hil : i < f.nodes.length := by rw [HK.out.2.2.1]; exact hlt
            have hm : (f.nd i).args.length = m := by have := VI_len hRA; unfold Nn.raw at this; rwa [ints_length] at this
            have hm16 : m ≤ 16 := by rw [← hm]; exact HK.out.2.1.len hil
            have harg : ∀ a ∈ (f.nd i).args, a < f.vars + i := fun a ha => HK.out.2.1.arg hil ha
            have hok := HK.out.2.1.2.2.1 i hil
            have hval := HK.out.1 i hil
            obtain ⟨x, hx⟩ : ∃ x, f.nd i = x := ⟨_, rfl⟩
            rw [hx] at hc0 hc1 hRA hm harg hok hval
            rw [hm] at hval
            have hcapA := hRA.cap
            have hmaxA := hRA.max
            obtain ⟨kind, kk, args⟩ := x
            have c0 : wo.cell? (ad.add (i * 3)) = some (.int .i64 (kind : Int)) := hc0
            have c1 : wo.cell? ⟨(ad.add (i * 3)).block, (ad.add (i * 3)).off + 1, none⟩ = some (.int .i64 (kk : Int)) := hc1
            have hRA' : Rd wo P m k (VI (ints args)) := hRA
            simp only at hm harg hval
            obtain ⟨p, hp⟩ : ∃ p, wo.heap.size = p := ⟨_, rfl⟩
            obtain ⟨w7, hw7⟩ : ∃ w7, wo.alloc (.cells #[.int .i64 (kind : Int), .int .i64 (kk : Int), .slice P m k] 53) = w7 := ⟨_, rfl⟩
            have N7 : Own w7 p 53 #[.int .i64 (kind : Int), .int .i64 (kk : Int), .slice P m k] := by rw [← hw7, ← hp]; exact Own.new _ _ _
            have P7 : On wo w7 := by rw [← hw7]; exact (On.refl wo).alloc _
            have hon7 := hon.trans P7
            obtain ⟨n0, n1, n2⟩ := own3 N7
            obtain ⟨q0, q1, q2⟩ := own3 (H6.out.1.on hon7)
            have HX := Lib.hid (And.intro harg (And.intro hok (And.intro hval (And.intro hm (hRA'.on P7)))))
            have HN7 := Lib.hid (And.intro N7 hon7)
            clear hc0 hc1 hRA hRA' hm harg hok hval hx N7 P7 hon7
            go_wp2
            clear c0 c1 hc2 hw7
            go_loopw [77, 11, 12] (fun j ys ns wr => ∃ t nn : Nat, t ≤ m ∧ j = .int .i64 (t : Int) ∧ ys = .int .i64 (cntA f.vars vs s args t : Nat) ∧ ns = .int .i64 (nn : Int) ∧ nn + cntA f.vars vs s args t = t ∧ wr = w7) (fun j _ _ _ => m - (intOf j).toNat)
            case atStart => exact ⟨0, 0, by omega, rfl, rfl, rfl, rfl, rfl⟩
            case round =>
              obtain ⟨t, nn, ht, rfl, rfl, rfl, hsum, rfl⟩ := hrel
              obtain ⟨cn, hcn⟩ : ∃ cn, cntA f.vars vs s args t = cn := ⟨_, rfl⟩
              rw [hcn] at hsum ⊢
              by_cases hlt2 : t < m
              · obtain ⟨ad2, rfl, hb2, hc⟩ := VI_at HX.out.2.2.2.2 hlt2
                have hl2 : t < args.length := by rw [HX.out.2.2.2.1]; exact hlt2
                have hcs := cntA_succ (vars := f.vars) (vs := vs) (s := s) hl2
                have ha := HX.out.1 _ (getD_memN hl2)
                rw [ints_getD hl2] at hc
                obtain ⟨a, hae⟩ : ∃ a, args.getD t 0 = a := ⟨_, rfl⟩
                rw [hae] at hc hcs ha
                rw [hcn] at hcs
                have HT := Lib.hid hcs
                clear hcs hae hl2 hcn n0 n1 n2
                have ha1 : (a : Int) < (f.vars : Int) + (i : Int) := by omega
                by_cases hv : a < f.vars
                · have hbit := tb_val s a HK.out.2.2.2.2.2
                  have hav : argV f.vars vs s a = s.testBit a := by unfold argV argE; rw [if_pos hv]
                  have ha64 : a < 64 := by omega
                  by_cases hb1 : s.testBit a = true
                  · rw [hb1] at hbit hav
                    have HAV := Lib.hid hav
                    clear hav hb1
                    go_wp2
                    go_roundw
                    case rel => exact ⟨t + 1, nn, by omega, by go_num, by rw [HT.out, if_pos HAV.out]; go_num, rfl, by rw [HT.out, if_pos HAV.out]; omega, by first | rfl | trivial⟩
                    case measure => simp [intOf] <;> omega
                  · rw [Bool.eq_false_iff.2 hb1] at hbit hav
                    have hav2 : ¬ argV f.vars vs s a = true := by rw [hav]; decide
                    have HAV := Lib.hid hav2
                    have hge : ¬ (f.vars : Int) ≤ (a : Int) := by omega
                    clear hav hb1 hav2
                    go_wp2
                    go_roundw
                    case rel => exact ⟨t + 1, nn + 1, by omega, by go_num, by rw [HT.out, if_neg HAV.out]; rfl, by go_num, by rw [HT.out, if_neg HAV.out]; omega, by first | rfl | trivial⟩
                    case measure => simp [intOf] <;> omega
                · obtain ⟨b, rfl⟩ : ∃ b, a = f.vars + b := ⟨a - f.vars, by omega⟩
                  have hav : argV f.vars vs s (f.vars + b) = vs.getD b false := by unfold argV argE; rw [if_neg hv, Nat.add_sub_cancel_left]
                  have G7 := H6.out.2.2.1.on HN7.out.2
                  have m0 := own_atB G7 (i := b) (by rw [HK.out.2.2.2.1]; omega)
                  have hbn : b < n := by omega
                  have h2 : ¬ (f.vars : Int) + (b : Int) < (f.vars : Int) := by omega
                  have e2 : (f.vars : Int) + (b : Int) - (f.vars : Int) = (b : Int) := by omega
                  clear G7
                  by_cases hb1 : vs.getD b false = true
                  · rw [hb1] at m0 hav
                    have HAV := Lib.hid hav
                    clear hav hb1
                    go_wp2
                    go_roundw
                    case rel => exact ⟨t + 1, nn, by omega, by go_num, by rw [HT.out, if_pos HAV.out]; go_num, rfl, by rw [HT.out, if_pos HAV.out]; omega, by first | rfl | trivial⟩
                    case measure => simp [intOf] <;> omega
                  · rw [Bool.eq_false_iff.2 hb1] at m0 hav
                    have hav2 : ¬ argV f.vars vs s (f.vars + b) = true := by rw [hav]; decide
                    have HAV := Lib.hid hav2
                    clear hav hb1 hav2
                    go_wp2
                    go_roundw
                    case rel => exact ⟨t + 1, nn + 1, by omega, by go_num, by rw [HT.out, if_neg HAV.out]; rfl, by go_num, by rw [HT.out, if_neg HAV.out]; omega, by first | rfl | trivial⟩
                    case measure => simp [intOf] <;> omega
              · obtain rfl : t = m := by omega
                have G7 := H6.out.2.2.1.on HN7.out.2
                have m0 := own_atB G7 (i := i) (by rw [HK.out.2.2.2.1]; exact hlt)
                rw [HX.out.2.2.1, hcn] at m0
                obtain ⟨k1, k2, k3, k4, _, k6, _⟩ := HX.out.2.1
                simp only at k1 k2 k3 k4 k6
                have hmm := HX.out.2.2.2.1
                simp only [hmm] at k3 k4 k6
                have hcn16 : cn ≤ 16 := by omega
                have h6 : kind = 0 ∨ kind = 1 ∨ kind = 2 ∨ kind = 3 ∨ kind = 4 ∨ kind = 5 := by omega
                have HOn := Lib.hid HN7.out.2
                have HKK := Lib.hid (And.intro k2 (And.intro k3 (And.intro k4 k6)))
                clear k1 k2 k3 k4 k6 hmm G7 hcn
                have hend : ∀ W, On wo W → True := fun _ _ => trivial
                rcases h6 with rfl | rfl | rfl | rfl | rfl | rfl
                · by_cases hq1 : kk = 1
                  · have hm0 := m0
                    rw [show decB 0 kk t cn = true from decide_eq_true hq1] at hm0
                    subst hq1
                    clear m0
                    go_wp2
                    go_roundw
                    case rel => exact ⟨i + 1, by omega, by go_num, HOn.out⟩
                    case measure => simp [intOf] <;> omega
                  · have hm0 := m0
                    rw [show decB 0 kk t cn = false from decide_eq_false hq1] at hm0
                    have hk0 : kk = 0 := by have := (HKK.out.1 rfl).2; omega
                    subst hk0
                    clear m0
                    go_wp2
                    go_roundw
                    case rel => exact ⟨i + 1, by omega, by go_num, HOn.out⟩
                    case measure => simp [intOf] <;> omega
                · by_cases hq1 : cn = 0
                  · have hm0 := m0
                    rw [show decB 1 kk t cn = true from decide_eq_true hq1] at hm0
                    have ht1 := HKK.out.2.1 rfl
                    have hnn : nn = 1 := by omega
                    subst hnn
                    clear m0
                    go_wp2
                    go_roundw
                    case rel => exact ⟨i + 1, by omega, by go_num, HOn.out⟩
                    case measure => simp [intOf] <;> omega
                  · have hm0 := m0
                    rw [show decB 1 kk t cn = false from decide_eq_false hq1] at hm0
                    have ht1 := HKK.out.2.1 rfl
                    have hnn : nn = 0 := by omega
                    subst hnn
                    clear m0
                    go_wp2
                    go_roundw
                    case rel => exact ⟨i + 1, by omega, by go_num, HOn.out⟩
                    case measure => simp [intOf] <;> omega
                · by_cases hq1 : cn = t
                  · have hm0 := m0
                    rw [show decB 2 kk t cn = true from decide_eq_true hq1] at hm0
                    have hnn : nn = 0 := by omega
                    subst hnn
                    clear m0
                    go_wp2
                    go_roundw
                    case rel => exact ⟨i + 1, by omega, by go_num, HOn.out⟩
                    case measure => simp [intOf] <;> omega
                  · have hm0 := m0
                    rw [show decB 2 kk t cn = false from decide_eq_false hq1] at hm0
                    have hnn : ¬ (nn : Int) = 0 := by omega
                    have hnb : ((nn : Int) == 0) = false := by simp; omega
                    clear m0
                    go_wp2
                    go_roundw
                    case rel => exact ⟨i + 1, by omega, by go_num, HOn.out⟩
                    case measure => simp [intOf] <;> omega
                · by_cases hq1 : 0 < cn
                  · have hm0 := m0
                    rw [show decB 3 kk t cn = true from decide_eq_true hq1] at hm0
                    have hy : (0 : Int) < (cn : Int) := by omega
                    clear m0
                    go_wp2
                    go_roundw
                    case rel => exact ⟨i + 1, by omega, by go_num, HOn.out⟩
                    case measure => simp [intOf] <;> omega
                  · have hm0 := m0
                    rw [show decB 3 kk t cn = false from decide_eq_false hq1] at hm0
                    have hy : ¬ (0 : Int) < (cn : Int) := by omega
                    clear m0
                    go_wp2
                    go_roundw
                    case rel => exact ⟨i + 1, by omega, by go_num, HOn.out⟩
                    case measure => simp [intOf] <;> omega
                · by_cases hq1 : kk ≤ cn
                  · have hm0 := m0
                    rw [show decB 4 kk t cn = true from decide_eq_true hq1] at hm0
                    have hy : (kk : Int) ≤ (cn : Int) := by omega
                    clear m0
                    go_wp2
                    go_roundw
                    case rel => exact ⟨i + 1, by omega, by go_num, HOn.out⟩
                    case measure => simp [intOf] <;> omega
                  · have hm0 := m0
                    rw [show decB 4 kk t cn = false from decide_eq_false hq1] at hm0
                    have hy : ¬ (kk : Int) ≤ (cn : Int) := by omega
                    clear m0
                    go_wp2
                    go_roundw
                    case rel => exact ⟨i + 1, by omega, by go_num, HOn.out⟩
                    case measure => simp [intOf] <;> omega
                · by_cases hq1 : cn % 2 = 1
                  · have hm0 := m0
                    rw [show decB 5 kk t cn = true from decide_eq_true hq1] at hm0
                    have hy : bits .and .i64 (cn : Int) 1 = 1 := by rw [and_one]; omega
                    clear m0
                    go_wp2
                    go_roundw
                    case rel => exact ⟨i + 1, by omega, by go_num, HOn.out⟩
                    case measure => simp [intOf] <;> omega
                  · have hm0 := m0
                    rw [show decB 5 kk t cn = false from decide_eq_false hq1] at hm0
                    have hy : bits .and .i64 (cn : Int) 1 = 0 := by rw [and_one]; omega
                    clear m0
                    go_wp2
                    go_roundw
                    case rel => exact ⟨i + 1, by omega, by go_num, HOn.out⟩
                    case measure => simp [intOf] <;> omega
          · obtain rfl : i = n := by omega
            have O9 := H6.out.1.on hon
            have G9 := H6.out.2.2.1.on hon
            have hfin := HK.out.2.2.2.2.1
            obtain ⟨s0, s1, s2⟩ := own3 O9
            by_cases hv : f.top < f.vars
            · have hbit := tb_val s f.top HK.out.2.2.2.2.2
              unfold argV argE at hfin
              rw [if_pos hv] at hfin
              have h64 : f.top < 64 := by omega
              rw [← hfin] at hbit
              clear hfin G9 O9
              cases vl with
              | true =>
                go_wp2
                go_ret
                exact ⟨rfl, H6.out.2.2.2.trans hon⟩
              | false =>
                go_wp2
                go_ret
                exact ⟨rfl, H6.out.2.2.2.trans hon⟩
            · obtain ⟨b, hbt⟩ : ∃ b, f.top = f.vars + b := ⟨f.top - f.vars, by omega⟩
              have hbn : b < i := by omega
              unfold argV argE at hfin
              rw [if_neg hv, hbt, Nat.add_sub_cancel_left] at hfin
              have m0 := own_atB G9 (i := b) (by rw [HK.out.2.2.2.1]; exact hbn)
              rw [← hfin] at m0
              rw [hbt] at s2
              have s2' : wo.cell? ⟨q, 2, none⟩ = some (.int .i64 ((f.vars : Int) + (b : Int))) := by rw [s2]; push_cast; rfl
              have h2 : ¬ (f.vars : Int) + (b : Int) < (f.vars : Int) := by omega
              have e2 : (f.vars : Int) + (b : Int) - (f.vars : Int) = (b : Int) := by omega
              clear hfin G9 O9 s2 hbt hv htop
              cases vl with
              | true =>
                go_wp2
                go_ret
                exact ⟨rfl, H6.out.2.2.2.trans hon⟩
              | false =>
                go_wp2
                go_ret
                exact ⟨rfl, H6.out.2.2.2.trans hon⟩
      · have hV := values_err w3 f hf A n c R3 failed (Bool.eq_false_iff.2 hs)
        rw [errV_pos 3 (by decide)] at hV
        obtain ⟨s0, s1, s2⟩ := own3 O3
        go_wp2_with fail
        refine hV.mono ?_
        rintro e w4 ⟨rfl, P4⟩
        have Pw4 := Pw3.trans P4
        have O4 := O3.on P4
        have R4 := R3.on P4
        clear hV s0 s1 s2 P4 Pw3 O3 R3
        have hV := value_err w4 f hf A n c R4 failed (Bool.eq_false_iff.2 hs)
        rw [errV_pos 3 (by decide)] at hV
        obtain ⟨s0, s1, s2⟩ := own3 O4
        go_wp2_with fail
        refine hV.mono ?_
        rintro e w5 ⟨rfl, P5⟩
        have Pw5 := Pw4.trans P5
        clear hV s0 s1 s2 P5 Pw4 O4 R4
        have hI := fun W => is_err W 3
        go_wp2_with (refine (hI _).mono ?_; rintro e w7 ⟨rfl, rfl⟩)
        go_ret
        exact ⟨rfl, Pw5⟩
    · obtain ⟨er, her⟩ : ∃ er, chk vars xs top = er := ⟨_, rfl⟩
      rw [her] at hC2 hc
      rw [errV_pos _ hc] at hC2
      clear her
      have hA2 := fun W => awake_any W
      go_wp2_with fail
      refine hC2.mono ?_
      rintro e w3 ⟨rfl, P3⟩
      clear hC2
      go_wp2_with fail
      refine (hA2 _).mono ?_
      rintro e w4 ⟨rfl, P4⟩
      go_wp2
      go_ret
      exact ⟨rfl, (Pw2.trans P3).trans P4⟩
  · rw [Bool.eq_false_iff.2 hl] at hL1
    have hA2 := fun W => awake_any W
    clear hC
    go_wp2_with fail
    refine hL1.mono ?_
    rintro e w2 ⟨rfl, P2⟩
    clear hL1
    go_wp2_with fail
    refine (hA2 _).mono ?_
    rintro e w3 ⟨rfl, P3⟩
    go_wp2
    go_ret
    exact ⟨rfl, (Pw1.trans P2).trans P3⟩
end Go.Proofs.Ytimigaajhhfbhaa.Fm
