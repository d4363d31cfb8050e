/-
  NormalDual: the dual without the specification.
-/
import Derived.Test.YtooeppffacnmaaaNmaM
namespace Go.Proofs.Ytooeppffacnmaaa.Fm
open Go.RowKit Go.Proofs.Ytooeppffacnmaaa.Sb
set_option linter.unusedVariables false
set_option maxRecDepth 100000
set_option maxHeartbeats 16000000 in
theorem ndualL_any (w : World) (vars top : Int) (A : Option Addr) (n c : Nat) (xs : List Nd) (h : RdN w A n c xs) (hv : I64 vars) (ht : I64 top) (set : Int) :
    Calls Try.prog 8 #[.agg #[.int .i64 vars, .slice A n c, .int .i64 top], .int .i64 set] w fun e w' => e = .returned (.bool true) ∧ On w w' := by
  obtain ⟨q, hq⟩ : ∃ q, w.heap.size = q := ⟨_, rfl⟩
  obtain ⟨w0, hw0⟩ : ∃ w0, w.alloc (.cells #[.int .i64 vars, .slice A n c, .int .i64 top] 24) = w0 := ⟨_, rfl⟩
  have O0 : Own w0 q 24 #[.int .i64 vars, .slice A n c, .int .i64 top] := by rw [← hw0, ← hq]; exact Own.new _ _ _
  have P0 : On w w0 := by rw [← hw0]; exact (On.refl w).alloc _
  have hAw := awakeN_any w0
  have hL := fun W (k : On w W) => light_any W vars top A n c xs (h.on k)
  have hC := fun W (k : On w W) => check_any W vars top A n c xs (h.on k) hv ht
  have HO := Lib.hid (And.intro O0 (And.intro P0 hw0))
  have HR := Lib.hid h
  clear h O0 P0
  go_enter Try.func8, Try.ntmps8
  go_wp2_with fail
  refine hAw.mono ?_
  rintro e w1 ⟨rfl, P1⟩
  have Pw1 := HO.out.2.1.trans P1
  have O1 := HO.out.1.on P1
  obtain ⟨r0, r1, r2⟩ := own3 O1
  have hL1 := hL w1 Pw1
  clear hAw hL hw0
  by_cases hl : lightB xs = true
  · rw [hl] at hL1
    go_wp2_with fail
    refine hL1.mono ?_
    rintro e w2 ⟨rfl, P2⟩
    have Pw2 := Pw1.trans P2
    have O2 := O1.on P2
    obtain ⟨s0, s1, s2⟩ := own3 O2
    have hC2 := hC w2 Pw2
    clear hL1 hC r0 r1 r2 P1 P2 Pw1 O1
    by_cases hc : chk vars xs top = 0
    · rw [hc, errV_zero] at hC2
      obtain ⟨f, hf, rfl, rfl, rfl⟩ := chk_zero hc
      go_wp2_with fail
      refine hC2.mono ?_
      rintro e w3 ⟨rfl, P3⟩
      have Pw3 := Pw2.trans P3
      have O3 := O2.on P3
      have R3 := HR.out.on Pw3
      clear hC2 s0 s1 s2 P3 Pw2 O2 HR HO hv ht hc hl
      have hnl : f.nodes.length = n := by have := R3.len; rwa [raw_len] at this
      have hcp := R3.cap
      have hmx := R3.max
      have hC := ndual_ok w3 f hf A n c R3
      obtain ⟨u0, v0, x0⟩ := own3 O3
      go_wp2_with fail
      refine hC.mono ?_
      rintro e w4 ⟨hM, P4⟩
      clear hC u0 v0 x0
      have Pw4 := Pw3.trans P4
      have O4 := O3.on P4
      have R4 := R3.on P4
      clear Pw3 O3 R3
      rcases hM with ⟨hle, A1, c1, rfl, X4⟩ | ⟨hgt, rfl⟩
      rotate_left
      · rw [errV_pos 4 (by decide)]
        obtain ⟨pZ9, hpZ9⟩ : ∃ p, w4.heap.size = p := ⟨_, rfl⟩
        obtain ⟨wb9, hwb9⟩ : ∃ wb, w4.alloc (.cells #[.int .i64 0, .slice none 0 0, .int .i64 0] 24) = wb := ⟨_, rfl⟩
        have Bb : Own wb9 pZ9 24 #[.int .i64 0, .slice none 0 0, .int .i64 0] := by rw [← hwb9, ← hpZ9]; exact Own.new _ _ _
        have Qb : On w4 wb9 := by rw [← hwb9]; exact (On.refl _).alloc _
        obtain ⟨w9, hw9⟩ : ∃ w9, ((wb9.setCell ⟨pZ9, 0, none⟩ (.int .i64 0)).setCell ⟨pZ9, 1, none⟩ (.slice none 0 0)).setCell ⟨pZ9, 2, none⟩ (.int .i64 0) = w9 := ⟨_, rfl⟩
        have Bc : Own w9 pZ9 24 #[.int .i64 0, .slice none 0 0, .int .i64 0] := by rw [← hw9]; exact ((Bb.set_ 0 _).set_ 1 _).set_ 2 _
        have Q9 : On w4 w9 := by rw [← hw9]; exact On.setCell (On.setCell (On.setCell Qb (p := ⟨pZ9, 0, none⟩) (by show w4.heap.size ≤ pZ9; omega) _) (p := ⟨pZ9, 1, none⟩) (by show w4.heap.size ≤ pZ9; omega) _) (p := ⟨pZ9, 2, none⟩) (by show w4.heap.size ≤ pZ9; omega) _
        obtain ⟨y0, y1, y2⟩ := own3 Bb
        have y3 := Bb.frozen 0
        have y4 := Bb.frozen 1
        have y5 := Bb.frozen 2
        clear Bb Qb
        have hI := is_err w9 4
        have PF := Pw4.trans Q9
        go_wp2_with fail
        refine hI.mono ?_
        rintro e w10 ⟨rfl, rfl⟩
        go_wp2
        go_ret
        exact ⟨rfl, PF⟩
      obtain ⟨x, hx⟩ : ∃ x, dual f = x := ⟨_, rfl⟩
      have hwx : WF x := by rw [← hx]; exact (dual_wf hf).small (by rw [hx] at hle ⊢; exact hle)
      have hxv : x.vars = f.vars := by rw [← hx]; rfl
      rw [hx] at hle X4 ⊢
      obtain ⟨n1, hn1⟩ : ∃ n1, x.nodes.length = n1 := ⟨_, rfl⟩
      obtain ⟨t1, ht1⟩ : ∃ t1, x.top = t1 := ⟨_, rfl⟩
      rw [hn1] at hle X4 ⊢
      rw [hxv, ht1]
      have hcp1 := X4.cap
      have hmx1 := X4.max
      obtain ⟨pB, hpB⟩ : ∃ p, w4.heap.size = p := ⟨_, rfl⟩
      obtain ⟨wb9, hwb9⟩ : ∃ wb, w4.alloc (.cells #[.int .i64 0, .slice none 0 0, .int .i64 0] 24) = wb := ⟨_, rfl⟩
      have Bb : Own wb9 pB 24 #[.int .i64 0, .slice none 0 0, .int .i64 0] := by rw [← hwb9, ← hpB]; exact Own.new _ _ _
      have Qb : On w4 wb9 := by rw [← hwb9]; exact (On.refl _).alloc _
      obtain ⟨w5, hw5⟩ : ∃ w5, ((wb9.setCell ⟨pB, 0, none⟩ (.int .i64 (f.vars : Int))).setCell ⟨pB, 1, none⟩ (.slice A1 n1 c1)).setCell ⟨pB, 2, none⟩ (.int .i64 (t1 : Int)) = w5 := ⟨_, rfl⟩
      have Bc : Own w5 pB 24 #[.int .i64 (f.vars : Int), .slice A1 n1 c1, .int .i64 (t1 : Int)] := by rw [← hw5]; exact ((Bb.set_ 0 _).set_ 1 _).set_ 2 _
      have Q5 : On w4 w5 := by rw [← hw5]; exact On.setCell (On.setCell (On.setCell Qb (p := ⟨pB, 0, none⟩) (by show w4.heap.size ≤ pB; omega) _) (p := ⟨pB, 1, none⟩) (by show w4.heap.size ≤ pB; omega) _) (p := ⟨pB, 2, none⟩) (by show w4.heap.size ≤ pB; omega) _
      obtain ⟨y0, y1, y2⟩ := own3 Bb
      have y3 := Bb.frozen 0
      have y4 := Bb.frozen 1
      have y5 := Bb.frozen 2
      clear Bb Qb
      have Pw5 := Pw4.trans Q5
      have O5 := O4.on Q5
      have R5 := R4.on Q5
      have X5 := X4.on Q5
      clear Pw4 O4 R4 X4
      have B5 := Bc
      clear Bc
      have hv24 := hf.1
      have hv64 : f.vars < 64 := by omega
      have e1 := shl_step f.vars hv24
      have hp24 := pow24 hv24
      have hp1 := pow_posN f.vars
      have hs1 := Nat.mod_lt (cut set) (Nat.two_pow_pos f.vars)
      have hs2 := compl_lt f.vars (cut set)
      have ha := and_allN set f.vars hv24
      have hb := andNot_allN set f.vars hv24
      have hd1 : val x (without (2 ^ f.vars - 1) (cut set)) = !val f (cut set % 2 ^ f.vars) := by rw [← hx]; exact dual_val hf (fun a h => compl_bit f.vars (cut set) a h)
      have hd2 : val (dual x) (cut set % 2 ^ f.vars) = val f (cut set % 2 ^ f.vars) := by
        rw [dual_val hwx (s := without (2 ^ f.vars - 1) (cut set)) (s' := cut set % 2 ^ f.vars) (fun a h => by rw [hxv] at h; rw [compl_bit f.vars (cut set) a h, Bool.not_not]), hd1, Bool.not_not]
      have HV1 := fun W (R : RdN W A n c (rawL f.nodes)) => value_ok W f hf A n c R _ hs1
      have HV2 := fun W (R : RdN W A1 n1 c1 (rawL x.nodes)) => value_ok W x hwx A1 n1 c1 R (without (2 ^ f.vars - 1) (cut set)) (by rw [hxv]; exact hs2)
      have HV3 := fun W y (hy : dual x = y) (hwy : WF y) A2 n2 c2 (R : RdN W A2 n2 c2 (rawL y.nodes)) => value_ok W y hwy A2 n2 c2 R (cut set % 2 ^ f.vars) (by rw [show y.vars = f.vars by rw [← hy]; exact hxv]; exact hs1)
      obtain ⟨z1, hz1⟩ : ∃ z1, cut set % 2 ^ f.vars = z1 := ⟨_, rfl⟩
      obtain ⟨z2, hz2⟩ : ∃ z2, without (2 ^ f.vars - 1) (cut set) = z2 := ⟨_, rfl⟩
      obtain ⟨p2, hp2⟩ : ∃ p2, 2 ^ f.vars = p2 := ⟨_, rfl⟩
      obtain ⟨va, hva⟩ : ∃ va, val f z1 = va := ⟨_, rfl⟩
      rw [hz1] at ha hd1 hd2 HV1 HV3 hs1
      rw [hz2] at hb hd1 HV2 hs2
      rw [hva] at hd1 hd2 HV1
      rw [hd1, hxv, ht1] at HV2
      rw [hp2] at e1 hp24 hp1 ha hb
      have HV1 := Lib.hid HV1
      have HV2 := Lib.hid HV2
      have HV3 := Lib.hid HV3
      have HA := Lib.hid ha
      have HB9 := Lib.hid hb
      clear ha hb
      have HD := Lib.hid (And.intro hd2 (And.intro hx (And.intro hn1 (And.intro ht1 (And.intro hxv (And.intro hwx (And.intro hf hnl)))))))
      have hcl := fun W => clip_any W f.vars hv24
      clear hd1 hd2 hz1 hz2 hp2 hva hs1 hs2 hx hn1 ht1 hxv hwx
      obtain ⟨u0, v0, x0⟩ := own3 O5
      have E1 := Lib.hid (And.intro e1 (And.intro hp1 hp24))
      have hcp := hcl w5
      clear e1 hp1 hp24 hcl
      go_wp2_with fail
      refine hcp.mono ?_
      rintro e wx ⟨rfl, rfl⟩
      clear hcp hwb9 hw5 y0 y1 y2 y3 y4 y5
      obtain ⟨e1, hp1, hp24⟩ := E1.out
      have ha := HA.out
      have hC := HV1.out w5 R5
      go_wp2_with fail
      refine hC.mono ?_
      rintro e w6 ⟨rfl, P6⟩
      clear hC u0 v0 x0 ha e1 hp1 hp24
      have hb := HB9.out
      have Pw6 := Pw5.trans P6
      have O6 := O5.on P6
      have B6 := B5.on P6
      have R6 := R5.on P6
      have X6 := X5.on P6
      clear Pw5 O5 B5 R5 X5
      have hC := HV2.out w6 X6
      obtain ⟨u0, v0, x0⟩ := own3 B6
      go_wp2_with fail
      refine hC.mono ?_
      rintro e w7 ⟨rfl, P7⟩
      clear hC u0 v0 x0
      have Pw7 := Pw6.trans P7
      have O7 := O6.on P7
      have B7 := B6.on P7
      have R7 := R6.on P7
      have X7 := X6.on P7
      clear Pw6 O6 B6 R6 X6
      clear hb
      have hne : (va == !va) = false := by cases va <;> rfl
      obtain ⟨u0, v0, x0⟩ := own3 O7
      go_wp2
      clear u0 v0 x0
      have HB := Lib.hid (And.intro O7 (And.intro R7 (And.intro X7 B7)))
      clear O7 R7 X7 B7
      go_loopw [78, 12] (fun i pl wr => ∃ k : Nat, k ≤ n ∧ i = .int .i64 (k : Int) ∧ pl = .bool (plTo f k) ∧ On w7 wr) (fun i _ _ => n - (intOf i).toNat)
      case atStart => exact ⟨0, by omega, rfl, rfl, On.refl _⟩
      case round =>
        obtain ⟨k, hk, rfl, rfl, hon⟩ := hrel
        by_cases hlt : k < n
        · obtain ⟨ad, rfl, hb9, PA, m, cA, hc0, hc1, hc2, hRA⟩ := (HB.out.2.1.on hon).at_ k hlt
          rw [raw_get] at hc0 hc1
          have hps : plTo f (k + 1) = (plTo f k && ((f.nd k).kind != 1 && (f.nd k).kind != 5)) := rfl
          obtain ⟨⟨kd, kq, ar⟩, hxx⟩ : ∃ x, f.nd k = x := ⟨_, rfl⟩
          rw [hxx] at hc0 hc1 hps
          replace hc0 := (show _ = some (Value.int .i64 (kd : Int)) from hc0)
          replace hc1 := (show _ = some (Value.int .i64 (kq : Int)) from hc1)
          simp only at hps
          obtain ⟨pk, hpk⟩ : ∃ pk, plTo f k = pk := ⟨_, rfl⟩
          rw [hpk] at hps ⊢
          have HS := Lib.hid hps
          obtain ⟨p, hp⟩ : ∃ p, wr.heap.size = p := ⟨_, rfl⟩
          obtain ⟨wb, hwb⟩ : ∃ wb, wr.alloc (.cells #[.int .i64 0, .int .i64 0, .slice none 0 0] 49) = wb := ⟨_, rfl⟩
          have Nb : Own wb p 49 #[.int .i64 0, .int .i64 0, .slice none 0 0] := by rw [← hwb, ← hp]; exact Own.new _ _ _
          have Pb : On wr wb := by rw [← hwb]; exact (On.refl wr).alloc _
          obtain ⟨wc, hwc⟩ : ∃ wc, ((wb.setCell ⟨p, 0, none⟩ (.int .i64 (kd : Int))).setCell ⟨p, 1, none⟩ (.int .i64 (kq : Int))).setCell ⟨p, 2, none⟩ (.slice PA m cA) = wc := ⟨_, rfl⟩
          have Nc : Own wc p 49 #[.int .i64 (kd : Int), .int .i64 (kq : Int), .slice PA m cA] := by rw [← hwc]; exact ((Nb.set_ 0 _).set_ 1 _).set_ 2 _
          have Pc : On wr wc := by rw [← hwc]; exact On.setCell (On.setCell (On.setCell Pb (p := ⟨p, 0, none⟩) (by show wr.heap.size ≤ p; omega) _) (p := ⟨p, 1, none⟩) (by show wr.heap.size ≤ p; omega) _) (p := ⟨p, 2, none⟩) (by show wr.heap.size ≤ p; omega) _
          obtain ⟨x0, x1, x2⟩ := own3 Nb
          have f0 := Nb.frozen 0
          have f1 := Nb.frozen 1
          have f2 := Nb.frozen 2
          clear Nb Pb
          have Pr := hon.trans Pc
          have HPr := Lib.hid Pr
          obtain ⟨m0, m1, m2⟩ := own3 Nc
          clear hps hxx hpk hRA Nc Pc Pr hon
          cases pk with
          | false =>
            go_wp2
            (try rw [hwc])
            go_roundw
            case rel => exact ⟨k + 1, by omega, by go_num, by rw [HS.out]; rfl, HPr.out⟩
            case measure => simp [intOf] <;> omega
          | true =>
            by_cases k1 : kd = 1
            · subst k1
              go_wp2
              (try rw [hwc])
              go_roundw
              case rel => exact ⟨k + 1, by omega, by go_num, by rw [HS.out]; rfl, by have := HPr.out; rw [← hwc] at this; exact this⟩
              case measure => simp [intOf] <;> omega
            · by_cases k5 : kd = 5
              · subst k5
                go_wp2
                (try rw [hwc])
                go_roundw
                case rel => exact ⟨k + 1, by omega, by go_num, by rw [HS.out]; rfl, by have := HPr.out; rw [← hwc] at this; exact this⟩
                case measure => simp [intOf] <;> omega
              · have k1i : ¬ (kd : Int) = 1 := by omega
                have k5i : ¬ (kd : Int) = 5 := by omega
                go_wp2
                (try rw [hwc])
                go_roundw
                case rel => exact ⟨k + 1, by omega, by go_num, by rw [HS.out, bne_iff_ne.2 k1, bne_iff_ne.2 k5, bne_iff_ne.2 k1i, bne_iff_ne.2 k5i]; rfl, HPr.out⟩
                case measure => simp [intOf] <;> omega
        · obtain rfl : k = n := by omega
          obtain ⟨w8, hw8⟩ : ∃ w8, w8 = wr := ⟨_, rfl⟩
          subst hw8
          obtain ⟨pk, hpk⟩ : ∃ pk, plTo f k = pk := ⟨_, rfl⟩
          rw [hpk]
          obtain ⟨u0, v0, x0⟩ := own3 (HB.out.2.2.2.on hon)
          have HPK := Lib.hid (And.intro hpk hon)
          clear hpk hon
          go_wp2
          clear u0 v0 x0
          go_loopw [97] (fun i wr => ∃ j : Nat, j ≤ n1 ∧ i = .int .i64 (j : Int) ∧ On w7 wr) (fun i _ => n1 - (intOf i).toNat)
          case atStart => exact ⟨0, by omega, rfl, HPK.out.2⟩
          case round =>
            obtain ⟨j, hj, rfl, hon⟩ := hrel
            by_cases hlt2 : j < n1
            · obtain ⟨ad, rfl, hb9, PA, m, cA, hc0, hc1, hc2, hRA⟩ := (HB.out.2.2.1.on hon).at_ j hlt2
              rw [raw_get] at hc0 hc1
              have hkk : pk = true → (x.nd j).kind ≠ 1 ∧ (x.nd j).kind ≠ 5 := fun e => by
                have h1 : plTo f f.nodes.length = true := by rw [HD.out.2.2.2.2.2.2.2, HPK.out.1, e]
                have h2 := dual_plain h1 (i := j) (by rw [HD.out.2.1, HD.out.2.2.1]; exact hlt2)
                rw [HD.out.2.1] at h2
                exact h2
              obtain ⟨⟨kd, kq, ar⟩, hxx⟩ : ∃ y, x.nd j = y := ⟨_, rfl⟩
              rw [hxx] at hc0 hc1 hkk
              replace hc0 := (show _ = some (Value.int .i64 (kd : Int)) from hc0)
              replace hc1 := (show _ = some (Value.int .i64 (kq : Int)) from hc1)
              simp only at hkk
              obtain ⟨p, hp⟩ : ∃ p, wr.heap.size = p := ⟨_, rfl⟩
              obtain ⟨wb, hwb⟩ : ∃ wb, wr.alloc (.cells #[.int .i64 0, .int .i64 0, .slice none 0 0] 49) = wb := ⟨_, rfl⟩
              have Nb : Own wb p 49 #[.int .i64 0, .int .i64 0, .slice none 0 0] := by rw [← hwb, ← hp]; exact Own.new _ _ _
              have Pb : On wr wb := by rw [← hwb]; exact (On.refl wr).alloc _
              obtain ⟨wc, hwc⟩ : ∃ wc, ((wb.setCell ⟨p, 0, none⟩ (.int .i64 (kd : Int))).setCell ⟨p, 1, none⟩ (.int .i64 (kq : Int))).setCell ⟨p, 2, none⟩ (.slice PA m cA) = wc := ⟨_, rfl⟩
              have Nc : Own wc p 49 #[.int .i64 (kd : Int), .int .i64 (kq : Int), .slice PA m cA] := by rw [← hwc]; exact ((Nb.set_ 0 _).set_ 1 _).set_ 2 _
              have Pc : On wr wc := by rw [← hwc]; exact On.setCell (On.setCell (On.setCell Pb (p := ⟨p, 0, none⟩) (by show wr.heap.size ≤ p; omega) _) (p := ⟨p, 1, none⟩) (by show wr.heap.size ≤ p; omega) _) (p := ⟨p, 2, none⟩) (by show wr.heap.size ≤ p; omega) _
              obtain ⟨x0, x1, x2⟩ := own3 Nb
              have f0 := Nb.frozen 0
              have f1 := Nb.frozen 1
              have f2 := Nb.frozen 2
              clear Nb Pb
              have HPr := Lib.hid (hon.trans Pc)
              obtain ⟨m0, m1, m2⟩ := own3 Nc
              clear hxx hRA Nc Pc hon
              cases pk with
              | false =>
                clear hkk
                go_wp2
                (try rw [hwc])
                go_roundw
                case rel => exact ⟨j + 1, by omega, by go_num, HPr.out⟩
                case measure => simp [intOf] <;> omega
              | true =>
                obtain ⟨k1, k5⟩ := hkk rfl
                have k1i : ¬ (kd : Int) = 1 := by omega
                have k5i : ¬ (kd : Int) = 5 := by omega
                have b1i : ((kd : Int) == 1) = false := beq_eq_false_iff_ne.2 k1i
                have b5i : ((kd : Int) == 5) = false := beq_eq_false_iff_ne.2 k5i
                clear hkk
                go_wp2
                (try rw [hwc])
                go_roundw
                case rel => exact ⟨j + 1, by omega, by go_num, HPr.out⟩
                case measure => simp [intOf] <;> omega
            · obtain rfl : j = n1 := by omega
              obtain ⟨w9, hw9⟩ : ∃ w9, w9 = wr := ⟨_, rfl⟩
              subst hw9
              have Pw9 := Pw7.trans hon
              have hC := ndual_ok w9 x HD.out.2.2.2.2.2.1 A1 j c1 (HB.out.2.2.1.on hon)
              rw [HD.out.2.2.2.2.1, HD.out.2.2.2.1] at hC
              obtain ⟨u0, v0, x0⟩ := own3 (HB.out.2.2.2.on hon)
              go_wp2_with fail
              refine hC.mono ?_
              rintro e w11 ⟨hM, P11⟩
              have Pw11 := Pw9.trans P11
              clear hC u0 v0 x0
              rcases hM with ⟨hle2, A2, c2, rfl, Y11⟩ | ⟨hgt, rfl⟩
              · obtain ⟨y, hy⟩ : ∃ y, dual x = y := ⟨_, rfl⟩
                have hwy : WF y := by rw [← hy]; exact (dual_wf HD.out.2.2.2.2.2.1).small (by rw [hy] at hle2 ⊢; exact hle2)
                rw [hy] at hle2 Y11 ⊢
                obtain ⟨n2, hn2⟩ : ∃ n2, y.nodes.length = n2 := ⟨_, rfl⟩
                obtain ⟨t2, ht2⟩ : ∃ t2, y.top = t2 := ⟨_, rfl⟩
                obtain ⟨v2, hv2⟩ : ∃ v2, y.vars = v2 := ⟨_, rfl⟩
                rw [hn2] at hle2 Y11 ⊢
                rw [ht2, hv2]
                have hV3 := fun W (R : RdN W A2 n2 c2 (rawL y.nodes)) => HV3.out W y hy hwy A2 n2 c2 R
                have hd2 := HD.out.1
                rw [hy] at hd2
                rw [hd2, ht2, hv2] at hV3
                obtain ⟨pX12, hpX12⟩ : ∃ p, w11.heap.size = p := ⟨_, rfl⟩
                obtain ⟨wb9, hwb9⟩ : ∃ wb, w11.alloc (.cells #[.int .i64 0, .slice none 0 0, .int .i64 0] 24) = wb := ⟨_, rfl⟩
                have Bb : Own wb9 pX12 24 #[.int .i64 0, .slice none 0 0, .int .i64 0] := by rw [← hwb9, ← hpX12]; exact Own.new _ _ _
                have Qb : On w11 wb9 := by rw [← hwb9]; exact (On.refl _).alloc _
                obtain ⟨w12, hw12⟩ : ∃ w12, ((wb9.setCell ⟨pX12, 0, none⟩ (.int .i64 (v2 : Int))).setCell ⟨pX12, 1, none⟩ (.slice A2 n2 c2)).setCell ⟨pX12, 2, none⟩ (.int .i64 (t2 : Int)) = w12 := ⟨_, rfl⟩
                have Bc : Own w12 pX12 24 #[.int .i64 (v2 : Int), .slice A2 n2 c2, .int .i64 (t2 : Int)] := by rw [← hw12]; exact ((Bb.set_ 0 _).set_ 1 _).set_ 2 _
                have Q12 : On w11 w12 := by rw [← hw12]; exact On.setCell (On.setCell (On.setCell Qb (p := ⟨pX12, 0, none⟩) (by show w11.heap.size ≤ pX12; omega) _) (p := ⟨pX12, 1, none⟩) (by show w11.heap.size ≤ pX12; omega) _) (p := ⟨pX12, 2, none⟩) (by show w11.heap.size ≤ pX12; omega) _
                obtain ⟨y0, y1, y2⟩ := own3 Bb
                have y3 := Bb.frozen 0
                have y4 := Bb.frozen 1
                have y5 := Bb.frozen 2
                clear Bb Qb
                have hC := hV3 w12 (Y11.on Q12)
                have Pw12 := Pw11.trans Q12
                obtain ⟨u0, v0, x0⟩ := own3 Bc
                have ha := HA.out
                clear hV3 hd2 hy hwy hn2 ht2 hv2 Y11 Q12 Pw11
                go_wp2_with fail
                refine hC.mono ?_
                rintro e w13 ⟨rfl, P13⟩
                clear hC u0 v0 x0 ha
                go_wp2
                go_ret
                exact ⟨rfl, Pw12.trans P13⟩
              · rw [errV_pos 4 (by decide)]
                obtain ⟨pZ9, hpZ9⟩ : ∃ p, w11.heap.size = p := ⟨_, rfl⟩
                obtain ⟨wb9, hwb9⟩ : ∃ wb, w11.alloc (.cells #[.int .i64 0, .slice none 0 0, .int .i64 0] 24) = wb := ⟨_, rfl⟩
                have Bb : Own wb9 pZ9 24 #[.int .i64 0, .slice none 0 0, .int .i64 0] := by rw [← hwb9, ← hpZ9]; exact Own.new _ _ _
                have Qb : On w11 wb9 := by rw [← hwb9]; exact (On.refl _).alloc _
                obtain ⟨w9, hw9⟩ : ∃ w9, ((wb9.setCell ⟨pZ9, 0, none⟩ (.int .i64 0)).setCell ⟨pZ9, 1, none⟩ (.slice none 0 0)).setCell ⟨pZ9, 2, none⟩ (.int .i64 0) = w9 := ⟨_, rfl⟩
                have Bc : Own w9 pZ9 24 #[.int .i64 0, .slice none 0 0, .int .i64 0] := by rw [← hw9]; exact ((Bb.set_ 0 _).set_ 1 _).set_ 2 _
                have Q9 : On w11 w9 := by rw [← hw9]; exact On.setCell (On.setCell (On.setCell Qb (p := ⟨pZ9, 0, none⟩) (by show w11.heap.size ≤ pZ9; omega) _) (p := ⟨pZ9, 1, none⟩) (by show w11.heap.size ≤ pZ9; omega) _) (p := ⟨pZ9, 2, none⟩) (by show w11.heap.size ≤ pZ9; omega) _
                obtain ⟨y0, y1, y2⟩ := own3 Bb
                have y3 := Bb.frozen 0
                have y4 := Bb.frozen 1
                have y5 := Bb.frozen 2
                clear Bb Qb
                have hI := is_err w9 4
                have PF := Pw11.trans Q9
                go_wp2_with fail
                refine hI.mono ?_
                rintro e w10 ⟨rfl, rfl⟩
                go_wp2
                go_ret
                exact ⟨rfl, PF⟩
    · obtain ⟨er, her⟩ : ∃ er, chk vars xs top = er := ⟨_, rfl⟩
      rw [her] at hC2 hc
      rw [errV_pos er hc] at hC2
      have hA2 := fun W => awakeN_any W
      go_wp2_with fail
      refine hC2.mono ?_
      rintro e w3 ⟨rfl, P3⟩
      clear hC2
      go_wp2_with fail
      refine (hA2 _).mono ?_
      rintro e w4 ⟨rfl, P4⟩
      go_wp2
      go_ret
      exact ⟨rfl, (Pw2.trans P3).trans P4⟩
  · rw [Bool.eq_false_iff.2 hl] at hL1
    have hA2 := fun W => awakeN_any W
    clear hC
    go_wp2_with fail
    refine hL1.mono ?_
    rintro e w2 ⟨rfl, P2⟩
    clear hL1
    go_wp2_with fail
    refine (hA2 _).mono ?_
    rintro e w3 ⟨rfl, P3⟩
    go_wp2
    go_ret
    exact ⟨rfl, (Pw1.trans P2).trans P3⟩
end Go.Proofs.Ytooeppffacnmaaa.Fm
