/-
  The specification of cubes: Minus.
-/
import Derived.Test.YthamjboppnlpdaaCg
namespace Go.Proofs.Ythamjboppnlpdaa.Cu
open Go.RowKit Go.Proofs.Ythamjboppnlpdaa.Sb
set_option linter.unusedVariables false
set_option maxRecDepth 100000
theorem shl1 (i : Nat) : ((2 : Int) ^ i) = ((2 ^ i : Nat) : Int) := by rw [Int.natCast_pow]; rfl
theorem and_two (x i : Nat) : x &&& 2 ^ i = if x.testBit i = true then 2 ^ i else 0 := by
  apply Nat.eq_of_testBit_eq
  intro j
  rw [Nat.testBit_and, tb_two]
  by_cases h : i = j
  · subst h
    cases hx : x.testBit i with
    | true => rw [if_pos rfl, tb_two]; rfl
    | false => rw [if_neg (by decide), Nat.zero_testBit]; rfl
  · rw [decide_eq_false h, Bool.and_false]
    split
    · rw [tb_two, decide_eq_false h]
    · rw [Nat.zero_testBit]
theorem join_tb {a b : Cb} {i : Nat} : (evs (joinTo a b i)).testBit i = (evs a).testBit i := by
  unfold evs joinTo meetC
  simp only [Nat.testBit_or, low_tb1, low_tb2, Nat.lt_irrefl, decide_false, Bool.false_and, Bool.or_false]
set_option maxHeartbeats 16000000 in
theorem rminus_ok (w : World) (a b : Cb) (ha : OkC a) (hb : OkC b) :
    Calls Try.prog 27 #[cbV a, cbV b] w fun e w' => ∃ A c, e = .returned (.slice A (minusL a b).length c) ∧ RdC w' A (minusL a b).length c (zl (minusL a b)) ∧ On w w' := by
  have hK := fun W => rmeets_ok W a b ha hb
  obtain ⟨q, hq⟩ : ∃ q, w.heap.size = q := ⟨_, rfl⟩
  obtain ⟨a1, a2⟩ := a
  obtain ⟨b1, b2⟩ := b
  obtain ⟨w0, hw0⟩ : ∃ w0, (w.alloc (.cells #[.int .i64 (a1 : Int), .int .i64 (a2 : Int)] 23)).alloc (.cells #[.int .i64 (b1 : Int), .int .i64 (b2 : Int)] 23) = w0 := ⟨_, rfl⟩
  obtain ⟨O0, E0, P0⟩ := box2 hq hw0
  obtain ⟨r0, r1⟩ := own2 O0
  obtain ⟨s0, s1⟩ := own2 E0
  have hK0 := hK w0
  have HR := Lib.hid (And.intro P0 (And.intro O0 E0))
  have HB := Lib.hid (And.intro ha hb)
  clear P0 O0 E0 ha hb hK
  unfold minusL
  unfold cbV at *
  simp only at hK0 ⊢
  by_cases hc : clash (a1, a2) (b1, b2) = 0
  · rw [if_pos hc]
    rw [decide_eq_true hc] at hK0
    have HC := Lib.hid hc
    clear hc
    go_enter Try.func27, Try.ntmps27
    subst hq
    go_wp2_with fail
    refine hK0.mono ?_
    rintro e w1 ⟨rfl, P1⟩
    clear hK0 r0 r1 s0 s1
    have H3 := Lib.hid (And.intro (HR.out.1.trans P1) (And.intro (HR.out.2.1.on P1) (HR.out.2.2.on P1)))
    have hs3 := H3.out.2.2.lt
    clear P1
    go_wp2
    go_loopw [6, 5] (fun iv u wr => ∃ (i : Nat), i ≤ 24 ∧ iv = .int .i64 (i : Int) ∧ wr.ownsRow (w.heap.size + 1 + 1) 23 2 u (pieces (a1, a2) (b1, b2) i).length (CV (zl (pieces (a1, a2) (b1, b2) i))) ∧ Own wr w.heap.size 23 #[.int .i64 ((joinTo (a1, a2) (b1, b2) i).1 : Int), .int .i64 ((joinTo (a1, a2) (b1, b2) i).2 : Int)] ∧ Own wr (w.heap.size + 1) 23 #[.int .i64 (b1 : Int), .int .i64 (b2 : Int)] ∧ On w wr) (fun iv _ _ => 24 - (intOf iv).toNat)
    case atStart =>
      refine ⟨0, by omega, rfl, ⟨rfl, .inl ⟨rfl, rfl⟩⟩, ?_, H3.out.2.2, H3.out.1⟩
      rw [joinTo_zero]
      exact H3.out.2.1
    case round =>
      obtain ⟨i, hi, rfl, hrow, hO, hE, hon⟩ := hrel
      by_cases hlt : i < 24
      · have hJ := joinTo_ok HB.out.1 HB.out.2 HC.out i
        have hp24 : 2 ^ i < 16777216 := by have : (2 : Nat) ^ i < 2 ^ 24 := Nat.pow_lt_pow_right (by decide) hlt; exact this
        obtain ⟨ta, hta⟩ : ∃ z, (evs (a1, a2)).testBit i = z := ⟨_, rfl⟩
        obtain ⟨tb1, htb1⟩ : ∃ z, b1.testBit i = z := ⟨_, rfl⟩
        obtain ⟨tb2, htb2⟩ : ∃ z, b2.testBit i = z := ⟨_, rfl⟩
        have hla : lack (a1, a2) (b1, b2) i = ((tb1 || tb2) && !ta) := by
          unfold lack
          rw [hta, show evs (b1, b2) = b1 ||| b2 from rfl, Nat.testBit_or, htb1, htb2]
        have hbb := and_zero.1 HB.out.2.2.2 i
        simp only at hbb
        rw [htb1, htb2] at hbb
        have hjs := joinTo_succ (a1, a2) (b1, b2) i
        have hjsame := joinTo_same HC.out (i := i)
        have hpd : piece (a1, a2) (b1, b2) i = meetC (joinTo (a1, a2) (b1, b2) i) (opp (b1, b2) i) := rfl
        have hps : pieces (a1, a2) (b1, b2) (i + 1) = if lack (a1, a2) (b1, b2) i = true then pieces (a1, a2) (b1, b2) i ++ [piece (a1, a2) (b1, b2) i] else pieces (a1, a2) (b1, b2) i := rfl
        have hje := join_tb (a := (a1, a2)) (b := (b1, b2)) (i := i)
        rw [hta] at hje
        have e1 := and_two (evs (joinTo (a1, a2) (b1, b2) i)) i
        rw [hje] at e1
        have e2 := and_two b1 i
        rw [htb1] at e2
        have e3 := and_two b2 i
        rw [htb2] at e3
        have hlen : (pieces (a1, a2) (b1, b2) i).length ≤ i := pieces_len _ _ _
        rw [hla] at hps hjsame
        obtain ⟨⟨y, m⟩, hym⟩ : ∃ z, joinTo (a1, a2) (b1, b2) i = z := ⟨_, rfl⟩
        obtain ⟨pc_, hpcn⟩ : ∃ z, piece (a1, a2) (b1, b2) i = z := ⟨_, rfl⟩
        obtain ⟨pl, hpl⟩ : ∃ z, pieces (a1, a2) (b1, b2) i = z := ⟨_, rfl⟩
        rw [hym] at hJ hjs hpd hO e1 hjsame
        rw [hpcn] at hpd hps
        rw [hpl] at hps hrow hlen
        unfold meetC opp at hpd
        unfold meetC at hjs
        unfold evs at e1
        simp only at hpd hjs hO e1
        have hl2 := shl1 i
        obtain ⟨p, hp⟩ : ∃ p, 2 ^ i = p := ⟨_, rfl⟩
        rw [hp] at hpd hjs hl2 hp24 e1 e2 e3
        have hp0 : p ≠ 0 := by have := Nat.two_pow_pos i; omega
        have o0 := or_nat y m (lt63 hJ.1) (lt63 hJ.2.1)
        have o1 := and_nat (y ||| m) p (or24 hJ.1 hJ.2.1) hp24
        have o2 := and_nat b1 p HB.out.2.1 hp24
        have o3 := and_nat b2 p HB.out.2.2.1 hp24
        have o4 := or_nat m p (lt63 hJ.2.1) (lt63 hp24)
        have o5 := or_nat y p (lt63 hJ.1) (lt63 hp24)
        rw [e1] at o1
        rw [e2] at o2 hpd hjs
        rw [e3] at o3 hpd hjs
        obtain ⟨ym, hyme⟩ : ∃ z, y ||| m = z := ⟨_, rfl⟩
        rw [hyme] at o0 o1
        obtain ⟨k4, hk4⟩ : ∃ z, m ||| p = z := ⟨_, rfl⟩
        obtain ⟨k5, hk5⟩ : ∃ z, y ||| p = z := ⟨_, rfl⟩
        rw [hk4] at o4
        rw [hk5] at o5
        obtain ⟨q0, q1⟩ := own2 hO
        obtain ⟨z0, z1⟩ := own2 hE
        obtain ⟨Au, cu, rfl⟩ : ∃ Au cu, u5 = .slice Au pl.length cu := by
          rcases hrow.2 with ⟨rfl, h0⟩ | ⟨g, cap, cur, rfl, _⟩
          · exact ⟨none, 0, by rw [h0]⟩
          · exact ⟨_, _, rfl⟩
        have hf0 := hO.frozen 0
        have hf1 := hO.frozen 1
        have HX := Lib.hid (And.intro hO (And.intro hE (And.intro hpl hrow)))
        clear hO hE hrow hla hta htb1 htb2 e1 e2 e3 hje hJ hyme hp hpl hpcn hym
        cases ta
        · cases tb1
          · cases tb2
            · have HY := Lib.hid (And.intro hps (hjsame rfl))
              clear hps hjsame hjs hpd hbb hk4 hk5
              go_wp2
              go_roundw
              case rel => exact ⟨i + 1, by omega, by go_num, by rw [HY.out.1]; exact HX.out.2.2.2, by rw [HY.out.2]; exact HX.out.1, HX.out.2.1, hon⟩
              case measure => simp [intOf] <;> omega
            · have hpd2 : pc_ = (k5, m) := by rw [hpd, ← hk5]; simp
              have hjs2 : joinTo (a1, a2) (b1, b2) (i + 1) = (y, k4) := by rw [hjs, ← hk4]; simp
              have HY := Lib.hid (And.intro hps (And.intro hpd2 hjs2))
              clear hps hjsame hjs hpd hbb hpd2 hjs2 hk4 hk5
              obtain ⟨w5, hw5⟩ : ∃ w5, wr.alloc (.cells #[.int .i64 (k5 : Int), .int .i64 (m : Int)] 23) = w5 := ⟨_, rfl⟩
              obtain ⟨O5, P5⟩ := box1 rfl hw5
              have HS := Lib.hid (And.intro (src_one O5) (And.intro (hon.trans P5) (And.intro (owns_on HX.out.2.2.2 P5) (And.intro (HX.out.1.on P5) (HX.out.2.1.on P5)))))
              have hsz := P5.size
              have hsw := HX.out.2.1.lt
              have hblk := Lib.hid (owns_blk HS.out.2.2.1)
              clear O5 P5
              go_upto_region 14 with (at_builtin; refine wpList_appC rfl (.tmp 53) (.tmp 61) 37 rfl (w.heap.size + 1 + 1) 23 _ 2 16 Try.underlying37 cubeInfo rfl (by decide) (by decide) (.slice Au pl.length cu) pl.length (CV (zl pl)) rfl HS.out.2.2.1 (some ⟨wr.heap.size, 0, none⟩) 1 1 (CV [((k5 : Int), (m : Int))]) rfl HS.out.1 (CV_cell _) (by omega) (by omega) ?_; intro v' w6 hown6 hgrow6 hblk6)
              have P6 := owns_onb HS.out.2.1 HS.out.2.2.1 (by omega) hgrow6
              have O6 := own_gr HS.out.2.2.2.1 hgrow6 (fun b e => by have := (hblk.out b e).1; omega)
              have E6 := own_gr HS.out.2.2.2.2 hgrow6 (fun b e => by have := (hblk.out b e).1; omega)
              obtain ⟨q0, q1⟩ := own2 O6
              have f0 := O6.frozen 0
              have f1 := O6.frozen 1
              have hb6 := Lib.hid (owns_blk hown6)
              have O7 := O6.set_ 1 (.int .i64 (k4 : Int))
              have E7 := E6.far (p := ⟨w.heap.size, 1, none⟩) (by show w.heap.size + 1 ≠ w.heap.size; omega) (.int .i64 (k4 : Int))
              have C1 : w6.grownBy (w6.setCell ⟨w.heap.size, 1, none⟩ (.int .i64 (k4 : Int))) (some w.heap.size) := cell_gr rfl _
              have R7 := owns_gr hown6 C1 (fun b e e2 => by injection e with e; have := (hb6.out b e2).1; omega)
              have P7 := On.setCell P6 (p := ⟨w.heap.size, 1, none⟩) (by show w.heap.size ≤ w.heap.size; omega) (.int .i64 (k4 : Int))
              have H7 := Lib.hid (And.intro O7 (And.intro E7 (And.intro R7 P7)))
              clear O7 E7 C1 R7 P7 O6 E6 P6 hown6 hgrow6 hblk6 hblk hb6
              clear hf0 hf1 z0 z1
              go_wp2
              go_roundw
              case rel =>
                refine ⟨i + 1, by omega, by go_num, ?_, ?_, H7.out.2.1, H7.out.2.2.2⟩
                · rw [HY.out.1]
                  show World.ownsRow _ _ _ _ _ (pl ++ [pc_]).length (CV (zl (pl ++ [pc_])))
                  rw [HY.out.2.1, List.length_append, List.length_singleton, zl_app, CV_app]
                  exact H7.out.2.2.1
                · rw [HY.out.2.2]
                  exact H7.out.1
              case measure => simp [intOf] <;> omega
          · have h2 := hbb rfl
            subst h2
            have hpd2 : pc_ = (y, k4) := by rw [hpd, ← hk4]; simp
            have hjs2 : joinTo (a1, a2) (b1, b2) (i + 1) = (k5, m) := by rw [hjs, ← hk5]; simp
            have HY := Lib.hid (And.intro hps (And.intro hpd2 hjs2))
            clear hps hjsame hjs hpd hbb hpd2 hjs2 hk4 hk5
            obtain ⟨w5, hw5⟩ : ∃ w5, wr.alloc (.cells #[.int .i64 (y : Int), .int .i64 (k4 : Int)] 23) = w5 := ⟨_, rfl⟩
            obtain ⟨O5, P5⟩ := box1 rfl hw5
            have HS := Lib.hid (And.intro (src_one O5) (And.intro (hon.trans P5) (And.intro (owns_on HX.out.2.2.2 P5) (And.intro (HX.out.1.on P5) (HX.out.2.1.on P5)))))
            have hsz := P5.size
            have hsw := HX.out.2.1.lt
            have hblk := Lib.hid (owns_blk HS.out.2.2.1)
            clear O5 P5
            go_upto_region 11 with (at_builtin; refine wpList_appC rfl (.tmp 33) (.tmp 41) 37 rfl (w.heap.size + 1 + 1) 23 _ 2 16 Try.underlying37 cubeInfo rfl (by decide) (by decide) (.slice Au pl.length cu) pl.length (CV (zl pl)) rfl HS.out.2.2.1 (some ⟨wr.heap.size, 0, none⟩) 1 1 (CV [((y : Int), (k4 : Int))]) rfl HS.out.1 (CV_cell _) (by omega) (by omega) ?_; intro v' w6 hown6 hgrow6 hblk6)
            have P6 := owns_onb HS.out.2.1 HS.out.2.2.1 (by omega) hgrow6
            have O6 := own_gr HS.out.2.2.2.1 hgrow6 (fun b e => by have := (hblk.out b e).1; omega)
            have E6 := own_gr HS.out.2.2.2.2 hgrow6 (fun b e => by have := (hblk.out b e).1; omega)
            obtain ⟨q0, q1⟩ := own2 O6
            have f0 := O6.frozen 0
            have f1 := O6.frozen 1
            have hb6 := Lib.hid (owns_blk hown6)
            have O7 := O6.set_ 0 (.int .i64 (k5 : Int))
            have E7 := E6.far (p := ⟨w.heap.size, 0, none⟩) (by show w.heap.size + 1 ≠ w.heap.size; omega) (.int .i64 (k5 : Int))
            have C1 : w6.grownBy (w6.setCell ⟨w.heap.size, 0, none⟩ (.int .i64 (k5 : Int))) (some w.heap.size) := cell_gr rfl _
            have R7 := owns_gr hown6 C1 (fun b e e2 => by injection e with e; have := (hb6.out b e2).1; omega)
            have P7 := On.setCell P6 (p := ⟨w.heap.size, 0, none⟩) (by show w.heap.size ≤ w.heap.size; omega) (.int .i64 (k5 : Int))
            have H7 := Lib.hid (And.intro O7 (And.intro E7 (And.intro R7 P7)))
            clear O7 E7 C1 R7 P7 O6 E6 P6 hown6 hgrow6 hblk6 hblk hb6
            have z1' := (own2 H7.out.2.1).2
            go_upto_region 12 with fail
            clear hf0 hf1 q0 q1 z0 z1 f0 f1
            go_wp2
            go_roundw
            case rel =>
              refine ⟨i + 1, by omega, by go_num, ?_, ?_, H7.out.2.1, H7.out.2.2.2⟩
              · rw [HY.out.1]
                show World.ownsRow _ _ _ _ _ (pl ++ [pc_]).length (CV (zl (pl ++ [pc_])))
                rw [HY.out.2.1, List.length_append, List.length_singleton, zl_app, CV_app]
                exact H7.out.2.2.1
              · rw [HY.out.2.2]
                exact H7.out.1
            case measure => simp [intOf] <;> omega
        · have HY := Lib.hid (And.intro hps (hjsame (by cases tb1 <;> cases tb2 <;> rfl)))
          clear hps hjsame hjs hpd hbb hk4 hk5 o2 o3
          go_wp2
          go_roundw
          case rel => exact ⟨i + 1, by omega, by go_num, by rw [HY.out.1]; (cases tb1 <;> cases tb2 <;> exact HX.out.2.2.2), by rw [HY.out.2]; exact HX.out.1, HX.out.2.1, hon⟩
          case measure => simp [intOf] <;> omega
      · obtain rfl : i = 24 := by omega
        have hlen : (pieces (a1, a2) (b1, b2) 24).length ≤ 24 := pieces_len _ _ _
        obtain ⟨Au, cu, rfl⟩ : ∃ Au cu, u5 = .slice Au (pieces (a1, a2) (b1, b2) 24).length cu := by
          rcases hrow.2 with ⟨rfl, h0⟩ | ⟨g, cap, cur, rfl, _⟩
          · exact ⟨none, 0, by rw [h0]⟩
          · exact ⟨_, _, rfl⟩
        have HF := Lib.hid (And.intro (rdc_of_row hrow (zl_len _)) hon)
        clear hrow hO hE hon hlen
        go_wp2
        go_ret
        exact ⟨Au, cu, rfl, HF.out.1, HF.out.2⟩
  · rw [if_neg hc]
    rw [decide_eq_false hc] at hK0
    clear hc
    go_enter Try.func27, Try.ntmps27
    subst hq
    go_wp2_with fail
    refine hK0.mono ?_
    rintro e w1 ⟨rfl, P1⟩
    clear hK0 r0 r1 s0 s1
    obtain ⟨r0, r1⟩ := own2 (HR.out.2.1.on P1)
    obtain ⟨w2, hw2⟩ : ∃ w2, w1.alloc (.cells #[.int .i64 (a1 : Int), .int .i64 (a2 : Int)] 23) = w2 := ⟨_, rfl⟩
    obtain ⟨O2, P2⟩ := box1 rfl hw2
    have HS := Lib.hid (And.intro (rdc_one O2) ((HR.out.1.trans P1).trans P2))
    clear O2 P2 P1
    go_wp2
    go_ret
    exact ⟨_, 1, rfl, HS.out.1, HS.out.2⟩
end Go.Proofs.Ythamjboppnlpdaa.Cu
