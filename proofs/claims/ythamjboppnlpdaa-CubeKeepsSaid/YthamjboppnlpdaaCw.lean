/-
  Package cube: gaps, for any function that takes a gap.
-/
import Derived.Test.YthamjboppnlpdaaCn
import Derived.Test.YthamjboppnlpdaaCv
namespace Go.Proofs.Ythamjboppnlpdaa.Cu
open Go.RowKit Go.Proofs.Ythamjboppnlpdaa.Sb
set_option linter.unusedVariables false
set_option maxRecDepth 100000
theorem run_mkC (c : Nat) (h : c ≤ 1000000) (w : World) :
    (Instr.makeSlice 37 (.int .i64 0) (.int .i64 (c : Int))).run Try.prog w = .ok (.slice (some ⟨w.heap.size, 0, none⟩) 0 c) (w.alloc (.cells (madeCells #[.int .i64 0, .int .i64 0] (c * 2)) 23)) := by
  obtain ⟨i, hi, hz, hs, hb⟩ := info_parts' cubeInfo
  have hr : _ = Result.ok (Value.slice (some ⟨w.heap.size, 0, none⟩) 0 c) (w.alloc (.cells (madeCells #[.int .i64 0, .int .i64 0] (c * i.size)) 23)) := run_make (P := Try.prog) w 37 23 i (.agg #[.int .i64 0, .int .i64 0]) Try.underlying37 hi hz .i64 .i64 0 (c : Int) (Int.le_refl _) (by omega) (by rw [hb]; omega) (by omega)
  rw [hs] at hr
  exact hr
theorem row_mkC (w : World) (c : Nat) (h : c ≤ 1000000) : (w.alloc (.cells (madeCells #[.int .i64 0, .int .i64 0] (c * 2)) 23)).ownsRow w.heap.size 23 2 (.slice (some ⟨w.heap.size, 0, none⟩) 0 c) 0 [] :=
  ⟨rfl, .inr ⟨w.heap.size, c, _, rfl, Nat.le_refl _, heap_alloc_new w _, Nat.zero_le _, by unfold maxLen; omega, size_madeCells _ _, by simp⟩⟩
theorem near_take {c : Cb} {l : List Cb} {j : Nat} (h : j < l.length) : near c (l.take (j + 1)) = near c (l.take j) ++ if clash c (l.getD j (0, 0)) = 0 then [l.getD j (0, 0)] else [] := by
  have e : l.getD j (0, 0) = l[j] := by rw [List.getD_eq_getElem?_getD, List.getElem?_eq_getElem h]; rfl
  rw [e]
  unfold near
  rw [List.take_add_one, List.getElem?_eq_getElem h, List.filter_append]
  congr 1
  show List.filter _ [l[j]] = _
  by_cases hz : clash c l[j] = 0
  · rw [if_pos hz, List.filter_cons, if_pos (decide_eq_true hz)]; rfl
  · rw [if_neg hz, List.filter_cons, if_neg (by simpa using hz)]; rfl
theorem near_le (c : Cb) (l : List Cb) : (near c l).length ≤ l.length := List.length_filter_le _ _
/-- the sum over the first j pieces -/
def sumTo (f : Cb → Nat) (l : List Cb) (j : Nat) : Nat := ((l.take j).map f).sum
theorem sumTo_succ (f : Cb → Nat) {l : List Cb} {j : Nat} (h : j < l.length) : sumTo f l (j + 1) = sumTo f l j + f (l.getD j (0, 0)) := by
  have e : l.getD j (0, 0) = l[j] := by rw [List.getD_eq_getElem?_getD, List.getElem?_eq_getElem h]; rfl
  rw [e]
  unfold sumTo
  rw [List.take_add_one, List.getElem?_eq_getElem h, List.map_append, List.sum_append]
  simp
theorem sumTo_all (f : Cb → Nat) (l : List Cb) : sumTo f l l.length = (l.map f).sum := by unfold sumTo; rw [List.take_length]
theorem sumTo_le (f : Cb → Nat) (l : List Cb) (j : Nat) : sumTo f l j ≤ (l.map f).sum := by
  unfold sumTo
  have e : l = l.take j ++ l.drop j := (List.take_append_drop j l).symm
  have : (l.map f).sum = ((l.take j).map f).sum + ((l.drop j).map f).sum := by rw [← List.sum_append, ← List.map_append, ← e]
  omega
set_option maxHeartbeats 32000000 in
theorem gaps_gen (v : Nat) (hv : v ≤ 24) (fid : Nat) (caps : Array Value) (r : Option Nat) (b : Bool) (S : World → Int → Prop) (hS : ∀ w w' k, S w k → On w w' → S w' k)
    (hEn : ∀ (args : Array Value) (W : World), (callFunc fid args).run Try.prog W = .ok (.enter fid args) W)
    (hF : ∀ (W : World) (c : Cb) (k : Int), OkC c → evs c < 2 ^ v → (∀ g, r = some g → g < W.heap.size) → S W k → Calls Try.prog fid (#[cbV c] ++ caps) W fun e w' => e = .returned (.bool b) ∧ W.grownBy w' r ∧ S w' (k - (2 ^ (v - pc (evs c)) : Nat))) :
    ∀ (fuel : Nat) (c : Cb), 24 - pc (evs c) < fuel → OkC c → evs c < 2 ^ v → ∀ (l : List Cb), (∀ x ∈ l, OkC x ∧ evs x < 2 ^ v) → ∀ (w : World) (A : Option Addr) (n cc : Nat) (k : Int), RdC w A n cc (zl l) → n ≤ 2000 → (∀ g, r = some g → g < w.heap.size) → S w k →
    Calls Try.prog 58 #[.slice A n cc, cbV c, .func (.func fid) #[] caps] w fun e w' => e = .returned (.bool (b || decide (U v l c = 0))) ∧ w.grownBy w' r ∧ ∃ k', S w' k' ∧ (b = true → k' = k - (U v l c : Nat)) := by
  intro fuel
  induction fuel with
  | zero => intro c h; omega
  | succ fuel ih =>
    intro c hfuel hc hfit l hl w A n cc k h hn2 hr hSk
    have hn : l.length = n := by have := h.len; rwa [zl_len] at this
    have hcap := h.cap
    have hmax := h.max
    have hUn := U_near v l c
    obtain ⟨c1, c2⟩ := c
    obtain ⟨uu, hue⟩ : ∃ z, U v l (c1, c2) = z := ⟨_, rfl⟩
    rw [hue] at hUn ⊢
    clear hue
    obtain ⟨q, hq⟩ : ∃ q, w.heap.size = q := ⟨_, rfl⟩
    obtain ⟨w0, hw0⟩ : ∃ w0, w.alloc (.cells #[.int .i64 (c1 : Int), .int .i64 (c2 : Int)] 23) = w0 := ⟨_, rfl⟩
    obtain ⟨O0, P0⟩ := box1 hq hw0
    have hs0 : w0.heap.size = q + 1 := by rw [← hw0, ← hq]; simp
    have hmk := run_mkC n (by omega) w0
    have hrw := row_mkC w0 n (by omega)
    obtain ⟨w1, hw1⟩ : ∃ w1, w0.alloc (.cells (madeCells #[.int .i64 0, .int .i64 0] (n * 2)) 23) = w1 := ⟨_, rfl⟩
    have P1 : On w0 w1 := by rw [← hw1]; exact (On.refl w0).alloc _
    rw [hw1] at hmk hrw
    rw [hs0] at hmk hrw
    have HR := Lib.hid (And.intro (h.on P0) (And.intro hn (And.intro hl hUn)))
    have H1 := Lib.hid (And.intro P1 (And.intro (O0.on P1) (And.intro (owns_low hrw (show q + 1 ≤ q + 1 by omega)) (And.intro P0 hs0))))
    have HC := Lib.hid (And.intro hc (And.intro hfit (And.intro hfuel (And.intro hr hSk))))
    clear h hn hl hUn P0 P1 O0 hrw hw1 hc hfit hfuel hr hSk hs0
    unfold cbV
    simp only
    go_enter Try.func58, Try.ntmps58
    subst hq
    go_wp2
    clear hmk
    go_loopw [18, 7] (fun i u wr => ∃ (j : Nat), j ≤ n ∧ i = .int .i64 (j : Int) ∧ wr.ownsRow (w.heap.size + 1) 23 2 u (near (c1, c2) (l.take j)).length (CV (zl (near (c1, c2) (l.take j)))) ∧ Own wr w.heap.size 23 #[.int .i64 (c1 : Int), .int .i64 (c2 : Int)] ∧ On w0 wr) (fun i _ _ => n - (intOf i).toNat)
    case atStart => exact ⟨0, by omega, rfl, H1.out.2.2.1, H1.out.2.1, H1.out.1⟩
    case round =>
      obtain ⟨j, hj, rfl, hrow, hO, hon⟩ := hrel
      by_cases hlt : j < n
      · have hjl : j < l.length := by rw [HR.out.2.1]; exact hlt
        have hm := HR.out.2.2.1 _ (getD_mem (d := (0, 0)) hjl)
        have hnt := near_take (c := (c1, c2)) hjl
        have hnl := near_le (c1, c2) (l.take j)
        rw [List.length_take] at hnl
        obtain ⟨ad, rfl, hb, hc0, hc1⟩ := (HR.out.1.on hon).at_ hlt
        rw [zl_cell] at hc0 hc1
        simp only at hc0 hc1
        obtain ⟨⟨x, y⟩, hx⟩ : ∃ z, l.getD j (0, 0) = z := ⟨_, rfl⟩
        rw [hx] at hc0 hc1 hm hnt
        simp only at hc0 hc1
        have hK := fun W => clash_ok W (c1, c2) (x, y) HC.out.1 hm.1
        obtain ⟨nl, hnle⟩ : ∃ z, near (c1, c2) (l.take j) = z := ⟨_, rfl⟩
        rw [hnle] at hnt hrow hnl
        obtain ⟨Au, cu, rfl⟩ : ∃ Au cu, u7 = .slice Au nl.length cu := by
          rcases hrow.2 with ⟨rfl, h0⟩ | ⟨g, cap, cur, rfl, _⟩
          · exact ⟨none, 0, by rw [h0]⟩
          · exact ⟨_, _, rfl⟩
        have Z0 : Own (wr.alloc (.cells #[.int .i64 0, .int .i64 0] 23)) wr.heap.size 23 #[.int .i64 0, .int .i64 0] := Own.new _ _ _
        obtain ⟨k0, k1⟩ := own2 Z0
        have f0 := Z0.frozen 0
        have f1 := Z0.frozen 1
        have HX := Lib.hid (And.intro hO (And.intro hrow hon))
        have HN := Lib.hid (And.intro hnt hm)
        clear hO hrow hon hnt hm hnle hx
        go_upto_region 5 with fail
        clear k0 k1 f0 f1 Z0 hc0 hc1
        obtain ⟨w2, hw2⟩ : ∃ w2, wr.alloc (.cells #[.int .i64 (x : Int), .int .i64 (y : Int)] 23) = w2 := ⟨_, rfl⟩
        obtain ⟨O2, P2⟩ := box1 rfl hw2
        rw [hw2]
        obtain ⟨bx, hbx⟩ : ∃ z, wr.heap.size = z := ⟨_, rfl⟩
        rw [hbx] at O2 ⊢
        have HY := Lib.hid (And.intro (HX.out.1.on P2) (And.intro (owns_on HX.out.2.1 P2) (And.intro (HX.out.2.2.trans P2) O2)))
        clear hw2 hbx O2 P2 HX
        obtain ⟨q0, q1⟩ := own2 HY.out.1
        obtain ⟨z0, z1⟩ := own2 HY.out.2.2.2
        have hK2 := hK w2
        unfold cbV at hK2
        simp only at hK2
        clear hK
        by_cases hz : clash (c1, c2) (x, y) = 0
        · rw [hz] at hK2
          have hnz := HN.out.1
          rw [if_pos hz] at hnz
          have HNZ := Lib.hid hnz
          clear hnz hz
          go_wp2_with fail
          refine hK2.mono ?_
          rintro e w3 ⟨rfl, P3⟩
          clear hK2 q0 q1 z0 z1
          have HY3 := Lib.hid (And.intro (HY.out.1.on P3) (And.intro (owns_on HY.out.2.1 P3) (And.intro (HY.out.2.2.1.trans P3) (HY.out.2.2.2.on P3))))
          clear P3
          obtain ⟨z0, z1⟩ := own2 HY3.out.2.2.2
          obtain ⟨w4, hw4⟩ : ∃ w2, w3.alloc (.cells #[.int .i64 (x : Int), .int .i64 (y : Int)] 23) = w2 := ⟨_, rfl⟩
          obtain ⟨O4, P4⟩ := box1 rfl hw4
          have HS := Lib.hid (And.intro (src_one O4) (And.intro (HY3.out.2.2.1.trans P4) (And.intro (owns_on HY3.out.2.1 P4) (HY3.out.1.on P4))))
          have hsz := (HS.out.2.2.2).lt
          have hsw := HS.out.2.1.size
          have hs1 := H1.out.2.2.2.2
          have hblk := Lib.hid (owns_blk HS.out.2.2.1)
          have hbn := Lib.hid (H1.out.2.1.lt)
          clear O4 P4
          have hbase : w.heap.size + 1 ≤ w4.heap.size := by omega
          go_upto_region 7 with (at_builtin; refine wpList_appC rfl (.tmp 26) (.tmp 28) 37 rfl (w.heap.size + 1) 23 _ 2 16 Try.underlying37 cubeInfo rfl (by decide) (by decide) (.slice Au nl.length cu) nl.length (CV (zl nl)) rfl HS.out.2.2.1 (some ⟨w3.heap.size, 0, none⟩) 1 1 (CV [((x : Int), (y : Int))]) rfl HS.out.1 (CV_cell _) (by omega) hbase ?_; intro v' w6 hown6 hgrow6 hblk6)
          have O6 := own_gr HS.out.2.2.2 hgrow6 (fun b e => by have := (hblk.out b e).1; omega)
          have P6 : On w0 w6 := owns_onb HS.out.2.1 HS.out.2.2.1 (by omega) hgrow6
          have HF := Lib.hid (And.intro O6 (And.intro P6 hown6))
          clear O6 P6 hown6 hgrow6 hblk6
          go_wp2
          go_roundw
          case rel =>
            refine ⟨j + 1, by omega, by go_num, ?_, HF.out.1, HF.out.2.1⟩
            rw [HNZ.out, List.length_append, List.length_singleton, zl_app, CV_app]
            exact HF.out.2.2
          case measure => simp [intOf] <;> omega
        · have hnz := HN.out.1
          rw [if_neg hz, List.append_nil] at hnz
          obtain ⟨cl, hcl⟩ : ∃ z, clash (c1, c2) (x, y) = z := ⟨_, rfl⟩
          rw [hcl] at hK2 hz
          have HNZ := Lib.hid hnz
          have hzi : ¬ (cl : Int) = 0 := by omega
          clear hnz hcl hz
          go_wp2_with fail
          refine hK2.mono ?_
          rintro e w3 ⟨rfl, P3⟩
          clear hK2 q0 q1 z0 z1
          go_wp2
          go_roundw
          case rel =>
            refine ⟨j + 1, by omega, by go_num, ?_, HY.out.1.on P3, HY.out.2.2.1.trans P3⟩
            rw [HNZ.out]
            exact owns_on HY.out.2.1 P3
          case measure => simp [intOf] <;> omega
      · obtain rfl : j = n := by omega
        have et : l.take j = l := List.take_of_length_le (by rw [HR.out.2.1]; omega)
        rw [et] at hrow
        have hnok : ∀ x ∈ near (c1, c2) l, OkC x ∧ evs x < 2 ^ v := fun x hx => HR.out.2.2.1 x (List.mem_filter.1 hx).1
        have hncl : ∀ x ∈ near (c1, c2) l, clash (c1, c2) x = 0 := fun x hx => of_decide_eq_true (List.mem_filter.1 hx).2
        have hnl := near_le (c1, c2) l
        rw [HR.out.2.1] at hnl
        have hU := HR.out.2.2.2
        obtain ⟨nl, hnle⟩ : ∃ z, near (c1, c2) l = z := ⟨_, rfl⟩
        rw [hnle] at hrow hnok hncl hnl hU
        obtain ⟨Au, cu, rfl⟩ : ∃ Au cu, u7 = .slice Au nl.length cu := by
          rcases hrow.2 with ⟨rfl, h0⟩ | ⟨g, cap, cur, rfl, _⟩
          · exact ⟨none, 0, by rw [h0]⟩
          · exact ⟨_, _, rfl⟩
        have hS2 : S wr k := hS _ _ _ HC.out.2.2.2.2 (H1.out.2.2.2.1.trans hon)
        have PW := H1.out.2.2.2.1.trans hon
        have hrw : ∀ g, r = some g → g < wr.heap.size := fun g e => by have := HC.out.2.2.2.1 g e; have := PW.size; omega
        obtain ⟨w5, hw5⟩ : ∃ z, z = wr := ⟨_, rfl⟩
        subst hw5
        have HA := Lib.hid (And.intro hO (And.intro hrow (And.intro PW (And.intro hS2 hrw))))
        have HB := Lib.hid (And.intro hnok (And.intro hncl hU))
        clear hO hrow hon PW hS2 hrw hnok hncl hU hnle et HR
        by_cases hz : nl.length = 0
        · obtain rfl := List.eq_nil_of_length_eq_zero hz
          have hfc := hF w5 (c1, c2) k HC.out.1 HC.out.2.1 HA.out.2.2.2.2 HA.out.2.2.2.1
          have hU := HB.out.2.2
          rw [U_leaf hv HC.out.1 HC.out.2.1] at hU
          have hpos := Nat.two_pow_pos (v - pc (evs (c1, c2)))
          obtain ⟨pw, hpw⟩ : ∃ z, 2 ^ (v - pc (evs (c1, c2))) = z := ⟨_, rfl⟩
          rw [hpw] at hfc hU hpos
          unfold cbV at hfc
          simp only at hfc
          obtain ⟨q0, q1⟩ := own2 HA.out.1
          have HU := Lib.hid (And.intro hU (And.intro hpos HA.out.2.2.1))
          clear hU hpos hpw hz hnl
          go_wp2_with fail
          refine hfc.mono ?_
          rintro e w6 ⟨rfl, G6, S6⟩
          clear hfc
          go_wp2
          go_ret
          refine ⟨?_, gr_trans (gr_on HU.out.2.2) G6 (.inl rfl), _, S6, fun _ => by rw [HU.out.1]⟩
          rw [decide_eq_false (show ¬ uu = 0 by have := HU.out.1; have := HU.out.2.1; omega), Bool.or_false]
          rfl
        · have hRd := rdc_of_row HA.out.2.1 (zl_len nl)
          have hMF := minf_ok w5 Au nl.length cu nl hRd (fun x hx => (HB.out.1 x hx).1) (by omega) (c1, c2) HC.out.1 w.heap.size HA.out.1
          have hcu := hRd.cap
          have hcm := hRd.max
          have hzi : ¬ (nl.length : Int) = 0 := by omega
          clear hRd
          go_wp2_with fail
          refine hMF.mono ?_
          rintro e w6 ⟨⟨⟨d1, d2⟩, hdm, rfl⟩, P6⟩
          clear hMF
          have HD := Lib.hid (And.intro hdm (And.intro (HB.out.1 _ hdm) (HB.out.2.1 _ hdm)))
          have HA6 := Lib.hid (And.intro (HA.out.1.on P6) (And.intro (owns_on HA.out.2.1 P6) (And.intro (HA.out.2.2.1.trans P6) (And.intro (hS _ _ _ HA.out.2.2.2.1 P6) P6.size))))
          clear hdm P6
          have Z0 : Own (w6.alloc (.cells #[.int .i64 0, .int .i64 0] 23)) w6.heap.size 23 #[.int .i64 0, .int .i64 0] := Own.new _ _ _
          obtain ⟨k0, k1⟩ := own2 Z0
          have f0 := Z0.frozen 0
          have f1 := Z0.frozen 1
          unfold cbV
          simp only
          go_upto_region 11 with fail
          clear k0 k1 f0 f1 Z0
          obtain ⟨w7, hw7⟩ : ∃ z, w6.alloc (.cells #[.int .i64 (d1 : Int), .int .i64 (d2 : Int)] 23) = z := ⟨_, rfl⟩
          obtain ⟨O7, P7⟩ := box1 rfl hw7
          rw [hw7]
          obtain ⟨bd, hbd⟩ : ∃ z, w6.heap.size = z := ⟨_, rfl⟩
          rw [hbd] at O7 ⊢
          have HA7 := Lib.hid (And.intro (HA6.out.1.on P7) (And.intro (owns_on HA6.out.2.1 P7) (And.intro (HA6.out.2.2.1.trans P7) (And.intro (hS _ _ _ HA6.out.2.2.2.1 P7) O7))))
          clear hw7 hbd O7 P7 HA6
          obtain ⟨q0, q1⟩ := own2 HA7.out.1
          obtain ⟨z0, z1⟩ := own2 HA7.out.2.2.2.2
          have hMi := minus_ok w7 (c1, c2) (d1, d2) HC.out.1 HD.out.2.1.1 w7.heap.size (.slice none 0 0) 0 [] ⟨rfl, .inl ⟨rfl, rfl⟩⟩ (Nat.le_refl _) (by omega)
          have hmok := minusL_ok HC.out.1 HD.out.2.1.1
          have hmfit := fun p hp => minus_fit (p := p) HC.out.2.1 HD.out.2.1.2 hp
          have hmm := fun p hp => minus_more (p := p) HC.out.1 HD.out.2.1.1 HD.out.2.2 hp
          have hml := minusL_len (c1, c2) (d1, d2)
          have hsp := U_split (v := v) (c := (c1, c2)) HD.out.2.1.1 HD.out.1
          obtain ⟨ps, hps⟩ : ∃ z, minusL (c1, c2) (d1, d2) = z := ⟨_, rfl⟩
          rw [hps] at hMi hmok hmfit hmm hml hsp
          rw [← HB.out.2.2] at hsp
          unfold cbV at hMi
          simp only at hMi
          have HPS := Lib.hid (And.intro hmok (And.intro hmfit (And.intro hmm hsp)))
          clear hmok hmfit hmm hsp hps
          go_wp2_with fail
          refine hMi.mono ?_
          rintro e w8 ⟨v', rfl, hrw8, hgr8, hbl8⟩
          clear hMi q0 q1 z0 z1
          rw [Nat.zero_add, List.nil_append] at hrw8
          have P8 : On w7 w8 := on_gr (On.refl w7) hgr8 (fun g e => by simp [Value.ownBlock] at e)
          obtain ⟨Ap, cp, rfl⟩ : ∃ A c, v' = .slice A ps.length c := by
            rcases hrw8.2 with ⟨rfl, h0⟩ | ⟨g, cap, cur, rfl, _⟩
            · exact ⟨none, 0, by rw [h0]⟩
            · exact ⟨_, _, rfl⟩
          have HA8 := Lib.hid (And.intro hrw8 (And.intro (owns_on HA7.out.2.1 P8) (And.intro (HA7.out.2.2.1.trans P8) (hS _ _ _ HA7.out.2.2.2.1 P8))))
          have hs7 := HA7.out.2.2.1.size
          clear hrw8 hgr8 hbl8 P8
          go_wp2
          go_loopw [44] (fun i wr => ∃ (j : Nat) (k' : Int), j ≤ ps.length ∧ i = .int .i64 (j : Int) ∧ w8.grownBy wr r ∧ S wr k' ∧ (b = true → k' = k - (sumTo (fun p => U v nl p) ps j : Nat)) ∧ (b = false → sumTo (fun p => U v nl p) ps j = 0)) (fun i _ => ps.length - (intOf i).toNat)
          case atStart => exact ⟨0, k, by omega, rfl, World.grownBy.refl _ _, HA8.out.2.2.2, fun _ => by show k = k - ((0 : Nat) : Int); omega, fun _ => rfl⟩
          case round =>
            obtain ⟨j, k', hj, rfl, hgr, hSk, hT, hF0⟩ := hrel
            by_cases hlt : j < ps.length
            · have hss := sumTo_succ (fun p => U v nl p) hlt
              have hm := getD_mem (d := (0, 0)) hlt
              have hok := HPS.out.1 _ hm
              have hft := HPS.out.2.1 _ hm
              have hmr := HPS.out.2.2.1 _ hm
              have hbl1 : ∀ b, r = some b → (Value.slice Ap ps.length cp).ownBlock ≠ some b := fun b e e2 => by
                have := (owns_blk HA8.out.1 b e2).1
                have := HC.out.2.2.2.1 b e
                omega
              have hbl2 : ∀ b, r = some b → (Value.slice Au nl.length cu).ownBlock ≠ some b := fun b e e2 => by
                have := (owns_blk HA8.out.2.1 b e2).1
                have := HC.out.2.2.2.1 b e
                omega
              have hrp := owns_gr HA8.out.1 hgr hbl1
              have hrn := owns_gr HA8.out.2.1 hgr hbl2
              have hRp := rdc_of_row hrp (zl_len ps)
              have hRn := rdc_of_row hrn (zl_len nl)
              have hpc := hRp.cap
              have hpm := hRp.max
              obtain ⟨ad, rfl, hb, hc0, hc1⟩ := hRp.at_ hlt
              rw [zl_cell] at hc0 hc1
              simp only at hc0 hc1
              obtain ⟨⟨x, y⟩, hx⟩ : ∃ z, ps.getD j (0, 0) = z := ⟨_, rfl⟩
              rw [hx] at hc0 hc1 hss hok hft hmr
              simp only at hc0 hc1
              have Z0 : Own (wr.alloc (.cells #[.int .i64 0, .int .i64 0] 23)) wr.heap.size 23 #[.int .i64 0, .int .i64 0] := Own.new _ _ _
              obtain ⟨k0, k1⟩ := own2 Z0
              have f0 := Z0.frozen 0
              have f1 := Z0.frozen 1
              have hfu : 24 - pc (evs (x, y)) < fuel := by have := HC.out.2.2.1; have := pc_le (evs (x, y)); omega
              have HG := Lib.hid (And.intro hgr (And.intro hSk (And.intro hT (And.intro hF0 (And.intro hRn (And.intro hok (And.intro hft (And.intro hfu hss))))))))
              clear hgr hSk hT hF0 hRn hrp hrn hok hft hmr hfu hss hm hx hbl1 hbl2 hRp
              go_upto_region 14 with fail
              clear k0 k1 f0 f1 Z0 hc0 hc1
              obtain ⟨w9, hw9⟩ : ∃ z, wr.alloc (.cells #[.int .i64 (x : Int), .int .i64 (y : Int)] 23) = z := ⟨_, rfl⟩
              obtain ⟨O9, P9⟩ := box1 rfl hw9
              rw [hw9]
              have hwz := P9.size
              obtain ⟨bx, hbx⟩ : ∃ z, wr.heap.size = z := ⟨_, rfl⟩
              rw [hbx] at O9 ⊢
              have hgz := HG.out.1.size
              have h8z := HA8.out.2.2.1.size
              have hih := ih (x, y) HG.out.2.2.2.2.2.2.2.1 HG.out.2.2.2.2.2.1 HG.out.2.2.2.2.2.2.1 nl HB.out.1 w9 Au nl.length cu k' (HG.out.2.2.2.2.1.on P9) (by omega) (fun g e => by have := HC.out.2.2.2.1 g e; omega) (hS _ _ _ HG.out.2.1 P9)
              obtain ⟨z0, z1⟩ := own2 O9
              obtain ⟨ux, hux⟩ : ∃ z, U v nl (x, y) = z := ⟨_, rfl⟩
              have hss := HG.out.2.2.2.2.2.2.2.2
              rw [hux] at hih hss
              unfold cbV at hih
              simp only at hih
              have HH := Lib.hid (And.intro hss P9)
              clear hss hux P9 O9 hw9 hbx
              obtain ⟨ret, hret⟩ : ∃ z, (b || decide (ux = 0)) = z := ⟨_, rfl⟩
              rw [hret] at hih
              have HRET := Lib.hid hret
              clear hret
              cases ret with
              | true =>
                go_wp2_with fail
                refine hih.mono ?_
                rintro e w10 ⟨rfl, G10, k2, S10, hk2⟩
                have HK := Lib.hid (And.intro G10 (And.intro S10 hk2))
                clear hih z0 z1 G10 S10 hk2
                go_wp2
                go_roundw
                case rel =>
                  refine ⟨j + 1, k2, by omega, by go_num, gr_trans (gr_trans HG.out.1 (gr_on HH.out.2) (.inl rfl)) HK.out.1 (.inl rfl), HK.out.2.1, fun e => ?_, fun e => ?_⟩
                  · rw [HK.out.2.2 e, HG.out.2.2.1 e, HH.out.1]; omega
                  · rw [HH.out.1, HG.out.2.2.2.1 e]
                    have := HRET.out
                    rw [e, Bool.false_or, decide_eq_true_eq] at this
                    omega
                case measure => simp [intOf] <;> omega
              | false =>
                go_wp2_with fail
                refine hih.mono ?_
                rintro e w10 ⟨rfl, G10, k2, S10, hk2⟩
                have HK := Lib.hid (And.intro G10 (And.intro S10 hk2))
                clear hih z0 z1 G10 S10 hk2
                go_wp2
                go_ret
                have hb0 : b = false ∧ ¬ ux = 0 := by
                  have := HRET.out
                  rw [Bool.or_eq_false_iff, decide_eq_false_iff_not] at this
                  exact this
                have hle := sumTo_le (fun p => U v nl p) ps (j + 1)
                rw [HH.out.1, ← HPS.out.2.2.2] at hle
                refine ⟨?_, gr_trans (gr_on HA8.out.2.2.1) (gr_trans (gr_trans HG.out.1 (gr_on HH.out.2) (.inl rfl)) HK.out.1 (.inl rfl)) (.inl rfl), k2, HK.out.2.1, fun e => by rw [hb0.1] at e; cases e⟩
                rw [hb0.1, decide_eq_false (show ¬ uu = 0 by omega)]
                rfl
            · obtain rfl : j = ps.length := by omega
              rw [sumTo_all, ← HPS.out.2.2.2] at hT hF0
              have HZ := Lib.hid (And.intro hgr (And.intro hSk (And.intro hT hF0)))
              clear hgr hSk hT hF0
              go_wp2
              go_ret
              refine ⟨?_, gr_trans (gr_on HA8.out.2.2.1) HZ.out.1 (.inl rfl), k', HZ.out.2.1, HZ.out.2.2.1⟩
              cases b with
              | true => rfl
              | false => rw [decide_eq_true (HZ.out.2.2.2 rfl)]; rfl
end Go.Proofs.Ythamjboppnlpdaa.Cu
