/-
  Package cube: outside.
-/
import Derived.Test.YthamjboppnlpdaaCz
import Derived.Test.YthamjboppnlpdaaDa
namespace Go.Proofs.Ythamjboppnlpdaa.Cu
open Go.RowKit Go.Proofs.Ythamjboppnlpdaa.Sb
set_option linter.unusedVariables false
set_option maxRecDepth 100000
theorem row_lit1 (w : World) (e : TypeId) (y n : Value) : (w.alloc (.cells #[y, n] e)).ownsRow w.heap.size e 2 (.slice (some ⟨w.heap.size, 0, none⟩) 1 1) 1 [y, n] :=
  ⟨rfl, .inr ⟨w.heap.size, 1, #[y, n], rfl, Nat.le_refl _, heap_alloc_new w _, Nat.le_refl _, by unfold maxLen; omega, rfl, rfl⟩⟩
theorem row_cut0 {w : World} {base s : Nat} {e : TypeId} {A : Option Addr} {n c : Nat} {xs : List Value} (h : w.ownsRow base e s (.slice A n c) n xs) : w.ownsRow base e s (.slice A 0 c) 0 [] := by
  refine ⟨by simp, ?_⟩
  rcases h.2 with ⟨hv, h0⟩ | ⟨g, cap, cur, hv, hb, hh, hcap, hmax, hsz, htake⟩
  · injection hv with h1 h2 h3
    subst h1; subst h3
    exact .inl ⟨rfl, rfl⟩
  · injection hv with h1 h2 h3
    subst h1; subst h3
    exact .inr ⟨g, c, cur, rfl, hb, hh, Nat.zero_le _, hmax, hsz, by simp⟩
theorem owns_form {w : World} {base s : Nat} {e : TypeId} {v : Value} {n : Nat} {xs : List Value} (h : w.ownsRow base e s v n xs) : ∃ A c, v = .slice A n c ∧ n ≤ c ∧ c ≤ 9223372036854775807 := by
  rcases h.2 with ⟨rfl, h0⟩ | ⟨g, cap, cur, rfl, _, _, hcap, hmax, _⟩
  · exact ⟨none, 0, by rw [h0], by omega, by omega⟩
  · exact ⟨_, _, rfl, hcap, by unfold maxLen at hmax; omega⟩
theorem ownblk_len (A : Option Addr) (n m c : Nat) : (Value.slice A n c).ownBlock = (Value.slice A m c).ownBlock := by cases A <;> rfl
theorem stepL_nil (d : Cb) : stepL [] d = [] := rfl
set_option maxHeartbeats 32000000 in
theorem outside_ok (w : World) (c : Cb) (hc : OkC c) (A : Option Addr) (n cc : Nat) (l : List Cb) (h : RdC w A n cc (zl l)) (hl : ∀ x ∈ l, OkC x) (hn : n ≤ 2000) :
    Calls Try.prog 53 #[cbV c, .slice A n cc] w fun e w' => ((∃ (ps : List Cb) (A' : Option Addr) (m : Nat), outL c l = some ps ∧ e = .returned (.tuple #[.slice A' ps.length m, .bool true]) ∧ RdC w' A' ps.length m (zl ps)) ∨ (outL c l = none ∧ e = .returned (.tuple #[.slice none 0 0, .bool false]))) ∧ On w w' := by
  have hnl : l.length = n := by have := h.len; rwa [zl_len] at this
  have hcap := h.cap
  have hmax := h.max
  obtain ⟨oo, hoo⟩ : ∃ z, outL c l = z := ⟨_, rfl⟩
  rw [hoo]
  obtain ⟨q, hq⟩ : ∃ q, w.heap.size = q := ⟨_, rfl⟩
  obtain ⟨c1, c2⟩ := c
  obtain ⟨w0, hw0⟩ : ∃ w0, w.alloc (.cells #[.int .i64 (c1 : Int), .int .i64 (c2 : Int)] 23) = w0 := ⟨_, rfl⟩
  obtain ⟨O0, P0⟩ := box1 hq hw0
  have hs0 : w0.heap.size = q + 1 := by rw [← hw0, ← hq]; simp
  obtain ⟨r0, r1⟩ := own2 O0
  obtain ⟨w1, hw1⟩ : ∃ z, w0.alloc (.cells #[.int .i64 (c1 : Int), .int .i64 (c2 : Int)] 23) = z := ⟨_, rfl⟩
  have R1 : w1.ownsRow w0.heap.size 23 2 (.slice (some ⟨w0.heap.size, 0, none⟩) 1 1) 1 (CV (zl [(c1, c2)])) := by rw [← hw1]; exact row_lit1 w0 _ _ _
  have P1 : On w0 w1 := by rw [← hw1]; exact (On.refl w0).alloc _
  have hs1 : w1.heap.size = w0.heap.size + 1 := by rw [← hw1]; simp
  obtain ⟨w2, hw2⟩ : ∃ z, w1.alloc (.cells #[] 23) = z := ⟨_, rfl⟩
  have R2 : w2.ownsRow w1.heap.size 23 2 (.slice (some ⟨w1.heap.size, 0, none⟩) 0 0) 0 [] := by rw [← hw2]; exact row_lit0 w1 _ _
  have P2 : On w1 w2 := by rw [← hw2]; exact (On.refl w1).alloc _
  rw [hs1] at R2
  have H2 := Lib.hid (And.intro (owns_on R1 P2) (And.intro (owns_low R2 (show w0.heap.size ≤ w0.heap.size + 1 by omega)) (And.intro (P1.trans P2) (And.intro P0 (And.intro hs0 hs1)))))
  have HR := Lib.hid (And.intro (h.on P0) (And.intro hnl (And.intro hl (And.intro hc hoo))))
  clear R1 R2 P1 P2 h hnl hl hc hoo P0 O0 hs0
  unfold cbV
  simp only
  go_enter Try.func53, Try.ntmps53
  subst hq
  go_wp2
  clear r0 r1 hw1 hw2
  go_loopw [17, 6, 7] (fun i vp vn wr => ∃ (k : Nat) (ps : List Cb) (n2 : Nat) (xs2 : List Value), k ≤ n ∧ i = .int .i64 (k : Int) ∧ outL (c1, c2) (l.take k) = some ps ∧ n2 ≤ 100000 ∧ wr.ownsRow w0.heap.size 23 2 vp ps.length (CV (zl ps)) ∧ wr.ownsRow w0.heap.size 23 2 vn n2 xs2 ∧ (∀ b, vp.ownBlock = some b → vn.ownBlock ≠ some b) ∧ On w0 wr) (fun i _ _ _ => n - (intOf i).toNat)
  case atStart => exact ⟨0, [(c1, c2)], 0, [], by omega, rfl, rfl, by omega, H2.out.1, H2.out.2.1, fun b e e2 => by simp [Value.ownBlock] at e e2; omega, H2.out.2.2.1⟩
  case round =>
    obtain ⟨k, ps, n2, xs2, hk, rfl, hout, hn2, hrp, hrn, hdis, hon⟩ := hrel
    obtain ⟨wo, hwo⟩ : ∃ z, z = wr := ⟨_, rfl⟩
    subst hwo
    obtain ⟨Ap, cp, rfl, hpc, hpm⟩ := owns_form hrp
    obtain ⟨An, cn, rfl, hnc, hnm⟩ := owns_form hrn
    have hpl := outL_len hout
    by_cases hlt : k < n
    · have hkl : k < l.length := by rw [HR.out.2.1]; exact hlt
      have hm := HR.out.2.2.1 _ (getD_mem (d := (0, 0)) hkl)
      have hos := outL_take (c1, c2) hkl
      obtain ⟨ad, rfl, hb, hc0, hc1⟩ := (HR.out.1.on hon).at_ hlt
      rw [zl_cell] at hc0 hc1
      simp only at hc0 hc1
      obtain ⟨⟨d1, d2⟩, hd⟩ : ∃ z, l.getD k (0, 0) = z := ⟨_, rfl⟩
      rw [hd] at hc0 hc1 hm hos
      simp only at hc0 hc1
      rw [hout] at hos
      have hpok := outL_ok HR.out.2.2.2.1 (fun d hd => HR.out.2.2.1 d (List.mem_of_mem_take hd)) hout
      have Z0 : Own (wo.alloc (.cells #[.int .i64 0, .int .i64 0] 23)) wo.heap.size 23 #[.int .i64 0, .int .i64 0] := Own.new _ _ _
      obtain ⟨k0, k1⟩ := own2 Z0
      have f0 := Z0.frozen 0
      have f1 := Z0.frozen 1
      have hdis0 : ∀ b, (Value.slice Ap ps.length cp).ownBlock = some b → (Value.slice An 0 cn).ownBlock ≠ some b := fun b e => by rw [ownblk_len An 0 n2 cn]; exact hdis b e
      have HX := Lib.hid (And.intro hrp (And.intro (row_cut0 hrn) (And.intro hdis0 (And.intro hon (And.intro hm (And.intro hos hpok))))))
      clear hrp hrn hdis hdis0 hon hm hos hpok hd hkl hout
      go_upto_region 5 with fail
      clear k0 k1 f0 f1 Z0 hc0 hc1
      obtain ⟨w3, hw3⟩ : ∃ z, wo.alloc (.cells #[.int .i64 (d1 : Int), .int .i64 (d2 : Int)] 23) = z := ⟨_, rfl⟩
      obtain ⟨O3, P3⟩ := box1 rfl hw3
      rw [hw3]
      have hbp : ∀ b, (Value.slice An 0 cn).ownBlock = some b → b ≠ wo.heap.size := fun b e => by have := (owns_blk HX.out.2.1 b e).2; omega
      obtain ⟨bd, hbd⟩ : ∃ z, wo.heap.size = z := ⟨_, rfl⟩
      rw [hbd] at O3 hbp ⊢
      have H3 := Lib.hid (And.intro O3 (And.intro (owns_on HX.out.1 P3) (And.intro (owns_on HX.out.2.1 P3) (And.intro (HX.out.2.2.2.1.trans P3) (And.intro HX.out.2.2.1 (And.intro hbp hbd))))))
      clear O3 P3 hw3 hbd hbp
      go_wp2
      go_loopw [25, 7] (fun i vn wx => ∃ (t : Nat), t ≤ ps.length ∧ i = .int .i64 (t : Int) ∧ wx.ownsRow w0.heap.size 23 2 vn (stepL (ps.take t) (d1, d2)).length (CV (zl (stepL (ps.take t) (d1, d2)))) ∧ wx.ownsRow w0.heap.size 23 2 (.slice Ap ps.length cp) ps.length (CV (zl ps)) ∧ (∀ b, (Value.slice Ap ps.length cp).ownBlock = some b → vn.ownBlock ≠ some b) ∧ (∀ b, vn.ownBlock = some b → b ≠ bd) ∧ Own wx bd 23 #[.int .i64 (d1 : Int), .int .i64 (d2 : Int)] ∧ On w0 wx) (fun i _ _ => ps.length - (intOf i).toNat)
      case atStart => exact ⟨0, by omega, rfl, H3.out.2.2.1, H3.out.2.1, H3.out.2.2.2.2.1, H3.out.2.2.2.2.2.1, H3.out.1, H3.out.2.2.2.1⟩
      case round =>
        obtain ⟨t, ht, rfl, hrn, hrp, hdis, hbn, hO, hon⟩ := hrel
        have hsl := stepL_le (ps.take t) (d1, d2)
        rw [List.length_take] at hsl
        have hml := Nat.min_le_right t ps.length
        by_cases hlt2 : t < ps.length
        · have hpt := HX.out.2.2.2.2.2.2 _ (getD_mem (d := (0, 0)) hlt2)
          have hst := stepL_take (d1, d2) hlt2
          obtain ⟨ad2, e2, hb2, hc0, hc1⟩ := (rdc_of_row hrp (zl_len ps)).at_ hlt2
          cases e2
          rw [zl_cell] at hc0 hc1
          simp only at hc0 hc1
          obtain ⟨⟨p1, p2⟩, hp⟩ : ∃ z, ps.getD t (0, 0) = z := ⟨_, rfl⟩
          rw [hp] at hc0 hc1 hpt hst
          simp only at hc0 hc1
          obtain ⟨sl, hsle⟩ : ∃ z, stepL (ps.take t) (d1, d2) = z := ⟨_, rfl⟩
          rw [hsle] at hst hrn hsl
          obtain ⟨A2, c2', rfl, hnc2, hnm2⟩ := owns_form hrn
          have Z0 : Own (wr.alloc (.cells #[.int .i64 0, .int .i64 0] 23)) wr.heap.size 23 #[.int .i64 0, .int .i64 0] := Own.new _ _ _
          obtain ⟨k0, k1⟩ := own2 Z0
          have f0 := Z0.frozen 0
          have f1 := Z0.frozen 1
          have HY := Lib.hid (And.intro hrn (And.intro hrp (And.intro hdis (And.intro hbn (And.intro hO (And.intro hon (And.intro hpt hst)))))))
          clear hrn hrp hdis hbn hO hon hpt hst hp hsle
          go_upto_region 9 with fail
          clear k0 k1 f0 f1 Z0 hc0 hc1
          obtain ⟨w4, hw4⟩ : ∃ z, wr.alloc (.cells #[.int .i64 (p1 : Int), .int .i64 (p2 : Int)] 23) = z := ⟨_, rfl⟩
          obtain ⟨O4, P4⟩ := box1 rfl hw4
          rw [hw4]
          have hz4 := P4.size
          obtain ⟨bx, hbx⟩ : ∃ z, wr.heap.size = z := ⟨_, rfl⟩
          rw [hbx] at O4 hz4 ⊢
          have hzo := HY.out.2.2.2.2.2.1.size
          have hzb := HY.out.2.2.2.2.1.lt
          have hMi := minus_ok w4 (p1, p2) (d1, d2) HY.out.2.2.2.2.2.2.1 HX.out.2.2.2.2.1 w0.heap.size (.slice A2 sl.length c2') sl.length (zl sl) (owns_on HY.out.1 P4) (by omega) (by omega)
          obtain ⟨ml, hml2⟩ : ∃ z, minusL (p1, p2) (d1, d2) = z := ⟨_, rfl⟩
          have hst := HY.out.2.2.2.2.2.2.2
          rw [hml2] at hMi hst
          have H4 := Lib.hid (And.intro hst (And.intro O4 (And.intro P4 hbx)))
          obtain ⟨z0, z1⟩ := own2 O4
          obtain ⟨y0, y1⟩ := own2 (HY.out.2.2.2.2.1.on P4)
          unfold cbV at hMi
          simp only at hMi
          clear hst hml2 O4 P4 hw4
          go_wp2_with fail
          refine hMi.mono ?_
          rintro e w5 ⟨v', rfl, hrow, hgr, hbl⟩
          clear hMi z0 z1 y0 y1
          have hnv : ∀ b, (Value.slice A2 sl.length c2').ownBlock = some b → b ≠ bd := HY.out.2.2.2.1
          have hbase : ∀ b, (Value.slice A2 sl.length c2').ownBlock = some b → w0.heap.size ≤ b := fun b e => (owns_blk HY.out.1 b e).1
          have O5 := own_gr (HY.out.2.2.2.2.1.on H4.out.2.2.1) hgr hnv
          have R5 := owns_gr (owns_on HY.out.2.1 H4.out.2.2.1) hgr (fun b e e2 => HY.out.2.2.1 b e2 e)
          have P5 := on_gr (HY.out.2.2.2.2.2.1.trans H4.out.2.2.1) hgr hbase
          have hb5 : ∀ b, v'.ownBlock = some b → b ≠ bd := fun b e => by
            rcases hbl with h | ⟨g, h, hg⟩
            · rw [h] at e; exact hnv b e
            · rw [h] at e; injection e with e; omega
          have hd5 : ∀ b, (Value.slice (some ad2) ps.length cp).ownBlock = some b → v'.ownBlock ≠ some b := fun b e e2 => by
            rcases hbl with h | ⟨g, h, hg⟩
            · rw [h] at e2; exact HY.out.2.2.1 b e e2
            · have := (owns_blk HY.out.2.1 b e).2
              have := H4.out.2.2.1.size
              rw [h] at e2; injection e2 with e2; omega
          have H5 := Lib.hid (And.intro hrow (And.intro R5 (And.intro hd5 (And.intro hb5 (And.intro O5 P5)))))
          clear hrow hgr hbl hnv hbase O5 R5 P5 hb5 hd5
          go_wp2
          go_roundw
          case rel =>
            refine ⟨t + 1, by omega, by go_num, ?_, H5.out.2.1, H5.out.2.2.1, H5.out.2.2.2.1, H5.out.2.2.2.2.1, H5.out.2.2.2.2.2⟩
            rw [H4.out.1, List.length_append, zl_app]
            exact H5.out.1
          case measure => simp [intOf] <;> omega
        · obtain rfl : t = ps.length := by omega
          have et : ps.take ps.length = ps := List.take_length
          rw [et] at hrn hsl
          have hos := HX.out.2.2.2.2.2.1
          obtain ⟨sl, hsle⟩ : ∃ z, stepL ps (d1, d2) = z := ⟨_, rfl⟩
          unfold outS at hos
          simp only at hos
          rw [hsle] at hrn hsl hos
          obtain ⟨A2, c2', rfl, hnc2, hnm2⟩ := owns_form hrn
          have HY := Lib.hid (And.intro hrn (And.intro hrp (And.intro hdis (And.intro hon hos))))
          clear hrn hrp hdis hbn hO hon hos et hsle
          by_cases hbig : 1024 < sl.length
          · have hos := HY.out.2.2.2.2
            rw [if_pos hbig] at hos
            have hno := outL_none hos
            rw [HR.out.2.2.2.2] at hno
            have HN := Lib.hid hno
            clear hos hno
            go_wp2
            go_ret2
            exact ⟨.inr ⟨HN.out, rfl⟩, H2.out.2.2.2.1.trans HY.out.2.2.2.1⟩
          · have hos := HY.out.2.2.2.2
            rw [if_neg hbig] at hos
            have HN := Lib.hid hos
            clear hos
            go_wp2
            go_roundw
            case rel =>
              refine ⟨k + 1, sl, ps.length, CV (zl ps), by omega, by go_num, HN.out, by omega, HY.out.1, HY.out.2.1, fun b e e2 => HY.out.2.2.1 b e2 e, HY.out.2.2.2.1⟩
            case measure => simp [intOf] <;> omega
    · obtain rfl : k = n := by omega
      have et : l.take k = l := List.take_of_length_le (by rw [HR.out.2.1]; omega)
      rw [et, HR.out.2.2.2.2] at hout
      have HF := Lib.hid (And.intro (rdc_of_row hrp (zl_len ps)) (And.intro hout (H2.out.2.2.2.1.trans hon)))
      clear hrp hrn hdis hon hout
      go_wp2
      go_ret2
      exact ⟨.inl ⟨ps, Ap, cp, HF.out.2.1, rfl, HF.out.1⟩, HF.out.2.2⟩
end Go.Proofs.Ythamjboppnlpdaa.Cu
