/-
  Trim of the specification: its nodes lie in new memory.
-/
import Derived.Test.YtmkogcaafkobaaaJGA
namespace Go.Proofs.Ytmkogcaafkobaaa.Fm
open Go.RowKit Go.Proofs.Ytmkogcaafkobaaa.Sb
set_option linter.unusedVariables false
set_option maxRecDepth 100000
set_option maxHeartbeats 16000000 in
theorem rtrim_new {N : Nat} (hN : N ≤ 30000) (w : World) (f : Fn) (hf : WFb N f) (A : Option Addr) (n c : Nat) (h : RdN w A n c (rawL f.nodes)) :
    Calls Try.prog 32 #[.agg #[.int .i64 (f.vars : Int), .slice A n c, .int .i64 (f.top : Int)]] w fun e w' => ∃ A' c', e = .returned (.agg #[.int .i64 (f.vars : Int), .slice A' (trim f).nodes.length c', .int .i64 ((trim f).top : Int)]) ∧ OutN w' w.heap.size (.slice A' (trim f).nodes.length c') (trim f).nodes ∧ On w w' := by
  have hn : f.nodes.length = n := by have := h.len; rwa [raw_len] at this
  have hcap := h.cap
  have hmax := h.max
  have hv := hf.1
  have hn128 := hf.2.1
  have htop := hf.2.2.2
  rw [hn] at hn128 htop
  obtain ⟨q, hq⟩ : ∃ q, w.heap.size = q := ⟨_, rfl⟩
  obtain ⟨w0, hw0⟩ : ∃ w0, (w.alloc (.cells #[.int .i64 (f.vars : Int), .slice A n c, .int .i64 (f.top : Int)] 24)).alloc (.cells #[.int .i64 0, .slice none 0 0, .int .i64 0] 24) = w0 := ⟨_, rfl⟩
  have O0 : Own w0 q 24 #[.int .i64 (f.vars : Int), .slice A n c, .int .i64 (f.top : Int)] := by rw [← hw0, ← hq]; exact (Own.new _ _ _).alloc _
  have O0' : Own w0 (q + 1) 24 #[.int .i64 0, .slice none 0 0, .int .i64 0] := by
    rw [← hw0, ← hq]
    have := Own.new (w.alloc (.cells #[.int .i64 (f.vars : Int), .slice A n c, .int .i64 (f.top : Int)] 24)) 24 #[.int .i64 0, .slice none 0 0, .int .i64 0]
    simpa using this
  have P0 : On w w0 := by rw [← hw0]; exact ((On.refl w).alloc _).alloc _
  have hB := rbelow_big hN w0 f hf A n c (h.on P0)
  rw [← hw0] at hB
  have HO := Lib.hid (And.intro (And.intro O0 O0') (And.intro P0 hw0))
  have HR := Lib.hid h
  have HN := Lib.hid hn
  have HF := Lib.hid hf
  clear h hn hf O0 O0' P0 hw0
  go_enter Try.func32, Try.ntmps32
  go_wp2_with fail
  refine hB.mono ?_
  rintro e wa ⟨gM, rfl, hM, hgM, Pa⟩
  rw [HO.out.2.2] at Pa
  clear hB
  have Qa := HO.out.1.1.on Pa
  have Qa' := HO.out.1.2.on Pa
  have hmk := run_mkI (f.vars + n) (by omega) wa
  obtain ⟨g, hg⟩ : ∃ g, wa.heap.size = g := ⟨_, rfl⟩
  obtain ⟨w2, hw2⟩ : ∃ w2, wa.alloc (.cells (VI (ints (List.replicate (f.vars + n) 0))).toArray 3) = w2 := ⟨_, rfl⟩
  have OG : Own w2 g 3 (VI (ints (List.replicate (f.vars + n) 0))).toArray := by rw [← hw2, ← hg]; exact Own.new _ _ _
  have P2 : On wa w2 := by rw [← hw2]; exact (On.refl wa).alloc _
  rw [hg, hw2, Int.natCast_add] at hmk
  have s0 := Qa.cell 0
  have s1 := Qa.cell 1
  have t0 := (Qa.on P2).cell 0
  simp at s0 s1 t0
  obtain ⟨b7, hb7⟩ : ∃ b7, w2.heap.size = b7 := ⟨_, rfl⟩
  obtain ⟨w4, hw4⟩ : ∃ w4, w2.alloc (.cells #[.int .i64 (f.vars : Int), .slice none 0 0, .int .i64 0] 24) = w4 := ⟨_, rfl⟩
  have O3 : Own w4 b7 24 #[.int .i64 (f.vars : Int), .slice none 0 0, .int .i64 0] := by rw [← hw4, ← hb7]; exact Own.new _ _ _
  have P4 : On w2 w4 := by rw [← hw4]; exact (On.refl w2).alloc _
  have hgb : g < b7 := by have := OG.lt; omega
  have u0 := ((Qa.on P2).on P4).cell 0
  simp at u0
  rw [← hw4] at u0
  have H2 := Lib.hid (And.intro (And.intro hM (HO.out.2.1.trans Pa)) (And.intro (And.intro Qa Qa') (And.intro (OG.on P4) (And.intro O3 (P2.trans P4)))))
  have HW4 := Lib.hid hw4
  have hmg : gM < g := by have := hM.lt; omega
  clear hM Pa Qa Qa' O3 OG P2 P4 hw4
  go_wp2
  rw [HW4.out]
  clear s0 s1 t0 u0 hmk HW4 hw2
  go_loopw [26] (fun i wr => ∃ t : Nat, t ≤ f.vars ∧ i = .int .i64 (t : Int) ∧ On wa wr ∧ Own wr g 3 (VI (ints (List.range t ++ List.replicate (f.vars + n - t) 0))).toArray ∧ Own wr b7 24 #[.int .i64 (f.vars : Int), .slice none 0 0, .int .i64 0]) (fun i _ => f.vars - (intOf i).toNat)
  case atStart => exact ⟨0, by omega, rfl, H2.out.2.2.2.2, H2.out.2.2.1, H2.out.2.2.2.1⟩
  case round =>
    obtain ⟨t, ht, rfl, hon, hG, h7⟩ := hrel
    by_cases hlt : t < f.vars
    · have d0 := own_atI hG (i := t) (by simp; omega)
      have d1 := hG.frozen t
      obtain ⟨k, hk⟩ : ∃ k, f.vars + n - t = k + 1 := ⟨f.vars + n - t - 1, by omega⟩
      have HG := Lib.hid (And.intro hG h7)
      clear hG h7
      go_wp2
      go_roundw
      case rel =>
        refine ⟨t + 1, by omega, by go_num, On.setCell hon (p := ⟨g, t, none⟩) (by show wa.heap.size ≤ g; omega) _, ?_, HG.out.2.far (by show b7 ≠ g; omega) _⟩
        exact own_setI HG.out.1 t rfl (by rw [hk, show f.vars + n - (t + 1) = k by omega]; exact range_set t k)
      case measure => simp [intOf] <;> omega
    · obtain ⟨vars, hvars⟩ : ∃ vars, f.vars = vars := ⟨_, rfl⟩
      have htv : t = f.vars := by omega
      have e0 : (List.range t ++ List.replicate (f.vars + n - t) 0) = (trTo f 0).1 := by
        rw [htv, trTo, HN.out, show f.vars + n - f.vars = n by omega]
      rw [e0] at hG
      have hvt : ¬ (t : Int) < (f.vars : Int) := by omega
      have hQ := H2.out.2.1.1.on hon
      have r1 := hQ.cell 1
      simp at r1
      have HG := Lib.hid (And.intro hG (And.intro h7 hon))
      clear hG h7 htv e0 hQ hvars
      go_wp2
      clear r1
      go_loopw [37] (fun i wx => ∃ (k : Nat) (AO : Option Addr) (cO : Nat), k ≤ n ∧ i = .int .i64 (k : Int) ∧ On wa wx ∧ Own wx g 3 (VI (ints (trTo f k).1)).toArray ∧ Own wx b7 24 #[.int .i64 (f.vars : Int), .slice AO (trTo f k).2.length cO, .int .i64 0] ∧ OutN wx (b7 + 1) (.slice AO (trTo f k).2.length cO) (trTo f k).2 ∧ b7 < wx.heap.size) (fun i _ => n - (intOf i).toNat)
      case atStart => exact ⟨0, none, 0, by omega, rfl, HG.out.2.2, HG.out.1, HG.out.2.1, OutN.nil _ _, HG.out.2.1.lt⟩
      case round =>
        obtain ⟨i, AO, cO, hi, rfl, hon2, hG, h7, hOut, hgs⟩ := hrel
        obtain ⟨wo, hwo⟩ : ∃ wo, wo = wr := ⟨_, rfl⟩
        subst hwo
        by_cases hlt2 : i < n
        · have honw := H2.out.1.2.trans hon2
          obtain ⟨ad, rfl, hb, P, m, k, hc0', hc1', hc2', hRA⟩ := HR.out.at_ i hlt2
          rw [raw_get] at hc0' hc1' hRA
          have hbk : (ad.add (i * 3)).block < w.heap.size := by rw [block_of_add]; exact hb
          have hc0 := (Below.cell honw hbk).trans hc0'
          have hc1 := (Below.cell honw (p := ⟨(ad.add (i * 3)).block, (ad.add (i * 3)).off + 1, none⟩) hbk).trans hc1'
          have hc2 := (Below.cell honw (p := ⟨(ad.add (i * 3)).block, (ad.add (i * 3)).off + 2, none⟩) hbk).trans hc2'
          have hm : (f.nd i).args.length = m := by have := VI_len hRA; unfold Nn.raw at this; rwa [ints_length] at this
          have hm16 : m ≤ 16 := by rw [← hm]; exact HF.out.len (by rw [HN.out]; exact hlt2)
          have harg : ∀ a ∈ (f.nd i).args, a < f.vars + i := fun a ha => HF.out.arg (by rw [HN.out]; exact hlt2) ha
          have hs : trTo f (i + 1) = if mk f (f.vars + i) = true then ((trTo f i).1.set (f.vars + i) (f.vars + (trTo f i).2.length), (trTo f i).2 ++ [renum (trTo f i).1 (f.nd i)]) else trTo f i := rfl
          obtain ⟨hl1, hl2⟩ := trTo_len f i
          rw [HN.out] at hl1
          obtain ⟨⟨num, out⟩, htr⟩ : ∃ z, trTo f i = z := ⟨_, rfl⟩
          rw [htr] at hs hl1 hl2 hG h7 hOut
          simp only at hs hl1 hl2 hG h7 hOut ⊢
          obtain ⟨x, hx⟩ : ∃ x, f.nd i = x := ⟨_, rfl⟩
          rw [hx] at hc0 hc1 hRA hm harg hs
          have c0 : wo.cell? (ad.add (i * 3)) = some (.int .i64 (x.kind : Int)) := hc0
          have c1 : wo.cell? ⟨(ad.add (i * 3)).block, (ad.add (i * 3)).off + 1, none⟩ = some (.int .i64 (x.k : Int)) := hc1
          obtain ⟨p, hp⟩ : ∃ p, wo.heap.size = p := ⟨_, rfl⟩
          obtain ⟨w5, hw5⟩ : ∃ w5, wo.alloc (.cells #[.int .i64 (x.kind : Int), .int .i64 (x.k : Int), .slice P m k] 41) = w5 := ⟨_, rfl⟩
          have ON : Own w5 p 41 #[.int .i64 (x.kind : Int), .int .i64 (x.k : Int), .slice P m k] := by rw [← hw5, ← hp]; exact Own.new _ _ _
          have P5 : On wo w5 := by rw [← hw5]; exact (On.refl wo).alloc _
          have m0 := own_atB (H2.out.1.1.on (hon2.trans P5)) (i := f.vars + i) (by rw [bel_len, HN.out]; omega)
          have r0 := (H2.out.2.1.1.on (hon2.trans P5)).cell 0
          simp at r0
          have hmk : (bel f).getD (f.vars + i) false = mk f (f.vars + i) := rfl
          rw [hmk] at m0
          clear hmk
          have HS := Lib.hid hs
          have HA := Lib.hid harg
          have hOut0 := hOut
          have H5 := Lib.hid (And.intro (hG.on P5) (And.intro (h7.on P5) (And.intro (hOut.on P5) (hon2.trans P5))))
          clear hc0 hc1 hc0' hc1' hc2' hbk hs harg htr hx hG h7 hOut P5 honw
          by_cases hb1 : mk f (f.vars + i) = true
          · rw [hb1] at m0
            have n2 := (own3 ON).2.2
            have hblk : ∀ b, (Value.slice AO out.length cO).ownBlock = some b → b7 + 1 ≤ b ∧ b < p := fun b hb => by
              obtain ⟨a1, a2, _⟩ := hOut0.blk b hb
              exact ⟨a1, by omega⟩
            have hbp : b7 < p := by omega
            have R5 : Rd w P m k (VI (ints x.args)) := hRA
            have H7 := Lib.hid (And.intro R5 ON)
            have HBL := Lib.hid hblk
            clear hRA R5 ON hblk hOut0
            have hcapA := H7.out.1.cap
            have hmaxA := H7.out.1.max
            have hargl : x.args.length = m := hm
            have HLA := Lib.hid hargl
            clear hargl hm
            go_wp2
            clear c0 c1 hc2 m0 r0 n2
            clear hw5
            go_loopw [53, 9] (fun j v wx => ∃ (s : Nat) (A9 : Option Addr) (c9 : Nat), s ≤ m ∧ j = .int .i64 (s : Int) ∧ v = .slice A9 s c9 ∧ wx.ownsRow w5.heap.size 3 1 (.slice A9 s c9) s (VI (ints ((x.args.take s).map fun a => num.getD a 0))) ∧ On w5 wx) (fun j _ _ => m - (intOf j).toNat)
            case atStart => exact ⟨0, none, 0, by omega, rfl, rfl, row_nil _ _ _, On.refl _⟩
            case round =>
              obtain ⟨s, A9, c9, hs9, rfl, rfl, hrow, hon9⟩ := hrel
              have HROW := Lib.hid hrow
              clear hrow
              by_cases hlt9 : s < m
              · have hl9 : s < x.args.length := by rw [HLA.out]; exact hlt9
                have hwr : On w wr := (H2.out.1.2.trans H5.out.2.2.2).trans hon9
                obtain ⟨ad9, rfl, hb9, hc9⟩ := VI_at (H7.out.1.on hwr) hlt9
                rw [ints_getD hl9] at hc9
                have ham := HA.out _ (getD_memN hl9)
                have htk := take_args hl9
                obtain ⟨a, hae⟩ : ∃ a, x.args.getD s 0 = a := ⟨_, rfl⟩
                rw [hae] at hc9 ham htk
                have g0 := own_atI (H5.out.1.on hon9) (i := a) (by omega)
                obtain ⟨z, hz⟩ : ∃ z, num.getD a 0 = z := ⟨_, rfl⟩
                rw [hz] at g0
                have hsz := hon9.size
                have HT := Lib.hid (And.intro htk hz)
                clear htk hz hae hl9 hwr
                go_wp2_with (at_builtin; refine wpList_app rfl (.tmp 57) (.tmp 62) 39 rfl w5.heap.size 3 (.int .i64 0) 8 Try.underlying39 infoi rfl (by decide) (.slice A9 s c9) _ (VI (ints ((x.args.take s).map fun a => num.getD a 0))) rfl (row_alloc HROW.out _) (some ⟨wr.heap.size, 0, none⟩) 1 1 [.int .i64 (z : Int)] rfl (rd_one _ _ _) (by simp [Value.oneCell']) (by omega) (by simp; omega) ?_; intro v' w10 hown10 hgrow10 _)
                obtain ⟨A10, c10, rfl⟩ := row_form hown10
                go_roundw
                case rel =>
                  refine ⟨s + 1, A10, c10, by omega, by go_num, rfl, ?_, on_row (hon9.alloc _) (row_alloc HROW.out _) (Nat.le_refl _) hgrow10⟩
                  rw [HT.out.1, List.map_append]
                  have e : VI (ints ((x.args.take s).map (fun a => num.getD a 0) ++ [a].map fun a => num.getD a 0)) = VI (ints ((x.args.take s).map fun a => num.getD a 0)) ++ [.int .i64 (z : Int)] := by
                    rw [← HT.out.2]; simp [VI, ints]
                  rw [e]; exact hown10
                case measure => simp [intOf] <;> omega
              · obtain rfl : s = m := by omega
                have etk : x.args.take s = x.args := List.take_of_length_le (by rw [HLA.out]; omega)
                have hr9 := HROW.out
                rw [etk] at hr9
                have hRow : wr.ownsRow (b7 + 1) 3 1 (.slice A9 s c9) s (VI (ints (renum num x).args)) := row_low hr9 (by have := H5.out.2.1.lt; omega)
                have G5 := H5.out.1.on hon9
                have S5 := H5.out.2.1.on hon9
                have U5 := H5.out.2.2.1.on hon9
                have N5 := H7.out.2.on hon9
                have P9 := H5.out.2.2.2.trans hon9
                have q0 := (own3 (H2.out.2.1.1.on P9)).1
                have b1 := (own3 S5).2.1
                have d0 := own_atI G5 (i := f.vars + i) (by omega)
                have d1 := G5.frozen (f.vars + i)
                obtain ⟨w6, hw6⟩ : ∃ w6, wr.setCell ⟨g, f.vars + i, none⟩ (.int .i64 ((f.vars : Int) + (out.length : Int))) = w6 := ⟨_, rfl⟩
                have G6 : Own w6 g 3 (VI (ints (num.set (f.vars + i) (f.vars + out.length)))).toArray := by rw [← hw6]; exact own_setI G5 (f.vars + i) (by omega) rfl
                have S6 : Own w6 b7 24 #[.int .i64 (f.vars : Int), .slice AO out.length cO, .int .i64 0] := by rw [← hw6]; exact S5.far (by show b7 ≠ g; omega) _
                have N6 : Own w6 p 41 #[.int .i64 (x.kind : Int), .int .i64 (x.k : Int), .slice P s k] := by rw [← hw6]; exact N5.far (by show p ≠ g; omega) _
                have U6 : OutN w6 (b7 + 1) (.slice AO out.length cO) out := by rw [← hw6]; exact U5.far (by show g < b7 + 1; omega) _
                have P6 : On wa w6 := by rw [← hw6]; exact On.setCell P9 (p := ⟨g, f.vars + i, none⟩) (by show wa.heap.size ≤ g; omega) _
                have R6 : w6.ownsRow (b7 + 1) 3 1 (.slice A9 s c9) s (VI (ints (renum num x).args)) := by
                  rw [← hw6]
                  exact row_by hRow (row := some g) ⟨rfl, rfl, rfl, by simp [World.setCell], fun kq _ hne => Below.heap_setCell _ _ _ _ (fun e => hne (by rw [e]))⟩ (fun b hb => by cases hb; exact .inl (by omega))
                obtain ⟨u0, u1, u2⟩ := own3 S6
                obtain ⟨v0, v1, v2⟩ := own3 N6
                have hol : out.length ≤ 1000000 := by omega
                have hbs : b7 + 1 ≤ w6.heap.size := by have := N6.lt; omega
                have hpost2 : ∀ o W2, (w6.alloc o).grownBy W2 (Value.slice AO out.length cO).ownBlock → W2.cell? ⟨b7, 1, none⟩ = some (.slice AO out.length cO) ∧ W2.frozen? ⟨b7, 1, none⟩ = false ∧ Own W2 b7 24 #[.int .i64 (f.vars : Int), .slice AO out.length cO, .int .i64 0] ∧ Own W2 g 3 (VI (ints (num.set (f.vars + i) (f.vars + out.length)))).toArray ∧ On wa W2 := fun o W2 hg2 => by
                  have a2 := own_by (S6.alloc o) hg2 (fun b hb => by have := (HBL.out b hb).1; omega)
                  have a3 := own_by (G6.alloc o) hg2 (fun b hb => by have := (HBL.out b hb).1; omega)
                  exact ⟨(own3 a2).2.1, a2.frozen 1, a2, a3, on_by (P6.alloc o) hg2 (fun b hb => by have := (HBL.out b hb).1; omega)⟩
                have HP2 := Lib.hid hpost2
                have H9 := Lib.hid (And.intro U6 R6)
                clear hRow G5 S5 U5 N5 P9 G6 S6 N6 U6 P6 R6 hpost2 hr9 etk
                go_wp2_with (at_builtin; refine wpList_app_nd rfl (.tmp 78) (.tmp 85) rfl (b7 + 1) (.slice AO out.length cO) out rfl (H9.out.1.on ((On.refl w6).alloc _)) w6.heap.size 1 rfl (renum num x) A9 s c9 (own3 (Own.new w6 _ _)).1 (own3 (Own.new w6 _ _)).2.1 (own3 (Own.new w6 _ _)).2.2 (row_alloc H9.out.2 _) hol (by simp; omega) ?_; intro v' w11 hout11 hgrow11 hor11; obtain ⟨A11, c11, rfl, hc11, hm11⟩ := hout11.form; obtain ⟨z1, z2, z3, z4, z5⟩ := HP2.out _ w11 hgrow11)
                have hlen : (out ++ [renum num x]).length = out.length + 1 := by rw [List.length_append]; rfl
                have z6 := z3.set_ 1 (.slice A11 (out.length + 1) c11)
                have ez : (#[Value.int .i64 (f.vars : Int), .slice AO out.length cO, .int .i64 0] : Array Value).setIfInBounds 1 (.slice A11 (out.length + 1) c11) = #[.int .i64 (f.vars : Int), .slice A11 (out.length + 1) c11, .int .i64 0] := rfl
                rw [ez] at z6
                have z7 := hout11.far (p := ⟨b7, 1, none⟩) (by show b7 < b7 + 1; omega) (.slice A11 (out.length + 1) c11)
                have z8 := z4.far (p := ⟨b7, 1, none⟩) (by show g ≠ b7; omega) (.slice A11 (out.length + 1) c11)
                have z9 := On.setCell z5 (p := ⟨b7, 1, none⟩) (by show wa.heap.size ≤ b7; omega) (.slice A11 (out.length + 1) c11)
                have hs := HS.out
                rw [if_pos hb1] at hs
                rw [hlen] at z7
                have HZ := Lib.hid (And.intro hs (And.intro z6 (And.intro z7 (And.intro z8 (And.intro z9 hlen)))))
                clear hs z6 z7 z8 z9 hlen ez z1 z2 z3 z4 z5 hor11 hgrow11 hout11 HP2
                go_wp2
                go_roundw
                case rel =>
                  refine ⟨i + 1, A11, c11, by omega, by go_num, HZ.out.2.2.2.2.1, ?_, ?_, ?_, HZ.out.2.1.lt⟩
                  · rw [HZ.out.1]; exact HZ.out.2.2.2.1
                  · rw [HZ.out.1]; show Own _ b7 _ #[_, .slice A11 (out ++ [renum num x]).length c11, _]; rw [HZ.out.2.2.2.2.2]; exact HZ.out.2.1
                  · rw [HZ.out.1]; show OutN _ _ (.slice A11 (out ++ [renum num x]).length c11) _; rw [HZ.out.2.2.2.2.2]; exact HZ.out.2.2.1
                case measure => simp [intOf] <;> omega
          · rw [Bool.eq_false_iff.2 hb1] at m0
            clear ON
            go_wp2
            go_roundw
            case rel =>
              have hs := HS.out
              rw [if_neg hb1] at hs
              refine ⟨i + 1, AO, cO, by omega, by go_num, H5.out.2.2.2, ?_, ?_, ?_, ?_⟩
              · rw [hs]; exact H5.out.1
              · rw [hs]; exact H5.out.2.1
              · rw [hs]; exact H5.out.2.2.1
              · exact H5.out.2.1.lt
            case measure => simp [intOf] <;> omega
        · obtain rfl : i = n := by omega
          have hfull : trTo f i = trTo f f.nodes.length := by rw [HN.out]
          have hQ := H2.out.2.1.1.on hon2
          have hq2 := H2.out.2.1.2.on hon2
          have r2 := hQ.cell 2
          simp at r2
          have hl1 := (trTo_len f i).1
          rw [HN.out] at hl1
          have m0 := own_atI hG (i := f.top) (by omega)
          have b0 := (own3 h7).1
          have b1 := (own3 h7).2.1
          have b2 := (own3 h7).2.2
          have bf2 := h7.frozen 2
          have hle := trTo_le f i f.top
          have ht : (trTo f i).1.getD f.top 0 = (trim f).top := by rw [hfull]; rfl
          have ho : (trTo f i).2 = (trim f).nodes := by rw [hfull]; rfl
          rw [ht] at m0 hle
          rw [ho] at hOut b1 h7
          obtain ⟨tp, htp⟩ : ∃ tp, (trim f).top = tp := ⟨_, rfl⟩
          rw [htp] at m0 hle
          have HTP := Lib.hid htp
          obtain ⟨no, hno⟩ : ∃ no, (trim f).nodes.length = no := ⟨_, rfl⟩
          have hOut2 := hOut
          rw [hno] at b1
          obtain ⟨w7, hw7⟩ : ∃ w7, wo.setCell ⟨b7, 2, none⟩ (.int .i64 (tp : Int)) = w7 := ⟨_, rfl⟩
          have O7 : Own w7 b7 24 #[.int .i64 (f.vars : Int), .slice AO no cO, .int .i64 (tp : Int)] := by
            have := h7.set_ 2 (.int .i64 (tp : Int))
            rw [hw7, hno] at this
            exact this
          have hqb7 : q + 1 < b7 := by have := H2.out.2.1.2.lt; omega
          have hQ7 : q + 1 ≠ b7 := by omega
          have OQ7 : Own w7 (q + 1) 24 #[.int .i64 0, .slice none 0 0, .int .i64 0] := by rw [← hw7]; exact hq2.far hQ7 _
          obtain ⟨c0, c1, c2⟩ := own3 O7
          obtain ⟨e0', e1', e2'⟩ := own3 OQ7
          have f0 := OQ7.frozen 0
          have f1 := OQ7.frozen 1
          have f2 := OQ7.frozen 2
          have OF := ((OQ7.set_ 0 (.int .i64 (f.vars : Int))).set_ 1 (.slice AO no cO)).set_ 2 (.int .i64 (tp : Int))
          obtain ⟨x0, x1, x2⟩ := own3 (show Own _ (q + 1) 24 #[.int .i64 (f.vars : Int), .slice AO no cO, .int .i64 (tp : Int)] from OF)
          have P7 : On w w7 := by rw [← hw7]; exact On.setCell (H2.out.1.2.trans hon2) (p := ⟨b7, 2, none⟩) (by show w.heap.size ≤ b7; omega) _
          have P8 : On w (((w7.setCell ⟨q + 1, 0, none⟩ (.int .i64 (f.vars : Int))).setCell ⟨q + 1, 1, none⟩ (.slice AO no cO)).setCell ⟨q + 1, 2, none⟩ (.int .i64 (tp : Int))) := On.setCell (On.setCell (On.setCell P7 (p := ⟨q + 1, 0, none⟩) (by show w.heap.size ≤ q + 1; omega) _) (p := ⟨q + 1, 1, none⟩) (by show w.heap.size ≤ q + 1; omega) _) (p := ⟨q + 1, 2, none⟩) (by show w.heap.size ≤ q + 1; omega) _
          have hqb : q + 1 < b7 + 1 := by have := H2.out.2.1.2.lt; omega
          have U7 : OutN w7 (b7 + 1) (.slice AO (trim f).nodes.length cO) (trim f).nodes := by rw [← hw7]; exact hOut2.far (p := ⟨b7, 2, none⟩) (by show b7 < b7 + 1; omega) _
          have U8 := (((U7.far (p := ⟨q + 1, 0, none⟩) hqb (.int .i64 (f.vars : Int))).far (p := ⟨q + 1, 1, none⟩) hqb (.slice AO no cO)).far (p := ⟨q + 1, 2, none⟩) hqb (.int .i64 (tp : Int))).low (show w.heap.size ≤ b7 + 1 by omega)
          have HU := Lib.hid (And.intro U8 (And.intro P8 hno))
          clear U7 U8 P7 P8 OF OQ7 O7 hOut2 hOut h7 hG hq2 hQ ho ht hno htp hl1 hfull
          go_wp2
          refine bodyPost_ret (v := .agg #[.int .i64 (f.vars : Int), .slice AO no cO, .int .i64 (tp : Int)]) (by simp [results, Try.results32, go_sem, x0, x1, x2]) rfl ⟨AO, cO, ?_, HU.out.1, HU.out.2.1⟩
          rw [HTP.out, HU.out.2.2]
end Go.Proofs.Ytmkogcaafkobaaa.Fm
