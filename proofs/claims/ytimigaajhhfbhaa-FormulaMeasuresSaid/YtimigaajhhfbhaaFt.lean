/-
  Trim of the program.
-/
import Derived.Test.YtimigaajhhfbhaaFr
import Derived.Deep.RegionHeld3
namespace Go.Proofs.Ytimigaajhhfbhaa.Fm
open Go.RowKit Go.Proofs.Ytimigaajhhfbhaa.Sb
set_option linter.unusedVariables false
set_option maxRecDepth 100000
/-- a node with new numbers of its arguments -/
def renum (num : List Nat) (x : Nn) : Nn := ⟨x.kind, x.k, x.args.map fun a => num.getD a 0⟩
/-- the new numbers and the new nodes after i nodes -/
def trTo (f : Fn) : Nat → List Nat × List Nn
  | 0 => (List.range f.vars ++ List.replicate f.nodes.length 0, [])
  | i + 1 => if mk f (f.vars + i) = true then ((trTo f i).1.set (f.vars + i) (f.vars + (trTo f i).2.length), (trTo f i).2 ++ [renum (trTo f i).1 (f.nd i)]) else trTo f i
def trim (f : Fn) : Fn := ⟨f.vars, (trTo f f.nodes.length).2, (trTo f f.nodes.length).1.getD f.top 0⟩
theorem range_set (t k : Nat) : (List.range t ++ List.replicate (k + 1) 0).set t t = List.range (t + 1) ++ List.replicate k 0 := by
  have := set_rep (List.range t) t 0 k
  rw [List.length_range] at this
  rw [this, List.range_succ]
theorem trTo_len (f : Fn) (i : Nat) : (trTo f i).1.length = f.vars + f.nodes.length ∧ (trTo f i).2.length ≤ i := by
  induction i with
  | zero => simp [trTo]
  | succ i ih =>
    rw [trTo]
    split
    · simp [ih.1]; omega
    · omega
theorem trTo_le (f : Fn) (i : Nat) : ∀ a, (trTo f i).1.getD a 0 ≤ f.vars + i := by
  induction i with
  | zero =>
    intro a
    rw [trTo]
    simp only
    rw [getD_rep, List.getD_eq_getElem?_getD]
    by_cases h : a < f.vars
    · rw [List.getElem?_range h]; simp; omega
    · rw [List.getElem?_eq_none (by simp; omega)]; simp
  | succ i ih =>
    intro a
    have h2 := (trTo_len f i).2
    rw [trTo]
    split
    · simp only
      rw [getD_set]
      split
      · omega
      · have := ih a; omega
    · have := ih a; omega
/-- the number of a node is set before its arguments are renumbered: that turns nothing -/
theorem renum_set (num : List Nat) (p v : Nat) (args : List Nat) (h : ∀ a ∈ args, a < p) : (args.map fun a => (num.set p v).getD a 0) = args.map fun a => num.getD a 0 := by
  refine List.map_congr_left fun a ha => ?_
  rw [getD_set, if_neg]
  have := h a ha
  omega
theorem own3 {w : World} {p : Nat} {t : TypeId} {a b c : Value} (h : Own w p t #[a, b, c]) : w.cell? ⟨p, 0, none⟩ = some a ∧ w.cell? ⟨p, 1, none⟩ = some b ∧ w.cell? ⟨p, 2, none⟩ = some c := by
  refine ⟨?_, ?_, ?_⟩
  · rw [h.cell]; rfl
  · rw [h.cell]; rfl
  · rw [h.cell]; rfl
theorem own_by {w w' : World} {g : Nat} {t : TypeId} {cur : Array Value} {row : Option Nat} (h : Own w g t cur) (k : w.grownBy w' row) (hr : ∀ b, row = some b → b ≠ g) : Own w' g t cur :=
  (k.block g h.lt (fun e => hr g e.symm rfl)).trans h
theorem on_by {a b c : World} {row : Option Nat} (h : On a b) (k : b.grownBy c row) (hr : ∀ g, row = some g → a.heap.size ≤ g) : On a c := Below.grown h k h.size (fun g e => hr g e)
set_option maxHeartbeats 16000000 in
theorem trim_ok (w : World) (f : Fn) (hf : WF f) (A : Option Addr) (n c : Nat) (h : RdN w A n c (rawL f.nodes)) :
    Calls Try.prog 22 #[.agg #[.int .i64 (f.vars : Int), .slice A n c, .int .i64 (f.top : Int)]] w fun e w' => ∃ A' c', e = .returned (.tuple #[.agg #[.int .i64 (f.vars : Int), .slice A' (trim f).nodes.length c', .int .i64 ((trim f).top : Int)], .nilIface]) ∧ RdN w' A' (trim f).nodes.length c' (rawL (trim f).nodes) ∧ On w w' := by
  have hn : f.nodes.length = n := by have := h.len; rwa [raw_len] at this
  have hcap := h.cap
  have hmax := h.max
  have hv := hf.1
  have hn128 := hf.2.1
  have htop := hf.2.2.2
  rw [hn] at hn128 htop
  obtain ⟨q, hq⟩ : ∃ q, w.heap.size = q := ⟨_, rfl⟩
  obtain ⟨w0, hw0⟩ : ∃ w0, (w.alloc (.cells #[.int .i64 (f.vars : Int), .slice A n c, .int .i64 (f.top : Int)] 24)).alloc (.cells #[.int .i64 0, .slice none 0 0, .int .i64 0] 24) = w0 := ⟨_, rfl⟩
  have O0 : Own w0 q 24 #[.int .i64 (f.vars : Int), .slice A n c, .int .i64 (f.top : Int)] := by rw [← hw0, ← hq]; exact (Own.new _ _ _).alloc _
  have O0' : Own w0 (q + 1) 24 #[.int .i64 0, .slice none 0 0, .int .i64 0] := by
    rw [← hw0, ← hq]
    have := Own.new (w.alloc (.cells #[.int .i64 (f.vars : Int), .slice A n c, .int .i64 (f.top : Int)] 24)) 24 #[.int .i64 0, .slice none 0 0, .int .i64 0]
    simpa using this
  have P0 : On w w0 := by rw [← hw0]; exact ((On.refl w).alloc _).alloc _
  have hC := check_any w0 (f.vars : Int) (f.top : Int) A n c _ (h.on P0) (by unfold I64; omega) (by unfold I64; omega)
  rw [chk_ok hf, errV_zero, ← hw0] at hC
  have hB := fun W (k : On w W) => below_ok W f hf A n c (h.on k)
  have HO := Lib.hid (And.intro (And.intro O0 O0') (And.intro P0 hw0))
  have HR := Lib.hid h
  have HN := Lib.hid hn
  have HF := Lib.hid hf
  clear h hn hf O0 O0' P0 hw0
  go_enter Try.func22, Try.ntmps22
  go_wp2_with fail
  refine hC.mono ?_
  rintro e w1 ⟨rfl, P1⟩
  rw [HO.out.2.2] at P1
  clear hC
  have O1 := HO.out.1.1.on P1
  have r0 := O1.cell 0
  have r1 := O1.cell 1
  have r2 := O1.cell 2
  simp at r0 r1 r2
  have P01 := HO.out.2.1.trans P1
  have hB2 := hB w1 P01
  have H1 := Lib.hid (And.intro O1 (And.intro P01 (HO.out.1.2.on P1)))
  clear O1 hB P1 P01
  go_wp2_with fail
  refine hB2.mono ?_
  rintro e w2 ⟨B, d, rfl, hM, P2⟩
  have dcap := hM.cap
  have dmax := hM.max
  have Q2 := H1.out.1.on P2
  have Q2' := H1.out.2.2.on P2
  obtain ⟨b7, hb7⟩ : ∃ b7, w2.heap.size = b7 := ⟨_, rfl⟩
  obtain ⟨w3, hw3⟩ : ∃ w3, w2.alloc (.cells #[.int .i64 (f.vars : Int), .slice none 0 0, .int .i64 0] 24) = w3 := ⟨_, rfl⟩
  have O3 : Own w3 b7 24 #[.int .i64 (f.vars : Int), .slice none 0 0, .int .i64 0] := by rw [← hw3, ← hb7]; exact Own.new _ _ _
  have P3 : On w2 w3 := by rw [← hw3]; exact (On.refl w2).alloc _
  have hmk := run_mkI (f.vars + n) (by omega) w3
  obtain ⟨g, hg⟩ : ∃ g, w3.heap.size = g := ⟨_, rfl⟩
  obtain ⟨w4, hw4⟩ : ∃ w4, w3.alloc (.cells (VI (ints (List.replicate (f.vars + n) 0))).toArray 3) = w4 := ⟨_, rfl⟩
  have OG : Own w4 g 3 (VI (ints (List.replicate (f.vars + n) 0))).toArray := by rw [← hw4, ← hg]; exact Own.new _ _ _
  have P4 : On w3 w4 := by rw [← hw4]; exact (On.refl w3).alloc _
  rw [hg, hw4, Int.natCast_add] at hmk
  have hgb : b7 < g := by have := O3.lt; omega
  have s0 := Q2.cell 0
  have t0 := (Q2.on P3).cell 0
  have t1 := (Q2.on P3).cell 1
  have u0 := ((Q2.on P3).on P4).cell 0
  simp at s0 t0 t1 u0
  rw [← hw3] at hmk t0 t1
  have H2 := Lib.hid (And.intro (And.intro hM (H1.out.2.1.trans P2)) (And.intro (And.intro Q2 Q2') (And.intro OG (And.intro (O3.on P4) (P3.trans P4)))))
  have HW3 := Lib.hid hw3
  clear hM P2 hB2 Q2 Q2' O3 P3 OG P4 hw3
  go_wp2
  clear r0 r1 r2 s0 t0 t1 u0 hmk hw4 HW3
  go_loopw [35] (fun i wr => ∃ t : Nat, t ≤ f.vars ∧ i = .int .i64 (t : Int) ∧ On w2 wr ∧ Own wr g 3 (VI (ints (List.range t ++ List.replicate (f.vars + n - t) 0))).toArray ∧ Own wr b7 24 #[.int .i64 (f.vars : Int), .slice none 0 0, .int .i64 0]) (fun i _ => f.vars - (intOf i).toNat)
  case atStart => exact ⟨0, by omega, rfl, H2.out.2.2.2.2, H2.out.2.2.1, H2.out.2.2.2.1⟩
  case round =>
    obtain ⟨t, ht, rfl, hon, hG, h7⟩ := hrel
    by_cases hlt : t < f.vars
    · have d0 := own_atI hG (i := t) (by simp; omega)
      have d1 := hG.frozen t
      obtain ⟨k, hk⟩ : ∃ k, f.vars + n - t = k + 1 := ⟨f.vars + n - t - 1, by omega⟩
      have HG := Lib.hid (And.intro hG h7)
      clear hG h7
      go_wp2
      go_roundw
      case rel =>
        refine ⟨t + 1, by omega, by go_num, On.setCell hon (p := ⟨g, t, none⟩) (by show w2.heap.size ≤ g; omega) _, ?_, HG.out.2.far (by show b7 ≠ g; omega) _⟩
        exact own_setI HG.out.1 t rfl (by rw [hk, show f.vars + n - (t + 1) = k by omega]; exact range_set t k)
      case measure => simp [intOf] <;> omega
    · obtain ⟨vars, hvars⟩ : ∃ vars, f.vars = vars := ⟨_, rfl⟩
      have htv : t = f.vars := by omega
      have e0 : (List.range t ++ List.replicate (f.vars + n - t) 0) = (trTo f 0).1 := by
        rw [htv, trTo, HN.out, show f.vars + n - f.vars = n by omega]
      rw [e0] at hG
      have hvt : ¬ (t : Int) < (f.vars : Int) := by omega
      have hQ := H2.out.2.1.1.on hon
      have r1 := hQ.cell 1
      simp at r1
      have HG := Lib.hid (And.intro hG (And.intro h7 hon))
      clear hG h7 htv e0 hQ hvars
      go_wp2
      clear r1
      go_loopw [46] (fun i wx => ∃ (k : Nat) (AO : Option Addr) (cO : Nat), k ≤ n ∧ i = .int .i64 (k : Int) ∧ On w2 wx ∧ Own wx g 3 (VI (ints (trTo f k).1)).toArray ∧ Own wx b7 24 #[.int .i64 (f.vars : Int), .slice AO (trTo f k).2.length cO, .int .i64 0] ∧ OutN wx (g + 1) (.slice AO (trTo f k).2.length cO) (trTo f k).2 ∧ g < wx.heap.size) (fun i _ => n - (intOf i).toNat)
      case atStart => exact ⟨0, none, 0, by omega, rfl, HG.out.2.2, HG.out.1, HG.out.2.1, OutN.nil _ _, HG.out.1.lt⟩
      case round =>
        obtain ⟨i, AO, cO, hi, rfl, hon2, hG, h7, hOut, hgs⟩ := hrel
        obtain ⟨wo, hwo⟩ : ∃ wo, wo = wr := ⟨_, rfl⟩
        subst hwo
        by_cases hlt2 : i < n
        · have honw := H2.out.1.2.trans hon2
          obtain ⟨ad, rfl, hb, P, m, k, hc0', hc1', hc2', hRA⟩ := HR.out.at_ i hlt2
          rw [raw_get] at hc0' hc1' hRA
          have hbk : (ad.add (i * 3)).block < w.heap.size := by rw [block_of_add]; exact hb
          have hc0 := (Below.cell honw hbk).trans hc0'
          have hc1 := (Below.cell honw (p := ⟨(ad.add (i * 3)).block, (ad.add (i * 3)).off + 1, none⟩) hbk).trans hc1'
          have hc2 := (Below.cell honw (p := ⟨(ad.add (i * 3)).block, (ad.add (i * 3)).off + 2, none⟩) hbk).trans hc2'
          have hm : (f.nd i).args.length = m := by have := VI_len hRA; unfold Nn.raw at this; rwa [ints_length] at this
          have hm16 : m ≤ 16 := by rw [← hm]; exact HF.out.len (by rw [HN.out]; exact hlt2)
          have harg : ∀ a ∈ (f.nd i).args, a < f.vars + i := fun a ha => HF.out.arg (by rw [HN.out]; exact hlt2) ha
          have hs : trTo f (i + 1) = if mk f (f.vars + i) = true then ((trTo f i).1.set (f.vars + i) (f.vars + (trTo f i).2.length), (trTo f i).2 ++ [renum (trTo f i).1 (f.nd i)]) else trTo f i := rfl
          obtain ⟨hl1, hl2⟩ := trTo_len f i
          rw [HN.out] at hl1
          obtain ⟨⟨num, out⟩, htr⟩ : ∃ z, trTo f i = z := ⟨_, rfl⟩
          rw [htr] at hs hl1 hl2 hG h7 hOut
          simp only at hs hl1 hl2 hG h7 hOut ⊢
          obtain ⟨x, hx⟩ : ∃ x, f.nd i = x := ⟨_, rfl⟩
          rw [hx] at hc0 hc1 hRA hm harg hs
          have c0 : wo.cell? (ad.add (i * 3)) = some (.int .i64 (x.kind : Int)) := hc0
          have c1 : wo.cell? ⟨(ad.add (i * 3)).block, (ad.add (i * 3)).off + 1, none⟩ = some (.int .i64 (x.k : Int)) := hc1
          obtain ⟨p, hp⟩ : ∃ p, wo.heap.size = p := ⟨_, rfl⟩
          obtain ⟨w5, hw5⟩ : ∃ w5, wo.alloc (.cells #[.int .i64 (x.kind : Int), .int .i64 (x.k : Int), .slice P m k] 53) = w5 := ⟨_, rfl⟩
          have ON : Own w5 p 53 #[.int .i64 (x.kind : Int), .int .i64 (x.k : Int), .slice P m k] := by rw [← hw5, ← hp]; exact Own.new _ _ _
          have P5 : On wo w5 := by rw [← hw5]; exact (On.refl wo).alloc _
          obtain ⟨adB, rfl, hblB, m0⟩ := VB_at (H2.out.1.1.on (hon2.trans P5)) hlt2
          rw [need_get] at m0
          have HS := Lib.hid hs
          have HA := Lib.hid harg
          have hOut0 := hOut
          have H5 := Lib.hid (And.intro (hG.on P5) (And.intro (h7.on P5) (And.intro (hOut.on P5) (hon2.trans P5))))
          clear hc0 hc1 hc0' hc1' hc2' hbk hs harg htr hx hG h7 hOut P5 honw
          by_cases hb1 : mk f (f.vars + i) = true
          · rw [hb1] at m0
            have Q5 := H2.out.2.1.1.on H5.out.2.2.2
            have r0 := Q5.cell 0
            have b1 := H5.out.2.1.cell 1
            simp at r0 b1
            have d0 := own_atI H5.out.1 (i := f.vars + i) (by omega)
            have d1 := H5.out.1.frozen (f.vars + i)
            have hgp : g < p := by have := hgs; omega
            have hqg : q < g := by have := Q5.lt; have := H2.out.2.1.1.lt; omega
            obtain ⟨w6, hw6⟩ : ∃ w6, w5.setCell ⟨g, f.vars + i, none⟩ (.int .i64 ((f.vars : Int) + (out.length : Int))) = w6 := ⟨_, rfl⟩
            have G6 : Own w6 g 3 (VI (ints (num.set (f.vars + i) (f.vars + out.length)))).toArray := by rw [← hw6]; exact own_setI H5.out.1 (f.vars + i) (by omega) rfl
            have S6 : Own w6 b7 24 #[.int .i64 (f.vars : Int), .slice AO out.length cO, .int .i64 0] := by rw [← hw6]; exact H5.out.2.1.far (by show b7 ≠ g; omega) _
            have N6 : Own w6 p 53 #[.int .i64 (x.kind : Int), .int .i64 (x.k : Int), .slice P m k] := by rw [← hw6]; exact ON.far (by show p ≠ g; omega) _
            have U6 : OutN w6 (g + 1) (.slice AO out.length cO) out := by rw [← hw6]; exact H5.out.2.2.1.far (by show g < g + 1; omega) _
            have P6 : On w2 w6 := by rw [← hw6]; exact On.setCell H5.out.2.2.2 (p := ⟨g, f.vars + i, none⟩) (by show w2.heap.size ≤ g; omega) _
            have R6 : Rd w6 P m k (VI (ints x.args)) := (show Rd w P m k (VI (ints x.args)) from hRA).on (H2.out.1.2.trans P6)
            have hRen := fun W (kk : On w6 W) => renumbered_any W P m k x.args (R6.on kk) (some ⟨g, 0, none⟩) (f.vars + n) (f.vars + n) _ (own_rdI (G6.on kk) (by rw [List.length_set]; exact hl1) (by omega)) (fun a ha => by have := HA.out a ha; omega) (by omega)
            rw [renum_set num _ _ _ HA.out] at hRen
            have u1 := S6.cell 1
            have u2 := S6.frozen 1
            have v0 := N6.cell 0
            have v1 := N6.cell 1
            have v2 := N6.cell 2
            simp at u1 v0 v1 v2
            have hblk : ∀ b, (Value.slice AO out.length cO).ownBlock = some b → g + 1 ≤ b ∧ b < p := fun b hb => by
              obtain ⟨a1, a2, _⟩ := hOut0.blk b hb
              exact ⟨a1, by omega⟩
            have hgs6 : g + 1 ≤ w6.heap.size := by have := N6.lt; omega
            have hpost : ∀ W (kk : On w6.drew W), Own W p 53 #[.int .i64 (x.kind : Int), .int .i64 (x.k : Int), .slice P m k] ∧ W.cell? ⟨b7, 1, none⟩ = some (.slice AO out.length cO) ∧ (∀ o, (W.alloc o).cell? ⟨b7, 1, none⟩ = some (.slice AO out.length cO)) ∧ (∀ o, OutN (W.alloc o) (g + 1) (.slice AO out.length cO) out) ∧ g + 1 ≤ W.heap.size := fun W kk => by
              have k6 : On w6 W := (On.refl w6).drew.trans kk
              exact ⟨N6.on k6, (own3 (S6.on k6)).2.1, fun o => (own3 ((S6.on k6).alloc o)).2.1, fun o => (U6.on k6).on ((On.refl W).alloc o), by have := k6.size; omega⟩
            have hpost2 : ∀ W (kk : On w6.drew W) o W2, (W.alloc o).grownBy W2 (Value.slice AO out.length cO).ownBlock → Own W2 p 53 #[.int .i64 (x.kind : Int), .int .i64 (x.k : Int), .slice P m k] ∧ W2.cell? ⟨b7, 1, none⟩ = some (.slice AO out.length cO) ∧ W2.frozen? ⟨b7, 1, none⟩ = false ∧ Own W2 b7 24 #[.int .i64 (f.vars : Int), .slice AO out.length cO, .int .i64 0] ∧ Own W2 g 3 (VI (ints (num.set (f.vars + i) (f.vars + out.length)))).toArray ∧ On w2 W2 := fun W kk o W2 hg2 => by
              have k6 : On w6 (W.alloc o) := ((On.refl w6).drew.trans kk).alloc o
              have a1 := own_by (N6.on k6) hg2 (fun b hb => by have := (hblk b hb).2; omega)
              have a2 := own_by (S6.on k6) hg2 (fun b hb => by have := (hblk b hb).1; omega)
              have a3 := own_by (G6.on k6) hg2 (fun b hb => by have := (hblk b hb).1; omega)
              exact ⟨a1, (own3 a2).2.1, a2.frozen 1, a2, a3, on_by (P6.trans k6) hg2 (fun b hb => by have := (hblk b hb).1; omega)⟩
            have hRen2 : ∀ W (kk : On w6.drew W), Calls Try.prog 38 #[.slice P m k, .slice (some ⟨g, 0, none⟩) (f.vars + n) (f.vars + n)] W fun e w' => ∃ A9 c9, e = .returned (.slice A9 m c9) ∧ w'.ownsRow (g + 1) 3 1 (.slice A9 m c9) m (VI (ints (renum num x).args)) ∧ On W w' := fun W kk => by
              have k6 : On w6 W := (On.refl w6).drew.trans kk
              refine (hRen W k6).mono ?_
              rintro e w' ⟨v, rfl, hr, hp9⟩
              obtain ⟨A9, c9, rfl⟩ := row_form hr
              exact ⟨A9, c9, rfl, row_low hr (by have := k6.size; omega), hp9⟩
            have hN6d : Own w6.drew p 53 #[.int .i64 (x.kind : Int), .int .i64 (x.k : Int), .slice P m k] := N6.drew
            have u1d : w6.drew.cell? ⟨b7, 1, none⟩ = some (.slice AO out.length cO) := u1
            have hpb : p ≠ b7 := by omega
            have hol : out.length ≤ 1000000 := by omega
            have HR2 := Lib.hid hRen2
            have HPO := Lib.hid hpost
            have HP2 := Lib.hid hpost2
            clear ON Q5 G6 S6 N6 U6 P6 R6 hRen hRA hRen2 hpost hpost2 hblk hOut0
            go_wp2
            refine wp_region_held_drew (S := fun W => W.cell? ⟨p, 0, none⟩ = some (.int .i64 (x.kind : Int)) ∧ W.cell? ⟨p, 1, none⟩ = some (.int .i64 (x.k : Int)) ∧ W.cell? ⟨p, 2, none⟩ = some (.slice P m k)) (by kernel_rfl) (own3 hN6d) (fun hHeld => ?_)
            refine wpAnyH_take (i := 0) (v := ?_) rfl (by kernel_rfl) (by kernel_rfl) (by kernel_rfl) (fun _ _ _ h => h) (Or.inl ⟨by rfl, ?_⟩) (by assumption) ?_
            rotate_left
            · intro w hSw; (try dsimp only at hSw); go_simp; all_goals with_reducible rfl
            try simp only [Act.put, List.setIfInBounds_toArray]
            refine wpAnyH_take (i := 2) (v := ?_) rfl (by kernel_rfl) (by kernel_rfl) (by kernel_rfl) (fun _ _ _ h => h) (Or.inl ⟨by rfl, ?_⟩) (by assumption) ?_
            rotate_left
            · intro w hSw; (try dsimp only at hSw); go_simp; all_goals with_reducible rfl
            try simp only [Act.put]
            refine wpAnyH_take (i := 3) (v := ?_) rfl (by kernel_rfl) (by kernel_rfl) (by kernel_rfl) (fun _ _ _ h => h) (Or.inl ⟨by rfl, ?_⟩) (by assumption) ?_
            rotate_left
            · intro w hSw; (try dsimp only at hSw); go_simp; all_goals with_reducible rfl
            try simp only [Act.put]
            refine wpAnyH_take (i := 4) (v := ?_) rfl (by kernel_rfl) (by kernel_rfl) (by kernel_rfl) (fun _ _ _ h => h) (Or.inl ⟨by rfl, ?_⟩) (by assumption) ?_
            rotate_left
            · intro w hSw; (try dsimp only at hSw); go_simp; all_goals with_reducible rfl
            try simp only [Act.put]
            refine wpAnyH_take (i := 5) (v := ?_) rfl (by kernel_rfl) (by kernel_rfl) (by kernel_rfl) (fun _ _ _ h => h) (Or.inl ⟨by rfl, ?_⟩) (by assumption) ?_
            rotate_left
            · intro w hSw; (try dsimp only at hSw); go_simp; all_goals with_reducible rfl
            try simp only [Act.put]
            refine wpAnyH_take (i := 6) (v := ?_) rfl (by kernel_rfl) (by kernel_rfl) (by kernel_rfl) (fun _ _ _ h => h) (Or.inl ⟨by rfl, ?_⟩) (by assumption) ?_
            rotate_left
            · intro w hSw; (try dsimp only at hSw); go_simp; all_goals with_reducible rfl
            try simp only [Act.put]
            refine wpAnyH_take (i := 7) (v := ?_) rfl (by kernel_rfl) (by kernel_rfl) (by kernel_rfl) (fun _ _ _ h => h) (Or.inl ⟨by rfl, ?_⟩) (by assumption) ?_
            rotate_left
            · intro w hSw; (try dsimp only at hSw); go_simp; all_goals with_reducible rfl
            try simp only [Act.put]
            refine wpAnyH_take (i := 8) (v := ?_) rfl (by kernel_rfl) (by kernel_rfl) (by kernel_rfl) (fun _ _ _ h => h) (Or.inl ⟨by rfl, ?_⟩) (by assumption) ?_
            rotate_left
            · intro w hSw; (try dsimp only at hSw); go_simp; all_goals with_reducible rfl
            try simp only [Act.put]
            refine wpAnyH_ready (rs := [1, 9]) (by kernel_rfl) (by simp) ?_
            refine AllReadyH.cons rfl (fun K hK => ?_) (AllReadyH.cons rfl (fun K hK => ?_) AllReadyH.nil)
            · go_simp
              refine hK.out _ _ (by (try dsimp only); first | exact own3 hN6d | exact own3 hN9 | exact own3 (hN9.alloc _) | exact own3 hN11 | exact own3 (hN11.far hpb _) | assumption) (fun hHeld => ?_)
              clear hK K
              try simp only [Act.put, List.setIfInBounds_toArray, List.set_cons_zero, List.set_cons_succ]
              refine wpAnyH_ready (rs := [9]) (by kernel_rfl) (by simp) ?_
              refine AllReadyH.cons rfl (fun K hK => ?_) AllReadyH.nil
              go_simp
              go_at_call 38
              refine (HR2.out _ (by first | exact On.refl _ | exact (On.refl _).drew)).mono ?_
              rintro e w9 ⟨A9, c9, rfl, hrow9, P9⟩
              obtain ⟨hN9, y1, y2, y3, y4⟩ := HPO.out w9 P9
              have y5 := y2 (.cells #[.int .i64 (x.kind : Int), .int .i64 (x.k : Int), .slice A9 m c9] 53)
              go_wp2_with fail
              refine hK.out _ _ (by (try dsimp only); first | exact own3 hN6d | exact own3 hN9 | exact own3 (hN9.alloc _) | exact own3 hN11 | exact own3 (hN11.far hpb _) | assumption) (fun hHeld => ?_)
              clear hK K
              try simp only [Act.put, List.setIfInBounds_toArray, List.set_cons_zero, List.set_cons_succ]
              refine wpAnyH_take (i := 10) (v := ?_) rfl (by kernel_rfl) (by kernel_rfl) (by kernel_rfl) (fun _ _ _ h => h) (Or.inl ⟨by rfl, ?_⟩) (by assumption) ?_
              rotate_left
              · intro w hSw; (try dsimp only at hSw); go_simp; all_goals with_reducible rfl
              try simp only [Act.put, List.setIfInBounds_toArray]
              refine wpAnyH_ready (rs := [11]) (by kernel_rfl) (by simp) ?_
              refine AllReadyH.cons rfl (fun K hK => ?_) AllReadyH.nil
              go_simp
              refine hK.out _ _ (by (try dsimp only); first | exact own3 hN6d | exact own3 hN9 | exact own3 (hN9.alloc _) | exact own3 hN11 | exact own3 (hN11.far hpb _) | assumption) (fun hHeld => ?_)
              clear hK K
              try simp only [Act.put, List.setIfInBounds_toArray, List.set_cons_zero, List.set_cons_succ]
              refine wpAnyH_ready (rs := [12]) (by kernel_rfl) (by simp) ?_
              refine AllReadyH.cons rfl (fun K hK => ?_) AllReadyH.nil
              refine step_app_nd rfl (.tmp 68) (.tmp 78) rfl (g + 1) (.slice AO out.length cO) out rfl (y3 _) w9.heap.size 1 rfl (renum num x) A9 m c9 (own3 (Own.new w9 _ _)).1 (own3 (Own.new w9 _ _)).2.1 (own3 (Own.new w9 _ _)).2.2 (row_alloc hrow9 _) hol (by simp; omega) ?_
              intro v' w11 hout11 hgrow11 hor11
              obtain ⟨A11, c11, rfl, hc11, hm11⟩ := hout11.form
              obtain ⟨hN11, z1, z2, z3, z4, z5⟩ := HP2.out w9 P9 _ w11 hgrow11
              refine hK.out _ _ (by (try dsimp only); first | exact own3 hN6d | exact own3 hN9 | exact own3 (hN9.alloc _) | exact own3 hN11 | exact own3 (hN11.far hpb _) | assumption) (fun hHeld => ?_)
              clear hK K
              try simp only [Act.put, List.setIfInBounds_toArray]
              refine wpAnyH_take (i := 13) (v := ?_) rfl (by kernel_rfl) (by kernel_rfl) (by kernel_rfl) (fun _ _ _ h => h) (Or.inl ⟨by rfl, ?_⟩) (by assumption) ?_
              rotate_left
              · intro w hSw; (try dsimp only at hSw); go_simp; all_goals with_reducible rfl
              try simp only [Act.put]
              refine wpAnyH_ready (rs := [14]) (by kernel_rfl) (by simp) ?_
              refine AllReadyH.cons rfl (fun K hK => ?_) AllReadyH.nil
              go_simp
              refine hK.out _ _ (by (try dsimp only); first | exact own3 hN6d | exact own3 hN9 | exact own3 (hN9.alloc _) | exact own3 hN11 | exact own3 (hN11.far hpb _) | assumption) (fun hHeld => ?_)
              clear hK K
              try simp only [Act.put, List.setIfInBounds_toArray, List.set_cons_zero, List.set_cons_succ]
              refine wpAnyH_done (by kernel_rfl) ?_ _
              have hlen : (out ++ [renum num x]).length = out.length + 1 := by rw [List.length_append]; rfl
              have z6 := z3.set_ 1 (.slice A11 (out.length + 1) c11)
              have ez : (#[Value.int .i64 (f.vars : Int), .slice AO out.length cO, .int .i64 0] : Array Value).setIfInBounds 1 (.slice A11 (out.length + 1) c11) = #[.int .i64 (f.vars : Int), .slice A11 (out.length + 1) c11, .int .i64 0] := rfl
              rw [ez] at z6
              have z7 := hout11.far (p := ⟨b7, 1, none⟩) (by show b7 < g + 1; omega) (.slice A11 (out.length + 1) c11)
              have z8 := z4.far (p := ⟨b7, 1, none⟩) (by show g ≠ b7; omega) (.slice A11 (out.length + 1) c11)
              have z9 := On.setCell z5 (p := ⟨b7, 1, none⟩) (by show w2.heap.size ≤ b7; omega) (.slice A11 (out.length + 1) c11)
              have hs := HS.out
              rw [if_pos hb1] at hs
              rw [hlen] at z7
              have HZ := Lib.hid (And.intro hs (And.intro z6 (And.intro z7 (And.intro z8 (And.intro z9 hlen)))))
              clear hs z6 z7 z8 z9 hlen ez z1 z2 z3 z4 z5 y1 y2 y3 y4 y5 hN11 hN9 hor11 hgrow11 hout11 hrow9 P9 HPO HP2 HR2
              go_wp2
              go_roundw
              case rel =>
                refine ⟨i + 1, A11, c11, by omega, by go_num, HZ.out.2.2.2.2.1, ?_, ?_, ?_, HZ.out.2.2.2.1.lt⟩
                · rw [HZ.out.1]; exact HZ.out.2.2.2.1
                · rw [HZ.out.1]; show Own _ b7 _ #[_, .slice A11 (out ++ [renum num x]).length c11, _]; rw [HZ.out.2.2.2.2.2]; exact HZ.out.2.1
                · rw [HZ.out.1]; show OutN _ _ (.slice A11 (out ++ [renum num x]).length c11) _; rw [HZ.out.2.2.2.2.2]; exact HZ.out.2.2.1
              case measure => simp [intOf] <;> omega
            · go_simp
              go_at_call 38
              refine (HR2.out _ (by first | exact On.refl _ | exact (On.refl _).drew)).mono ?_
              rintro e w9 ⟨A9, c9, rfl, hrow9, P9⟩
              obtain ⟨hN9, y1, y2, y3, y4⟩ := HPO.out w9 P9
              have y5 := y2 (.cells #[.int .i64 (x.kind : Int), .int .i64 (x.k : Int), .slice A9 m c9] 53)
              go_wp2_with fail
              refine hK.out _ _ (by (try dsimp only); first | exact own3 hN6d | exact own3 hN9 | exact own3 (hN9.alloc _) | exact own3 hN11 | exact own3 (hN11.far hpb _) | assumption) (fun hHeld => ?_)
              clear hK K
              try simp only [Act.put, List.setIfInBounds_toArray, List.set_cons_zero, List.set_cons_succ]
              refine wpAnyH_take (i := 10) (v := ?_) rfl (by kernel_rfl) (by kernel_rfl) (by kernel_rfl) (fun _ _ _ h => h) (Or.inl ⟨by rfl, ?_⟩) (by assumption) ?_
              rotate_left
              · intro w hSw; (try dsimp only at hSw); go_simp; all_goals with_reducible rfl
              try simp only [Act.put, List.setIfInBounds_toArray]
              refine wpAnyH_ready (rs := [1, 11]) (by kernel_rfl) (by simp) ?_
              refine AllReadyH.cons rfl (fun K hK => ?_) (AllReadyH.cons rfl (fun K hK => ?_) AllReadyH.nil)
              · go_simp
                refine hK.out _ _ (by (try dsimp only); first | exact own3 hN6d | exact own3 hN9 | exact own3 (hN9.alloc _) | exact own3 hN11 | exact own3 (hN11.far hpb _) | assumption) (fun hHeld => ?_)
                clear hK K
                try simp only [Act.put, List.setIfInBounds_toArray, List.set_cons_zero, List.set_cons_succ]
                refine wpAnyH_ready (rs := [11]) (by kernel_rfl) (by simp) ?_
                refine AllReadyH.cons rfl (fun K hK => ?_) AllReadyH.nil
                go_simp
                refine hK.out _ _ (by (try dsimp only); first | exact own3 hN6d | exact own3 hN9 | exact own3 (hN9.alloc _) | exact own3 hN11 | exact own3 (hN11.far hpb _) | assumption) (fun hHeld => ?_)
                clear hK K
                try simp only [Act.put, List.setIfInBounds_toArray, List.set_cons_zero, List.set_cons_succ]
                refine wpAnyH_ready (rs := [12]) (by kernel_rfl) (by simp) ?_
                refine AllReadyH.cons rfl (fun K hK => ?_) AllReadyH.nil
                refine step_app_nd rfl (.tmp 68) (.tmp 78) rfl (g + 1) (.slice AO out.length cO) out rfl (y3 _) w9.heap.size 1 rfl (renum num x) A9 m c9 (own3 (Own.new w9 _ _)).1 (own3 (Own.new w9 _ _)).2.1 (own3 (Own.new w9 _ _)).2.2 (row_alloc hrow9 _) hol (by simp; omega) ?_
                intro v' w11 hout11 hgrow11 hor11
                obtain ⟨A11, c11, rfl, hc11, hm11⟩ := hout11.form
                obtain ⟨hN11, z1, z2, z3, z4, z5⟩ := HP2.out w9 P9 _ w11 hgrow11
                refine hK.out _ _ (by (try dsimp only); first | exact own3 hN6d | exact own3 hN9 | exact own3 (hN9.alloc _) | exact own3 hN11 | exact own3 (hN11.far hpb _) | assumption) (fun hHeld => ?_)
                clear hK K
                try simp only [Act.put, List.setIfInBounds_toArray]
                refine wpAnyH_take (i := 13) (v := ?_) rfl (by kernel_rfl) (by kernel_rfl) (by kernel_rfl) (fun _ _ _ h => h) (Or.inl ⟨by rfl, ?_⟩) (by assumption) ?_
                rotate_left
                · intro w hSw; (try dsimp only at hSw); go_simp; all_goals with_reducible rfl
                try simp only [Act.put]
                refine wpAnyH_ready (rs := [14]) (by kernel_rfl) (by simp) ?_
                refine AllReadyH.cons rfl (fun K hK => ?_) AllReadyH.nil
                go_simp
                refine hK.out _ _ (by (try dsimp only); first | exact own3 hN6d | exact own3 hN9 | exact own3 (hN9.alloc _) | exact own3 hN11 | exact own3 (hN11.far hpb _) | assumption) (fun hHeld => ?_)
                clear hK K
                try simp only [Act.put, List.setIfInBounds_toArray, List.set_cons_zero, List.set_cons_succ]
                refine wpAnyH_done (by kernel_rfl) ?_ _
                have hlen : (out ++ [renum num x]).length = out.length + 1 := by rw [List.length_append]; rfl
                have z6 := z3.set_ 1 (.slice A11 (out.length + 1) c11)
                have ez : (#[Value.int .i64 (f.vars : Int), .slice AO out.length cO, .int .i64 0] : Array Value).setIfInBounds 1 (.slice A11 (out.length + 1) c11) = #[.int .i64 (f.vars : Int), .slice A11 (out.length + 1) c11, .int .i64 0] := rfl
                rw [ez] at z6
                have z7 := hout11.far (p := ⟨b7, 1, none⟩) (by show b7 < g + 1; omega) (.slice A11 (out.length + 1) c11)
                have z8 := z4.far (p := ⟨b7, 1, none⟩) (by show g ≠ b7; omega) (.slice A11 (out.length + 1) c11)
                have z9 := On.setCell z5 (p := ⟨b7, 1, none⟩) (by show w2.heap.size ≤ b7; omega) (.slice A11 (out.length + 1) c11)
                have hs := HS.out
                rw [if_pos hb1] at hs
                rw [hlen] at z7
                have HZ := Lib.hid (And.intro hs (And.intro z6 (And.intro z7 (And.intro z8 (And.intro z9 hlen)))))
                clear hs z6 z7 z8 z9 hlen ez z1 z2 z3 z4 z5 y1 y2 y3 y4 y5 hN11 hN9 hor11 hgrow11 hout11 hrow9 P9 HPO HP2 HR2
                go_wp2
                go_roundw
                case rel =>
                  refine ⟨i + 1, A11, c11, by omega, by go_num, HZ.out.2.2.2.2.1, ?_, ?_, ?_, HZ.out.2.2.2.1.lt⟩
                  · rw [HZ.out.1]; exact HZ.out.2.2.2.1
                  · rw [HZ.out.1]; show Own _ b7 _ #[_, .slice A11 (out ++ [renum num x]).length c11, _]; rw [HZ.out.2.2.2.2.2]; exact HZ.out.2.1
                  · rw [HZ.out.1]; show OutN _ _ (.slice A11 (out ++ [renum num x]).length c11) _; rw [HZ.out.2.2.2.2.2]; exact HZ.out.2.2.1
                case measure => simp [intOf] <;> omega
              · go_simp
                refine hK.out _ _ (by (try dsimp only); first | exact own3 hN6d | exact own3 hN9 | exact own3 (hN9.alloc _) | exact own3 hN11 | exact own3 (hN11.far hpb _) | assumption) (fun hHeld => ?_)
                clear hK K
                try simp only [Act.put, List.setIfInBounds_toArray, List.set_cons_zero, List.set_cons_succ]
                refine wpAnyH_ready (rs := [1]) (by kernel_rfl) (by simp) ?_
                refine AllReadyH.cons rfl (fun K hK => ?_) AllReadyH.nil
                go_simp
                refine hK.out _ _ (by (try dsimp only); first | exact own3 hN6d | exact own3 hN9 | exact own3 (hN9.alloc _) | exact own3 hN11 | exact own3 (hN11.far hpb _) | assumption) (fun hHeld => ?_)
                clear hK K
                try simp only [Act.put, List.setIfInBounds_toArray, List.set_cons_zero, List.set_cons_succ]
                refine wpAnyH_ready (rs := [12]) (by kernel_rfl) (by simp) ?_
                refine AllReadyH.cons rfl (fun K hK => ?_) AllReadyH.nil
                refine step_app_nd rfl (.tmp 68) (.tmp 78) rfl (g + 1) (.slice AO out.length cO) out rfl (y3 _) w9.heap.size 1 rfl (renum num x) A9 m c9 (own3 (Own.new w9 _ _)).1 (own3 (Own.new w9 _ _)).2.1 (own3 (Own.new w9 _ _)).2.2 (row_alloc hrow9 _) hol (by simp; omega) ?_
                intro v' w11 hout11 hgrow11 hor11
                obtain ⟨A11, c11, rfl, hc11, hm11⟩ := hout11.form
                obtain ⟨hN11, z1, z2, z3, z4, z5⟩ := HP2.out w9 P9 _ w11 hgrow11
                refine hK.out _ _ (by (try dsimp only); first | exact own3 hN6d | exact own3 hN9 | exact own3 (hN9.alloc _) | exact own3 hN11 | exact own3 (hN11.far hpb _) | assumption) (fun hHeld => ?_)
                clear hK K
                try simp only [Act.put, List.setIfInBounds_toArray]
                refine wpAnyH_take (i := 13) (v := ?_) rfl (by kernel_rfl) (by kernel_rfl) (by kernel_rfl) (fun _ _ _ h => h) (Or.inl ⟨by rfl, ?_⟩) (by assumption) ?_
                rotate_left
                · intro w hSw; (try dsimp only at hSw); go_simp; all_goals with_reducible rfl
                try simp only [Act.put]
                refine wpAnyH_ready (rs := [14]) (by kernel_rfl) (by simp) ?_
                refine AllReadyH.cons rfl (fun K hK => ?_) AllReadyH.nil
                go_simp
                refine hK.out _ _ (by (try dsimp only); first | exact own3 hN6d | exact own3 hN9 | exact own3 (hN9.alloc _) | exact own3 hN11 | exact own3 (hN11.far hpb _) | assumption) (fun hHeld => ?_)
                clear hK K
                try simp only [Act.put, List.setIfInBounds_toArray, List.set_cons_zero, List.set_cons_succ]
                refine wpAnyH_done (by kernel_rfl) ?_ _
                have hlen : (out ++ [renum num x]).length = out.length + 1 := by rw [List.length_append]; rfl
                have z6 := z3.set_ 1 (.slice A11 (out.length + 1) c11)
                have ez : (#[Value.int .i64 (f.vars : Int), .slice AO out.length cO, .int .i64 0] : Array Value).setIfInBounds 1 (.slice A11 (out.length + 1) c11) = #[.int .i64 (f.vars : Int), .slice A11 (out.length + 1) c11, .int .i64 0] := rfl
                rw [ez] at z6
                have z7 := hout11.far (p := ⟨b7, 1, none⟩) (by show b7 < g + 1; omega) (.slice A11 (out.length + 1) c11)
                have z8 := z4.far (p := ⟨b7, 1, none⟩) (by show g ≠ b7; omega) (.slice A11 (out.length + 1) c11)
                have z9 := On.setCell z5 (p := ⟨b7, 1, none⟩) (by show w2.heap.size ≤ b7; omega) (.slice A11 (out.length + 1) c11)
                have hs := HS.out
                rw [if_pos hb1] at hs
                rw [hlen] at z7
                have HZ := Lib.hid (And.intro hs (And.intro z6 (And.intro z7 (And.intro z8 (And.intro z9 hlen)))))
                clear hs z6 z7 z8 z9 hlen ez z1 z2 z3 z4 z5 y1 y2 y3 y4 y5 hN11 hN9 hor11 hgrow11 hout11 hrow9 P9 HPO HP2 HR2
                go_wp2
                go_roundw
                case rel =>
                  refine ⟨i + 1, A11, c11, by omega, by go_num, HZ.out.2.2.2.2.1, ?_, ?_, ?_, HZ.out.2.2.2.1.lt⟩
                  · rw [HZ.out.1]; exact HZ.out.2.2.2.1
                  · rw [HZ.out.1]; show Own _ b7 _ #[_, .slice A11 (out ++ [renum num x]).length c11, _]; rw [HZ.out.2.2.2.2.2]; exact HZ.out.2.1
                  · rw [HZ.out.1]; show OutN _ _ (.slice A11 (out ++ [renum num x]).length c11) _; rw [HZ.out.2.2.2.2.2]; exact HZ.out.2.2.1
                case measure => simp [intOf] <;> omega
          · rw [Bool.eq_false_iff.2 hb1] at m0
            clear ON
            go_wp2
            go_roundw
            case rel =>
              have hs := HS.out
              rw [if_neg hb1] at hs
              refine ⟨i + 1, AO, cO, by omega, by go_num, H5.out.2.2.2, ?_, ?_, ?_, ?_⟩
              · rw [hs]; exact H5.out.1
              · rw [hs]; exact H5.out.2.1
              · rw [hs]; exact H5.out.2.2.1
              · exact H5.out.1.lt
            case measure => simp [intOf] <;> omega
        · obtain rfl : i = n := by omega
          have hfull : trTo f i = trTo f f.nodes.length := by rw [HN.out]
          have hQ := H2.out.2.1.1.on hon2
          have hq2 := H2.out.2.1.2.on hon2
          have r2 := hQ.cell 2
          simp at r2
          have hl1 := (trTo_len f i).1
          rw [HN.out] at hl1
          have m0 := own_atI hG (i := f.top) (by omega)
          have b0 := (own3 h7).1
          have b1 := (own3 h7).2.1
          have b2 := (own3 h7).2.2
          have bf2 := h7.frozen 2
          have hle := trTo_le f i f.top
          have ht : (trTo f i).1.getD f.top 0 = (trim f).top := by rw [hfull]; rfl
          have ho : (trTo f i).2 = (trim f).nodes := by rw [hfull]; rfl
          rw [ht] at m0 hle
          rw [ho] at hOut b1 h7
          obtain ⟨tp, htp⟩ : ∃ tp, (trim f).top = tp := ⟨_, rfl⟩
          rw [htp] at m0 hle
          have HTP := Lib.hid htp
          obtain ⟨no, hno⟩ : ∃ no, (trim f).nodes.length = no := ⟨_, rfl⟩
          have hOut2 := hOut
          rw [hno] at b1
          obtain ⟨w7, hw7⟩ : ∃ w7, wo.setCell ⟨b7, 2, none⟩ (.int .i64 (tp : Int)) = w7 := ⟨_, rfl⟩
          have O7 : Own w7 b7 24 #[.int .i64 (f.vars : Int), .slice AO no cO, .int .i64 (tp : Int)] := by
            have := h7.set_ 2 (.int .i64 (tp : Int))
            rw [hw7, hno] at this
            exact this
          have hqb7 : q + 1 < b7 := by have := H2.out.2.1.2.lt; omega
          have hQ7 : q + 1 ≠ b7 := by omega
          have OQ7 : Own w7 (q + 1) 24 #[.int .i64 0, .slice none 0 0, .int .i64 0] := by rw [← hw7]; exact hq2.far hQ7 _
          obtain ⟨c0, c1, c2⟩ := own3 O7
          obtain ⟨e0', e1', e2'⟩ := own3 OQ7
          have f0 := OQ7.frozen 0
          have f1 := OQ7.frozen 1
          have f2 := OQ7.frozen 2
          have OF := ((OQ7.set_ 0 (.int .i64 (f.vars : Int))).set_ 1 (.slice AO no cO)).set_ 2 (.int .i64 (tp : Int))
          obtain ⟨x0, x1, x2⟩ := own3 (show Own _ (q + 1) 24 #[.int .i64 (f.vars : Int), .slice AO no cO, .int .i64 (tp : Int)] from OF)
          have P7 : On w w7 := by rw [← hw7]; exact On.setCell (H2.out.1.2.trans hon2) (p := ⟨b7, 2, none⟩) (by show w.heap.size ≤ b7; omega) _
          have P8 : On w (((w7.setCell ⟨q + 1, 0, none⟩ (.int .i64 (f.vars : Int))).setCell ⟨q + 1, 1, none⟩ (.slice AO no cO)).setCell ⟨q + 1, 2, none⟩ (.int .i64 (tp : Int))) := On.setCell (On.setCell (On.setCell P7 (p := ⟨q + 1, 0, none⟩) (by show w.heap.size ≤ q + 1; omega) _) (p := ⟨q + 1, 1, none⟩) (by show w.heap.size ≤ q + 1; omega) _) (p := ⟨q + 1, 2, none⟩) (by show w.heap.size ≤ q + 1; omega) _
          have hqb : q + 1 < g + 1 := by have := H2.out.2.1.2.lt; omega
          have U7 : OutN w7 (g + 1) (.slice AO (trim f).nodes.length cO) (trim f).nodes := by rw [← hw7]; exact hOut2.far (p := ⟨b7, 2, none⟩) (by show b7 < g + 1; omega) _
          have U8 := (((U7.far (p := ⟨q + 1, 0, none⟩) hqb (.int .i64 (f.vars : Int))).far (p := ⟨q + 1, 1, none⟩) hqb (.slice AO no cO)).far (p := ⟨q + 1, 2, none⟩) hqb (.int .i64 (tp : Int))).rd.2
          have HU := Lib.hid (And.intro U8 (And.intro P8 hno))
          clear U7 U8 P7 P8 OF OQ7 O7 hOut2 hOut h7 hG hq2 hQ ho ht hno htp hl1 hfull
          go_wp2
          refine bodyPost_ret (v := .tuple #[.agg #[.int .i64 (f.vars : Int), .slice AO no cO, .int .i64 (tp : Int)], .nilIface]) (by simp [results, Try.results22, go_sem, x0, x1, x2]) rfl ⟨AO, cO, ?_, HU.out.1, HU.out.2.1⟩
          rw [HTP.out, HU.out.2.2]
end Go.Proofs.Ytimigaajhhfbhaa.Fm
