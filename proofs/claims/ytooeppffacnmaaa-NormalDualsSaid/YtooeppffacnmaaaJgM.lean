/-
  Fold of the specification.
-/
import Derived.Test.YtooeppffacnmaaaJGF
import Derived.Test.YtooeppffacnmaaaJtM
import Derived.Deep.RegionWith
namespace Go.Proofs.Ytooeppffacnmaaa.Fm
open Go.RowKit Go.Proofs.Ytooeppffacnmaaa.Sb
set_option linter.unusedVariables false
set_option maxRecDepth 100000
theorem renZ_take {now : List Int} {l : List Nat} {s : Nat} (h : s < l.length) : renZ now (l.take (s + 1)) = renZ now (l.take s) ++ [now.getD (l.getD s 0) 0] := by
  rw [take_args h]
  unfold renZ
  rw [List.map_append, List.map_cons, List.map_nil]
/-- a literal of one const -/
theorem out_one {w : World} {g base : Nat} {k : Nat} (h : Own w g 49 #[.int .i64 0, .int .i64 (k : Int), .slice none 0 0]) (hb : base ≤ g) : OutN w base (.slice (some ⟨g, 0, none⟩) 1 1) [⟨0, k, []⟩] := by
  refine ⟨#[.int .i64 0, .int .i64 (k : Int), .slice none 0 0], .inr ⟨g, 1, rfl, hb, h, by simp, by unfold maxLen; omega, rfl⟩, fun i hi => ?_⟩
  obtain rfl : i = 0 := by simp at hi; exact hi
  exact ⟨none, 0, 0, rfl, rfl, rfl, row_nil _ _ _⟩
set_option maxHeartbeats 16000000 in
theorem rfold_ok (w : World) (f : Fn) (hf : WF f) (A : Option Addr) (n c : Nat) (h : RdN w A n c (rawL f.nodes)) :
    Calls Try.prog 20 #[.agg #[.int .i64 (f.vars : Int), .slice A n c, .int .i64 (f.top : Int)]] w fun e w' => MadeR w.heap.size (fold f) e w' ∧ On w w' := by
  have hn : f.nodes.length = n := by have := h.len; rwa [raw_len] at this
  have hcap := h.cap
  have hmax := h.max
  have hv := hf.1
  have hn128 : f.nodes.length ≤ 128 := hf.2.1
  have htop := hf.2.2.2
  rw [hn] at hn128 htop
  obtain ⟨q, hq⟩ : ∃ q, w.heap.size = q := ⟨_, rfl⟩
  obtain ⟨w0, hw0⟩ : ∃ w0, ((w.alloc (.cells #[.int .i64 (f.vars : Int), .slice A n c, .int .i64 (f.top : Int)] 24)).alloc (.cells #[.int .i64 0, .slice none 0 0, .int .i64 0] 24)).alloc (.cells #[.int .i64 (f.vars : Int), .slice none 0 0, .int .i64 0] 24) = w0 := ⟨_, rfl⟩
  have O0 : Own w0 q 24 #[.int .i64 (f.vars : Int), .slice A n c, .int .i64 (f.top : Int)] := by rw [← hw0, ← hq]; exact ((Own.new _ _ _).alloc _).alloc _
  have C0 : Own w0 (q + 1) 24 #[.int .i64 0, .slice none 0 0, .int .i64 0] := by
    rw [← hw0, ← hq]
    have := (Own.new (w.alloc (.cells #[.int .i64 (f.vars : Int), .slice A n c, .int .i64 (f.top : Int)] 24)) 24 #[.int .i64 0, .slice none 0 0, .int .i64 0]).alloc (.cells #[.int .i64 (f.vars : Int), .slice none 0 0, .int .i64 0] 24)
    simpa using this
  have B0 : Own w0 (q + 1 + 1) 24 #[.int .i64 (f.vars : Int), .slice none 0 0, .int .i64 0] := by
    rw [← hw0, ← hq]
    have := Own.new ((w.alloc (.cells #[.int .i64 (f.vars : Int), .slice A n c, .int .i64 (f.top : Int)] 24)).alloc (.cells #[.int .i64 0, .slice none 0 0, .int .i64 0] 24)) 24 #[.int .i64 (f.vars : Int), .slice none 0 0, .int .i64 0]
    simpa using this
  have P0 : On w w0 := by rw [← hw0]; exact (((On.refl w).alloc _).alloc _).alloc _
  obtain ⟨r0, r1, r2⟩ := own3 O0
  have hmk := run_mkI (f.vars + n) (by omega) w0
  obtain ⟨g, hg⟩ : ∃ g, w0.heap.size = g := ⟨_, rfl⟩
  obtain ⟨w1, hw1⟩ : ∃ w1, w0.alloc (.cells (VI (ints (List.replicate (f.vars + n) 0))).toArray 3) = w1 := ⟨_, rfl⟩
  have OG : Own w1 g 3 (VI (ints (List.replicate (f.vars + n) 0))).toArray := by rw [← hw1, ← hg]; exact Own.new _ _ _
  have P1 : On w0 w1 := by rw [← hw1]; exact (On.refl w0).alloc _
  rw [hg, hw1, Int.natCast_add] at hmk
  have hgq : q + 3 = g := by rw [← hg, ← hw0, ← hq]; simp
  have hB1 : Bld w w1 (g + 1) g (q + 1 + 1) (f.vars : Int) (pad [] (f.vars + n)) [] (.slice none 0 0) := ⟨P0.trans P1, by rw [pad_nil, ← ints_rep]; exact OG, B0.on P1, OutN.nil _ _, by omega, by omega, by omega, by omega, by omega⟩
  obtain ⟨s0, s1, s2⟩ := own3 (O0.on P1)
  have H1 := Lib.hid (And.intro hB1 (And.intro (O0.on P1) (C0.on P1)))
  have HW := Lib.hid hw0
  have HN := Lib.hid hn
  have HF := Lib.hid hf
  have HR := Lib.hid h
  clear h hn hf O0 C0 B0 P0 P1 OG hw0 hw1 hB1
  go_enter Try.func20, Try.ntmps20
  go_upto_region 2 with fail
  rw [HW.out]
  go_wp2
  clear r0 r1 r2 s0 s1 s2 hmk
  go_loopw [24] (fun i wr => ∃ t : Nat, t ≤ f.vars ∧ i = .int .i64 (t : Int) ∧ Bld w wr (g + 1) g (q + 1 + 1) (f.vars : Int) (pad (ints (List.range t)) (f.vars + n)) [] (.slice none 0 0) ∧ Own wr q 24 #[.int .i64 (f.vars : Int), .slice A n c, .int .i64 (f.top : Int)] ∧ Own wr (q + 1) 24 #[.int .i64 0, .slice none 0 0, .int .i64 0]) (fun i _ => f.vars - (intOf i).toNat)
  case atStart => exact ⟨0, by omega, rfl, H1.out.1, H1.out.2.1, H1.out.2.2⟩
  case round =>
    obtain ⟨t, ht, rfl, hB, hQ, hC⟩ := hrel
    have hil : (ints (List.range t)).length = t := by simp [ints]
    by_cases hlt : t < f.vars
    · have d0 := own_atZ hB.now (i := t) (by rw [pad_len (by rw [hil]; omega)]; omega)
      obtain ⟨z0, hz0⟩ : ∃ z0, (pad (ints (List.range t)) (f.vars + n)).getD t 0 = z0 := ⟨_, rfl⟩
      rw [hz0] at d0
      have d1 := hB.now.frozen t
      have hset := pad_set (l := ints (List.range t)) (N := f.vars + n) (by rw [hil]; omega) (t : Int)
      rw [hil, ← ints_range_succ] at hset
      have HB := Lib.hid (And.intro hB (And.intro hQ (And.intro hC hset)))
      clear hB hQ hC hil hset hz0
      go_wp2
      go_roundw
      case rel =>
        refine ⟨t + 1, by omega, by go_num, ?_, HB.out.2.1.far (by show q ≠ g; omega) _, HB.out.2.2.1.far (by show q + 1 ≠ g; omega) _⟩
        have := HB.out.1.set_now t (t : Int)
        rw [HB.out.2.2.2] at this
        exact this
      case measure => simp [intOf] <;> omega
    · obtain ⟨v0, hv0⟩ : ∃ v0, f.vars = v0 := ⟨_, rfl⟩
      have htv : t = f.vars := by omega
      have hvt : ¬ (t : Int) < (f.vars : Int) := by omega
      rw [htv] at hB
      obtain ⟨r0, r1, r2⟩ := own3 hQ
      have HB := Lib.hid (And.intro hB (And.intro hQ hC))
      clear hB hQ hC hil htv hv0
      go_wp2
      clear r0 r1 r2
      go_loopw [35] (fun i wx => ∃ (k : Nat) (AO : Option Addr) (cO : Nat), k ≤ n ∧ i = .int .i64 (k : Int) ∧ Bld w wx (g + 1) g (q + 1 + 1) (f.vars : Int) (pad (foTo f k).2 (f.vars + n)) (foTo f k).1 (.slice AO (foTo f k).1.length cO) ∧ Own wx q 24 #[.int .i64 (f.vars : Int), .slice A n c, .int .i64 (f.top : Int)] ∧ Own wx (q + 1) 24 #[.int .i64 0, .slice none 0 0, .int .i64 0]) (fun i _ => n - (intOf i).toNat)
      case atStart => exact ⟨0, none, 0, by omega, rfl, HB.out.1, HB.out.2.1, HB.out.2.2⟩
      case round =>
        obtain ⟨i, AO, cO, hi, rfl, hB, hQ, hC⟩ := hrel
        obtain ⟨wo, hwo⟩ : ∃ wo, wo = wr := ⟨_, rfl⟩
        subst hwo
        by_cases hlt2 : i < n
        · obtain ⟨ad, rfl, hbl, P, m, k, hc0, hc1, hc2, hRA⟩ := (HR.out.on hB.on).at_ i hlt2
          rw [raw_get] at hc0 hc1 hRA
          have hm : (f.nd i).args.length = m := by have := VI_len hRA; unfold Nn.raw at this; rwa [ints_length] at this
          have hin : i < f.nodes.length := by rw [HN.out]; exact hlt2
          have hm16 : m ≤ 16 := by rw [← hm]; exact HF.out.len hin
          have harg : ∀ a ∈ (f.nd i).args, a < f.vars + i := fun a ha => HF.out.arg hin ha
          have hTr := foTo_tr HF.out i (by omega)
          have hnl : (foTo f i).2.length = f.vars + i := hTr.len
          have hol : (foTo f i).1.length ≤ 256 := by have := foTo_len f i; omega
          have hform := HF.out.2.2.1 i hin
          have hsucc : foTo f (i + 1) = foS f.vars (foTo f i) (f.nd i) := rfl
          have hcodn : ∀ a, a < f.vars + i → isCod ((foTo f i).2.getD a 0) := fun a ha => by
            rcases hTr.cod a ha with h1 | h1 | ⟨m, h1, h2⟩
            · exact .inl h1
            · exact .inr (.inl h1)
            · exact .inr (.inr ⟨m, h1, by omega⟩)
          obtain ⟨x, hx⟩ : ∃ x, f.nd i = x := ⟨_, rfl⟩
          rw [hx] at hc0 hc1 hRA hm harg hform hsucc
          obtain ⟨now, hnow⟩ : ∃ now, (foTo f i).2 = now := ⟨_, rfl⟩
          obtain ⟨o, ho⟩ : ∃ o, (foTo f i).1 = o := ⟨_, rfl⟩
          have hS : (foTo f (i + 1)).1 = o ++ (foN (f.vars + o.length) x (renZ now x.args)).1 ∧ (foTo f (i + 1)).2 = now ++ [(foN (f.vars + o.length) x (renZ now x.args)).2] := by
            rw [hsucc, ← ho, ← hnow]; exact ⟨rfl, rfl⟩
          rw [hnow] at hnl hB hcodn
          rw [ho] at hol hB
          clear hTr
          have hcapA := hRA.cap
          have hmaxA := hRA.max
          have hOf := hB.out.form
          have c0 : wo.cell? (ad.add (i * 3)) = some (.int .i64 (x.kind : Int)) := hc0
          have c1 : wo.cell? ⟨(ad.add (i * 3)).block, (ad.add (i * 3)).off + 1, none⟩ = some (.int .i64 (x.k : Int)) := hc1
          have hRA2 : Rd wo P m k (VI (ints x.args)) := hRA
          obtain ⟨p, hp⟩ : ∃ p, wo.heap.size = p := ⟨_, rfl⟩
          obtain ⟨w5, hw5⟩ : ∃ w5, wo.alloc (.cells #[.int .i64 (x.kind : Int), .int .i64 (x.k : Int), .slice P m k] 49) = w5 := ⟨_, rfl⟩
          have ON : Own w5 p 49 #[.int .i64 (x.kind : Int), .int .i64 (x.k : Int), .slice P m k] := by rw [← hw5, ← hp]; exact Own.new _ _ _
          have P5 : On wo w5 := by rw [← hw5]; exact (On.refl wo).alloc _
          have hgp : g + 1 ≤ p := by have := hB.now.lt; omega
          have hvp : ∀ b, (Value.slice AO o.length cO).ownBlock = some b → b < p := fun b hb => by have := (hB.blk b hb).2; omega
          have hq5 : wo.heap.size ≤ w5.heap.size := P5.size
          have hnm : ∀ a, a < f.vars + i → (pad now (f.vars + n)).getD a 0 = now.getD a 0 := fun a ha => pad_get (by rw [hnl]; exact ha)
          have hpl : (pad now (f.vars + n)).length = f.vars + n := pad_len (by rw [hnl]; omega)
          have hset : ∀ z : Int, (pad now (f.vars + n)).set (f.vars + i) z = pad (now ++ [z]) (f.vars + n) := fun z => by
            have := pad_set (l := now) (N := f.vars + n) (by rw [hnl]; omega) z
            rw [hnl] at this
            exact this
          obtain ⟨NW, hNW⟩ : ∃ NW, pad now (f.vars + n) = NW := ⟨_, rfl⟩
          rw [hNW] at hnm hpl hset hB
          have H5 := Lib.hid (And.intro (hB.to P5) (And.intro (hQ.on P5) (And.intro (hC.on P5) (And.intro ON (hRA2.on P5)))))
          have HS := Lib.hid (And.intro hS (And.intro hform (And.intro hm harg)))
          have HCN := Lib.hid hcodn
          have HV := Lib.hid (And.intro hvp hOf)
          have HNM := Lib.hid (And.intro hnm (And.intro hpl hset))
          obtain ⟨n0, n1, n2⟩ := own3 ON
          clear hc0 hc1 hRA hRA2 hB hQ hC ON P5 hx hnow ho hS hsucc hform hm harg hvp hOf hnm hpl hset hNW hcodn
          go_wp2
          clear c0 c1 hc2 hw5 n0 n1 n2
          go_loopw [43, 9] (fun j v wx => ∃ (s : Nat) (A9 : Option Addr) (c9 : Nat), s ≤ m ∧ j = .int .i64 (s : Int) ∧ v = .slice A9 s c9 ∧ wx.ownsRow w5.heap.size 3 1 (.slice A9 s c9) s (VI (renZ now (x.args.take s))) ∧ On w5 wx) (fun j _ _ => m - (intOf j).toNat)
          case atStart => exact ⟨0, none, 0, by omega, rfl, rfl, row_nil _ _ _, On.refl _⟩
          case round =>
            obtain ⟨s, A9, c9, hs9, rfl, rfl, hrow, hon9⟩ := hrel
            by_cases hlt9 : s < m
            · have hl9 : s < x.args.length := by rw [HS.out.2.2.1]; exact hlt9
              obtain ⟨ad9, rfl, hb9, hc9⟩ := VI_at (H5.out.2.2.2.2.on hon9) hlt9
              rw [ints_getD hl9] at hc9
              have ham := HS.out.2.2.2 _ (getD_memN hl9)
              have htk := renZ_take (now := now) hl9
              obtain ⟨a, hae⟩ : ∃ a, x.args.getD s 0 = a := ⟨_, rfl⟩
              rw [hae] at hc9 ham htk
              have g0 := own_atZ (H5.out.1.to hon9).now (i := a) (by rw [HNM.out.2.1]; omega)
              rw [HNM.out.1 a ham] at g0
              obtain ⟨z, hz⟩ : ∃ z, now.getD a 0 = z := ⟨_, rfl⟩
              rw [hz] at g0 htk
              have hsz := hon9.size
              have HT := Lib.hid htk
              have HROW := Lib.hid hrow
              clear htk hz hae hl9 hrow
              go_wp2_with (at_builtin; refine wpList_app rfl (.tmp 47) (.tmp 52) 47 rfl w5.heap.size 3 (.int .i64 0) 8 Try.underlying47 infoi rfl (by decide) (.slice A9 s c9) _ (VI (renZ now (x.args.take s))) rfl (row_alloc HROW.out _) (some ⟨wr.heap.size, 0, none⟩) 1 1 [.int .i64 z] rfl (rd_one _ _ _) (by simp [Value.oneCell']) (by omega) (by simp; omega) ?_; intro v' w10 hown10 hgrow10 _)
              obtain ⟨A10, c10, rfl⟩ := row_form hown10
              go_roundw
              case rel =>
                refine ⟨s + 1, A10, c10, by omega, by go_num, rfl, ?_, on_row (hon9.alloc _) (row_alloc HROW.out _) (Nat.le_refl _) hgrow10⟩
                rw [HT.out, VI_snocI]; exact hown10
              case measure => simp [intOf] <;> omega
            · obtain rfl : s = m := by omega
              have etk : x.args.take s = x.args := List.take_of_length_le (by rw [HS.out.2.2.1]; omega)
              rw [etk] at hrow
              have hRow := rd_of_row hrow
              have hB9 := H5.out.1.to hon9
              have N9 := H5.out.2.2.2.1.on hon9
              have Q9 := H5.out.2.1.on hon9
              have C9 := H5.out.2.2.1.on hon9
              obtain ⟨n0, n1, n2⟩ := own3 N9
              obtain ⟨b0, b1, b2⟩ := own3 hB9.box
              obtain ⟨f0, f1, f2⟩ := own3 Q9
              have hZR : Rd wr A9 s c9 (VI (renZ now x.args)) := hRow
              have hF := fun (W : World) (kW : On wr W) => rfolded_ok W f.vars hv AO o.length cO (g + 1) o (hB9.out.on kW) (by omega) (by have := kW.size; have := hon9.size; omega) x (f.vars + i) HS.out.2.1 P s k ⟨hcapA, hmaxA⟩ A9 s c9 (renZ now x.args) (hZR.on kW) HS.out.2.2.1 (fun z hz => by
                unfold renZ at hz
                obtain ⟨a, ha, rfl⟩ := List.mem_map.1 hz
                exact HCN.out a (HS.out.2.2.2 a ha))
              have hAfter : ∀ (W w7 : World) (o' : List Nn) (A' : Option Addr) (n' c' : Nat), On wr W → OutN w7 (g + 1) (.slice A' n' c') o' → W.grownBy w7 (Value.slice AO o.length cO).ownBlock → Grown w w7 (g + 1) g (q + 1 + 1) (f.vars : Int) NW o' (.slice A' n' c') (.slice AO o.length cO) ∧ Own w7 q 24 #[.int .i64 (f.vars : Int), .slice (some ad) n c, .int .i64 (f.top : Int)] ∧ Own w7 (q + 1) 24 #[.int .i64 0, .slice none 0 0, .int .i64 0] := fun W w7 o' A' n' c' kW ho2 hk => by
                have hb : ∀ b, (Value.slice AO o.length cO).ownBlock = some b → g + 1 ≤ b := fun b hb => (hB9.blk b hb).1
                exact ⟨(hB9.to kW).grow hk ho2, own_by (Q9.on kW) hk (fun b hb2 => by have := hb b hb2; omega), own_by (C9.on kW) hk (fun b hb2 => by have := hb b hb2; omega)⟩
              have hS0 : ∀ W, On wr W → (W.cell? ⟨q, 0, none⟩ = some (.int .i64 (f.vars : Int)) ∧ W.cell? ⟨p, 0, none⟩ = some (.int .i64 (x.kind : Int)) ∧ W.cell? ⟨p, 1, none⟩ = some (.int .i64 (x.k : Int)) ∧ W.cell? ⟨p, 2, none⟩ = some (.slice P s k)) := fun W kW => ⟨(own3 (Q9.on kW)).1, (own3 (N9.on kW)).1, (own3 (N9.on kW)).2.1, (own3 (N9.on kW)).2.2⟩
              have hS1 : ∀ W w7, On wr W → W.grownBy w7 (Value.slice AO o.length cO).ownBlock → (fun W => W.cell? ⟨q, 0, none⟩ = some (.int .i64 (f.vars : Int)) ∧ W.cell? ⟨p, 0, none⟩ = some (.int .i64 (x.kind : Int)) ∧ W.cell? ⟨p, 1, none⟩ = some (.int .i64 (x.k : Int)) ∧ W.cell? ⟨p, 2, none⟩ = some (.slice P s k)) w7 := fun W w7 kW hk => by
                have hb : ∀ b, (Value.slice AO o.length cO).ownBlock = some b → g + 1 ≤ b ∧ b < p := fun b hb => ⟨(hB9.blk b hb).1, HV.out.1 b hb⟩
                have q7 := own3 (own_by (Q9.on kW) hk (fun b hb2 => by have := hb b hb2; omega))
                have n7 := own3 (own_by (N9.on kW) hk (fun b hb2 => by have := hb b hb2; omega))
                exact ⟨q7.1, n7.1, n7.2.1, n7.2.2⟩
              have HA := Lib.hid hAfter
              have HFO := Lib.hid hF
              have HS0 := Lib.hid hS0
              have HS1 := Lib.hid hS1
              have hS2 : ∀ (W : World) (p0 : Addr) (u : Value), (fun W => W.cell? ⟨q, 0, none⟩ = some (.int .i64 (f.vars : Int)) ∧ W.cell? ⟨p, 0, none⟩ = some (.int .i64 (x.kind : Int)) ∧ W.cell? ⟨p, 1, none⟩ = some (.int .i64 (x.k : Int)) ∧ W.cell? ⟨p, 2, none⟩ = some (.slice P s k)) W → p0.block ≠ q → p0.block ≠ p → (fun W => W.cell? ⟨q, 0, none⟩ = some (.int .i64 (f.vars : Int)) ∧ W.cell? ⟨p, 0, none⟩ = some (.int .i64 (x.kind : Int)) ∧ W.cell? ⟨p, 1, none⟩ = some (.int .i64 (x.k : Int)) ∧ W.cell? ⟨p, 2, none⟩ = some (.slice P s k)) (W.setCell p0 u) := fun W p0 u h h1 h2 => by
                have e1 : ∀ o, (W.setCell p0 u).cell? ⟨q, o, none⟩ = W.cell? ⟨q, o, none⟩ := fun o => World.cell?_of_block (Below.heap_setCell W p0 u q (Ne.symm h1))
                have e2 : ∀ o, (W.setCell p0 u).cell? ⟨p, o, none⟩ = W.cell? ⟨p, o, none⟩ := fun o => World.cell?_of_block (Below.heap_setCell W p0 u p (Ne.symm h2))
                exact ⟨(e1 0).trans h.1, (e2 0).trans h.2.1, (e2 1).trans h.2.2.1, (e2 2).trans h.2.2.2⟩
              have HS2 := Lib.hid hS2
              have hix1 : (0 : Int) ≤ (f.vars : Int) + (i : Int) := by omega
              have hix2 : (f.vars : Int) + (i : Int) < (f.vars : Int) + (n : Int) := by omega
              have hix3 : (f.vars : Int) + (i : Int) < ((f.vars + n : Nat) : Int) := by omega
              have hix4 : ((f.vars : Int) + (i : Int)).toNat = f.vars + i := by omega
              have hwr1 : IntKind.i64.wrap ((f.vars : Int) + (i : Int)) = (f.vars : Int) + (i : Int) := by rw [IntKind.wrap_i64]; omega
              have hbq : q + 1 + 1 ≠ q := by omega
              have hbp : q + 1 + 1 ≠ p := by omega
              have hgq' : g ≠ q := by omega
              have hgp' : g ≠ p := by omega
              clear hrow etk hRow hB9 N9 Q9 C9 hF hAfter hZR hS0 hS1 hS2
              go_upto_region 17 with fail
              obtain ⟨hb0, hb1, hb2, hb3⟩ := HS0.out _ (On.refl _)
              go_region_with (first | (go_at_call 45; (refine (HFO.out _ (by first | exact On.refl _ | exact (On.refl _).drew)).mono ?_); rintro e w7 ⟨A', n', c', rfl, hout, hgrow⟩; have hs7 := HS1.out _ w7 (by first | exact On.refl _ | exact (On.refl _).drew) hgrow; obtain ⟨G7, Q7, C7⟩ := HA.out _ w7 _ A' n' c' (by first | exact On.refl _ | exact (On.refl _).drew) hout hgrow; obtain ⟨z0, z1, z2, z3, z4, z5⟩ := G7.cells; have d0 := own_atZ G7.now (i := f.vars + i) (by rw [HNM.out.2.1]; omega); have d1 := G7.now.frozen (f.vars + i); obtain ⟨ha0, ha1, ha2, ha3⟩ := hs7))
              all_goals go_wp2
              all_goals go_roundw
              all_goals first
                | (
                  refine ⟨i + 1, A', c', by omega, by go_num, ?_, ?_, ?_⟩
                  · rw [HS.out.1.1, HS.out.1.2, ← hout.rd.1]
                    have hB := G7.stored.set_now (f.vars + i) (foN (f.vars + o.length) x (renZ now x.args)).2
                    rw [HNM.out.2.2] at hB
                    exact hB
                  · exact ((((Q7.far (by show q ≠ q + 1 + 1; omega) _).far (by show q ≠ q + 1 + 1; omega) _).far (by show q ≠ q + 1 + 1; omega) _).far (by show q ≠ g; omega) _)
                  · exact ((((C7.far (by show q + 1 ≠ q + 1 + 1; omega) _).far (by show q + 1 ≠ q + 1 + 1; omega) _).far (by show q + 1 ≠ q + 1 + 1; omega) _).far (by show q + 1 ≠ g; omega) _))
                | (simp [intOf] <;> omega)
        · obtain rfl : i = n := by omega
          have e : foTo f i = foTo f f.nodes.length := by rw [HN.out]
          rw [e] at hB
          obtain ⟨r0, r1, r2⟩ := own3 hQ
          have hTr := foTo_tr HF.out f.nodes.length (Nat.le_refl _)
          have hnl := hTr.len
          have hni := HN.out
          have hg0 := own_atZ hB.now (i := f.top) (by rw [pad_len (by rw [hnl]; omega)]; omega)
          rw [pad_get (by rw [hnl]; omega)] at hg0
          have htc : (foTo f f.nodes.length).2.getD f.top 0 = topC f := rfl
          rw [htc] at hg0
          obtain ⟨c0, c1, c2⟩ := own3 hC
          have g0 := hC.frozen 0
          have g1 := hC.frozen 1
          have g2 := hC.frozen 2
          have hcas := topC_cases HF.out
          have hv1 := HF.out.1
          obtain ⟨tc, htc2⟩ : ∃ tc, topC f = tc := ⟨_, rfl⟩
          rw [htc2] at hg0 hcas
          have hon := hB.on
          have hbs : g + 1 ≤ wo.heap.size := by have := hB.now.lt; omega
          rcases hcas with rfl | rfl | ⟨cc, rfl⟩
          · have hfe : fold f = constF f.vars false := by unfold fold; rw [if_neg (by omega), if_pos htc2]
            have hD := And.intro (show (constF f.vars false).nodes.length = 1 from rfl) (And.intro (show (constF f.vars false).top = f.vars from rfl) (show (constF f.vars false).vars = f.vars from rfl))
            obtain ⟨bn, hbn⟩ : ∃ bn, wo.heap.size = bn := ⟨_, rfl⟩
            obtain ⟨w3, hw3⟩ : ∃ w3, wo.alloc (.cells #[.int .i64 0, .int .i64 0, .slice none 0 0] 49) = w3 := ⟨_, rfl⟩
            have ON : Own w3 bn 49 #[.int .i64 0, .int .i64 0, .slice none 0 0] := by rw [← hw3, ← hbn]; exact Own.new _ _ _
            have P3 : On wo w3 := by rw [← hw3]; exact (On.refl wo).alloc _
            have hC3 := hC.on P3
            obtain ⟨d0, d1, d2⟩ := own3 hC3
            obtain ⟨q0, q1, q2⟩ := own3 (hQ.on P3)
            have f0 := hC3.frozen 0
            have f1 := hC3.frozen 1
            have f2 := hC3.frozen 2
            have OF := ((hC3.set_ 0 (.int .i64 (f.vars : Int))).set_ 1 (.slice (some ⟨bn, 0, none⟩) 1 1)).set_ 2 (.int .i64 (f.vars : Int))
            obtain ⟨x0, x1, x2⟩ := own3 (show Own _ (q + 1) 24 #[.int .i64 (f.vars : Int), .slice (some ⟨bn, 0, none⟩) 1 1, .int .i64 (f.vars : Int)] from OF)
            have P8 := On.setCell (On.setCell (On.setCell (hon.trans P3) (p := ⟨q + 1, 0, none⟩) (by show w.heap.size ≤ q + 1; omega) (.int .i64 (f.vars : Int))) (p := ⟨q + 1, 1, none⟩) (by show w.heap.size ≤ q + 1; omega) (.slice (some ⟨bn, 0, none⟩) 1 1)) (p := ⟨q + 1, 2, none⟩) (by show w.heap.size ≤ q + 1; omega) (.int .i64 (f.vars : Int))
            have ON8 := ((ON.far (p := ⟨q + 1, 0, none⟩) (by show bn ≠ q + 1; omega) (.int .i64 (f.vars : Int))).far (p := ⟨q + 1, 1, none⟩) (by show bn ≠ q + 1; omega) (.slice (some ⟨bn, 0, none⟩) 1 1)).far (p := ⟨q + 1, 2, none⟩) (by show bn ≠ q + 1; omega) (.int .i64 (f.vars : Int))
            have U8 := out_one (k := 0) ON8 (show w.heap.size ≤ bn by omega)
            have HZ := Lib.hid (And.intro P8 (And.intro U8 (And.intro hfe hD)))
            clear OF P8 ON ON8 U8 hC hC3 hQ hB hTr hnl hni htc htc2 hfe hD e P3 hon
            go_wp2
            refine bodyPost_ret (v := .tuple #[.agg #[.int .i64 (f.vars : Int), .slice (some ⟨bn, 0, none⟩) 1 1, .int .i64 (f.vars : Int)], .int .i64 0]) (by simp [results, Try.results20, go_sem, x0, x1, x2]) rfl ⟨.inl ?_, HZ.out.1⟩
            rw [HZ.out.2.2.1, HZ.out.2.2.2.1, HZ.out.2.2.2.2.1, HZ.out.2.2.2.2.2]
            exact ⟨by omega, some ⟨bn, 0, none⟩, 1, rfl, HZ.out.2.1⟩
          · have hfe : fold f = constF f.vars true := by unfold fold; rw [if_pos htc2]
            have hD := And.intro (show (constF f.vars true).nodes.length = 1 from rfl) (And.intro (show (constF f.vars true).top = f.vars from rfl) (show (constF f.vars true).vars = f.vars from rfl))
            obtain ⟨bn, hbn⟩ : ∃ bn, wo.heap.size = bn := ⟨_, rfl⟩
            obtain ⟨w3, hw3⟩ : ∃ w3, wo.alloc (.cells #[.int .i64 0, .int .i64 1, .slice none 0 0] 49) = w3 := ⟨_, rfl⟩
            have ON : Own w3 bn 49 #[.int .i64 0, .int .i64 1, .slice none 0 0] := by rw [← hw3, ← hbn]; exact Own.new _ _ _
            have P3 : On wo w3 := by rw [← hw3]; exact (On.refl wo).alloc _
            have hC3 := hC.on P3
            obtain ⟨d0, d1, d2⟩ := own3 hC3
            obtain ⟨q0, q1, q2⟩ := own3 (hQ.on P3)
            have f0 := hC3.frozen 0
            have f1 := hC3.frozen 1
            have f2 := hC3.frozen 2
            have OF := ((hC3.set_ 0 (.int .i64 (f.vars : Int))).set_ 1 (.slice (some ⟨bn, 0, none⟩) 1 1)).set_ 2 (.int .i64 (f.vars : Int))
            obtain ⟨x0, x1, x2⟩ := own3 (show Own _ (q + 1) 24 #[.int .i64 (f.vars : Int), .slice (some ⟨bn, 0, none⟩) 1 1, .int .i64 (f.vars : Int)] from OF)
            have P8 := On.setCell (On.setCell (On.setCell (hon.trans P3) (p := ⟨q + 1, 0, none⟩) (by show w.heap.size ≤ q + 1; omega) (.int .i64 (f.vars : Int))) (p := ⟨q + 1, 1, none⟩) (by show w.heap.size ≤ q + 1; omega) (.slice (some ⟨bn, 0, none⟩) 1 1)) (p := ⟨q + 1, 2, none⟩) (by show w.heap.size ≤ q + 1; omega) (.int .i64 (f.vars : Int))
            have ON8 := ((ON.far (p := ⟨q + 1, 0, none⟩) (by show bn ≠ q + 1; omega) (.int .i64 (f.vars : Int))).far (p := ⟨q + 1, 1, none⟩) (by show bn ≠ q + 1; omega) (.slice (some ⟨bn, 0, none⟩) 1 1)).far (p := ⟨q + 1, 2, none⟩) (by show bn ≠ q + 1; omega) (.int .i64 (f.vars : Int))
            have U8 := out_one (k := 1) ON8 (show w.heap.size ≤ bn by omega)
            have HZ := Lib.hid (And.intro P8 (And.intro U8 (And.intro hfe hD)))
            clear OF P8 ON ON8 U8 hC hC3 hQ hB hTr hnl hni htc htc2 hfe hD e P3 hon
            go_wp2
            refine bodyPost_ret (v := .tuple #[.agg #[.int .i64 (f.vars : Int), .slice (some ⟨bn, 0, none⟩) 1 1, .int .i64 (f.vars : Int)], .int .i64 0]) (by simp [results, Try.results20, go_sem, x0, x1, x2]) rfl ⟨.inl ?_, HZ.out.1⟩
            rw [HZ.out.2.2.1, HZ.out.2.2.2.1, HZ.out.2.2.2.2.1, HZ.out.2.2.2.2.2]
            exact ⟨by omega, some ⟨bn, 0, none⟩, 1, rfl, HZ.out.2.1⟩
          · have hfe : fold f = trim (foldF f cc) := by unfold fold; rw [htc2, if_neg (by omega), if_neg (by omega), Int.toNat_natCast]
            have hwf := foldF_wf HF.out htc2
            have hN1 : (foldF f cc).nodes = (foTo f f.nodes.length).1 := rfl
            have hN2 : (foldF f cc).top = cc := rfl
            have hN3 : (foldF f cc).vars = f.vars := rfl
            obtain ⟨no, hno⟩ : ∃ no, (foTo f f.nodes.length).1.length = no := ⟨_, rfl⟩
            rw [hno] at hB
            obtain ⟨b0, b1, b2⟩ := own3 hB.box
            have e0 := hB.box.frozen 2
            obtain ⟨w6, hw6⟩ : ∃ w6, wo.setCell ⟨q + 1 + 1, 2, none⟩ (.int .i64 (cc : Int)) = w6 := ⟨_, rfl⟩
            have O6 : Own w6 (q + 1 + 1) 24 #[.int .i64 (f.vars : Int), .slice AO no cO, .int .i64 (cc : Int)] := by rw [← hw6]; exact hB.box.set_ 2 _
            have R6 : OutN w6 (g + 1) (.slice AO no cO) (foldF f cc).nodes := by rw [← hw6]; exact hB.out.far (p := ⟨q + 1 + 1, 2, none⟩) hB.hb _
            have C6 : Own w6 (q + 1) 24 #[.int .i64 0, .slice none 0 0, .int .i64 0] := by rw [← hw6]; exact hC.far (by show q + 1 ≠ q + 1 + 1; omega) _
            have P6 : On w w6 := by rw [← hw6]; exact On.setCell hB.on (p := ⟨q + 1 + 1, 2, none⟩) hB.hab _
            have hT := rtrim_new (N := 2 * f.nodes.length) (by omega) w6 (foldF f cc) hwf AO no cO R6.rd.2
            rw [hN3, hN2, ← hfe] at hT
            obtain ⟨tp, htp⟩ : ∃ tp, (fold f).top = tp := ⟨_, rfl⟩
            obtain ⟨nf, hnf⟩ : ∃ nf, (fold f).nodes.length = nf := ⟨_, rfl⟩
            have hvf : (fold f).vars = f.vars := by rw [hfe]; rfl
            rw [htp, hnf] at hT
            obtain ⟨x0, x1, x2⟩ := own3 O6
            have hs6 : q + 1 + 1 < w6.heap.size := O6.lt
            have HE := Lib.hid (And.intro P6 (And.intro C6 (And.intro hnf (And.intro htp hvf))))
            clear hB hQ hC hnl hni hTr O6 R6 C6 P6 hN1 hN2 hN3 hno e htc htc2 hfe hwf htp hnf hvf hon
            go_wp2_with fail
            refine hT.mono ?_
            rintro e w7 ⟨A', c', rfl, hO, P7⟩
            clear hT r0 r1 r2 hg0 b0 b1 b2 e0 x0 x1 x2 hw6 c0 c1 c2 g0 g1 g2
            have hcp := hO.rd.2.cap
            have hmp := hO.rd.2.max
            have hS := rsized_any w7 (f.vars : Int) (tp : Int) A' nf c' hcp hmp
            have H7 := Lib.hid (And.intro hO P7)
            clear hO P7
            go_wp2_with fail
            refine hS.mono ?_
            rintro e w8 ⟨hM, P8⟩
            clear hS
            have hC7 := HE.out.2.1.on (H7.out.2.trans P8)
            obtain ⟨c0, c1, c2⟩ := own3 hC7
            have g0 := hC7.frozen 0
            have g1 := hC7.frozen 1
            have g2 := hC7.frozen 2
            rcases hM with ⟨hle, rfl⟩ | ⟨hgt, rfl⟩
            · have OF := ((hC7.set_ 0 (.int .i64 (f.vars : Int))).set_ 1 (.slice A' nf c')).set_ 2 (.int .i64 (tp : Int))
              obtain ⟨x0, x1, x2⟩ := own3 (show Own _ (q + 1) 24 #[.int .i64 (f.vars : Int), .slice A' nf c', .int .i64 (tp : Int)] from OF)
              have P9 := On.setCell (On.setCell (On.setCell (HE.out.1.trans (H7.out.2.trans P8)) (p := ⟨q + 1, 0, none⟩) (by show w.heap.size ≤ q + 1; omega) (.int .i64 (f.vars : Int))) (p := ⟨q + 1, 1, none⟩) (by show w.heap.size ≤ q + 1; omega) (.slice A' nf c')) (p := ⟨q + 1, 2, none⟩) (by show w.heap.size ≤ q + 1; omega) (.int .i64 (tp : Int))
              have hqb : q + 1 < w6.heap.size := by omega
              have U8 := (((H7.out.1.on P8).far (p := ⟨q + 1, 0, none⟩) hqb (.int .i64 (f.vars : Int))).far (p := ⟨q + 1, 1, none⟩) hqb (.slice A' nf c')).far (p := ⟨q + 1, 2, none⟩) hqb (.int .i64 (tp : Int))
              have HZ := Lib.hid (And.intro hle (And.intro P9 U8))
              clear OF P9 hle hC7 U8 P8
              go_wp2
              refine bodyPost_ret (v := .tuple #[.agg #[.int .i64 (f.vars : Int), .slice A' nf c', .int .i64 (tp : Int)], .int .i64 0]) (by simp [results, Try.results20, go_sem, x0, x1, x2]) rfl ⟨.inl ?_, HZ.out.2.1⟩
              rw [HE.out.2.2.1, HE.out.2.2.2.1, HE.out.2.2.2.2]
              exact ⟨HZ.out.1, A', c', rfl, HZ.out.2.2.low (by omega)⟩
            · have OF := ((hC7.set_ 0 (.int .i64 0)).set_ 1 (.slice none 0 0)).set_ 2 (.int .i64 0)
              obtain ⟨x0, x1, x2⟩ := own3 (show Own _ (q + 1) 24 #[.int .i64 0, .slice none 0 0, .int .i64 0] from OF)
              have P9 := On.setCell (On.setCell (On.setCell (HE.out.1.trans (H7.out.2.trans P8)) (p := ⟨q + 1, 0, none⟩) (by show w.heap.size ≤ q + 1; omega) (.int .i64 0)) (p := ⟨q + 1, 1, none⟩) (by show w.heap.size ≤ q + 1; omega) (.slice none 0 0)) (p := ⟨q + 1, 2, none⟩) (by show w.heap.size ≤ q + 1; omega) (.int .i64 0)
              have HZ := Lib.hid (And.intro hgt P9)
              clear OF P9 hgt hC7 P8
              go_wp2
              refine bodyPost_ret (v := .tuple #[.agg #[.int .i64 0, .slice none 0 0, .int .i64 0], .int .i64 4]) (by simp [results, Try.results20, go_sem, x0, x1, x2]) rfl ⟨.inr ?_, HZ.out.2⟩
              rw [HE.out.2.2.1]
              exact ⟨HZ.out.1, rfl⟩
end Go.Proofs.Ytooeppffacnmaaa.Fm
