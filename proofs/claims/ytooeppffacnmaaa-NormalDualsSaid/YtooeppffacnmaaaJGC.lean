/-
  Dual of the specification.
-/
import Derived.Test.YtooeppffacnmaaaJGA
namespace Go.Proofs.Ytooeppffacnmaaa.Fm
open Go.RowKit Go.Proofs.Ytooeppffacnmaaa.Sb
set_option linter.unusedVariables false
set_option maxRecDepth 100000
theorem du_mem {l : List Nn} {i : Nat} (h : i < l.length) : l.getD i Nn.z = ndL l i := rfl
/-- the args of a node that is built: the numbers of x's arguments -/
theorem ren_take {now l : List Nat} {s : Nat} (h : s < l.length) : ints (ren now (l.take (s + 1))) = ints (ren now (l.take s)) ++ [((now.getD (l.getD s 0) 0 : Nat) : Int)] := by
  rw [take_args h]
  unfold ren
  rw [List.map_append, List.map_cons, List.map_nil, ints_snoc]
theorem VI_snocI (l : List Int) (x : Int) : VI (l ++ [x]) = VI l ++ [.int .i64 x] := by simp [VI]
set_option maxHeartbeats 16000000 in
theorem rdual_ok (w : World) (f : Fn) (hf : WF f) (A : Option Addr) (n c : Nat) (h : RdN w A n c (rawL f.nodes)) :
    Calls Try.prog 19 #[.agg #[.int .i64 (f.vars : Int), .slice A n c, .int .i64 (f.top : Int)]] w fun e w' => MadeR w.heap.size (dual f) e w' ∧ On w w' := by
  have hn : f.nodes.length = n := by have := h.len; rwa [raw_len] at this
  have hcap := h.cap
  have hmax := h.max
  have hv := hf.1
  have hn128 : f.nodes.length ≤ 128 := hf.2.1
  have htop := hf.2.2.2
  rw [hn] at hn128 htop
  obtain ⟨q, hq⟩ : ∃ q, w.heap.size = q := ⟨_, rfl⟩
  obtain ⟨w0, hw0⟩ : ∃ w0, ((w.alloc (.cells #[.int .i64 (f.vars : Int), .slice A n c, .int .i64 (f.top : Int)] 24)).alloc (.cells #[.int .i64 0, .slice none 0 0, .int .i64 0] 24)).alloc (.cells #[.int .i64 (f.vars : Int), .slice none 0 0, .int .i64 0] 24) = w0 := ⟨_, rfl⟩
  have O0 : Own w0 q 24 #[.int .i64 (f.vars : Int), .slice A n c, .int .i64 (f.top : Int)] := by rw [← hw0, ← hq]; exact ((Own.new _ _ _).alloc _).alloc _
  have C0 : Own w0 (q + 1) 24 #[.int .i64 0, .slice none 0 0, .int .i64 0] := by
    rw [← hw0, ← hq]
    have := (Own.new (w.alloc (.cells #[.int .i64 (f.vars : Int), .slice A n c, .int .i64 (f.top : Int)] 24)) 24 #[.int .i64 0, .slice none 0 0, .int .i64 0]).alloc (.cells #[.int .i64 (f.vars : Int), .slice none 0 0, .int .i64 0] 24)
    simpa using this
  have B0 : Own w0 (q + 1 + 1) 24 #[.int .i64 (f.vars : Int), .slice none 0 0, .int .i64 0] := by
    rw [← hw0, ← hq]
    have := Own.new ((w.alloc (.cells #[.int .i64 (f.vars : Int), .slice A n c, .int .i64 (f.top : Int)] 24)).alloc (.cells #[.int .i64 0, .slice none 0 0, .int .i64 0] 24)) 24 #[.int .i64 (f.vars : Int), .slice none 0 0, .int .i64 0]
    simpa using this
  have P0 : On w w0 := by rw [← hw0]; exact (((On.refl w).alloc _).alloc _).alloc _
  obtain ⟨r0, r1, r2⟩ := own3 O0
  have hmk := run_mkI (f.vars + n) (by omega) w0
  obtain ⟨g, hg⟩ : ∃ g, w0.heap.size = g := ⟨_, rfl⟩
  obtain ⟨w1, hw1⟩ : ∃ w1, w0.alloc (.cells (VI (ints (List.replicate (f.vars + n) 0))).toArray 3) = w1 := ⟨_, rfl⟩
  have OG : Own w1 g 3 (VI (ints (List.replicate (f.vars + n) 0))).toArray := by rw [← hw1, ← hg]; exact Own.new _ _ _
  have P1 : On w0 w1 := by rw [← hw1]; exact (On.refl w0).alloc _
  rw [hg, hw1, Int.natCast_add] at hmk
  have hgq : q + 3 = g := by rw [← hg, ← hw0, ← hq]; simp
  have hB1 : Bld w w1 (g + 1) g (q + 1 + 1) (f.vars : Int) (pad [] (f.vars + n)) [] (.slice none 0 0) := ⟨P0.trans P1, by rw [pad_nil, ← ints_rep]; exact OG, B0.on P1, OutN.nil _ _, by omega, by omega, by omega, by omega, by omega⟩
  obtain ⟨s0, s1, s2⟩ := own3 (O0.on P1)
  have H1 := Lib.hid (And.intro hB1 (And.intro (O0.on P1) (C0.on P1)))
  have HW := Lib.hid hw0
  have HN := Lib.hid hn
  have HF := Lib.hid hf
  have HR := Lib.hid h
  clear h hn hf O0 C0 B0 P0 P1 OG hw0 hw1 hB1
  go_enter Try.func19, Try.ntmps19
  go_upto_region 2 with fail
  rw [HW.out]
  go_wp2
  clear r0 r1 r2 s0 s1 s2 hmk
  go_loopw [25] (fun i wr => ∃ t : Nat, t ≤ f.vars ∧ i = .int .i64 (t : Int) ∧ Bld w wr (g + 1) g (q + 1 + 1) (f.vars : Int) (pad (ints (List.range t)) (f.vars + n)) [] (.slice none 0 0) ∧ Own wr q 24 #[.int .i64 (f.vars : Int), .slice A n c, .int .i64 (f.top : Int)] ∧ Own wr (q + 1) 24 #[.int .i64 0, .slice none 0 0, .int .i64 0]) (fun i _ => f.vars - (intOf i).toNat)
  case atStart => exact ⟨0, by omega, rfl, H1.out.1, H1.out.2.1, H1.out.2.2⟩
  case round =>
    obtain ⟨t, ht, rfl, hB, hQ, hC⟩ := hrel
    have hil : (ints (List.range t)).length = t := by simp [ints]
    by_cases hlt : t < f.vars
    · have d0 := own_atZ hB.now (i := t) (by rw [pad_len (by rw [hil]; omega)]; omega)
      obtain ⟨z0, hz0⟩ : ∃ z0, (pad (ints (List.range t)) (f.vars + n)).getD t 0 = z0 := ⟨_, rfl⟩
      rw [hz0] at d0
      have d1 := hB.now.frozen t
      have hset := pad_set (l := ints (List.range t)) (N := f.vars + n) (by rw [hil]; omega) (t : Int)
      rw [hil, ← ints_range_succ] at hset
      have HB := Lib.hid (And.intro hB (And.intro hQ (And.intro hC hset)))
      clear hB hQ hC hil hset hz0
      go_wp2
      go_roundw
      case rel =>
        refine ⟨t + 1, by omega, by go_num, ?_, HB.out.2.1.far (by show q ≠ g; omega) _, HB.out.2.2.1.far (by show q + 1 ≠ g; omega) _⟩
        have := HB.out.1.set_now t (t : Int)
        rw [HB.out.2.2.2] at this
        exact this
      case measure => simp [intOf] <;> omega
    · obtain ⟨v0, hv0⟩ : ∃ v0, f.vars = v0 := ⟨_, rfl⟩
      have htv : t = f.vars := by omega
      have hvt : ¬ (t : Int) < (f.vars : Int) := by omega
      rw [htv] at hB
      obtain ⟨r0, r1, r2⟩ := own3 hQ
      have HB := Lib.hid (And.intro hB (And.intro hQ hC))
      clear hB hQ hC hil htv hv0
      go_wp2
      clear r0 r1 r2
      go_loopw [36] (fun i wx => ∃ (k : Nat) (AO : Option Addr) (cO : Nat), k ≤ n ∧ i = .int .i64 (k : Int) ∧ Bld w wx (g + 1) g (q + 1 + 1) (f.vars : Int) (pad (ints (duTo f k).2) (f.vars + n)) (duTo f k).1 (.slice AO (duTo f k).1.length cO) ∧ Own wx q 24 #[.int .i64 (f.vars : Int), .slice A n c, .int .i64 (f.top : Int)] ∧ Own wx (q + 1) 24 #[.int .i64 0, .slice none 0 0, .int .i64 0]) (fun i _ => n - (intOf i).toNat)
      case atStart => exact ⟨0, none, 0, by omega, rfl, HB.out.1, HB.out.2.1, HB.out.2.2⟩
      case round =>
        obtain ⟨i, AO, cO, hi, rfl, hB, hQ, hC⟩ := hrel
        obtain ⟨wo, hwo⟩ : ∃ wo, wo = wr := ⟨_, rfl⟩
        subst hwo
        by_cases hlt2 : i < n
        · obtain ⟨ad, rfl, hbl, P, m, k, hc0, hc1, hc2, hRA⟩ := (HR.out.on hB.on).at_ i hlt2
          rw [raw_get] at hc0 hc1 hRA
          have hm : (f.nd i).args.length = m := by have := VI_len hRA; unfold Nn.raw at this; rwa [ints_length] at this
          have hin : i < f.nodes.length := by rw [HN.out]; exact hlt2
          have hm16 : m ≤ 16 := by rw [← hm]; exact HF.out.len hin
          have harg : ∀ a ∈ (f.nd i).args, a < f.vars + i := fun a ha => HF.out.arg hin ha
          have hnl : (duTo f i).2.length = f.vars + i := (duTo_tr HF.out i (by omega)).len
          have hol : (duTo f i).1.length ≤ 256 := by have := duTo_len f i; omega
          have hform := HF.out.2.2.1 i hin
          have hsucc : duTo f (i + 1) = duS f.vars (duTo f i) (f.nd i) := rfl
          obtain ⟨x, hx⟩ : ∃ x, f.nd i = x := ⟨_, rfl⟩
          rw [hx] at hc0 hc1 hRA hm harg hform hsucc
          obtain ⟨now, hnow⟩ : ∃ now, (duTo f i).2 = now := ⟨_, rfl⟩
          obtain ⟨o, ho⟩ : ∃ o, (duTo f i).1 = o := ⟨_, rfl⟩
          have hS : (duTo f (i + 1)).1 = o ++ duN (f.vars + o.length) x (ren now x.args) ∧ (duTo f (i + 1)).2 = now ++ [f.vars + o.length + (duN (f.vars + o.length) x (ren now x.args)).length - 1] := by
            rw [hsucc, ← ho, ← hnow]; exact ⟨rfl, rfl⟩
          rw [hnow] at hnl hB
          rw [ho] at hol hB
          have hcapA := hRA.cap
          have hmaxA := hRA.max
          have hOf := hB.out.form
          have c0 : wo.cell? (ad.add (i * 3)) = some (.int .i64 (x.kind : Int)) := hc0
          have c1 : wo.cell? ⟨(ad.add (i * 3)).block, (ad.add (i * 3)).off + 1, none⟩ = some (.int .i64 (x.k : Int)) := hc1
          have hRA2 : Rd wo P m k (VI (ints x.args)) := hRA
          obtain ⟨p, hp⟩ : ∃ p, wo.heap.size = p := ⟨_, rfl⟩
          obtain ⟨w5, hw5⟩ : ∃ w5, wo.alloc (.cells #[.int .i64 (x.kind : Int), .int .i64 (x.k : Int), .slice P m k] 49) = w5 := ⟨_, rfl⟩
          have ON : Own w5 p 49 #[.int .i64 (x.kind : Int), .int .i64 (x.k : Int), .slice P m k] := by rw [← hw5, ← hp]; exact Own.new _ _ _
          have P5 : On wo w5 := by rw [← hw5]; exact (On.refl wo).alloc _
          have hgp : g + 1 ≤ p := by have := hB.now.lt; omega
          have hvp : ∀ b, (Value.slice AO o.length cO).ownBlock = some b → b < p := fun b hb => by have := (hB.blk b hb).2; omega
          have hq5 : wo.heap.size ≤ w5.heap.size := P5.size
          have hnm : ∀ a, a < f.vars + i → (pad (ints now) (f.vars + n)).getD a 0 = ((now.getD a 0 : Nat) : Int) := fun a ha => by
            rw [pad_get (by rw [ints_length, hnl]; exact ha), ints_getD (by rw [hnl]; exact ha)]
          have hpl : (pad (ints now) (f.vars + n)).length = f.vars + n := pad_len (by rw [ints_length, hnl]; omega)
          have hset : ∀ z : Nat, (pad (ints now) (f.vars + n)).set (f.vars + i) (z : Int) = pad (ints (now ++ [z])) (f.vars + n) := fun z => by
            have := pad_set (l := ints now) (N := f.vars + n) (by rw [ints_length, hnl]; omega) (z : Int)
            rw [ints_length, hnl] at this
            rw [this, ints_snoc]
          obtain ⟨NW, hNW⟩ : ∃ NW, pad (ints now) (f.vars + n) = NW := ⟨_, rfl⟩
          rw [hNW] at hnm hpl hset hB
          have H5 := Lib.hid (And.intro (hB.to P5) (And.intro (hQ.on P5) (And.intro (hC.on P5) (And.intro ON (hRA2.on P5)))))
          have HS := Lib.hid (And.intro hS (And.intro hform (And.intro hm harg)))
          have HV := Lib.hid (And.intro hvp hOf)
          have HNM := Lib.hid (And.intro hnm (And.intro hpl hset))
          obtain ⟨n0, n1, n2⟩ := own3 ON
          clear hc0 hc1 hRA hRA2 hB hQ hC ON P5 hx hnow ho hS hsucc hform hm harg hvp hOf hnm hpl hset hNW
          go_wp2
          clear c0 c1 hc2 hw5 n0 n1 n2
          go_loopw [44, 9] (fun j v wx => ∃ (s : Nat) (A9 : Option Addr) (c9 : Nat), s ≤ m ∧ j = .int .i64 (s : Int) ∧ v = .slice A9 s c9 ∧ wx.ownsRow w5.heap.size 3 1 (.slice A9 s c9) s (VI (ints (ren now (x.args.take s)))) ∧ On w5 wx) (fun j _ _ => m - (intOf j).toNat)
          case atStart => exact ⟨0, none, 0, by omega, rfl, rfl, row_nil _ _ _, On.refl _⟩
          case round =>
            obtain ⟨s, A9, c9, hs9, rfl, rfl, hrow, hon9⟩ := hrel
            by_cases hlt9 : s < m
            · have hl9 : s < x.args.length := by rw [HS.out.2.2.1]; exact hlt9
              obtain ⟨ad9, rfl, hb9, hc9⟩ := VI_at (H5.out.2.2.2.2.on hon9) hlt9
              rw [ints_getD hl9] at hc9
              have ham := HS.out.2.2.2 _ (getD_memN hl9)
              have htk := ren_take (now := now) hl9
              obtain ⟨a, hae⟩ : ∃ a, x.args.getD s 0 = a := ⟨_, rfl⟩
              rw [hae] at hc9 ham htk
              have g0 := own_atZ (H5.out.1.to hon9).now (i := a) (by rw [HNM.out.2.1]; omega)
              rw [HNM.out.1 a ham] at g0
              obtain ⟨z, hz⟩ : ∃ z, now.getD a 0 = z := ⟨_, rfl⟩
              rw [hz] at g0 htk
              have hsz := hon9.size
              have HT := Lib.hid htk
              have HROW := Lib.hid hrow
              clear htk hz hae hl9 hrow
              go_wp2_with (at_builtin; refine wpList_app rfl (.tmp 48) (.tmp 53) 47 rfl w5.heap.size 3 (.int .i64 0) 8 Try.underlying47 infoi rfl (by decide) (.slice A9 s c9) _ (VI (ints (ren now (x.args.take s)))) rfl (row_alloc HROW.out _) (some ⟨wr.heap.size, 0, none⟩) 1 1 [.int .i64 (z : Int)] rfl (rd_one _ _ _) (by simp [Value.oneCell']) (by omega) (by simp; omega) ?_; intro v' w10 hown10 hgrow10 _)
              obtain ⟨A10, c10, rfl⟩ := row_form hown10
              go_roundw
              case rel =>
                refine ⟨s + 1, A10, c10, by omega, by go_num, rfl, ?_, on_row (hon9.alloc _) (row_alloc HROW.out _) (Nat.le_refl _) hgrow10⟩
                rw [HT.out, VI_snocI]; exact hown10
              case measure => simp [intOf] <;> omega
            · obtain rfl : s = m := by omega
              have etk : x.args.take s = x.args := List.take_of_length_le (by rw [HS.out.2.2.1]; omega)
              rw [etk] at hrow
              have hRow := rd_of_row hrow
              have hB9 := H5.out.1.to hon9
              have N9 := H5.out.2.2.2.1.on hon9
              have Q9 := H5.out.2.1.on hon9
              have C9 := H5.out.2.2.1.on hon9
              obtain ⟨n0, n1, n2⟩ := own3 N9
              obtain ⟨b0, b1, b2⟩ := own3 hB9.box
              obtain ⟨f0, f1, f2⟩ := own3 Q9
              have hadd := fun (y : Nn) (P : Option Addr) (m d : Nat) (hR : Rd wr P m d (VI (ints y.args))) (hm : m ≤ 1000) => radd_any wr (f.vars : Int) 0 AO o.length cO (g + 1) o hB9.out y P m d hR hm (by omega) (by have := hon9.size; omega) (by omega)
              have hrl : (ren now x.args).length = s := by rw [ren_len]; exact HS.out.2.2.1
              obtain ⟨b00, b01, b02, b03, b04, b05, b06⟩ := HS.out.2.1
              have hAfter : ∀ (y : Nn) (w7 : World) (A' : Option Addr) (c' : Nat), OutN w7 (g + 1) (.slice A' (o.length + 1) c') (o ++ [y]) → wr.grownBy w7 (Value.slice AO o.length cO).ownBlock → Grown w w7 (g + 1) g (q + 1 + 1) (f.vars : Int) NW (o ++ [y]) (.slice A' (o.length + 1) c') (.slice AO o.length cO) ∧ Own w7 q 24 #[.int .i64 (f.vars : Int), .slice (some ad) n c, .int .i64 (f.top : Int)] ∧ Own w7 (q + 1) 24 #[.int .i64 0, .slice none 0 0, .int .i64 0] ∧ Own w7 p 49 #[.int .i64 (x.kind : Int), .int .i64 (x.k : Int), .slice P s k] := fun y w7 A' c' ho2 hk => by
                have hb : ∀ b, (Value.slice AO o.length cO).ownBlock = some b → g + 1 ≤ b ∧ b < p := fun b hb => ⟨(hB9.blk b hb).1, HV.out.1 b hb⟩
                exact ⟨hB9.grow hk ho2, own_by Q9 hk (fun b hb2 => by have := hb b hb2; omega), own_by C9 hk (fun b hb2 => by have := hb b hb2; omega), own_by N9 hk (fun b hb2 => by have := hb b hb2; omega)⟩
              have HA := Lib.hid (And.intro hAfter hRow)
              have HADD := Lib.hid hadd
              have HX := Lib.hid (And.intro hrl (And.intro b00 (And.intro b01 (And.intro b02 (And.intro b03 b05)))))
              clear hrow etk hRow hB9 N9 Q9 C9 hadd hrl hAfter b00 b01 b02 b03 b04 b05 b06
              obtain ⟨kd, kk, xa⟩ := x
              have hkd : kd = 0 ∨ kd = 1 ∨ kd = 2 ∨ kd = 3 ∨ kd = 4 ∨ kd = 5 := by have : kd ≤ 5 := HX.out.2.1; omega
              rcases hkd with rfl | rfl | rfl | rfl | rfl | rfl
              · have hk1 := (HX.out.2.2.1 rfl).2
                have ek : ((1 - kk : Nat) : Int) = 1 - (kk : Int) := by (have : kk ≤ 1 := hk1); omega
                have hkk : kk ≤ 1 := hk1
                have hC := HADD.out ⟨0, 1 - kk, []⟩ none 0 0 (Rd.nil_ _) (by omega)
                simp only [ek] at hC
                go_wp2_with fail
                refine hC.mono ?_
                rintro e w7 ⟨A', c', rfl, hout, hgrow⟩
                clear hC
                obtain ⟨G7, Q7, C7, N7⟩ := HA.out.1 _ w7 A' c' hout hgrow
                clear hout hgrow n0 n1 n2
                obtain ⟨z0, z1, z2, z3, z4, z5⟩ := G7.cells
                obtain ⟨q0, q1, q2⟩ := own3 Q7
                obtain ⟨n0, n1, n2⟩ := own3 N7
                have d0 := own_atZ G7.now (i := f.vars + i) (by rw [HNM.out.2.1]; omega)
                obtain ⟨zz, hzz⟩ : ∃ zz, NW.getD (f.vars + i) 0 = zz := ⟨_, rfl⟩
                rw [hzz] at d0
                have d1 := G7.now.frozen (f.vars + i)
                have H7 := Lib.hid (And.intro G7.stored (And.intro Q7 C7))
                clear b0 b1 b2 f0 f1 f2 hzz
                go_wp2
                go_roundw
                case rel =>
                  have hN : duN (f.vars + o.length) ⟨0, kk, xa⟩ (ren now xa) = [⟨0, 1 - kk, []⟩] := by rfl
                  have hl := HS.out.1.1
                  have hl2 := HS.out.1.2
                  rw [hN] at hl hl2
                  refine ⟨i + 1, A', c', by omega, by go_num, ?_, ?_, ?_⟩
                  · rw [hl, hl2]
                    have hB := H7.out.1.set_now (f.vars + i) ((f.vars : Int) + (o.length : Int))
                    have hset := HNM.out.2.2 (f.vars + o.length)
                    have hat : ((f.vars + o.length : Nat) : Int) = ((f.vars : Int) + (o.length : Int)) := by push_cast; rfl
                    rw [hat] at hset
                    rw [hset] at hB
                    simpa using hB
                  · exact ((((H7.out.2.1.far (by show q ≠ q + 1 + 1; omega) _).far (by show q ≠ q + 1 + 1; omega) _).far (by show q ≠ q + 1 + 1; omega) _).far (by show q ≠ g; omega) _)
                  · exact ((((H7.out.2.2.far (by show q + 1 ≠ q + 1 + 1; omega) _).far (by show q + 1 ≠ q + 1 + 1; omega) _).far (by show q + 1 ≠ q + 1 + 1; omega) _).far (by show q + 1 ≠ g; omega) _)
                case measure => simp [intOf] <;> omega
              · have hC := HADD.out ⟨1, 0, ren now xa⟩ A9 s c9 HA.out.2 (by omega)
                go_wp2_with fail
                refine hC.mono ?_
                rintro e w7 ⟨A', c', rfl, hout, hgrow⟩
                clear hC
                obtain ⟨G7, Q7, C7, N7⟩ := HA.out.1 _ w7 A' c' hout hgrow
                clear hout hgrow n0 n1 n2
                obtain ⟨z0, z1, z2, z3, z4, z5⟩ := G7.cells
                obtain ⟨q0, q1, q2⟩ := own3 Q7
                obtain ⟨n0, n1, n2⟩ := own3 N7
                have d0 := own_atZ G7.now (i := f.vars + i) (by rw [HNM.out.2.1]; omega)
                obtain ⟨zz, hzz⟩ : ∃ zz, NW.getD (f.vars + i) 0 = zz := ⟨_, rfl⟩
                rw [hzz] at d0
                have d1 := G7.now.frozen (f.vars + i)
                have H7 := Lib.hid (And.intro G7.stored (And.intro Q7 C7))
                clear b0 b1 b2 f0 f1 f2 hzz
                go_wp2
                go_roundw
                case rel =>
                  have hN : duN (f.vars + o.length) ⟨1, kk, xa⟩ (ren now xa) = [⟨1, 0, ren now xa⟩] := by simp [duN]
                  have hl := HS.out.1.1
                  have hl2 := HS.out.1.2
                  rw [hN] at hl hl2
                  refine ⟨i + 1, A', c', by omega, by go_num, ?_, ?_, ?_⟩
                  · rw [hl, hl2]
                    have hB := H7.out.1.set_now (f.vars + i) ((f.vars : Int) + (o.length : Int))
                    have hset := HNM.out.2.2 (f.vars + o.length)
                    have hat : ((f.vars + o.length : Nat) : Int) = ((f.vars : Int) + (o.length : Int)) := by push_cast; rfl
                    rw [hat] at hset
                    rw [hset] at hB
                    simpa using hB
                  · exact ((((H7.out.2.1.far (by show q ≠ q + 1 + 1; omega) _).far (by show q ≠ q + 1 + 1; omega) _).far (by show q ≠ q + 1 + 1; omega) _).far (by show q ≠ g; omega) _)
                  · exact ((((H7.out.2.2.far (by show q + 1 ≠ q + 1 + 1; omega) _).far (by show q + 1 ≠ q + 1 + 1; omega) _).far (by show q + 1 ≠ q + 1 + 1; omega) _).far (by show q + 1 ≠ g; omega) _)
                case measure => simp [intOf] <;> omega
              · have hC := HADD.out ⟨3, 0, ren now xa⟩ A9 s c9 HA.out.2 (by omega)
                go_wp2_with fail
                refine hC.mono ?_
                rintro e w7 ⟨A', c', rfl, hout, hgrow⟩
                clear hC
                obtain ⟨G7, Q7, C7, N7⟩ := HA.out.1 _ w7 A' c' hout hgrow
                clear hout hgrow n0 n1 n2
                obtain ⟨z0, z1, z2, z3, z4, z5⟩ := G7.cells
                obtain ⟨q0, q1, q2⟩ := own3 Q7
                obtain ⟨n0, n1, n2⟩ := own3 N7
                have d0 := own_atZ G7.now (i := f.vars + i) (by rw [HNM.out.2.1]; omega)
                obtain ⟨zz, hzz⟩ : ∃ zz, NW.getD (f.vars + i) 0 = zz := ⟨_, rfl⟩
                rw [hzz] at d0
                have d1 := G7.now.frozen (f.vars + i)
                have H7 := Lib.hid (And.intro G7.stored (And.intro Q7 C7))
                clear b0 b1 b2 f0 f1 f2 hzz
                go_wp2
                go_roundw
                case rel =>
                  have hN : duN (f.vars + o.length) ⟨2, kk, xa⟩ (ren now xa) = [⟨3, 0, ren now xa⟩] := by rfl
                  have hl := HS.out.1.1
                  have hl2 := HS.out.1.2
                  rw [hN] at hl hl2
                  refine ⟨i + 1, A', c', by omega, by go_num, ?_, ?_, ?_⟩
                  · rw [hl, hl2]
                    have hB := H7.out.1.set_now (f.vars + i) ((f.vars : Int) + (o.length : Int))
                    have hset := HNM.out.2.2 (f.vars + o.length)
                    have hat : ((f.vars + o.length : Nat) : Int) = ((f.vars : Int) + (o.length : Int)) := by push_cast; rfl
                    rw [hat] at hset
                    rw [hset] at hB
                    simpa using hB
                  · exact ((((H7.out.2.1.far (by show q ≠ q + 1 + 1; omega) _).far (by show q ≠ q + 1 + 1; omega) _).far (by show q ≠ q + 1 + 1; omega) _).far (by show q ≠ g; omega) _)
                  · exact ((((H7.out.2.2.far (by show q + 1 ≠ q + 1 + 1; omega) _).far (by show q + 1 ≠ q + 1 + 1; omega) _).far (by show q + 1 ≠ q + 1 + 1; omega) _).far (by show q + 1 ≠ g; omega) _)
                case measure => simp [intOf] <;> omega
              · have hC := HADD.out ⟨2, 0, ren now xa⟩ A9 s c9 HA.out.2 (by omega)
                go_wp2_with fail
                refine hC.mono ?_
                rintro e w7 ⟨A', c', rfl, hout, hgrow⟩
                clear hC
                obtain ⟨G7, Q7, C7, N7⟩ := HA.out.1 _ w7 A' c' hout hgrow
                clear hout hgrow n0 n1 n2
                obtain ⟨z0, z1, z2, z3, z4, z5⟩ := G7.cells
                obtain ⟨q0, q1, q2⟩ := own3 Q7
                obtain ⟨n0, n1, n2⟩ := own3 N7
                have d0 := own_atZ G7.now (i := f.vars + i) (by rw [HNM.out.2.1]; omega)
                obtain ⟨zz, hzz⟩ : ∃ zz, NW.getD (f.vars + i) 0 = zz := ⟨_, rfl⟩
                rw [hzz] at d0
                have d1 := G7.now.frozen (f.vars + i)
                have H7 := Lib.hid (And.intro G7.stored (And.intro Q7 C7))
                clear b0 b1 b2 f0 f1 f2 hzz
                go_wp2
                go_roundw
                case rel =>
                  have hN : duN (f.vars + o.length) ⟨3, kk, xa⟩ (ren now xa) = [⟨2, 0, ren now xa⟩] := by rfl
                  have hl := HS.out.1.1
                  have hl2 := HS.out.1.2
                  rw [hN] at hl hl2
                  refine ⟨i + 1, A', c', by omega, by go_num, ?_, ?_, ?_⟩
                  · rw [hl, hl2]
                    have hB := H7.out.1.set_now (f.vars + i) ((f.vars : Int) + (o.length : Int))
                    have hset := HNM.out.2.2 (f.vars + o.length)
                    have hat : ((f.vars + o.length : Nat) : Int) = ((f.vars : Int) + (o.length : Int)) := by push_cast; rfl
                    rw [hat] at hset
                    rw [hset] at hB
                    simpa using hB
                  · exact ((((H7.out.2.1.far (by show q ≠ q + 1 + 1; omega) _).far (by show q ≠ q + 1 + 1; omega) _).far (by show q ≠ q + 1 + 1; omega) _).far (by show q ≠ g; omega) _)
                  · exact ((((H7.out.2.2.far (by show q + 1 ≠ q + 1 + 1; omega) _).far (by show q + 1 ≠ q + 1 + 1; omega) _).far (by show q + 1 ≠ q + 1 + 1; omega) _).far (by show q + 1 ≠ g; omega) _)
                case measure => simp [intOf] <;> omega
              · have hk4 : 1 ≤ kk ∧ kk ≤ xa.length := HX.out.2.2.2.2.2 rfl
                have hxl : xa.length = s := HS.out.2.2.1
                have hxr : (ren now xa).length = s := HX.out.1
                have ek : (((ren now xa).length - kk + 1 : Nat) : Int) = (s : Int) - (kk : Int) + 1 := by omega
                have hC := HADD.out ⟨4, (ren now xa).length - kk + 1, ren now xa⟩ A9 s c9 HA.out.2 (by omega)
                simp only [ek] at hC
                go_wp2_with fail
                refine hC.mono ?_
                rintro e w7 ⟨A', c', rfl, hout, hgrow⟩
                clear hC
                obtain ⟨G7, Q7, C7, N7⟩ := HA.out.1 _ w7 A' c' hout hgrow
                clear hout hgrow n0 n1 n2
                obtain ⟨z0, z1, z2, z3, z4, z5⟩ := G7.cells
                obtain ⟨q0, q1, q2⟩ := own3 Q7
                obtain ⟨n0, n1, n2⟩ := own3 N7
                have d0 := own_atZ G7.now (i := f.vars + i) (by rw [HNM.out.2.1]; omega)
                obtain ⟨zz, hzz⟩ : ∃ zz, NW.getD (f.vars + i) 0 = zz := ⟨_, rfl⟩
                rw [hzz] at d0
                have d1 := G7.now.frozen (f.vars + i)
                have H7 := Lib.hid (And.intro G7.stored (And.intro Q7 C7))
                clear b0 b1 b2 f0 f1 f2 hzz
                go_wp2
                go_roundw
                case rel =>
                  have hN : duN (f.vars + o.length) ⟨4, kk, xa⟩ (ren now xa) = [⟨4, (ren now xa).length - kk + 1, ren now xa⟩] := by simp [duN]
                  have hl := HS.out.1.1
                  have hl2 := HS.out.1.2
                  rw [hN] at hl hl2
                  refine ⟨i + 1, A', c', by omega, by go_num, ?_, ?_, ?_⟩
                  · rw [hl, hl2]
                    have hB := H7.out.1.set_now (f.vars + i) ((f.vars : Int) + (o.length : Int))
                    have hset := HNM.out.2.2 (f.vars + o.length)
                    have hat : ((f.vars + o.length : Nat) : Int) = ((f.vars : Int) + (o.length : Int)) := by push_cast; rfl
                    rw [hat] at hset
                    rw [hset] at hB
                    simpa using hB
                  · exact ((((H7.out.2.1.far (by show q ≠ q + 1 + 1; omega) _).far (by show q ≠ q + 1 + 1; omega) _).far (by show q ≠ q + 1 + 1; omega) _).far (by show q ≠ g; omega) _)
                  · exact ((((H7.out.2.2.far (by show q + 1 ≠ q + 1 + 1; omega) _).far (by show q + 1 ≠ q + 1 + 1; omega) _).far (by show q + 1 ≠ q + 1 + 1; omega) _).far (by show q + 1 ≠ g; omega) _)
                case measure => simp [intOf] <;> omega
              · have hC := HADD.out ⟨5, 0, ren now xa⟩ A9 s c9 HA.out.2 (by omega)
                go_wp2_with fail
                refine hC.mono ?_
                rintro e w7 ⟨A', c', rfl, hout, hgrow⟩
                clear hC
                obtain ⟨G7, Q7, C7, N7⟩ := HA.out.1 _ w7 A' c' hout hgrow
                clear hout hgrow n0 n1 n2
                have hxr : (ren now xa).length = s := HX.out.1
                by_cases hev : s % 2 = 0
                · have hev2 : (s : Int) % 2 = 0 := by omega
                  obtain ⟨z0, z1, z2, z3, z4, z5⟩ := G7.cells
                  obtain ⟨n0, n1, n2⟩ := own3 N7
                  have n0' : w7.cell? ⟨p, 0, none⟩ = some (.int .i64 5) := n0
                  have B8 := G7.stored
                  obtain ⟨w8, hw8⟩ : ∃ w8, ((w7.setCell ⟨q + 1 + 1, 0, none⟩ (.int .i64 (f.vars : Int))).setCell ⟨q + 1 + 1, 1, none⟩ (.slice A' (o.length + 1) c')).setCell ⟨q + 1 + 1, 2, none⟩ (.int .i64 0) = w8 := ⟨_, rfl⟩
                  rw [hw8] at B8
                  have Q8 : Own w8 q 24 #[.int .i64 (f.vars : Int), .slice (some ad) n c, .int .i64 (f.top : Int)] := by rw [← hw8]; exact ((Q7.far (by show q ≠ q + 1 + 1; omega) _).far (by show q ≠ q + 1 + 1; omega) _).far (by show q ≠ q + 1 + 1; omega) _
                  have C8 : Own w8 (q + 1) 24 #[.int .i64 0, .slice none 0 0, .int .i64 0] := by rw [← hw8]; exact ((C7.far (by show q + 1 ≠ q + 1 + 1; omega) _).far (by show q + 1 ≠ q + 1 + 1; omega) _).far (by show q + 1 ≠ q + 1 + 1; omega) _
                  have N8 : Own w8 p 49 #[.int .i64 ((5 : Nat) : Int), .int .i64 (kk : Int), .slice P s k] := by rw [← hw8]; exact ((N7.far (by show p ≠ q + 1 + 1; omega) _).far (by show p ≠ q + 1 + 1; omega) _).far (by show p ≠ q + 1 + 1; omega) _
                  have hsz8 : g + 1 ≤ w8.heap.size := by have := B8.now.lt; omega
                  have P9 : On w8 (w8.alloc (.cells #[.int .i64 ((f.vars : Int) + (o.length : Int))] 3)) := (On.refl w8).alloc _
                  have hR8 := rd_one w8 3 (.int .i64 ((f.vars : Int) + (o.length : Int)))
                  have ehR : VI (ints [f.vars + o.length]) = [.int .i64 ((f.vars : Int) + (o.length : Int))] := by simp [VI, ints]
                  rw [← ehR] at hR8
                  have hC2 := radd_any _ (f.vars : Int) 0 A' (o.length + 1) c' (g + 1) _ (B8.to P9).out ⟨1, 0, [f.vars + o.length]⟩ _ 1 1 hR8 (by omega) (by omega) (by have := P9.size; omega) (by omega)
                  obtain ⟨m0, m1, m2⟩ := own3 B8.box
                  obtain ⟨k0, k1, k2⟩ := own3 N8
                  have k0' : w8.cell? ⟨p, 0, none⟩ = some (.int .i64 5) := k0
                  have HB8 := Lib.hid (And.intro (B8.to P9) (And.intro (Q8.on P9) (C8.on P9)))
                  clear b0 b1 b2 f0 f1 f2 B8 Q8 C8 N8 P9 hR8 ehR G7 Q7 C7 N7 n0 n1 n2 k0
                  go_wp2_with fail
                  refine hC2.mono ?_
                  rintro e w9 ⟨A2, c2, rfl, hout2, hgrow2⟩
                  clear hC2 z0 z1 z2 z3 z4 z5 n0' m0 m1 m2 k0' k1 k2 hw8
                  have hb8 := HB8.out.1.blk
                  have G9 := HB8.out.1.grow hgrow2 hout2
                  have Q9 := own_by HB8.out.2.1 hgrow2 (fun b hb => by have := hb8 b hb; omega)
                  have C9 := own_by HB8.out.2.2 hgrow2 (fun b hb => by have := hb8 b hb; omega)
                  obtain ⟨z0, z1, z2, z3, z4, z5⟩ := G9.cells
                  obtain ⟨q0, q1, q2⟩ := own3 Q9
                  have d0 := own_atZ G9.now (i := f.vars + i) (by rw [HNM.out.2.1]; omega)
                  obtain ⟨zz, hzz⟩ : ∃ zz, NW.getD (f.vars + i) 0 = zz := ⟨_, rfl⟩
                  rw [hzz] at d0
                  have d1 := G9.now.frozen (f.vars + i)
                  have H7 := Lib.hid (And.intro G9.stored (And.intro Q9 C9))
                  clear hzz hout2 hgrow2 hb8
                  go_wp2
                  go_roundw
                  case rel =>
                    have hN : duN (f.vars + o.length) ⟨5, kk, xa⟩ (ren now xa) = [⟨5, 0, ren now xa⟩, ⟨1, 0, [f.vars + o.length]⟩] := by simp [duN, hxr, hev]
                    have hl := HS.out.1.1
                    have hl2 := HS.out.1.2
                    rw [hN] at hl hl2
                    refine ⟨i + 1, A2, c2, by omega, by go_num, ?_, ?_, ?_⟩
                    · have e9 : f.vars + o.length + ([(⟨5, 0, ren now xa⟩ : Nn), ⟨1, 0, [f.vars + o.length]⟩] : List Nn).length - 1 = f.vars + (o.length + 1) := by simp <;> omega
                      rw [e9] at hl2
                      rw [hl, hl2]
                      have hB := H7.out.1.set_now (f.vars + i) ((f.vars : Int) + ((o.length + 1 : Nat) : Int))
                      have hset := HNM.out.2.2 (f.vars + (o.length + 1))
                      have hat : ((f.vars + (o.length + 1) : Nat) : Int) = (f.vars : Int) + ((o.length + 1 : Nat) : Int) := by push_cast; rfl
                      rw [hat] at hset
                      rw [hset] at hB
                      simpa using hB
                    · exact ((((H7.out.2.1.far (by show q ≠ q + 1 + 1; omega) _).far (by show q ≠ q + 1 + 1; omega) _).far (by show q ≠ q + 1 + 1; omega) _).far (by show q ≠ g; omega) _)
                    · exact ((((H7.out.2.2.far (by show q + 1 ≠ q + 1 + 1; omega) _).far (by show q + 1 ≠ q + 1 + 1; omega) _).far (by show q + 1 ≠ q + 1 + 1; omega) _).far (by show q + 1 ≠ g; omega) _)
                  case measure => simp [intOf] <;> omega
                · have hev2 : (s : Int) % 2 = 1 := by omega
                  obtain ⟨z0, z1, z2, z3, z4, z5⟩ := G7.cells
                  obtain ⟨q0, q1, q2⟩ := own3 Q7
                  obtain ⟨n0, n1, n2⟩ := own3 N7
                  have d0 := own_atZ G7.now (i := f.vars + i) (by rw [HNM.out.2.1]; omega)
                  obtain ⟨zz, hzz⟩ : ∃ zz, NW.getD (f.vars + i) 0 = zz := ⟨_, rfl⟩
                  rw [hzz] at d0
                  have d1 := G7.now.frozen (f.vars + i)
                  have H7 := Lib.hid (And.intro G7.stored (And.intro Q7 C7))
                  clear b0 b1 b2 f0 f1 f2 hzz
                  go_wp2
                  go_roundw
                  case rel =>
                    have hN : duN (f.vars + o.length) ⟨5, kk, xa⟩ (ren now xa) = [⟨5, 0, ren now xa⟩] := by simp [duN, hxr, hev]
                    have hl := HS.out.1.1
                    have hl2 := HS.out.1.2
                    rw [hN] at hl hl2
                    refine ⟨i + 1, A', c', by omega, by go_num, ?_, ?_, ?_⟩
                    · rw [hl, hl2]
                      have hB := H7.out.1.set_now (f.vars + i) ((f.vars : Int) + (o.length : Int))
                      have hset := HNM.out.2.2 (f.vars + o.length)
                      have hat : ((f.vars + o.length : Nat) : Int) = ((f.vars : Int) + (o.length : Int)) := by push_cast; rfl
                      rw [hat] at hset
                      rw [hset] at hB
                      simpa using hB
                    · exact ((((H7.out.2.1.far (by show q ≠ q + 1 + 1; omega) _).far (by show q ≠ q + 1 + 1; omega) _).far (by show q ≠ q + 1 + 1; omega) _).far (by show q ≠ g; omega) _)
                    · exact ((((H7.out.2.2.far (by show q + 1 ≠ q + 1 + 1; omega) _).far (by show q + 1 ≠ q + 1 + 1; omega) _).far (by show q + 1 ≠ q + 1 + 1; omega) _).far (by show q + 1 ≠ g; omega) _)
                  case measure => simp [intOf] <;> omega
        · obtain rfl : i = n := by omega
          have e : duTo f i = duTo f f.nodes.length := by rw [HN.out]
          rw [e] at hB
          obtain ⟨r0, r1, r2⟩ := own3 hQ
          have hnl := (duTo_tr HF.out f.nodes.length (Nat.le_refl _)).len
          have hni := HN.out
          have hg0 := own_atZ hB.now (i := f.top) (by rw [pad_len (by rw [ints_length, hnl]; omega)]; omega)
          rw [pad_get (by rw [ints_length, hnl]; omega), ints_getD (by rw [hnl]; omega)] at hg0
          have hD1 : (dual f).nodes = (duTo f f.nodes.length).1 := rfl
          have hD2 : (dual f).top = (duTo f f.nodes.length).2.getD f.top 0 := rfl
          have hD3 : (dual f).vars = f.vars := rfl
          rw [← hD2] at hg0
          rw [← hD1] at hB
          obtain ⟨tp, htp⟩ : ∃ tp, (dual f).top = tp := ⟨_, rfl⟩
          rw [htp] at hg0
          obtain ⟨no, hno⟩ : ∃ no, (dual f).nodes.length = no := ⟨_, rfl⟩
          rw [hno] at hB
          obtain ⟨b0, b1, b2⟩ := own3 hB.box
          have e0 := hB.box.frozen 2
          obtain ⟨w6, hw6⟩ : ∃ w6, wo.setCell ⟨q + 1 + 1, 2, none⟩ (.int .i64 (tp : Int)) = w6 := ⟨_, rfl⟩
          have O6 : Own w6 (q + 1 + 1) 24 #[.int .i64 (f.vars : Int), .slice AO no cO, .int .i64 (tp : Int)] := by rw [← hw6]; exact hB.box.set_ 2 _
          have R6 : OutN w6 (g + 1) (.slice AO no cO) (dual f).nodes := by rw [← hw6]; exact hB.out.far (p := ⟨q + 1 + 1, 2, none⟩) hB.hb _
          have hf6 := R6.rd.2
          have hcO := hf6.cap
          have hmO := hf6.max
          have C6 : Own w6 (q + 1) 24 #[.int .i64 0, .slice none 0 0, .int .i64 0] := by rw [← hw6]; exact hC.far (by show q + 1 ≠ q + 1 + 1; omega) _
          have P6 : On w w6 := by rw [← hw6]; exact On.setCell hB.on (p := ⟨q + 1 + 1, 2, none⟩) hB.hab _
          have hS := rsized_any w6 (f.vars : Int) (tp : Int) AO no cO hcO hmO
          obtain ⟨x0, x1, x2⟩ := own3 O6
          have HE := Lib.hid (And.intro P6 (And.intro C6 (And.intro R6 (And.intro hno (And.intro htp hD3)))))
          clear hB hQ hC hnl hni O6 R6 C6 P6 hD1 hD2 hD3 htp hno e hf6
          go_wp2_with fail
          refine hS.mono ?_
          rintro e w7 ⟨hM, P7⟩
          clear hS r0 r1 r2 hg0 b0 b1 b2 e0 x0 x1 x2 hw6
          have hC7 := HE.out.2.1.on P7
          obtain ⟨c0, c1, c2⟩ := own3 hC7
          have g0 := hC7.frozen 0
          have g1 := hC7.frozen 1
          have g2 := hC7.frozen 2
          rcases hM with ⟨hle, rfl⟩ | ⟨hgt, rfl⟩
          · have OF := ((hC7.set_ 0 (.int .i64 (f.vars : Int))).set_ 1 (.slice AO no cO)).set_ 2 (.int .i64 (tp : Int))
            obtain ⟨x0, x1, x2⟩ := own3 (show Own _ (q + 1) 24 #[.int .i64 (f.vars : Int), .slice AO no cO, .int .i64 (tp : Int)] from OF)
            have P8 := On.setCell (On.setCell (On.setCell (HE.out.1.trans P7) (p := ⟨q + 1, 0, none⟩) (by show w.heap.size ≤ q + 1; omega) (.int .i64 (f.vars : Int))) (p := ⟨q + 1, 1, none⟩) (by show w.heap.size ≤ q + 1; omega) (.slice AO no cO)) (p := ⟨q + 1, 2, none⟩) (by show w.heap.size ≤ q + 1; omega) (.int .i64 (tp : Int))
            have hqb : q + 1 < g + 1 := by omega
            have U8 := ((((HE.out.2.2.1.on P7).far (p := ⟨q + 1, 0, none⟩) hqb (.int .i64 (f.vars : Int))).far (p := ⟨q + 1, 1, none⟩) hqb (.slice AO no cO)).far (p := ⟨q + 1, 2, none⟩) hqb (.int .i64 (tp : Int)))
            have HZ := Lib.hid (And.intro hle (And.intro P8 U8))
            clear OF P8 hle hC7 U8
            go_wp2
            refine bodyPost_ret (v := .tuple #[.agg #[.int .i64 (f.vars : Int), .slice AO no cO, .int .i64 (tp : Int)], .int .i64 0]) (by simp [results, Try.results19, go_sem, x0, x1, x2]) rfl ⟨.inl ?_, HZ.out.2.1⟩
            rw [HE.out.2.2.2.1, HE.out.2.2.2.2.1, HE.out.2.2.2.2.2]
            exact ⟨HZ.out.1, AO, cO, rfl, HZ.out.2.2.low (by omega)⟩
          · have OF := ((hC7.set_ 0 (.int .i64 0)).set_ 1 (.slice none 0 0)).set_ 2 (.int .i64 0)
            obtain ⟨x0, x1, x2⟩ := own3 (show Own _ (q + 1) 24 #[.int .i64 0, .slice none 0 0, .int .i64 0] from OF)
            have P8 := On.setCell (On.setCell (On.setCell (HE.out.1.trans P7) (p := ⟨q + 1, 0, none⟩) (by show w.heap.size ≤ q + 1; omega) (.int .i64 0)) (p := ⟨q + 1, 1, none⟩) (by show w.heap.size ≤ q + 1; omega) (.slice none 0 0)) (p := ⟨q + 1, 2, none⟩) (by show w.heap.size ≤ q + 1; omega) (.int .i64 0)
            have HZ := Lib.hid (And.intro hgt P8)
            clear OF P8 hgt hC7
            go_wp2
            refine bodyPost_ret (v := .tuple #[.agg #[.int .i64 0, .slice none 0 0, .int .i64 0], .int .i64 4]) (by simp [results, Try.results19, go_sem, x0, x1, x2]) rfl ⟨.inr ?_, HZ.out.2⟩
            rw [HE.out.2.2.2.1]
            exact ⟨HZ.out.1, rfl⟩
end Go.Proofs.Ytooeppffacnmaaa.Fm
/-
  Formulas in which events are replaced: joined of the specification.
-/
namespace Go.Proofs.Ytooeppffacnmaaa.Fm
open Go.RowKit Go.Proofs.Ytooeppffacnmaaa.Sb
set_option linter.unusedVariables false
set_option maxRecDepth 100000
/-- a formula under way: its box in block b, the nodes o so far -/
structure Bx (wa w : World) (base b : Nat) (V : Int) (o : List Nn) (v : Value) : Prop where
  on : On wa w
  box : Own w b 24 #[.int .i64 V, v, .int .i64 0]
  out : OutN w base v o
  hb : b < base
  hab : wa.heap.size ≤ b
theorem Bx.to {wa w w' : World} {base b : Nat} {V : Int} {o : List Nn} {v : Value} (h : Bx wa w base b V o v) (k : On w w') : Bx wa w' base b V o v :=
  ⟨h.on.trans k, h.box.on k, h.out.on k, h.hb, h.hab⟩
theorem Bx.blk {wa w : World} {base b : Nat} {V : Int} {o : List Nn} {v : Value} (h : Bx wa w base b V o v) : ∀ k, v.ownBlock = some k → base ≤ k ∧ k < w.heap.size ∧ ∃ cur, Own w k 49 cur := h.out.blk
structure Gx (wa w : World) (base b : Nat) (V : Int) (o : List Nn) (v v0 : Value) : Prop where
  on : On wa w
  box : Own w b 24 #[.int .i64 V, v0, .int .i64 0]
  out : OutN w base v o
  hb : b < base
  hab : wa.heap.size ≤ b
theorem Bx.grow {wa w w' : World} {base b : Nat} {V : Int} {o o' : List Nn} {v v' : Value} (h : Bx wa w base b V o v) (k : w.grownBy w' v.ownBlock) (h' : OutN w' base v' o') : Gx wa w' base b V o' v' v := by
  have hk := h.blk
  have h1 := h.hb
  have h3 := h.hab
  exact ⟨on_by h.on k (fun b hb => by have := (hk b hb).1; omega), own_by h.box k (fun b hb => by have := (hk b hb).1; omega), h', h.hb, h.hab⟩
theorem Gx.cells {wa w : World} {base b : Nat} {V : Int} {o : List Nn} {v v0 : Value} (h : Gx wa w base b V o v v0) :
    w.cell? ⟨b, 0, none⟩ = some (.int .i64 V) ∧ w.cell? ⟨b, 1, none⟩ = some v0 ∧ w.cell? ⟨b, 2, none⟩ = some (.int .i64 0) ∧ w.frozen? ⟨b, 0, none⟩ = false ∧ w.frozen? ⟨b, 1, none⟩ = false ∧ w.frozen? ⟨b, 2, none⟩ = false :=
  ⟨(own3 h.box).1, (own3 h.box).2.1, (own3 h.box).2.2, h.box.frozen 0, h.box.frozen 1, h.box.frozen 2⟩
theorem Gx.stored {wa w : World} {base b : Nat} {V : Int} {o : List Nn} {v v0 : Value} (h : Gx wa w base b V o v v0) : Bx wa (((w.setCell ⟨b, 0, none⟩ (.int .i64 V)).setCell ⟨b, 1, none⟩ v).setCell ⟨b, 2, none⟩ (.int .i64 0)) base b V o v := by
  have hb := h.hb
  exact ⟨On.setCell (On.setCell (On.setCell h.on (p := ⟨b, 0, none⟩) h.hab _) (p := ⟨b, 1, none⟩) h.hab _) (p := ⟨b, 2, none⟩) h.hab _, ((h.box.set_ 0 _).set_ 1 _).set_ 2 _, ((h.out.far (p := ⟨b, 0, none⟩) hb _).far (p := ⟨b, 1, none⟩) hb _).far (p := ⟨b, 2, none⟩) hb _, h.hb, h.hab⟩
theorem row_far {w : World} {base : Nat} {v : Value} {n : Nat} {xs : List Value} (h : w.ownsRow base 3 1 v n xs) {p : Addr} (hp : p.block < base) (u : Value) : (w.setCell p u).ownsRow base 3 1 v n xs :=
  row_by h (row := some p.block) ⟨rfl, rfl, rfl, by simp [World.setCell], fun k _ hne => Below.heap_setCell _ _ _ _ (fun e => hne (by rw [e]))⟩ (fun g e => by cases e; exact .inl hp)
theorem okN_len {m : Nat} {x : Nn} (h : okN m x) : x.args.length ≤ 16 := by
  obtain ⟨_, h0, _, h2, _⟩ := h
  by_cases hk : x.kind = 0
  · rw [(h0 hk).1]; simp
  · exact (h2 hk).2
theorem rawL_get {l : List Nn} {i : Nat} (hi : i < l.length) : (rawL l).getD i Nd.z = (ndL l i).raw := raw_get ⟨0, l, 0⟩ i
theorem take_nd {l : List Nn} {i : Nat} (h : i < l.length) : l.take (i + 1) = l.take i ++ [ndL l i] := by
  unfold ndL
  rw [List.take_add_one]; simp [h]
/-- the numbers so far -/
def jev (v k : Nat) (events : List Nat) (i : Nat) : List Nat := events ++ (List.range i).map fun j => v + k + j
theorem jev_succ (v k : Nat) (events : List Nat) (i : Nat) : jev v k events (i + 1) = jev v k events i ++ [v + k + i] := by
  unfold jev; rw [List.range_succ]; simp
theorem jev_len (v k : Nat) (events : List Nat) (i : Nat) : (jev v k events i).length = events.length + i := by simp [jev]
theorem jev_full (v : Nat) (first : List Nn) (events : List Nat) (n : Nat) : jev v first.length events n = jnow v first events n := rfl
set_option maxHeartbeats 16000000 in
theorem rjoined_ok (w : World) (f : Fn) (hf : WF f) (A : Option Addr) (n c : Nat) (h : RdN w A n c (rawL f.nodes)) (first : List Nn) (hfo : okL f.vars first) (hfl : first.length ≤ 1000) (B : Option Addr) (m d : Nat) (hFi : RdN w B m d (rawL first)) (events : List Nat) (E : Option Addr) (me ce : Nat) (hEv : Rd w E me ce (VI (ints events))) (hel : events.length = f.vars) :
    Calls Try.prog 48 #[.agg #[.int .i64 (f.vars : Int), .slice A n c, .int .i64 (f.top : Int)], .slice B m d, .slice E me ce] w fun e w' => MadeR w.heap.size (joined f first events) e w' ∧ On w w' := by
  have hn : f.nodes.length = n := by have := h.len; rwa [raw_len] at this
  have hmf : first.length = m := by have := hFi.len; rwa [raw_len] at this
  have hme : me = f.vars := by have := VI_len hEv; rw [ints_length] at this; omega
  subst hme
  have hcap := h.cap
  have hmax := h.max
  have hcapB := hFi.cap
  have hmaxB := hFi.max
  have hcapE := hEv.cap
  have hmaxE := hEv.max
  have hv := hf.1
  have hn128 : f.nodes.length ≤ 128 := hf.2.1
  have htop := hf.2.2.2
  rw [hn] at hn128 htop
  rw [hmf] at hfl
  obtain ⟨q, hq⟩ : ∃ q, w.heap.size = q := ⟨_, rfl⟩
  obtain ⟨w0, hw0⟩ : ∃ w0, ((w.alloc (.cells #[.int .i64 (f.vars : Int), .slice A n c, .int .i64 (f.top : Int)] 24)).alloc (.cells #[.int .i64 0, .slice none 0 0, .int .i64 0] 24)).alloc (.cells #[.int .i64 (f.vars : Int), .slice none 0 0, .int .i64 0] 24) = w0 := ⟨_, rfl⟩
  have O0 : Own w0 q 24 #[.int .i64 (f.vars : Int), .slice A n c, .int .i64 (f.top : Int)] := by rw [← hw0, ← hq]; exact ((Own.new _ _ _).alloc _).alloc _
  have C0 : Own w0 (q + 1) 24 #[.int .i64 0, .slice none 0 0, .int .i64 0] := by
    rw [← hw0, ← hq]
    have := (Own.new (w.alloc (.cells #[.int .i64 (f.vars : Int), .slice A n c, .int .i64 (f.top : Int)] 24)) 24 #[.int .i64 0, .slice none 0 0, .int .i64 0]).alloc (.cells #[.int .i64 (f.vars : Int), .slice none 0 0, .int .i64 0] 24)
    simpa using this
  have B0 : Own w0 (q + 1 + 1) 24 #[.int .i64 (f.vars : Int), .slice none 0 0, .int .i64 0] := by
    rw [← hw0, ← hq]
    have := Own.new ((w.alloc (.cells #[.int .i64 (f.vars : Int), .slice A n c, .int .i64 (f.top : Int)] 24)).alloc (.cells #[.int .i64 0, .slice none 0 0, .int .i64 0] 24)) 24 #[.int .i64 (f.vars : Int), .slice none 0 0, .int .i64 0]
    simpa using this
  have P0 : On w w0 := by rw [← hw0]; exact (((On.refl w).alloc _).alloc _).alloc _
  obtain ⟨r0, r1, r2⟩ := own3 O0
  have hB1 : Bx w w0 (q + 1 + 1 + 1) (q + 1 + 1) (f.vars : Int) [] (.slice none 0 0) := ⟨P0, B0, OutN.nil _ _, by omega, by omega⟩
  have H1 := Lib.hid (And.intro hB1 (And.intro O0 C0))
  have HW := Lib.hid hw0
  have HN := Lib.hid (And.intro hn (And.intro hmf hel))
  have HF := Lib.hid hf
  have HR := Lib.hid h
  have HFI := Lib.hid (And.intro hFi (And.intro hfo hEv))
  clear h hn hmf hel hf O0 C0 B0 P0 hw0 hB1 hFi hfo hEv
  go_enter Try.func48, Try.ntmps48
  go_upto_region 2 with fail
  rw [HW.out]
  go_wp2
  clear r0 r1 r2
  go_loopw [23] (fun i wr => ∃ (k : Nat) (AO : Option Addr) (cO : Nat), k ≤ m ∧ i = .int .i64 (k : Int) ∧ Bx w wr (q + 1 + 1 + 1) (q + 1 + 1) (f.vars : Int) (first.take k) (.slice AO k cO) ∧ Own wr q 24 #[.int .i64 (f.vars : Int), .slice A n c, .int .i64 (f.top : Int)] ∧ Own wr (q + 1) 24 #[.int .i64 0, .slice none 0 0, .int .i64 0]) (fun i _ => m - (intOf i).toNat)
  case atStart => exact ⟨0, none, 0, by omega, rfl, H1.out.1, H1.out.2.1, H1.out.2.2⟩
  case round =>
    obtain ⟨k, AO, cO, hk, rfl, hB, hQ, hC⟩ := hrel
    obtain ⟨wo, hwo⟩ : ∃ wo, wo = wr := ⟨_, rfl⟩
    subst hwo
    by_cases hlt : k < m
    · obtain ⟨ad, rfl, hbl, P, s, kc, hc0, hc1, hc2, hRA⟩ := (HFI.out.1.on hB.on).at_ k hlt
      have hkl : k < first.length := by rw [HN.out.2.1]; exact hlt
      rw [rawL_get hkl] at hc0 hc1 hRA
      have hs16 : (ndL first k).args.length ≤ 16 := okN_len (HFI.out.2.1 k hkl)
      have hsl : (ndL first k).args.length = s := by have := VI_len hRA; unfold Nn.raw at this; rwa [ints_length] at this
      have htk := take_nd hkl
      have htl : (first.take k).length = k := by rw [List.length_take]; omega
      obtain ⟨x, hx⟩ : ∃ x, ndL first k = x := ⟨_, rfl⟩
      rw [hx] at hc0 hc1 hRA hs16 hsl htk
      have c0 : wo.cell? (ad.add (k * 3)) = some (.int .i64 (x.kind : Int)) := hc0
      have c1 : wo.cell? ⟨(ad.add (k * 3)).block, (ad.add (k * 3)).off + 1, none⟩ = some (.int .i64 (x.k : Int)) := hc1
      obtain ⟨p, hp⟩ : ∃ p, wo.heap.size = p := ⟨_, rfl⟩
      obtain ⟨w5, hw5⟩ : ∃ w5, wo.alloc (.cells #[.int .i64 (x.kind : Int), .int .i64 (x.k : Int), .slice P s kc] 49) = w5 := ⟨_, rfl⟩
      have ON : Own w5 p 49 #[.int .i64 (x.kind : Int), .int .i64 (x.k : Int), .slice P s kc] := by rw [← hw5, ← hp]; exact Own.new _ _ _
      have P5 : On wo w5 := by rw [← hw5]; exact (On.refl wo).alloc _
      have hRA2 : Rd w5 P s kc (VI (ints x.args)) := hRA.on P5
      have hB5 := hB.to P5
      have hadd := radd_any w5 (f.vars : Int) 0 AO k cO (q + 1 + 1 + 1) _ hB5.out x P s kc hRA2 (by omega) (by omega) (by have := hB5.box.lt; omega) (by omega)
      obtain ⟨n0, n1, n2⟩ := own3 ON
      obtain ⟨b0, b1, b2⟩ := own3 hB5.box
      have H5 := Lib.hid (And.intro hB5 (And.intro (hQ.on P5) (And.intro (hC.on P5) (And.intro htk htl))))
      clear hc0 hc1 hRA hRA2 hB hB5 hQ hC ON P5 hx htk htl hsl
      go_wp2_with fail
      refine hadd.mono ?_
      rintro e w7 ⟨A', c', rfl, hout, hgrow⟩
      clear hadd c0 c1 hc2 n0 n1 n2 b0 b1 b2 hw5
      have hb := H5.out.1.blk
      have G7 := H5.out.1.grow hgrow hout
      have Q7 := own_by H5.out.2.1 hgrow (fun b hb2 => by have := (hb b hb2).1; omega)
      have C7 := own_by H5.out.2.2.1 hgrow (fun b hb2 => by have := (hb b hb2).1; omega)
      obtain ⟨z0, z1, z2, z3, z4, z5⟩ := G7.cells
      have H7 := Lib.hid (And.intro G7.stored (And.intro Q7 C7))
      clear G7 Q7 C7 hb hout hgrow
      go_wp2
      go_roundw
      case rel =>
        refine ⟨k + 1, A', c', by omega, by go_num, ?_, ?_, ?_⟩
        · rw [H5.out.2.2.2.1]; exact H7.out.1
        · exact (((H7.out.2.1.far (by show q ≠ q + 1 + 1; omega) _).far (by show q ≠ q + 1 + 1; omega) _).far (by show q ≠ q + 1 + 1; omega) _)
        · exact (((H7.out.2.2.far (by show q + 1 ≠ q + 1 + 1; omega) _).far (by show q + 1 ≠ q + 1 + 1; omega) _).far (by show q + 1 ≠ q + 1 + 1; omega) _)
      case measure => simp [intOf] <;> omega
    · obtain rfl : k = m := by omega
      have etk : first.take k = first := List.take_of_length_le (by rw [HN.out.2.1]; exact Nat.le_refl _)
      rw [etk] at hB
      obtain ⟨wS, hwS⟩ : ∃ wS, wo.heap.size = wS := ⟨_, rfl⟩
      have hqS : q + 1 + 1 + 1 ≤ wS := by have := hB.box.lt; omega
      have PA : On wo (wo.alloc (.cells #[] 3)) := (On.refl wo).alloc _
      have hrow0 := row_lit0 wo 3 1
      rw [hwS] at hrow0
      have hEw := HFI.out.2.2.on (hB.on.trans PA)
      have hHR := HR.out.on hB.on
      have H2 := Lib.hid (And.intro hB (And.intro hQ (And.intro hC (And.intro hEw hrow0))))
      have hPA := Lib.hid PA
      clear hB hQ hC etk hrow0 hEw PA hHR
      go_wp2_with (at_builtin; refine wpList_app rfl (.tmp 39) (.tmp 40) 47 rfl wS 3 (.int .i64 0) 8 Try.underlying47 infoi rfl (by decide) (.slice (some ⟨wS, 0, none⟩) 0 0) 0 [] rfl H2.out.2.2.2.2 E f.vars ce (VI (ints events)) rfl H2.out.2.2.2.1 (VI_one _) (by omega) (by simp; omega) ?_; intro v' w10 hown10 hgrow10 _; obtain ⟨AN, cN, rfl⟩ := row_form hown10; have PW := on_row hPA.out H2.out.2.2.2.2 (by rw [hwS]; exact Nat.le_refl _) hgrow10; obtain ⟨r0, r1, r2⟩ := own3 (H2.out.2.1.on PW))
      have hown : w10.ownsRow wS 3 1 (.slice AN (f.vars + 0) cN) (f.vars + 0) (VI (ints (jev f.vars first.length events 0))) := by
        have e : jev f.vars first.length events 0 = events := by simp [jev]
        rw [e]
        simpa using hown10
      have H3 := Lib.hid (And.intro (H2.out.1.to PW) (And.intro (H2.out.2.1.on PW) (And.intro (H2.out.2.2.1.on PW) (And.intro hown PW))))
      have hszS : wS ≤ w10.heap.size := by have := PW.size; omega
      clear hown10 hgrow10 PW hown
      clear r0 r1 r2
      go_loopw [45, 11] (fun i v wr => ∃ (j : Nat) (AN : Option Addr) (cN : Nat), j ≤ n ∧ i = .int .i64 (j : Int) ∧ v = .slice AN (f.vars + j) cN ∧ wr.ownsRow wS 3 1 (.slice AN (f.vars + j) cN) (f.vars + j) (VI (ints (jev f.vars first.length events j))) ∧ On wo wr) (fun i _ _ => n - (intOf i).toNat)
      case atStart => exact ⟨0, AN, cN, by omega, rfl, rfl, H3.out.2.2.2.1, H3.out.2.2.2.2⟩
      case round =>
        obtain ⟨j, AN, cN, hj, rfl, rfl, hrow, hon⟩ := hrel
        have hkf : first.length = k := HN.out.2.1
        by_cases hltj : j < n
        · obtain ⟨r0, r1, r2⟩ := own3 (H2.out.2.1.on hon)
          have hsz := hon.size
          have hsucc := jev_succ f.vars first.length events j
          have HROW := Lib.hid (And.intro hrow (And.intro hon (And.intro hsucc hkf)))
          clear hrow hon hsucc hkf
          go_wp2_with (at_builtin; refine wpList_app rfl (.tmp 48) (.tmp 56) 47 rfl wS 3 (.int .i64 0) 8 Try.underlying47 infoi rfl (by decide) (.slice AN (f.vars + j) cN) _ (VI (ints (jev f.vars first.length events j))) rfl (row_alloc HROW.out.1 _) (some ⟨wr.heap.size, 0, none⟩) 1 1 [.int .i64 ((f.vars : Int) + (k : Int) + (j : Int))] rfl (rd_one _ _ _) (by simp [Value.oneCell']) (by omega) (by simp; omega) ?_; intro v' w11 hown11 hgrow11 _)
          obtain ⟨A11, c11, rfl⟩ := row_form hown11
          go_roundw
          case rel =>
            refine ⟨j + 1, A11, c11, by omega, by go_num, rfl, ?_, on_row (HROW.out.2.1.alloc _) (row_alloc HROW.out.1 _) (by rw [hwS]; exact Nat.le_refl _) hgrow11⟩
            have e : VI (ints (jev f.vars first.length events (j + 1))) = VI (ints (jev f.vars first.length events j)) ++ [.int .i64 ((f.vars : Int) + (k : Int) + (j : Int))] := by
              rw [HROW.out.2.2.1, HROW.out.2.2.2, ints_snoc, VI_snocI]; push_cast; rfl
            rw [e]; exact hown11
          case measure => simp [intOf] <;> omega
        · obtain rfl : j = n := by omega
          have hB4 := H2.out.1.to hon
          have hQ4 := H2.out.2.1.on hon
          have hC4 := H2.out.2.2.1.on hon
          rw [jev_full] at hrow
          obtain ⟨NW, hNW⟩ : ∃ NW, jnow f.vars first events j = NW := ⟨_, rfl⟩
          rw [hNW] at hrow
          have hnl : NW.length = f.vars + j := by rw [← hNW]; simp [jnow, HN.out.2.2]
          have hjo : (joined f first events).nodes = first ++ f.nodes.map (fun x => (⟨x.kind, x.k, ren NW x.args⟩ : Nn)) := by rw [← hNW]; unfold joined; rw [HN.out.1]
          have hjt : (joined f first events).top = NW.getD f.top 0 := by rw [← hNW]; unfold joined; rw [HN.out.1]
          have H4 := Lib.hid (And.intro hB4 (And.intro hQ4 (And.intro hC4 hrow)))
          have HJ := Lib.hid (And.intro hjo (And.intro hjt hnl))
          obtain ⟨r0, r1, r2⟩ := own3 hQ4
          obtain ⟨w4, hw4⟩ : ∃ w4, w4 = wr := ⟨_, rfl⟩
          subst hw4
          have hqw4 : wS ≤ w4.heap.size := by have := hon.size; omega
          clear hB4 hQ4 hC4 hrow hNW hnl hjo hjt hon
          go_wp2
          clear r0 r1 r2
          go_loopw [62] (fun i wx => ∃ (t : Nat) (AO : Option Addr) (cO : Nat), t ≤ j ∧ i = .int .i64 (t : Int) ∧ Bx w wx (q + 1 + 1 + 1) (q + 1 + 1) (f.vars : Int) (first ++ (f.nodes.take t).map fun x => (⟨x.kind, x.k, ren NW x.args⟩ : Nn)) (.slice AO (k + t) cO) ∧ Own wx q 24 #[.int .i64 (f.vars : Int), .slice A j c, .int .i64 (f.top : Int)] ∧ Own wx (q + 1) 24 #[.int .i64 0, .slice none 0 0, .int .i64 0] ∧ wx.ownsRow wS 3 1 (.slice AN (f.vars + j) cN) (f.vars + j) (VI (ints NW))) (fun i _ => j - (intOf i).toNat)
          case atStart => exact ⟨0, AO, cO, by omega, rfl, by simpa using H4.out.1, H4.out.2.1, H4.out.2.2.1, H4.out.2.2.2⟩
          case round =>
            obtain ⟨t, AO, cO, ht, rfl, hB, hQ, hC, hrow⟩ := hrel
            obtain ⟨w6, hw6⟩ : ∃ w6, w6 = wr := ⟨_, rfl⟩
            subst hw6
            by_cases hlt2 : t < j
            · obtain ⟨ad, rfl, hbl, P, m, kc, hc0, hc1, hc2, hRA⟩ := (HR.out.on hB.on).at_ t hlt2
              rw [raw_get] at hc0 hc1 hRA
              have hm : (f.nd t).args.length = m := by have := VI_len hRA; unfold Nn.raw at this; rwa [ints_length] at this
              have hin : t < f.nodes.length := by rw [HN.out.1]; exact hlt2
              have hm16 : m ≤ 16 := by rw [← hm]; exact HF.out.len hin
              have harg : ∀ a ∈ (f.nd t).args, a < f.vars + t := fun a ha => HF.out.arg hin ha
              have htk : f.nodes.take (t + 1) = f.nodes.take t ++ [f.nd t] := take_nd hin
              obtain ⟨x, hx⟩ : ∃ x, f.nd t = x := ⟨_, rfl⟩
              rw [hx] at hc0 hc1 hRA hm harg htk
              have hol : (first ++ (f.nodes.take t).map fun x => (⟨x.kind, x.k, ren NW x.args⟩ : Nn)).length = k + t := by
                rw [List.length_append, List.length_map, List.length_take, HN.out.2.1]; omega
              obtain ⟨o, ho⟩ : ∃ o, (first ++ (f.nodes.take t).map fun x => (⟨x.kind, x.k, ren NW x.args⟩ : Nn)) = o := ⟨_, rfl⟩
              have hsucc : (first ++ (f.nodes.take (t + 1)).map fun x => (⟨x.kind, x.k, ren NW x.args⟩ : Nn)) = o ++ [⟨x.kind, x.k, ren NW x.args⟩] := by
                rw [htk, List.map_append, ← List.append_assoc, ho]; rfl
              rw [ho] at hB hol
              have hcapA := hRA.cap
              have hmaxA := hRA.max
              have c0 : w6.cell? (ad.add (t * 3)) = some (.int .i64 (x.kind : Int)) := hc0
              have c1 : w6.cell? ⟨(ad.add (t * 3)).block, (ad.add (t * 3)).off + 1, none⟩ = some (.int .i64 (x.k : Int)) := hc1
              have hRA2 : Rd w6 P m kc (VI (ints x.args)) := hRA
              obtain ⟨p, hp⟩ : ∃ p, w6.heap.size = p := ⟨_, rfl⟩
              obtain ⟨w5, hw5⟩ : ∃ w5, w6.alloc (.cells #[.int .i64 (x.kind : Int), .int .i64 (x.k : Int), .slice P m kc] 49) = w5 := ⟨_, rfl⟩
              have ON : Own w5 p 49 #[.int .i64 (x.kind : Int), .int .i64 (x.k : Int), .slice P m kc] := by rw [← hw5, ← hp]; exact Own.new _ _ _
              have P5 : On w6 w5 := by rw [← hw5]; exact (On.refl w6).alloc _
              have hbp : q + 1 + 1 + 1 ≤ p := by have := hB.box.lt; omega
              have hq5 : w6.heap.size ≤ w5.heap.size := P5.size
              have hNR := rd_of_row hrow
              have hcapN := hNR.cap
              have hmaxN := hNR.max
              have H5 := Lib.hid (And.intro (hB.to P5) (And.intro (hQ.on P5) (And.intro (hC.on P5) (And.intro ON (And.intro (hRA2.on P5) (And.intro (row_on hrow P5) (hNR.on P5)))))))
              have HS := Lib.hid (And.intro hsucc (And.intro hol (And.intro hm harg)))
              obtain ⟨n0, n1, n2⟩ := own3 ON
              clear hc0 hc1 hRA hRA2 hB hQ hC ON P5 hx ho hsucc hol hm harg htk hrow hNR
              go_wp2
              clear c0 c1 hc2 hw5 n0 n1 n2
              go_loopw [69, 15] (fun i v wx => ∃ (s : Nat) (A9 : Option Addr) (c9 : Nat), s ≤ m ∧ i = .int .i64 (s : Int) ∧ v = .slice A9 s c9 ∧ wx.ownsRow w5.heap.size 3 1 (.slice A9 s c9) s (VI (ints (ren NW (x.args.take s)))) ∧ On w5 wx) (fun i _ _ => m - (intOf i).toNat)
              case atStart => exact ⟨0, none, 0, by omega, rfl, rfl, row_nil _ _ _, On.refl _⟩
              case round =>
                obtain ⟨s, A9, c9, hs9, rfl, rfl, hrow, hon9⟩ := hrel
                by_cases hlt9 : s < m
                · have hl9 : s < x.args.length := by rw [HS.out.2.2.1]; exact hlt9
                  obtain ⟨ad9, rfl, hb9, hc9⟩ := VI_at (H5.out.2.2.2.2.1.on hon9) hlt9
                  rw [ints_getD hl9] at hc9
                  have ham := HS.out.2.2.2 _ (getD_memN hl9)
                  have htk := ren_take (now := NW) hl9
                  obtain ⟨a, hae⟩ : ∃ a, x.args.getD s 0 = a := ⟨_, rfl⟩
                  rw [hae] at hc9 ham htk
                  obtain ⟨adN, hadN, hbN, hcN⟩ := VI_at (H5.out.2.2.2.2.2.2.on hon9) (j := a) (by omega)
                  subst hadN
                  rw [ints_getD (by rw [HJ.out.2.2]; omega)] at hcN
                  obtain ⟨z, hz⟩ : ∃ z, NW.getD a 0 = z := ⟨_, rfl⟩
                  rw [hz] at hcN htk
                  have hsz := hon9.size
                  have HT := Lib.hid htk
                  have HROW := Lib.hid hrow
                  clear htk hz hae hl9 hrow
                  go_wp2_with (at_builtin; refine wpList_app rfl (.tmp 73) (.tmp 78) 47 rfl w5.heap.size 3 (.int .i64 0) 8 Try.underlying47 infoi rfl (by decide) (.slice A9 s c9) _ (VI (ints (ren NW (x.args.take s)))) rfl (row_alloc HROW.out _) (some ⟨wr.heap.size, 0, none⟩) 1 1 [.int .i64 (z : Int)] rfl (rd_one _ _ _) (by simp [Value.oneCell']) (by omega) (by simp; omega) ?_; intro v' w11 hown10 hgrow10 _)
                  obtain ⟨A10, c10, rfl⟩ := row_form hown10
                  go_roundw
                  case rel =>
                    refine ⟨s + 1, A10, c10, by omega, by go_num, rfl, ?_, on_row (hon9.alloc _) (row_alloc HROW.out _) (Nat.le_refl _) hgrow10⟩
                    rw [HT.out, VI_snocI]; exact hown10
                  case measure => simp [intOf] <;> omega
                · obtain rfl : s = m := by omega
                  have etk : x.args.take s = x.args := List.take_of_length_le (by rw [HS.out.2.2.1]; omega)
                  rw [etk] at hrow
                  have hRow := rd_of_row hrow
                  have hB9 := H5.out.1.to hon9
                  obtain ⟨n0, n1, n2⟩ := own3 (H5.out.2.2.2.1.on hon9)
                  obtain ⟨b0, b1, b2⟩ := own3 hB9.box
                  have hadd := radd_any wr (f.vars : Int) 0 AO (k + t) cO (q + 1 + 1 + 1) o hB9.out ⟨x.kind, x.k, ren NW x.args⟩ A9 s c9 hRow (by omega) (by omega) (by have := hon9.size; omega) (by omega)
                  have H9 := Lib.hid (And.intro hB9 (And.intro (H5.out.2.1.on hon9) (And.intro (H5.out.2.2.1.on hon9) (row_on H5.out.2.2.2.2.2.1 hon9))))
                  clear hrow etk hRow hB9
                  go_wp2_with fail
                  refine hadd.mono ?_
                  rintro e w7 ⟨A', c', rfl, hout, hgrow⟩
                  clear hadd n0 n1 n2 b0 b1 b2
                  have hb := H9.out.1.blk
                  have G7 := H9.out.1.grow hgrow hout
                  have Q7 := own_by H9.out.2.1 hgrow (fun b hb2 => by have := (hb b hb2).1; omega)
                  have C7 := own_by H9.out.2.2.1 hgrow (fun b hb2 => by have := (hb b hb2).1; omega)
                  have N7 := row_by H9.out.2.2.2 hgrow (fun g hg => .inr (hb g hg).2.2)
                  obtain ⟨z0, z1, z2, z3, z4, z5⟩ := G7.cells
                  have H7 := Lib.hid (And.intro G7.stored (And.intro Q7 (And.intro C7 N7)))
                  clear G7 Q7 C7 N7 hb hout hgrow
                  go_wp2
                  go_roundw
                  case rel =>
                    refine ⟨t + 1, A', c', by omega, by go_num, ?_, ?_, ?_, ?_⟩
                    · rw [HS.out.1]; exact H7.out.1
                    · exact (((H7.out.2.1.far (by show q ≠ q + 1 + 1; omega) _).far (by show q ≠ q + 1 + 1; omega) _).far (by show q ≠ q + 1 + 1; omega) _)
                    · exact (((H7.out.2.2.1.far (by show q + 1 ≠ q + 1 + 1; omega) _).far (by show q + 1 ≠ q + 1 + 1; omega) _).far (by show q + 1 ≠ q + 1 + 1; omega) _)
                    · exact row_far (row_far (row_far H7.out.2.2.2 (p := ⟨q + 1 + 1, 0, none⟩) (by show q + 1 + 1 < wS; omega) _) (p := ⟨q + 1 + 1, 1, none⟩) (by show q + 1 + 1 < wS; omega) _) (p := ⟨q + 1 + 1, 2, none⟩) (by show q + 1 + 1 < wS; omega) _
                  case measure => simp [intOf] <;> omega
            · obtain rfl : t = j := by omega
              have etk2 : f.nodes.take t = f.nodes := List.take_of_length_le (by rw [HN.out.1]; exact Nat.le_refl _)
              rw [etk2, ← HJ.out.1] at hB
              obtain ⟨r0, r1, r2⟩ := own3 hQ
              obtain ⟨adN, hadN, hbN, hcN⟩ := VI_at (rd_of_row hrow) (j := f.top) htop
              subst hadN
              have hcapN := (rd_of_row hrow).cap
              have hmaxN := (rd_of_row hrow).max
              rw [ints_getD (by rw [HJ.out.2.2]; exact htop), ← HJ.out.2.1] at hcN
              obtain ⟨tp, htp⟩ : ∃ tp, (joined f first events).top = tp := ⟨_, rfl⟩
              rw [htp] at hcN
              obtain ⟨no, hno⟩ : ∃ no, (joined f first events).nodes.length = no := ⟨_, rfl⟩
              have hkn : no = k + t := by rw [← hno, HJ.out.1, List.length_append, List.length_map, HN.out.1, HN.out.2.1]
              rw [← hkn] at hB
              obtain ⟨b0, b1, b2⟩ := own3 hB.box
              have e0 := hB.box.frozen 2
              obtain ⟨w7, hw7⟩ : ∃ w7, w6.setCell ⟨q + 1 + 1, 2, none⟩ (.int .i64 (tp : Int)) = w7 := ⟨_, rfl⟩
              have O6 : Own w7 (q + 1 + 1) 24 #[.int .i64 (f.vars : Int), .slice AO no cO, .int .i64 (tp : Int)] := by rw [← hw7]; exact hB.box.set_ 2 _
              have R6 : OutN w7 (q + 1 + 1 + 1) (.slice AO no cO) (joined f first events).nodes := by rw [← hw7]; exact hB.out.far (p := ⟨q + 1 + 1, 2, none⟩) hB.hb _
              have hf6 := R6.rd.2
              have hcO := hf6.cap
              have hmO := hf6.max
              have C6 : Own w7 (q + 1) 24 #[.int .i64 0, .slice none 0 0, .int .i64 0] := by rw [← hw7]; exact hC.far (by show q + 1 ≠ q + 1 + 1; omega) _
              have P6 : On w w7 := by rw [← hw7]; exact On.setCell hB.on (p := ⟨q + 1 + 1, 2, none⟩) hB.hab _
              have hS := rsized_any w7 (f.vars : Int) (tp : Int) AO no cO hcO hmO
              obtain ⟨x0, x1, x2⟩ := own3 O6
              have HE := Lib.hid (And.intro P6 (And.intro C6 (And.intro R6 (And.intro hno htp))))
              have hD3 : (joined f first events).vars = f.vars := rfl
              have HD3 := Lib.hid hD3
              clear hB hQ hC hrow O6 R6 C6 P6 htp hno etk2 hf6 hD3 hkn
              go_wp2_with fail
              refine hS.mono ?_
              rintro e w8 ⟨hM, P7⟩
              clear hS r0 r1 r2 hcN b0 b1 b2 e0 x0 x1 x2 hw7
              have hC7 := HE.out.2.1.on P7
              obtain ⟨c0, c1, c2⟩ := own3 hC7
              have g0 := hC7.frozen 0
              have g1 := hC7.frozen 1
              have g2 := hC7.frozen 2
              rcases hM with ⟨hle, rfl⟩ | ⟨hgt, rfl⟩
              · have OF := ((hC7.set_ 0 (.int .i64 (f.vars : Int))).set_ 1 (.slice AO no cO)).set_ 2 (.int .i64 (tp : Int))
                obtain ⟨x0, x1, x2⟩ := own3 (show Own _ (q + 1) 24 #[.int .i64 (f.vars : Int), .slice AO no cO, .int .i64 (tp : Int)] from OF)
                have P8 := On.setCell (On.setCell (On.setCell (HE.out.1.trans P7) (p := ⟨q + 1, 0, none⟩) (by show w.heap.size ≤ q + 1; omega) (.int .i64 (f.vars : Int))) (p := ⟨q + 1, 1, none⟩) (by show w.heap.size ≤ q + 1; omega) (.slice AO no cO)) (p := ⟨q + 1, 2, none⟩) (by show w.heap.size ≤ q + 1; omega) (.int .i64 (tp : Int))
                have hqb : q + 1 < q + 1 + 1 + 1 := by omega
                have U8 := ((((HE.out.2.2.1.on P7).far (p := ⟨q + 1, 0, none⟩) hqb (.int .i64 (f.vars : Int))).far (p := ⟨q + 1, 1, none⟩) hqb (.slice AO no cO)).far (p := ⟨q + 1, 2, none⟩) hqb (.int .i64 (tp : Int)))
                have HZ := Lib.hid (And.intro hle (And.intro P8 U8))
                clear OF P8 hle hC7 U8
                go_wp2
                refine bodyPost_ret (v := .tuple #[.agg #[.int .i64 (f.vars : Int), .slice AO no cO, .int .i64 (tp : Int)], .int .i64 0]) (by simp [results, Try.results48, go_sem, x0, x1, x2]) rfl ⟨.inl ?_, HZ.out.2.1⟩
                rw [HE.out.2.2.2.1, HE.out.2.2.2.2, HD3.out]
                exact ⟨HZ.out.1, AO, cO, rfl, HZ.out.2.2.low (by omega)⟩
              · have OF := ((hC7.set_ 0 (.int .i64 0)).set_ 1 (.slice none 0 0)).set_ 2 (.int .i64 0)
                obtain ⟨x0, x1, x2⟩ := own3 (show Own _ (q + 1) 24 #[.int .i64 0, .slice none 0 0, .int .i64 0] from OF)
                have P8 := On.setCell (On.setCell (On.setCell (HE.out.1.trans P7) (p := ⟨q + 1, 0, none⟩) (by show w.heap.size ≤ q + 1; omega) (.int .i64 0)) (p := ⟨q + 1, 1, none⟩) (by show w.heap.size ≤ q + 1; omega) (.slice none 0 0)) (p := ⟨q + 1, 2, none⟩) (by show w.heap.size ≤ q + 1; omega) (.int .i64 0)
                have HZ := Lib.hid (And.intro hgt P8)
                clear OF P8 hgt hC7
                go_wp2
                refine bodyPost_ret (v := .tuple #[.agg #[.int .i64 0, .slice none 0 0, .int .i64 0], .int .i64 4]) (by simp [results, Try.results48, go_sem, x0, x1, x2]) rfl ⟨.inr ?_, HZ.out.2⟩
                rw [HE.out.2.2.2.1]
                exact ⟨HZ.out.1, rfl⟩
end Go.Proofs.Ytooeppffacnmaaa.Fm
