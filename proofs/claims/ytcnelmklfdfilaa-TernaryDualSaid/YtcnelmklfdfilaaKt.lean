/-
  The specification of three values: Values.
-/
import Derived.Test.YtcnelmklfdfilaaKr
namespace Go.Proofs.Ytcnelmklfdfilaa.Fm
open Go.RowKit Go.Proofs.Ytcnelmklfdfilaa.Sb
set_option linter.unusedVariables false
set_option maxRecDepth 100000
set_option maxHeartbeats 16000000 in
theorem rtvalues_ok (w : World) (f : Fn) (hf : WF f) (A : Option Addr) (n c : Nat) (h : RdN w A n c (rawL f.nodes)) (y nn : Nat) (hy : y < 16777216) (hnn : nn < 16777216) :
    Calls Try.prog 19 #[.agg #[.int .i64 (f.vars : Int), .slice A n c, .int .i64 (f.top : Int)], cubV (y : Int) (nn : Int)] w fun e w' => ∃ g, e = .returned (.slice (some ⟨g, 0, none⟩) n n) ∧ Own w' g 3 (VI (ints (tvals f y nn))).toArray ∧ w.heap.size ≤ g ∧ On w w' := by
  have hn : f.nodes.length = n := by have := h.len; rwa [raw_len] at this
  have hcap := h.cap
  have hmax := h.max
  have hv := hf.1
  have hn128 := hf.2.1
  rw [hn] at hn128
  obtain ⟨q, hq⟩ : ∃ q, w.heap.size = q := ⟨_, rfl⟩
  obtain ⟨w0, hw0⟩ : ∃ w0, (w.alloc (.cells #[.int .i64 (f.vars : Int), .slice A n c, .int .i64 (f.top : Int)] 24)).alloc (.cells #[.int .i64 (y : Int), .int .i64 (nn : Int)] 26) = w0 := ⟨_, rfl⟩
  have O0 : Own w0 q 24 #[.int .i64 (f.vars : Int), .slice A n c, .int .i64 (f.top : Int)] := by rw [← hw0, ← hq]; exact (Own.new _ _ _).alloc _
  have C0 : Own w0 (q + 1) 26 #[.int .i64 (y : Int), .int .i64 (nn : Int)] := by
    rw [← hw0, ← hq]
    have := Own.new (w.alloc (.cells #[.int .i64 (f.vars : Int), .slice A n c, .int .i64 (f.top : Int)] 24)) 26 #[.int .i64 (y : Int), .int .i64 (nn : Int)]
    simpa using this
  have P0 : On w w0 := by rw [← hw0]; exact ((On.refl w).alloc _).alloc _
  have hmk := run_mkI n (by omega) w0
  obtain ⟨g, hg⟩ : ∃ g, w0.heap.size = g := ⟨_, rfl⟩
  obtain ⟨w2, hw2⟩ : ∃ w2, w0.alloc (.cells (VI (ints (List.replicate n 0))).toArray 3) = w2 := ⟨_, rfl⟩
  have OG : Own w2 g 3 (VI (ints (List.replicate n 0))).toArray := by rw [← hw2, ← hg]; exact Own.new _ _ _
  have P2 : On w0 w2 := by rw [← hw2]; exact (On.refl w0).alloc _
  rw [hg, hw2] at hmk
  have hgq : q + 1 < g := by have := C0.lt; omega
  obtain ⟨r0, r1, r2⟩ := own3 O0
  obtain ⟨s0, s1, s2⟩ := own3 (O0.on P2)
  have H2 := Lib.hid (And.intro OG (And.intro (O0.on P2) (And.intro (C0.on P2) (P0.trans P2))))
  have HR := Lib.hid h
  have HN := Lib.hid hn
  have HF := Lib.hid hf
  clear h hn hf O0 C0 P0 OG P2
  go_enter Try.func19, Try.ntmps19
  go_wp2
  clear r0 r1 r2 s0 s1 s2 hmk hw0 hw2
  go_loopw [19] (fun i wr => ∃ k : Nat, k ≤ n ∧ i = .int .i64 (k : Int) ∧ On w wr ∧ Own wr g 3 (VI (ints (vrowT f y nn k))).toArray ∧ Own wr q 24 #[.int .i64 (f.vars : Int), .slice A n c, .int .i64 (f.top : Int)] ∧ Own wr (q + 1) 26 #[.int .i64 (y : Int), .int .i64 (nn : Int)]) (fun i _ => n - (intOf i).toNat)
  case atStart => exact ⟨0, by omega, rfl, H2.out.2.2.2, by rw [vrowT_zero, HN.out]; exact H2.out.1, H2.out.2.1, H2.out.2.2.1⟩
  case round =>
    obtain ⟨i, hi, rfl, hon, hG, hQ, hC⟩ := hrel
    obtain ⟨wo, hwo⟩ : ∃ wo, wo = wr := ⟨_, rfl⟩
    subst hwo
    by_cases hlt : i < n
    · obtain ⟨ad, rfl, hb, P, m, k, hc0', hc1', hc2', hRA⟩ := HR.out.at_ i hlt
      rw [raw_get] at hc0' hc1' hRA
      have hbk : (ad.add (i * 3)).block < w.heap.size := by rw [block_of_add]; exact hb
      have hc0 := (Below.cell hon hbk).trans hc0'
      have hc1 := (Below.cell hon (p := ⟨(ad.add (i * 3)).block, (ad.add (i * 3)).off + 1, none⟩) hbk).trans hc1'
      have hc2 := (Below.cell hon (p := ⟨(ad.add (i * 3)).block, (ad.add (i * 3)).off + 2, none⟩) hbk).trans hc2'
      have hil : i < f.nodes.length := by rw [HN.out]; exact hlt
      have hm : (f.nd i).args.length = m := by have := VI_len hRA; unfold Nn.raw at this; rwa [ints_length] at this
      have hok := HF.out.2.2.1 i hil
      have hm16 : m ≤ 16 := by rw [← hm]; exact HF.out.len hil
      have harg : ∀ a ∈ (f.nd i).args, a < f.vars + i := fun a ha => HF.out.arg hil ha
      have hvl : (vrowT f y nn i).length = n := by rw [vrowT_len (by omega), HN.out]
      have hsucc := vrowT_succ (f := f) (y := y) (nn := nn) (i := i) hil
      have hle2 := vrowT_le (f := f) (y := y) (nn := nn) (i := i) (by omega)
      obtain ⟨x, hx⟩ : ∃ x, f.nd i = x := ⟨_, rfl⟩
      rw [hx] at hc0 hc1 hRA hm hok harg hsucc
      obtain ⟨vs, hvs⟩ : ∃ vs, vrowT f y nn i = vs := ⟨_, rfl⟩
      rw [hvs] at hG hvl hsucc hle2
      rw [hm] at hsucc
      obtain ⟨kind, kk, args⟩ := x
      simp only at hm harg hsucc
      have hcapA := hRA.cap
      have hmaxA := hRA.max
      have c0 : wo.cell? (ad.add (i * 3)) = some (.int .i64 (kind : Int)) := hc0
      have c1 : wo.cell? ⟨(ad.add (i * 3)).block, (ad.add (i * 3)).off + 1, none⟩ = some (.int .i64 (kk : Int)) := hc1
      obtain ⟨p, hp⟩ : ∃ p, wo.heap.size = p := ⟨_, rfl⟩
      obtain ⟨w3, hw3⟩ : ∃ w3, (wo.alloc (.cells #[.int .i64 (kind : Int), .int .i64 (kk : Int), .slice P m k] 57)).alloc (.cells #[.int .i64 0, .int .i64 0, .int .i64 0] 71) = w3 := ⟨_, rfl⟩
      have ON : Own w3 p 57 #[.int .i64 (kind : Int), .int .i64 (kk : Int), .slice P m k] := by rw [← hw3, ← hp]; exact (Own.new _ _ _).alloc _
      have OC : Own w3 (p + 1) 71 #[.int .i64 0, .int .i64 0, .int .i64 0] := by
        rw [← hw3, ← hp]
        have := Own.new (wo.alloc (.cells #[.int .i64 (kind : Int), .int .i64 (kk : Int), .slice P m k] 57)) 71 #[.int .i64 0, .int .i64 0, .int .i64 0]
        simpa using this
      have P3 : On wo w3 := by rw [← hw3]; exact ((On.refl wo).alloc _).alloc _
      have HRA := Lib.hid (show Rd w P m k (VI (ints args)) from hRA)
      have H3 := Lib.hid (And.intro ON (And.intro OC (And.intro (hG.on P3) (And.intro (hQ.on P3) (And.intro (hC.on P3) (hon.trans P3))))))
      have HX := Lib.hid (And.intro harg (And.intro hsucc (And.intro hvl (And.intro hm (And.intro hok hle2)))))
      have hgp : g < p := by have := hG.lt; omega
      have HW3 := Lib.hid hw3
      clear hw3
      clear hc0 hc1 hc0' hc1' hc2' hbk hRA hx hG hQ hC hm harg hsucc hvl ON OC P3 hok hle2 hvs
      go_wp2
      rw [HW3.out]
      clear c0 c1 hc2 HW3
      go_loopw [28] (fun j wr => ∃ t : Nat, t ≤ m ∧ j = .int .i64 (t : Int) ∧ On w wr ∧ Own wr p 57 #[.int .i64 (kind : Int), .int .i64 (kk : Int), .slice P m k] ∧ Own wr (p + 1) 71 #[.int .i64 (cntT f.vars vs y nn args t 0 : Nat), .int .i64 (cntT f.vars vs y nn args t 1 : Nat), .int .i64 (cntT f.vars vs y nn args t 2 : Nat)] ∧ Own wr g 3 (VI (ints vs)).toArray ∧ Own wr q 24 #[.int .i64 (f.vars : Int), .slice (some ad) n c, .int .i64 (f.top : Int)] ∧ Own wr (q + 1) 26 #[.int .i64 (y : Int), .int .i64 (nn : Int)]) (fun j _ => m - (intOf j).toNat)
      case atStart => exact ⟨0, by omega, rfl, H3.out.2.2.2.2.2, H3.out.1, H3.out.2.1, H3.out.2.2.1, H3.out.2.2.2.1, H3.out.2.2.2.2.1⟩
      case round =>
        obtain ⟨t, ht, rfl, hon2, hN2, hC2, hG2, hQ2, hK2⟩ := hrel
        have l0 := cntT_le (vars := f.vars) (vs := vs) (y := y) (nn := nn) (args := args) (j := t) (t := 0)
        have l1 := cntT_le (vars := f.vars) (vs := vs) (y := y) (nn := nn) (args := args) (j := t) (t := 1)
        have l2 := cntT_le (vars := f.vars) (vs := vs) (y := y) (nn := nn) (args := args) (j := t) (t := 2)
        by_cases hlt2 : t < m
        · obtain ⟨ad2, rfl, hb2, hc⟩ := VI_at (HRA.out.on hon2) hlt2
          have hl2 : t < args.length := by rw [HX.out.2.2.2.1]; exact hlt2
          rw [ints_getD hl2] at hc
          have hcs := fun z => cntT_succ (vars := f.vars) (vs := vs) (y := y) (nn := nn) hl2 z
          have ha := HX.out.1 _ (getD_memN hl2)
          obtain ⟨a, hae⟩ : ∃ a, args.getD t 0 = a := ⟨_, rfl⟩
          rw [hae] at hc hcs ha
          have hV := of9_any wr f.vars (f.top : Int) (some ad) n c (some ⟨g, 0, none⟩) n n vs y nn a (own_rdI hG2 HX.out.2.2.1 (by omega)) hy hnn hv (by omega)
          have hv3 := HX.out.2.2.2.2.2 a
          obtain ⟨v, hve⟩ : ∃ v, argT f.vars vs y nn a = v := ⟨_, rfl⟩
          rw [hve] at hcs hV hv3
          obtain ⟨z0, hz0⟩ : ∃ z0, cntT f.vars vs y nn args t 0 = z0 := ⟨_, rfl⟩
          obtain ⟨z1, hz1⟩ : ∃ z1, cntT f.vars vs y nn args t 1 = z1 := ⟨_, rfl⟩
          obtain ⟨z2, hz2⟩ : ∃ z2, cntT f.vars vs y nn args t 2 = z2 := ⟨_, rfl⟩
          have e0 := hcs 0
          have e1 := hcs 1
          have e2 := hcs 2
          rw [hz0] at e0 hC2 l0
          rw [hz1] at e1 hC2 l1
          rw [hz2] at e2 hC2 l2
          obtain ⟨r0, r1, r2⟩ := own3 hQ2
          obtain ⟨k0, k1⟩ := own2 hK2
          have HE := Lib.hid (And.intro e0 (And.intro e1 e2))
          have HC := Lib.hid (And.intro hN2 (And.intro hC2 (And.intro hG2 (And.intro hQ2 (And.intro hK2 hon2)))))
          have hpq : p + 1 ≠ g := by omega
          clear hcs e0 e1 e2 hz0 hz1 hz2 hve hae hl2 hN2 hC2 hG2 hQ2 hK2
          go_wp2_with fail
          refine hV.mono ?_
          rintro e w4 ⟨rfl, P4⟩
          clear hV r0 r1 r2 k0 k1
          have C4 := HC.out.2.1.on P4
          obtain ⟨d0, d1, d2⟩ := own3 C4
          have f0 := C4.frozen 0
          have f1 := C4.frozen 1
          have f2 := C4.frozen 2
          have K0 := C4.set_ 0 (.int .i64 ((z0 : Int) + 1))
          have K1 := C4.set_ 1 (.int .i64 ((z1 : Int) + 1))
          have K2 := C4.set_ 2 (.int .i64 ((z2 : Int) + 1))
          have HK := Lib.hid (And.intro K0 (And.intro K1 K2))
          clear C4 K0 K1 K2
          have hv4 : v = 0 ∨ v = 1 ∨ v = 2 := by omega
          clear hv3
          rcases hv4 with rfl | rfl | rfl
          · go_wp2
            go_roundw
            case rel =>
              refine ⟨t + 1, by omega, by go_num, On.setCell (HC.out.2.2.2.2.2.trans P4) (p := ⟨p + 1, 0, none⟩) (by show w.heap.size ≤ p + 1; omega) _, (HC.out.1.on P4).far (by show p ≠ p + 1; omega) _, ?_, (HC.out.2.2.1.on P4).far (by show g ≠ p + 1; omega) _, (HC.out.2.2.2.1.on P4).far (by show q ≠ p + 1; omega) _, (HC.out.2.2.2.2.1.on P4).far (by show q + 1 ≠ p + 1; omega) _⟩
              have h0 := HE.out.1
              have h1 := HE.out.2.1
              have h2 := HE.out.2.2
              rw [h0, h1, h2]
              have := HK.out.1
              simp at this ⊢
              exact this
            case measure => simp [intOf] <;> omega
          · go_wp2
            go_roundw
            case rel =>
              refine ⟨t + 1, by omega, by go_num, On.setCell (HC.out.2.2.2.2.2.trans P4) (p := ⟨p + 1, 1, none⟩) (by show w.heap.size ≤ p + 1; omega) _, (HC.out.1.on P4).far (by show p ≠ p + 1; omega) _, ?_, (HC.out.2.2.1.on P4).far (by show g ≠ p + 1; omega) _, (HC.out.2.2.2.1.on P4).far (by show q ≠ p + 1; omega) _, (HC.out.2.2.2.2.1.on P4).far (by show q + 1 ≠ p + 1; omega) _⟩
              have h0 := HE.out.1
              have h1 := HE.out.2.1
              have h2 := HE.out.2.2
              rw [h0, h1, h2]
              have := HK.out.2.1
              simp at this ⊢
              exact this
            case measure => simp [intOf] <;> omega
          · go_wp2
            go_roundw
            case rel =>
              refine ⟨t + 1, by omega, by go_num, On.setCell (HC.out.2.2.2.2.2.trans P4) (p := ⟨p + 1, 2, none⟩) (by show w.heap.size ≤ p + 1; omega) _, (HC.out.1.on P4).far (by show p ≠ p + 1; omega) _, ?_, (HC.out.2.2.1.on P4).far (by show g ≠ p + 1; omega) _, (HC.out.2.2.2.1.on P4).far (by show q ≠ p + 1; omega) _, (HC.out.2.2.2.2.1.on P4).far (by show q + 1 ≠ p + 1; omega) _⟩
              have h0 := HE.out.1
              have h1 := HE.out.2.1
              have h2 := HE.out.2.2
              rw [h0, h1, h2]
              have := HK.out.2.2
              simp at this ⊢
              exact this
            case measure => simp [intOf] <;> omega
        · obtain rfl : t = m := by omega
          obtain ⟨z0, hz0⟩ : ∃ z0, cntT f.vars vs y nn args t 0 = z0 := ⟨_, rfl⟩
          obtain ⟨z1, hz1⟩ : ∃ z1, cntT f.vars vs y nn args t 1 = z1 := ⟨_, rfl⟩
          obtain ⟨z2, hz2⟩ : ∃ z2, cntT f.vars vs y nn args t 2 = z2 := ⟨_, rfl⟩
          have hsu := HX.out.2.1
          rw [hz0, hz1, hz2] at hsu
          rw [hz0] at hC2 l0
          rw [hz1] at hC2 l1
          rw [hz2] at hC2 l2
          obtain ⟨n0, n1, n2⟩ := own3 hN2
          obtain ⟨d0, d1, d2⟩ := own3 hC2
          obtain ⟨cb, x0⟩ : ∃ cb, wr.cell? ⟨g, i, none⟩ = some cb := ⟨_, own_atI hG2 (i := i) (by rw [HX.out.2.2.1]; exact hlt)⟩
          have x1 := hG2.frozen i
          have hTr := fun W a b => truth_any W a b
          have HC := Lib.hid (And.intro hsu (And.intro hG2 (And.intro hQ2 hK2)))
          have h5 := HX.out.2.2.2.2.1.1
          simp only at h5
          have h6 : kind = 0 ∨ kind = 1 ∨ kind = 2 ∨ kind = 3 ∨ kind = 4 ∨ kind = 5 := by omega
          clear hsu hG2 hQ2 hK2 hN2 hC2 hz0 hz1 hz2 h5
          rcases h6 with rfl | rfl | rfl | rfl | rfl | rfl
          · go_wp2_with (refine (hTr _ _ _).mono ?_; rintro e w5 ⟨rfl, rfl⟩)
            go_roundw
            case rel =>
              refine ⟨i + 1, by omega, by go_num, On.setCell hon2 (p := ⟨g, i, none⟩) (by show w.heap.size ≤ g; omega) _, ?_, HC.out.2.2.1.far (by show q ≠ g; omega) _, HC.out.2.2.2.far (by show q + 1 ≠ g; omega) _⟩
              refine own_setI HC.out.2.1 i (truthN_cast (a' := decide (kk = 1)) (b' := true) ?_ ?_) HC.out.1
              · first | rfl | (rw [Bool.eq_iff_iff]; simp; done) | (rw [Bool.eq_iff_iff]; simp; omega) | (simp; done) | (simp; omega)
              · first | rfl | (rw [Bool.eq_iff_iff]; simp; done) | (rw [Bool.eq_iff_iff]; simp; omega) | (simp; done) | (simp; omega)
            case measure => simp [intOf] <;> omega
          · go_wp2_with (refine (hTr _ _ _).mono ?_; rintro e w5 ⟨rfl, rfl⟩)
            go_roundw
            case rel =>
              refine ⟨i + 1, by omega, by go_num, On.setCell hon2 (p := ⟨g, i, none⟩) (by show w.heap.size ≤ g; omega) _, ?_, HC.out.2.2.1.far (by show q ≠ g; omega) _, HC.out.2.2.2.far (by show q + 1 ≠ g; omega) _⟩
              refine own_setI HC.out.2.1 i (truthN_cast (a' := decide (z0 = 1)) (b' := decide (z1 = 1)) ?_ ?_) HC.out.1
              · first | rfl | (rw [Bool.eq_iff_iff]; simp; done) | (rw [Bool.eq_iff_iff]; simp; omega) | (simp; done) | (simp; omega)
              · first | rfl | (rw [Bool.eq_iff_iff]; simp; done) | (rw [Bool.eq_iff_iff]; simp; omega) | (simp; done) | (simp; omega)
            case measure => simp [intOf] <;> omega
          · go_wp2_with (refine (hTr _ _ _).mono ?_; rintro e w5 ⟨rfl, rfl⟩)
            go_roundw
            case rel =>
              refine ⟨i + 1, by omega, by go_num, On.setCell hon2 (p := ⟨g, i, none⟩) (by show w.heap.size ≤ g; omega) _, ?_, HC.out.2.2.1.far (by show q ≠ g; omega) _, HC.out.2.2.2.far (by show q + 1 ≠ g; omega) _⟩
              refine own_setI HC.out.2.1 i (truthN_cast (a' := decide (z1 = t)) (b' := decide (0 < z0)) ?_ ?_) HC.out.1
              · first | rfl | (rw [Bool.eq_iff_iff]; simp; done) | (rw [Bool.eq_iff_iff]; simp; omega) | (simp; done) | (simp; omega)
              · first | rfl | (rw [Bool.eq_iff_iff]; simp; done) | (rw [Bool.eq_iff_iff]; simp; omega) | (simp; done) | (simp; omega)
            case measure => simp [intOf] <;> omega
          · go_wp2_with (refine (hTr _ _ _).mono ?_; rintro e w5 ⟨rfl, rfl⟩)
            go_roundw
            case rel =>
              refine ⟨i + 1, by omega, by go_num, On.setCell hon2 (p := ⟨g, i, none⟩) (by show w.heap.size ≤ g; omega) _, ?_, HC.out.2.2.1.far (by show q ≠ g; omega) _, HC.out.2.2.2.far (by show q + 1 ≠ g; omega) _⟩
              refine own_setI HC.out.2.1 i (truthN_cast (a' := decide (0 < z1)) (b' := decide (z0 = t)) ?_ ?_) HC.out.1
              · first | rfl | (rw [Bool.eq_iff_iff]; simp; done) | (rw [Bool.eq_iff_iff]; simp; omega) | (simp; done) | (simp; omega)
              · first | rfl | (rw [Bool.eq_iff_iff]; simp; done) | (rw [Bool.eq_iff_iff]; simp; omega) | (simp; done) | (simp; omega)
            case measure => simp [intOf] <;> omega
          · go_wp2_with (refine (hTr _ _ _).mono ?_; rintro e w5 ⟨rfl, rfl⟩)
            go_roundw
            case rel =>
              refine ⟨i + 1, by omega, by go_num, On.setCell hon2 (p := ⟨g, i, none⟩) (by show w.heap.size ≤ g; omega) _, ?_, HC.out.2.2.1.far (by show q ≠ g; omega) _, HC.out.2.2.2.far (by show q + 1 ≠ g; omega) _⟩
              refine own_setI HC.out.2.1 i (truthN_cast (a' := decide (kk ≤ z1)) (b' := decide (t < kk + z0)) ?_ ?_) HC.out.1
              · first | rfl | (rw [Bool.eq_iff_iff]; simp; done) | (rw [Bool.eq_iff_iff]; simp; omega) | (simp; done) | (simp; omega)
              · first | rfl | (rw [Bool.eq_iff_iff]; simp; done) | (rw [Bool.eq_iff_iff]; simp; omega) | (simp; done) | (simp; omega)
            case measure => simp [intOf] <;> omega
          · by_cases hz : z2 = 0
            · subst hz
              go_wp2_with (refine (hTr _ _ _).mono ?_; rintro e w5 ⟨rfl, rfl⟩)
              go_roundw
              case rel =>
                refine ⟨i + 1, by omega, by go_num, On.setCell hon2 (p := ⟨g, i, none⟩) (by show w.heap.size ≤ g; omega) _, ?_, HC.out.2.2.1.far (by show q ≠ g; omega) _, HC.out.2.2.2.far (by show q + 1 ≠ g; omega) _⟩
                refine own_setI HC.out.2.1 i (truthN_cast (a' := decide ((0 : Nat) = 0) && decide (z1 % 2 = 1)) (b' := decide ((0 : Nat) = 0)) ?_ ?_) HC.out.1
                · first | rfl | (rw [Bool.eq_iff_iff]; simp; done) | (rw [Bool.eq_iff_iff]; simp; omega) | (simp; done) | (simp; omega)
                · first | rfl | (rw [Bool.eq_iff_iff]; simp; done) | (rw [Bool.eq_iff_iff]; simp; omega) | (simp; done) | (simp; omega)
              case measure => simp [intOf] <;> omega
            · have hz2 : ¬ (z2 : Int) = 0 := by omega
              have hb2 : ((z2 : Int) == 0) = false := by simp; omega
              go_wp2_with (refine (hTr _ _ _).mono ?_; rintro e w5 ⟨rfl, rfl⟩)
              go_roundw
              case rel =>
                refine ⟨i + 1, by omega, by go_num, On.setCell hon2 (p := ⟨g, i, none⟩) (by show w.heap.size ≤ g; omega) _, ?_, HC.out.2.2.1.far (by show q ≠ g; omega) _, HC.out.2.2.2.far (by show q + 1 ≠ g; omega) _⟩
                refine own_setI HC.out.2.1 i (truthN_cast (a' := decide (z2 = 0) && decide (z1 % 2 = 1)) (b' := decide (z2 = 0)) ?_ ?_) HC.out.1
                · first | rfl | (rw [Bool.eq_iff_iff]; simp; done) | (rw [Bool.eq_iff_iff]; simp; omega) | (simp; done) | (simp; omega)
                · first | rfl | (rw [Bool.eq_iff_iff]; simp; done) | (rw [Bool.eq_iff_iff]; simp; omega) | (simp; done) | (simp; omega)
              case measure => simp [intOf] <;> omega
    · obtain rfl : i = n := by omega
      have hfull := vrowT_full f y nn
      rw [HN.out] at hfull
      rw [hfull] at hG
      clear hQ hC
      go_wp2
      go_ret
      exact ⟨g, rfl, hG, by omega, hon⟩
end Go.Proofs.Ytcnelmklfdfilaa.Fm
