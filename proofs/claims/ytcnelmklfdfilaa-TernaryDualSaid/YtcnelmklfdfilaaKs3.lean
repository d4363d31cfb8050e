/-
  The program's three values: Values.
-/
import Derived.Test.YtcnelmklfdfilaaKs2
namespace Go.Proofs.Ytcnelmklfdfilaa.Fm
open Go.RowKit Go.Proofs.Ytcnelmklfdfilaa.Sb
set_option linter.unusedVariables false
set_option maxRecDepth 100000
theorem cntT_sum {vars : Nat} {vs : List Nat} {y nn : Nat} {args : List Nat} {j : Nat} (h : ∀ a, argT vars vs y nn a ≤ 2) (hj : j ≤ args.length) : cntT vars vs y nn args j 0 + cntT vars vs y nn args j 1 + cntT vars vs y nn args j 2 = j := by
  unfold cntT
  rw [count3 _ (fun x hx => by obtain ⟨a, _, rfl⟩ := List.mem_map.1 hx; exact h a), List.length_map, List.length_take]
  omega
set_option maxHeartbeats 16000000 in
theorem tvalues_ok (w : World) (f : Fn) (hf : WF f) (A : Option Addr) (n c : Nat) (h : RdN w A n c (rawL f.nodes)) (y nn : Nat) (hy : y < 2 ^ f.vars) (hnn : nn < 2 ^ f.vars) (hd : Dis y nn) :
    Calls Try.prog 12 #[.agg #[.int .i64 (f.vars : Int), .slice A n c, .int .i64 (f.top : Int)], cubV (y : Int) (nn : Int)] w fun e w' => ∃ g, e = .returned (.tuple #[.slice (some ⟨g, 0, none⟩) n n, .nilIface]) ∧ Own w' g 3 (VI (ints (tvals f y nn))).toArray ∧ w.heap.size ≤ g ∧ On w w' := by
  have hn : f.nodes.length = n := by have := h.len; rwa [raw_len] at this
  have hcap := h.cap
  have hmax := h.max
  have hv := hf.1
  have hn128 := hf.2.1
  rw [hn] at hn128
  have hp24 := pow24 hv
  have hy24 : y < 16777216 := by omega
  have hn24 : nn < 16777216 := by omega
  obtain ⟨q, hq⟩ : ∃ q, w.heap.size = q := ⟨_, rfl⟩
  obtain ⟨w0, hw0⟩ : ∃ w0, (w.alloc (.cells #[.int .i64 (f.vars : Int), .slice A n c, .int .i64 (f.top : Int)] 24)).alloc (.cells #[.int .i64 (y : Int), .int .i64 (nn : Int)] 26) = w0 := ⟨_, rfl⟩
  have O0 : Own w0 q 24 #[.int .i64 (f.vars : Int), .slice A n c, .int .i64 (f.top : Int)] := by rw [← hw0, ← hq]; exact (Own.new _ _ _).alloc _
  have C0 : Own w0 (q + 1) 26 #[.int .i64 (y : Int), .int .i64 (nn : Int)] := by
    rw [← hw0, ← hq]
    have := Own.new (w.alloc (.cells #[.int .i64 (f.vars : Int), .slice A n c, .int .i64 (f.top : Int)] 24)) 26 #[.int .i64 (y : Int), .int .i64 (nn : Int)]
    simpa using this
  have P0 : On w w0 := by rw [← hw0]; exact ((On.refl w).alloc _).alloc _
  have hC := tcheck_ok w0 f hf A n c (h.on P0) (y : Int) (nn : Int)
  rw [cub_ok hv hy hnn hd, errV_zero, ← hw0] at hC
  have HO := Lib.hid (And.intro O0 (And.intro C0 (And.intro P0 hw0)))
  have HR := Lib.hid h
  have HN := Lib.hid hn
  have HF := Lib.hid hf
  clear h hn hf O0 C0 P0 hw0 hp24 hy hnn hd
  go_enter Try.func12, Try.ntmps12
  go_wp2_with fail
  refine hC.mono ?_
  rintro e w1 ⟨rfl, P1⟩
  rw [HO.out.2.2.2] at P1
  clear hC
  have O1 := HO.out.1.on P1
  have C1 := HO.out.2.1.on P1
  obtain ⟨r0, r1, r2⟩ := own3 O1
  have hmk := run_mkI n (by omega) w1
  obtain ⟨g, hg⟩ : ∃ g, w1.heap.size = g := ⟨_, rfl⟩
  obtain ⟨w2, hw2⟩ : ∃ w2, w1.alloc (.cells (VI (ints (List.replicate n 0))).toArray 3) = w2 := ⟨_, rfl⟩
  have OG : Own w2 g 3 (VI (ints (List.replicate n 0))).toArray := by rw [← hw2, ← hg]; exact Own.new _ _ _
  have P2 : On w1 w2 := by rw [← hw2]; exact (On.refl w1).alloc _
  rw [hg, hw2] at hmk
  have hgq : q + 1 < g := by have := C1.lt; omega
  obtain ⟨s0, s1, s2⟩ := own3 (O1.on P2)
  have H2 := Lib.hid (And.intro OG (And.intro (O1.on P2) (And.intro (C1.on P2) ((HO.out.2.2.1.trans P1).trans P2))))
  clear OG P2 O1 C1 P1
  go_wp2
  clear r0 r1 r2 s0 s1 s2 hmk hw2
  go_loopw [27] (fun i wr => ∃ k : Nat, k ≤ n ∧ i = .int .i64 (k : Int) ∧ On w wr ∧ Own wr g 3 (VI (ints (vrowT f y nn k))).toArray ∧ Own wr q 24 #[.int .i64 (f.vars : Int), .slice A n c, .int .i64 (f.top : Int)] ∧ Own wr (q + 1) 26 #[.int .i64 (y : Int), .int .i64 (nn : Int)]) (fun i _ => n - (intOf i).toNat)
  case atStart => exact ⟨0, by omega, rfl, H2.out.2.2.2, by rw [vrowT_zero, HN.out]; exact H2.out.1, H2.out.2.1, H2.out.2.2.1⟩
  case round =>
    obtain ⟨i, hi, rfl, hon, hG, hQ, hC⟩ := hrel
    obtain ⟨wo, hwo⟩ : ∃ wo, wo = wr := ⟨_, rfl⟩
    subst hwo
    by_cases hlt : i < n
    · obtain ⟨ad, rfl, hb, P, m, k, hc0', hc1', hc2', hRA⟩ := HR.out.at_ i hlt
      rw [raw_get] at hc0' hc1' hRA
      have hbk : (ad.add (i * 3)).block < w.heap.size := by rw [block_of_add]; exact hb
      have hc0 := (Below.cell hon hbk).trans hc0'
      have hc1 := (Below.cell hon (p := ⟨(ad.add (i * 3)).block, (ad.add (i * 3)).off + 1, none⟩) hbk).trans hc1'
      have hc2 := (Below.cell hon (p := ⟨(ad.add (i * 3)).block, (ad.add (i * 3)).off + 2, none⟩) hbk).trans hc2'
      have hil : i < f.nodes.length := by rw [HN.out]; exact hlt
      have hm : (f.nd i).args.length = m := by have := VI_len hRA; unfold Nn.raw at this; rwa [ints_length] at this
      have hok := HF.out.2.2.1 i hil
      have hm16 : m ≤ 16 := by rw [← hm]; exact HF.out.len hil
      have harg : ∀ a ∈ (f.nd i).args, a < f.vars + i := fun a ha => HF.out.arg hil ha
      have hvl : (vrowT f y nn i).length = n := by rw [vrowT_len (by omega), HN.out]
      have hsucc := vrowT_succ (f := f) (y := y) (nn := nn) (i := i) hil
      have hle2 := vrowT_le (f := f) (y := y) (nn := nn) (i := i) (by omega)
      obtain ⟨x, hx⟩ : ∃ x, f.nd i = x := ⟨_, rfl⟩
      rw [hx] at hc0 hc1 hRA hm hok harg hsucc
      obtain ⟨vs, hvs⟩ : ∃ vs, vrowT f y nn i = vs := ⟨_, rfl⟩
      rw [hvs] at hG hvl hsucc hle2
      rw [hm] at hsucc
      have hcapA := hRA.cap
      have hmaxA := hRA.max
      have c0 : wo.cell? (ad.add (i * 3)) = some (.int .i64 (x.kind : Int)) := hc0
      have c1 : wo.cell? ⟨(ad.add (i * 3)).block, (ad.add (i * 3)).off + 1, none⟩ = some (.int .i64 (x.k : Int)) := hc1
      obtain ⟨p, hp⟩ : ∃ p, wo.heap.size = p := ⟨_, rfl⟩
      obtain ⟨w3, hw3⟩ : ∃ w3, wo.alloc (.cells #[.int .i64 (x.kind : Int), .int .i64 (x.k : Int), .slice P m k] 57) = w3 := ⟨_, rfl⟩
      have ON : Own w3 p 57 #[.int .i64 (x.kind : Int), .int .i64 (x.k : Int), .slice P m k] := by rw [← hw3, ← hp]; exact Own.new _ _ _
      have P3 : On wo w3 := by rw [← hw3]; exact (On.refl wo).alloc _
      have HRA := Lib.hid (show Rd w P m k (VI (ints x.args)) from hRA)
      have H3 := Lib.hid (And.intro ON (And.intro (hG.on P3) (And.intro (hQ.on P3) (And.intro (hC.on P3) (hon.trans P3)))))
      have HX := Lib.hid (And.intro harg (And.intro hsucc (And.intro hvl (And.intro hm (And.intro hok hle2)))))
      have hgp : g < p := by have := hG.lt; omega
      clear hc0 hc1 hc0' hc1' hc2' hbk hRA hx hG hQ hC hm harg hsucc hvl ON P3 hok hle2 hvs
      have n2 := (own3 H3.out.1).2.2
      go_wp2
      clear c0 c1 hc2 n2 hw3
      go_loopw [35, 10, 11] (fun j z0 z1 wr => ∃ t : Nat, t ≤ m ∧ j = .int .i64 (t : Int) ∧ z0 = .int .i64 (cntT f.vars vs y nn x.args t 0 : Nat) ∧ z1 = .int .i64 (cntT f.vars vs y nn x.args t 1 : Nat) ∧ On w wr ∧ Own wr p 57 #[.int .i64 (x.kind : Int), .int .i64 (x.k : Int), .slice P m k] ∧ Own wr g 3 (VI (ints vs)).toArray ∧ Own wr q 24 #[.int .i64 (f.vars : Int), .slice (some ad) n c, .int .i64 (f.top : Int)] ∧ Own wr (q + 1) 26 #[.int .i64 (y : Int), .int .i64 (nn : Int)]) (fun j _ _ _ => m - (intOf j).toNat)
      case atStart => exact ⟨0, by omega, rfl, rfl, rfl, H3.out.2.2.2.2, H3.out.1, H3.out.2.1, H3.out.2.2.1, H3.out.2.2.2.1⟩
      case round =>
        obtain ⟨t, ht, rfl, rfl, rfl, hon2, hN2, hG2, hQ2, hK2⟩ := hrel
        have l0 := cntT_le (vars := f.vars) (vs := vs) (y := y) (nn := nn) (args := x.args) (j := t) (t := 0)
        have l1 := cntT_le (vars := f.vars) (vs := vs) (y := y) (nn := nn) (args := x.args) (j := t) (t := 1)
        by_cases hlt2 : t < m
        · obtain ⟨ad2, rfl, hb2, hc⟩ := VI_at (HRA.out.on hon2) hlt2
          have hl2 : t < x.args.length := by rw [HX.out.2.2.2.1]; exact hlt2
          rw [ints_getD hl2] at hc
          have hcs := fun z => cntT_succ (vars := f.vars) (vs := vs) (y := y) (nn := nn) hl2 z
          have ha := HX.out.1 _ (getD_memN hl2)
          obtain ⟨a, hae⟩ : ∃ a, x.args.getD t 0 = a := ⟨_, rfl⟩
          rw [hae] at hc hcs ha
          have hV := tof_any wr f.vars (f.top : Int) (some ad) n c (some ⟨g, 0, none⟩) n n vs y nn a (own_rdI hG2 HX.out.2.2.1 (by omega)) hy24 hn24 hv (by omega)
          have hv3 := HX.out.2.2.2.2.2 a
          obtain ⟨v, hve⟩ : ∃ v, argT f.vars vs y nn a = v := ⟨_, rfl⟩
          rw [hve] at hcs hV hv3
          obtain ⟨z0, hz0⟩ : ∃ z0, cntT f.vars vs y nn x.args t 0 = z0 := ⟨_, rfl⟩
          obtain ⟨z1, hz1⟩ : ∃ z1, cntT f.vars vs y nn x.args t 1 = z1 := ⟨_, rfl⟩
          have e0 := hcs 0
          have e1 := hcs 1
          rw [hz0] at e0 l0 ⊢
          rw [hz1] at e1 l1 ⊢
          obtain ⟨r0, r1, r2⟩ := own3 hQ2
          obtain ⟨k0, k1⟩ := own2 hK2
          have HE := Lib.hid (And.intro e0 e1)
          have HC := Lib.hid (And.intro hN2 (And.intro hG2 (And.intro hQ2 (And.intro hK2 hon2))))
          clear hcs e0 e1 hz0 hz1 hve hae hl2 hN2 hG2 hQ2 hK2
          go_wp2_with fail
          refine hV.mono ?_
          rintro e w4 ⟨rfl, P4⟩
          clear hV r0 r1 r2 k0 k1
          have hv4 : v = 0 ∨ v = 1 ∨ v = 2 := by omega
          clear hv3
          rcases hv4 with rfl | rfl | rfl
          · go_wp2
            go_roundw
            case rel => exact ⟨t + 1, by omega, by go_num, by rw [HE.out.1]; simp, by rw [HE.out.2]; simp, HC.out.2.2.2.2.trans P4, HC.out.1.on P4, HC.out.2.1.on P4, HC.out.2.2.1.on P4, HC.out.2.2.2.1.on P4⟩
            case measure => simp [intOf] <;> omega
          · go_wp2
            go_roundw
            case rel => exact ⟨t + 1, by omega, by go_num, by rw [HE.out.1]; simp, by rw [HE.out.2]; simp, HC.out.2.2.2.2.trans P4, HC.out.1.on P4, HC.out.2.1.on P4, HC.out.2.2.1.on P4, HC.out.2.2.2.1.on P4⟩
            case measure => simp [intOf] <;> omega
          · go_wp2
            go_roundw
            case rel => exact ⟨t + 1, by omega, by go_num, by rw [HE.out.1]; simp, by rw [HE.out.2]; simp, HC.out.2.2.2.2.trans P4, HC.out.1.on P4, HC.out.2.1.on P4, HC.out.2.2.1.on P4, HC.out.2.2.2.1.on P4⟩
            case measure => simp [intOf] <;> omega
        · obtain rfl : t = m := by omega
          have hsu := HX.out.2.1
          have hsum := cntT_sum (vars := f.vars) (vs := vs) (y := y) (nn := nn) (args := x.args) (j := t) HX.out.2.2.2.2.2 (by rw [HX.out.2.2.2.1]; exact Nat.le_refl _)
          obtain ⟨z0, hz0⟩ : ∃ z0, cntT f.vars vs y nn x.args t 0 = z0 := ⟨_, rfl⟩
          obtain ⟨z1, hz1⟩ : ∃ z1, cntT f.vars vs y nn x.args t 1 = z1 := ⟨_, rfl⟩
          obtain ⟨z2, hz2⟩ : ∃ z2, cntT f.vars vs y nn x.args t 2 = z2 := ⟨_, rfl⟩
          rw [hz0] at hsu l0 hsum ⊢
          rw [hz1] at hsu l1 hsum ⊢
          rw [hz2] at hsu hsum
          obtain ⟨n0, n1, n2⟩ := own3 hN2
          obtain ⟨hk5, hk0, _, hk2, _, hk4, hk6⟩ := HX.out.2.2.2.2.1
          have hkk : x.k ≤ 16 := by
            by_cases e0 : x.kind = 0
            · have := (hk0 e0).2; omega
            · by_cases e4 : x.kind = 4
              · have := (hk4 e4).2; have := (hk2 e0).2; omega
              · have := hk6 e0 e4; omega
          have hD := fun W => tdecide_any W x P t k z0 z1 z2 HX.out.2.2.2.1 hk5 (fun h => (hk0 h).2) hkk hsum hm16
          clear hk0 hk2 hk4 hk6 hkk
          obtain ⟨b, hbd⟩ : ∃ b, decT x.kind x.k t z0 z1 z2 = b := ⟨_, rfl⟩
          rw [hbd] at hD hsu
          have HC := Lib.hid (And.intro hsu (And.intro hG2 (And.intro hQ2 (And.intro hK2 hon2))))
          clear hsu hG2 hQ2 hK2 hN2 hz0 hz1 hz2 hbd hsum hk5
          go_wp2_with fail
          refine (hD _).mono ?_
          rintro e w4 ⟨rfl, P4⟩
          have G4 := HC.out.2.1.on P4
          obtain ⟨cb, x0⟩ : ∃ cb, w4.cell? ⟨g, i, none⟩ = some cb := ⟨_, own_atI G4 (i := i) (by rw [HX.out.2.2.1]; exact hlt)⟩
          have x1 := G4.frozen i
          have HG4 := Lib.hid (And.intro G4 P4)
          clear G4 hD n0 n1 n2 P4
          go_wp2
          go_roundw
          case rel =>
            exact ⟨i + 1, by omega, by go_num, On.setCell (HC.out.2.2.2.2.trans HG4.out.2) (p := ⟨g, i, none⟩) (by show w.heap.size ≤ g; omega) _, own_setI HG4.out.1 i rfl HC.out.1, (HC.out.2.2.1.on HG4.out.2).far (by show q ≠ g; omega) _, (HC.out.2.2.2.1.on HG4.out.2).far (by show q + 1 ≠ g; omega) _⟩
          case measure => simp [intOf] <;> omega
    · obtain rfl : i = n := by omega
      have hfull := vrowT_full f y nn
      rw [HN.out] at hfull
      rw [hfull] at hG
      clear hQ hC
      go_wp2
      go_ret2
      exact ⟨g, rfl, hG, by omega, hon⟩
set_option maxHeartbeats 4000000 in
theorem tvalues_bad (w : World) (vars top : Int) (A : Option Addr) (n c : Nat) (xs : List Nd) (h : RdN w A n c xs) (hv : I64 vars) (ht : I64 top) (y nn : Int) (hbad : tchk vars xs top y nn ≠ 0) :
    Calls Try.prog 12 #[.agg #[.int .i64 vars, .slice A n c, .int .i64 top], cubV y nn] w fun e w' => e = .returned (.tuple #[.slice none 0 0, errV (tchk vars xs top y nn)]) ∧ On w w' := by
  have P0 := ((On.refl w).alloc (.cells #[.int .i64 vars, .slice A n c, .int .i64 top] 24)).alloc (.cells #[.int .i64 y, .int .i64 nn] 26)
  have hC := tcheck_any _ vars top A n c xs (h.on P0) hv ht y nn
  obtain ⟨er, her⟩ : ∃ er, tchk vars xs top y nn = er := ⟨_, rfl⟩
  rw [her] at hC hbad ⊢
  rw [errV_pos er hbad] at hC ⊢
  clear her h hv ht hbad
  go_enter Try.func12, Try.ntmps12
  go_wp2_with fail
  refine hC.mono ?_
  rintro e w1 ⟨rfl, P1⟩
  clear hC
  go_wp2
  go_ret2
  exact ⟨rfl, P0.trans P1⟩
end Go.Proofs.Ytcnelmklfdfilaa.Fm
