/-
  Support and Size of the program and of the specification.
-/
import Derived.Test.YtimigaajhhfbhaaFb
namespace Go.Proofs.Ytimigaajhhfbhaa.Fm
open Go.RowKit Go.Proofs.Ytimigaajhhfbhaa.Sb
set_option linter.unusedVariables false
set_option maxRecDepth 100000
theorem need_get (f : Fn) (t : Nat) : ((bel f).drop f.vars).getD t false = mk f (f.vars + t) := by
  unfold mk
  rw [List.getD_eq_getElem?_getD, List.getElem?_drop, List.getD_eq_getElem?_getD]
theorem siz_le {f : Fn} (hf : WF f) (j : Nat) (hj : j ≤ f.nodes.length) : (sizTo (bel f) f.vars f.nodes j).1 ≤ 128 ∧ (sizTo (bel f) f.vars f.nodes j).2 ≤ 2048 := by
  have h1 := hf.2.1
  obtain ⟨a, b⟩ := sizTo_le (bel f) f.vars f.nodes j 16 (fun i hi => hf.len (show i < f.nodes.length by omega))
  omega
set_option maxHeartbeats 8000000 in
theorem support_ok (w : World) (f : Fn) (hf : WF f) (A : Option Addr) (n c : Nat) (h : RdN w A n c (rawL f.nodes)) :
    Calls Try.prog 19 #[.agg #[.int .i64 (f.vars : Int), .slice A n c, .int .i64 (f.top : Int)]] w fun e w' => e = .returned (.tuple #[.int .i64 (sup f : Nat), .nilIface]) ∧ On w w' := by
  have hn : f.nodes.length = n := by have := h.len; rwa [raw_len] at this
  have hcap := h.cap
  have hmax := h.max
  have hv := hf.1
  have hn128 := hf.2.1
  have htop := hf.2.2.2
  rw [hn] at hn128 htop
  obtain ⟨q, hq⟩ : ∃ q, w.heap.size = q := ⟨_, rfl⟩
  obtain ⟨w0, hw0⟩ : ∃ w0, w.alloc (.cells #[.int .i64 (f.vars : Int), .slice A n c, .int .i64 (f.top : Int)] 24) = w0 := ⟨_, rfl⟩
  have O0 : Own w0 q 24 #[.int .i64 (f.vars : Int), .slice A n c, .int .i64 (f.top : Int)] := by rw [← hw0, ← hq]; exact Own.new _ _ _
  have P0 : On w w0 := by rw [← hw0]; exact (On.refl w).alloc _
  have hC := check_any w0 (f.vars : Int) (f.top : Int) A n c _ (h.on P0) (by unfold I64; omega) (by unfold I64; omega)
  rw [chk_ok hf, errV_zero, ← hw0] at hC
  have hB := fun W (k : On w W) => below_ok W f hf A n c (h.on k)
  have HO := Lib.hid (And.intro O0 (And.intro P0 hw0))
  have HR := Lib.hid h
  have HN := Lib.hid hn
  have HF := Lib.hid hf
  clear h hn hf O0 P0 hw0
  go_enter Try.func19, Try.ntmps19
  go_wp2_with fail
  refine hC.mono ?_
  rintro e w1 ⟨rfl, P1⟩
  rw [HO.out.2.2] at P1
  clear hC
  have O1 := HO.out.1.on P1
  have r0 := O1.cell 0
  have r1 := O1.cell 1
  have r2 := O1.cell 2
  simp at r0 r1 r2
  have P01 := HO.out.2.1.trans P1
  have hB2 := hB w1 P01
  have H1 := Lib.hid (And.intro O1 P01)
  clear O1 hB P1 P01
  go_wp2_with fail
  refine hB2.mono ?_
  rintro e w2 ⟨B, d, rfl, hM, P2⟩
  go_wp2
  go_ret2
  exact ⟨rfl, H1.out.2.trans P2⟩
set_option maxHeartbeats 8000000 in
theorem size_ok (w : World) (f : Fn) (hf : WF f) (A : Option Addr) (n c : Nat) (h : RdN w A n c (rawL f.nodes)) :
    Calls Try.prog 20 #[.agg #[.int .i64 (f.vars : Int), .slice A n c, .int .i64 (f.top : Int)]] w fun e w' => e = .returned (.tuple #[.int .i64 ((siz f).1 : Nat), .int .i64 ((siz f).2 : Nat), .nilIface]) ∧ On w w' := by
  have hn : f.nodes.length = n := by have := h.len; rwa [raw_len] at this
  have hcap := h.cap
  have hmax := h.max
  have hv := hf.1
  have hn128 := hf.2.1
  have htop := hf.2.2.2
  rw [hn] at hn128 htop
  obtain ⟨q, hq⟩ : ∃ q, w.heap.size = q := ⟨_, rfl⟩
  obtain ⟨w0, hw0⟩ : ∃ w0, w.alloc (.cells #[.int .i64 (f.vars : Int), .slice A n c, .int .i64 (f.top : Int)] 24) = w0 := ⟨_, rfl⟩
  have O0 : Own w0 q 24 #[.int .i64 (f.vars : Int), .slice A n c, .int .i64 (f.top : Int)] := by rw [← hw0, ← hq]; exact Own.new _ _ _
  have P0 : On w w0 := by rw [← hw0]; exact (On.refl w).alloc _
  have hC := check_any w0 (f.vars : Int) (f.top : Int) A n c _ (h.on P0) (by unfold I64; omega) (by unfold I64; omega)
  rw [chk_ok hf, errV_zero, ← hw0] at hC
  have hB := fun W (k : On w W) => below_ok W f hf A n c (h.on k)
  have HO := Lib.hid (And.intro O0 (And.intro P0 hw0))
  have HR := Lib.hid h
  have HN := Lib.hid hn
  have HF := Lib.hid hf
  clear h hn hf O0 P0 hw0
  go_enter Try.func20, Try.ntmps20
  go_wp2_with fail
  refine hC.mono ?_
  rintro e w1 ⟨rfl, P1⟩
  rw [HO.out.2.2] at P1
  clear hC
  have O1 := HO.out.1.on P1
  have r0 := O1.cell 0
  have r1 := O1.cell 1
  have r2 := O1.cell 2
  simp at r0 r1 r2
  have P01 := HO.out.2.1.trans P1
  have hB2 := hB w1 P01
  have H1 := Lib.hid (And.intro O1 P01)
  clear O1 hB P1 P01
  go_wp2_with fail
  refine hB2.mono ?_
  rintro e w2 ⟨B, d, rfl, hM, P2⟩
  have O2 := H1.out.1.on P2
  have s0 := O2.cell 0
  have s1 := O2.cell 1
  have s2 := O2.cell 2
  simp at s0 s1 s2
  have dcap := hM.cap
  have dmax := hM.max
  have H2 := Lib.hid (And.intro hM (H1.out.2.trans P2))
  clear O2 hM P2 hB2
  go_wp2
  clear r0 r1 r2 s0 s1 s2
  go_loopw [23, 2, 3] (fun i na nb wr => ∃ t : Nat, t ≤ n ∧ i = .int .i64 (t : Int) ∧ na = .int .i64 ((sizTo (bel f) f.vars f.nodes t).1 : Nat) ∧ nb = .int .i64 ((sizTo (bel f) f.vars f.nodes t).2 : Nat) ∧ On w2 wr) (fun i _ _ _ => n - (intOf i).toNat)
  case atStart => exact ⟨0, by omega, rfl, rfl, rfl, On.refl _⟩
  case round =>
    obtain ⟨t, ht, rfl, rfl, rfl, hon⟩ := hrel
    have hle := siz_le HF.out t (by rw [HN.out]; exact ht)
    by_cases hlt : t < n
    · obtain ⟨ad, rfl, hbl, P, m, k, hc0', hc1', hc2', hRA⟩ := (HR.out.on H2.out.2).at_ t hlt
      rw [raw_get] at hc0' hc1' hRA
      have hbk : (ad.add (t * 3)).block < w2.heap.size := by rw [block_of_add]; exact hbl
      have hc0 : wr.cell? (ad.add (t * 3)) = some (.int .i64 ((f.nd t).kind : Int)) := (Below.cell hon hbk).trans hc0'
      have hc1 : wr.cell? ⟨(ad.add (t * 3)).block, (ad.add (t * 3)).off + 1, none⟩ = some (.int .i64 ((f.nd t).k : Int)) := (Below.cell hon (p := ⟨(ad.add (t * 3)).block, (ad.add (t * 3)).off + 1, none⟩) hbk).trans hc1'
      have hc2 := (Below.cell hon (p := ⟨(ad.add (t * 3)).block, (ad.add (t * 3)).off + 2, none⟩) hbk).trans hc2'
      have hm : (f.nd t).args.length = m := by have := VI_len hRA; unfold Nn.raw at this; rwa [ints_length] at this
      have hm16 : m ≤ 16 := by rw [← hm]; exact HF.out.len (by rw [HN.out]; exact hlt)
      have hs : sizTo (bel f) f.vars f.nodes (t + 1) = if mk f (f.vars + t) = true then ((sizTo (bel f) f.vars f.nodes t).1 + 1, (sizTo (bel f) f.vars f.nodes t).2 + m) else sizTo (bel f) f.vars f.nodes t := by
        rw [← hm]; rfl
      obtain ⟨adB, rfl, hblB, m0⟩ := VB_at ((H2.out.1.on hon).alloc (.cells #[.int .i64 ((f.nd t).kind : Int), .int .i64 ((f.nd t).k : Int), .slice P m k] 53)) hlt
      rw [need_get] at m0
      obtain ⟨⟨x, y⟩, hxy⟩ : ∃ z, sizTo (bel f) f.vars f.nodes t = z := ⟨_, rfl⟩
      rw [hxy] at hs hle ⊢
      simp only at hs hle ⊢
      have HS := Lib.hid hs
      obtain ⟨kind, hkind⟩ : ∃ kind, (f.nd t).kind = kind := ⟨_, rfl⟩
      obtain ⟨kk, hkk⟩ : ∃ kk, (f.nd t).k = kk := ⟨_, rfl⟩
      rw [hkind] at hc0
      rw [hkk] at hc1
      rw [hkind, hkk] at m0
      clear hs hxy hm hRA hc0' hc1' hc2' hbk hbl hkind hkk
      by_cases hb : mk f (f.vars + t) = true
      · rw [hb] at m0
        go_wp2
        go_roundw
        case rel => exact ⟨t + 1, by omega, by go_num, by rw [HS.out, if_pos hb]; go_num, by rw [HS.out, if_pos hb]; go_num, (hon.alloc _)⟩
        case measure => simp [intOf] <;> omega
      · rw [Bool.eq_false_iff.2 hb] at m0
        go_wp2
        go_roundw
        case rel => exact ⟨t + 1, by omega, by go_num, by rw [HS.out, if_neg hb], by rw [HS.out, if_neg hb], hon.alloc _⟩
        case measure => simp [intOf] <;> omega
    · obtain rfl : t = n := by omega
      have hsz : sizTo (bel f) f.vars f.nodes t = siz f := by unfold siz; rw [HN.out]
      rw [hsz]
      go_wp2
      refine bodyPost_ret (v := .tuple #[.int .i64 ((siz f).1 : Nat), .int .i64 ((siz f).2 : Nat), .nilIface]) (by simp [results]) rfl ?_
      exact ⟨rfl, H2.out.2.trans hon⟩
set_option maxHeartbeats 8000000 in
theorem rsize_ok (w : World) (f : Fn) (hf : WF f) (A : Option Addr) (n c : Nat) (h : RdN w A n c (rawL f.nodes)) :
    Calls Try.prog 23 #[.agg #[.int .i64 (f.vars : Int), .slice A n c, .int .i64 (f.top : Int)]] w fun e w' => e = .returned (.tuple #[.int .i64 ((siz f).1 : Nat), .int .i64 ((siz f).2 : Nat)]) ∧ On w w' := by
  have hn : f.nodes.length = n := by have := h.len; rwa [raw_len] at this
  have hcap := h.cap
  have hmax := h.max
  have hv := hf.1
  have hn128 := hf.2.1
  have htop := hf.2.2.2
  rw [hn] at hn128 htop
  obtain ⟨q, hq⟩ : ∃ q, w.heap.size = q := ⟨_, rfl⟩
  obtain ⟨w0, hw0⟩ : ∃ w0, w.alloc (.cells #[.int .i64 (f.vars : Int), .slice A n c, .int .i64 (f.top : Int)] 24) = w0 := ⟨_, rfl⟩
  have O0 : Own w0 q 24 #[.int .i64 (f.vars : Int), .slice A n c, .int .i64 (f.top : Int)] := by rw [← hw0, ← hq]; exact Own.new _ _ _
  have P0 : On w w0 := by rw [← hw0]; exact (On.refl w).alloc _
  have hB := rbelow_ok w0 f hf A n c (h.on P0)
  rw [← hw0] at hB
  have HO := Lib.hid (And.intro O0 (And.intro P0 hw0))
  have HR := Lib.hid h
  have HN := Lib.hid hn
  have HF := Lib.hid hf
  clear h hn hf O0 P0 hw0
  go_enter Try.func23, Try.ntmps23
  go_wp2_with fail
  refine hB.mono ?_
  rintro e w2 ⟨g, rfl, hM, hg, P2⟩
  rw [HO.out.2.2] at P2
  clear hB
  have O2 := HO.out.1.on P2
  have s0 := O2.cell 0
  have s1 := O2.cell 1
  have s2 := O2.cell 2
  simp at s0 s1 s2
  have H2 := Lib.hid (And.intro (And.intro hM O2) (HO.out.2.1.trans P2))
  clear O2 hM P2
  go_wp2
  clear s0 s1 s2
  go_loopw [12, 2, 3] (fun i na nb wr => ∃ t : Nat, t ≤ n ∧ i = .int .i64 (t : Int) ∧ na = .int .i64 ((sizTo (bel f) f.vars f.nodes t).1 : Nat) ∧ nb = .int .i64 ((sizTo (bel f) f.vars f.nodes t).2 : Nat) ∧ On w2 wr) (fun i _ _ _ => n - (intOf i).toNat)
  case atStart => exact ⟨0, by omega, rfl, rfl, rfl, On.refl _⟩
  case round =>
    obtain ⟨t, ht, rfl, rfl, rfl, hon⟩ := hrel
    have hle := siz_le HF.out t (by rw [HN.out]; exact ht)
    by_cases hlt : t < n
    · obtain ⟨ad, rfl, hbl, P, m, k, hc0', hc1', hc2', hRA⟩ := (HR.out.on H2.out.2).at_ t hlt
      rw [raw_get] at hc0' hc1' hRA
      have hbk : (ad.add (t * 3)).block < w2.heap.size := by rw [block_of_add]; exact hbl
      have hc0 : wr.cell? (ad.add (t * 3)) = some (.int .i64 ((f.nd t).kind : Int)) := (Below.cell hon hbk).trans hc0'
      have hc1 : wr.cell? ⟨(ad.add (t * 3)).block, (ad.add (t * 3)).off + 1, none⟩ = some (.int .i64 ((f.nd t).k : Int)) := (Below.cell hon (p := ⟨(ad.add (t * 3)).block, (ad.add (t * 3)).off + 1, none⟩) hbk).trans hc1'
      have hc2 := (Below.cell hon (p := ⟨(ad.add (t * 3)).block, (ad.add (t * 3)).off + 2, none⟩) hbk).trans hc2'
      have hm : (f.nd t).args.length = m := by have := VI_len hRA; unfold Nn.raw at this; rwa [ints_length] at this
      have hm16 : m ≤ 16 := by rw [← hm]; exact HF.out.len (by rw [HN.out]; exact hlt)
      have hs : sizTo (bel f) f.vars f.nodes (t + 1) = if mk f (f.vars + t) = true then ((sizTo (bel f) f.vars f.nodes t).1 + 1, (sizTo (bel f) f.vars f.nodes t).2 + m) else sizTo (bel f) f.vars f.nodes t := by
        rw [← hm]; rfl
      have m0 := own_atB ((H2.out.1.1.on hon).alloc (.cells #[.int .i64 ((f.nd t).kind : Int), .int .i64 ((f.nd t).k : Int), .slice P m k] 53)) (i := f.vars + t) (by rw [bel_len, HN.out]; omega)
      have b0 := ((H2.out.1.2.on hon).alloc (.cells #[.int .i64 ((f.nd t).kind : Int), .int .i64 ((f.nd t).k : Int), .slice P m k] 53)).cell 0
      simp only [List.getElem?_toArray, List.getElem?_cons_zero] at b0
      have hmk : (bel f).getD (f.vars + t) false = mk f (f.vars + t) := rfl
      rw [hmk] at m0
      clear hmk
      obtain ⟨⟨x, y⟩, hxy⟩ : ∃ z, sizTo (bel f) f.vars f.nodes t = z := ⟨_, rfl⟩
      rw [hxy] at hs hle ⊢
      simp only at hs hle ⊢
      have HS := Lib.hid hs
      obtain ⟨kind, hkind⟩ : ∃ kind, (f.nd t).kind = kind := ⟨_, rfl⟩
      obtain ⟨kk, hkk⟩ : ∃ kk, (f.nd t).k = kk := ⟨_, rfl⟩
      rw [hkind] at hc0
      rw [hkk] at hc1
      rw [hkind, hkk] at m0 b0
      clear hs hxy hm hRA hc0' hc1' hc2' hbk hbl hkind hkk
      by_cases hb : mk f (f.vars + t) = true
      · rw [hb] at m0
        go_wp2
        go_quiet (fail)
        go_wp2
        go_roundw
        case rel => exact ⟨t + 1, by omega, by go_num, by rw [HS.out, if_pos hb]; go_num, by rw [HS.out, if_pos hb]; go_num, (hon.alloc _).drewN _⟩
        case measure => simp [intOf] <;> omega
      · rw [Bool.eq_false_iff.2 hb] at m0
        go_wp2
        go_roundw
        case rel => exact ⟨t + 1, by omega, by go_num, by rw [HS.out, if_neg hb], by rw [HS.out, if_neg hb], hon.alloc _⟩
        case measure => simp [intOf] <;> omega
    · obtain rfl : t = n := by omega
      have hsz : sizTo (bel f) f.vars f.nodes t = siz f := by unfold siz; rw [HN.out]
      rw [hsz]
      go_wp2
      go_ret2
      exact ⟨rfl, H2.out.2.trans hon⟩
set_option maxHeartbeats 8000000 in
theorem rsupport_ok (w : World) (f : Fn) (hf : WF f) (A : Option Addr) (n c : Nat) (h : RdN w A n c (rawL f.nodes)) :
    Calls Try.prog 24 #[.agg #[.int .i64 (f.vars : Int), .slice A n c, .int .i64 (f.top : Int)]] w fun e w' => e = .returned (.int .i64 (sup f : Nat)) ∧ On w w' := by
  have hn : f.nodes.length = n := by have := h.len; rwa [raw_len] at this
  have hcap := h.cap
  have hmax := h.max
  have hv := hf.1
  have hn128 := hf.2.1
  have htop := hf.2.2.2
  rw [hn] at hn128 htop
  obtain ⟨q, hq⟩ : ∃ q, w.heap.size = q := ⟨_, rfl⟩
  obtain ⟨w0, hw0⟩ : ∃ w0, w.alloc (.cells #[.int .i64 (f.vars : Int), .slice A n c, .int .i64 (f.top : Int)] 24) = w0 := ⟨_, rfl⟩
  have O0 : Own w0 q 24 #[.int .i64 (f.vars : Int), .slice A n c, .int .i64 (f.top : Int)] := by rw [← hw0, ← hq]; exact Own.new _ _ _
  have P0 : On w w0 := by rw [← hw0]; exact (On.refl w).alloc _
  have hB := rbelow_ok w0 f hf A n c (h.on P0)
  rw [← hw0] at hB
  have HO := Lib.hid (And.intro O0 (And.intro P0 hw0))
  have HR := Lib.hid h
  have HN := Lib.hid hn
  have HF := Lib.hid hf
  clear h hn hf O0 P0 hw0
  go_enter Try.func24, Try.ntmps24
  go_wp2_with fail
  refine hB.mono ?_
  rintro e w2 ⟨g, rfl, hM, hg, P2⟩
  rw [HO.out.2.2] at P2
  clear hB
  have O2 := HO.out.1.on P2
  have H2 := Lib.hid (And.intro hM (And.intro O2 (HO.out.2.1.trans P2)))
  clear O2 hM P2
  go_wp2
  go_loopw [9, 3] (fun i ev wr => ∃ t : Nat, t ≤ f.vars + n ∧ i = .int .i64 (t : Int) ∧ ev = .int .i64 (supTo (bel f) (min t f.vars) : Nat) ∧ wr = w2) (fun i _ _ => f.vars + n - (intOf i).toNat)
  case atStart => exact ⟨0, by omega, rfl, by rw [Nat.zero_min]; rfl, by first | rfl | trivial⟩
  case round =>
    obtain ⟨t, ht, rfl, rfl, rfl⟩ := hrel
    have hM := H2.out.1
    have r0 := H2.out.2.1.cell 0
    simp at r0
    by_cases hlt : t < f.vars + n
    · have m0 := own_atB hM (i := t) (by rw [bel_len, HN.out]; omega)
      have hs24 := supTo_24 (bel f) (j := min t f.vars) (by omega)
      by_cases hb : (bel f).getD t false = true
      · rw [hb] at m0
        by_cases hv2 : t < f.vars
        · have e1 := shl_step t (by omega)
          have e2 := or_bits (supTo (bel f) (min t f.vars)) t hs24 (by omega)
          have hs : supTo (bel f) (min (t + 1) f.vars) = supTo (bel f) (min t f.vars) ||| 2 ^ t := by
            rw [show min (t + 1) f.vars = t + 1 by omega, show min t f.vars = t by omega, supTo, if_pos hb]
          have ht64 : t < 64 := by omega
          obtain ⟨x, hx⟩ : ∃ x, supTo (bel f) (min t f.vars) = x := ⟨_, rfl⟩
          obtain ⟨p2, hp2⟩ : ∃ p2, 2 ^ t = p2 := ⟨_, rfl⟩
          rw [hx] at e2 hs ⊢
          rw [hp2] at e1 e2 hs
          have HS := Lib.hid hs
          clear hs hM hx hp2
          go_wp2
          go_roundw
          case rel => exact ⟨t + 1, by omega, by go_num, by rw [HS.out], by first | rfl | trivial⟩
          case measure => simp [intOf] <;> omega
        · have hs : supTo (bel f) (min (t + 1) f.vars) = supTo (bel f) (min t f.vars) := by
            rw [show min (t + 1) f.vars = min t f.vars by omega]
          obtain ⟨x, hx⟩ : ∃ x, supTo (bel f) (min t f.vars) = x := ⟨_, rfl⟩
          rw [hx] at hs ⊢
          have HS := Lib.hid hs
          clear hs hM hx
          go_wp2
          go_roundw
          case rel => exact ⟨t + 1, by omega, by go_num, by rw [HS.out], by first | rfl | trivial⟩
          case measure => simp [intOf] <;> omega
      · rw [Bool.eq_false_iff.2 hb] at m0
        have hs : supTo (bel f) (min (t + 1) f.vars) = supTo (bel f) (min t f.vars) := by
          by_cases hv2 : t < f.vars
          · rw [show min (t + 1) f.vars = t + 1 by omega, show min t f.vars = t by omega, supTo, if_neg hb]
          · rw [show min (t + 1) f.vars = min t f.vars by omega]
        obtain ⟨x, hx⟩ : ∃ x, supTo (bel f) (min t f.vars) = x := ⟨_, rfl⟩
        rw [hx] at hs ⊢
        have HS := Lib.hid hs
        clear hs hM hx
        go_wp2
        go_roundw
        case rel => exact ⟨t + 1, by omega, by go_num, by rw [HS.out], by first | rfl | trivial⟩
        case measure => simp [intOf] <;> omega
    · have hs : supTo (bel f) (min t f.vars) = sup f := by unfold sup; rw [show min t f.vars = f.vars by omega]
      rw [hs]
      have hlt2 : ¬ (t : Int) < (f.vars : Int) + (n : Int) := by omega
      clear hM r0
      go_wp2
      go_ret
      exact ⟨rfl, H2.out.2.2⟩
end Go.Proofs.Ytimigaajhhfbhaa.Fm
