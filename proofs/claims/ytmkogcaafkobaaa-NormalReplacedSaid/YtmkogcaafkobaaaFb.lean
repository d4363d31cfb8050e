/-
  What is below Top: below of the program, Below of the specification.
-/
import Derived.Test.YtmkogcaafkobaaaFz
namespace Go.Proofs.Ytmkogcaafkobaaa.Fm
open Go.RowKit Go.Proofs.Ytmkogcaafkobaaa.Sb
set_option linter.unusedVariables false
set_option maxRecDepth 100000
theorem own_atB {w : World} {g : Nat} {xs : List Bool} (h : Own w g 4 (VB xs).toArray) {i : Nat} (hi : i < xs.length) : w.cell? ⟨g, i, none⟩ = some (.bool (xs.getD i false)) := by
  rw [h.cell]
  simp [VB, hi]
theorem take_args {l : List Nat} {j : Nat} (h : j < l.length) : l.take (j + 1) = l.take j ++ [l.getD j 0] := by
  rw [List.take_add_one, List.getElem?_eq_getElem h]
  simp [h]
theorem ints_getD {l : List Nat} {j : Nat} (h : j < l.length) : (ints l).getD j 0 = ((l.getD j 0 : Nat) : Int) := by
  unfold ints
  rw [List.getD_eq_getElem?_getD, List.getElem?_map, List.getD_eq_getElem?_getD, List.getElem?_eq_getElem h]; rfl
theorem getD_memN {l : List Nat} {j : Nat} (h : j < l.length) : l.getD j 0 ∈ l := by
  have : l.getD j 0 = l[j] := by simp [h]
  rw [this]; exact List.getElem_mem h
theorem or_bits (x j : Nat) (hx : x < 16777216) (hj : j < 24) : bits .or .i64 (x : Int) ((2 ^ j : Nat) : Int) = ((x ||| 2 ^ j : Nat) : Int) := by
  have : 2 ^ j < 2 ^ 24 := Nat.pow_lt_pow_right (by omega) hj
  exact or_nat x (2 ^ j) (by omega) (by omega)
theorem supTo_24 (m : List Bool) {j : Nat} (h : j ≤ 24) : supTo m j < 16777216 := by
  have h1 := supTo_lt m j
  have : 2 ^ j ≤ 2 ^ 24 := Nat.pow_le_pow_right (by omega) h
  omega
theorem cut_own (g v d : Nat) : cutA (some ⟨g, 0, none⟩) (v + d) v = if d = 0 then some ⟨g, 0, none⟩ else some ⟨g, v, none⟩ := by
  unfold cutA
  by_cases h : d = 0
  · rw [if_pos (by omega), if_pos h]
  · rw [if_neg (by omega), if_neg h]
    show some ((⟨g, 0, none⟩ : Addr).add v) = _
    rw [add_plain, Nat.zero_add]
set_option maxHeartbeats 8000000 in
theorem below_ok (w : World) (f : Fn) (hf : WF f) (A : Option Addr) (n c : Nat) (h : RdN w A n c (rawL f.nodes)) :
    Calls Try.prog 40 #[.agg #[.int .i64 (f.vars : Int), .slice A n c, .int .i64 (f.top : Int)]] w fun e w' => ∃ B d, e = .returned (.tuple #[.int .i64 (sup f : Nat), .slice B n d]) ∧ Rd w' B n d (VB ((bel f).drop f.vars)) ∧ On w w' := by
  have hn : f.nodes.length = n := by have := h.len; rwa [raw_len] at this
  have hcap := h.cap
  have hmax := h.max
  have hv := hf.1
  have hn128 := hf.2.1
  have htop := hf.2.2.2
  rw [hn] at hn128 htop
  obtain ⟨q, hq⟩ : ∃ q, w.heap.size = q := ⟨_, rfl⟩
  obtain ⟨w0, hw0⟩ : ∃ w0, w.alloc (.cells #[.int .i64 (f.vars : Int), .slice A n c, .int .i64 (f.top : Int)] 24) = w0 := ⟨_, rfl⟩
  have O0 : Own w0 q 24 #[.int .i64 (f.vars : Int), .slice A n c, .int .i64 (f.top : Int)] := by rw [← hw0, ← hq]; exact Own.new _ _ _
  have P0 : On w w0 := by rw [← hw0]; exact (On.refl w).alloc _
  have hmk := run_mkB (f.vars + n) (by omega) w0
  obtain ⟨g, hg⟩ : ∃ g, w0.heap.size = g := ⟨_, rfl⟩
  obtain ⟨w2, hw2⟩ : ∃ w2, w0.alloc (.cells (VB (List.replicate (f.vars + n) false)).toArray 4) = w2 := ⟨_, rfl⟩
  have OG : Own w2 g 4 (VB (List.replicate (f.vars + n) false)).toArray := by rw [← hw2, ← hg]; exact Own.new _ _ _
  have P2 : On w0 w2 := by rw [← hw2]; exact (On.refl w0).alloc _
  have O2 := O0.on P2
  rw [hg, hw2, Int.natCast_add] at hmk
  have hgq : q < g := by have := O0.lt; omega
  have r0 := O0.cell 0
  have r1 := O0.cell 1
  have s0 := O2.cell 0
  have s1 := O2.cell 1
  have s2 := O2.cell 2
  simp at r0 r1 s0 s1 s2
  have d0 := own_atB OG (i := f.top) (by rw [List.length_replicate]; exact htop)
  have d1 := OG.frozen f.top
  have O3 := own_setB OG f.top true
  have eb : (List.replicate (f.vars + n) false).set f.top true = belD f 0 := by rw [belD, hn]
  rw [eb] at O3
  have P02 := P0.trans P2
  have H2 := Lib.hid (And.intro O3 (And.intro (O2.far (p := ⟨g, f.top, none⟩) (by show q ≠ g; omega) (.bool true)) (On.setCell P02 (p := ⟨g, f.top, none⟩) (by show w.heap.size ≤ g; omega) (.bool true))))
  have HR := Lib.hid h
  have HN := Lib.hid hn
  have HF := Lib.hid hf
  have p0 : (w2.setCell ⟨g, f.top, none⟩ (.bool true)).cell? ⟨q, 1, none⟩ = some (.slice A n c) := by have := H2.out.2.1.cell 1; simpa using this
  clear h hn hf O0 P0 P2 OG O2 O3 eb P02
  go_enter Try.func40, Try.ntmps40
  go_wp2
  clear r0 r1 s0 s1 s2 d0 d1 p0 hmk hw0 hw2
  go_loopw [5] (fun i wr => ∃ (d : Nat) (z : Int), d ≤ n ∧ i = .int .i64 z ∧ z = (n : Int) - 1 - (d : Int) ∧ On w wr ∧ Own wr g 4 (VB (belD f d)).toArray ∧ Own wr q 24 #[.int .i64 (f.vars : Int), .slice A n c, .int .i64 (f.top : Int)]) (fun i _ => (intOf i + 1).toNat)
  case atStart => exact ⟨0, (n : Int) - 1, by omega, by go_num, by omega, H2.out.2.2, H2.out.1, H2.out.2.1⟩
  case round =>
    obtain ⟨d, z, hd, rfl, hz, hon, hG, hQ⟩ := hrel
    obtain ⟨wo, hwo⟩ : ∃ wo, wo = wr := ⟨_, rfl⟩
    subst hwo
    have r0 := hQ.cell 0
    have r1 := hQ.cell 1
    simp at r0 r1
    by_cases hlt : d < n
    · obtain ⟨i, hi⟩ : ∃ i, n = d + 1 + i := ⟨n - d - 1, by omega⟩
      have hzi : z = (i : Int) := by omega
      clear hz
      subst hzi
      have hid : f.nodes.length - 1 - d = i := by rw [HN.out]; omega
      have hstep : belD f (d + 1) = if (belD f d).getD (f.vars + i) false = true then mkA (belD f d) (f.nd i).args else belD f d := by rw [belD, hid]
      have hml : (belD f d).length = f.vars + n := by rw [belD_len, HN.out]
      have m0 := own_atB hG (i := f.vars + i) (by rw [hml]; omega)
      obtain ⟨M, hM⟩ : ∃ M, belD f d = M := ⟨_, rfl⟩
      rw [hM] at hstep hml m0 hG
      have HI := Lib.hid hi
      have HS := Lib.hid (And.intro hstep hml)
      have hin : (i : Int) < (n : Int) := by omega
      by_cases hb : M.getD (f.vars + i) false = true
      · rw [hb] at m0
        obtain ⟨ad, rfl, hbl, P, m, k, hc0, hc1, hc2', hRA⟩ := HR.out.at_ i (by omega)
        have hc2 := (Below.cell hon (p := ⟨(ad.add (i * 3)).block, (ad.add (i * 3)).off + 2, none⟩) (by show (Addr.add _ _).block < _; rw [block_of_add]; exact hbl)).trans hc2'
        rw [raw_get] at hRA
        have hm : (f.nd i).args.length = m := by have := VI_len hRA; unfold Nn.raw at this; rwa [ints_length] at this
        have harg : ∀ a ∈ (f.nd i).args, a < f.vars + i := fun a ha => HF.out.arg (by rw [HN.out]; omega) ha
        have hm16 : m ≤ 16 := by rw [← hm]; exact HF.out.len (by rw [HN.out]; omega)
        obtain ⟨args, hargs⟩ : ∃ args, (f.nd i).args = args := ⟨_, rfl⟩
        have hcapA := hRA.cap
        have hmaxA := hRA.max
        have hRA' : Rd w P m k (VI (ints (f.nd i).args)) := hRA
        rw [hargs] at hm harg hRA'
        have HRA := Lib.hid hRA'
        have HM := Lib.hid hm
        have HA := Lib.hid (And.intro harg hargs)
        have HG := Lib.hid (And.intro hG hQ)
        clear hRA hRA' hm harg hargs hG hQ hc0 hc1 hc2' hstep hml hi
        go_wp2
        clear hc2 m0 r0 r1
        go_loopw [42] (fun j wx => ∃ t : Nat, t ≤ m ∧ j = .int .i64 (t : Int) ∧ On w wx ∧ Own wx g 4 (VB (mkA M (args.take t))).toArray ∧ Own wx q 24 #[.int .i64 (f.vars : Int), .slice (some ad) n c, .int .i64 (f.top : Int)]) (fun j _ => m - (intOf j).toNat)
        case atStart => exact ⟨0, by omega, rfl, hon, HG.out.1, HG.out.2⟩
        case round =>
          obtain ⟨t, ht, rfl, hon3, hG2, hQ2⟩ := hrel
          by_cases hlt2 : t < m
          · obtain ⟨ad2, rfl, hb2, hc⟩ := VI_at (HRA.out.on hon3) hlt2
            have hl2 : t < args.length := by rw [HM.out]; exact hlt2
            rw [ints_getD hl2] at hc
            have ha := HA.out.1 _ (getD_memN hl2)
            have htk := take_args hl2
            obtain ⟨a, hae⟩ : ∃ a, args.getD t 0 = a := ⟨_, rfl⟩
            rw [hae] at hc ha htk
            have e0 := own_atB hG2 (i := a) (by rw [mkA_len, HS.out.2]; omega)
            have e1 := hG2.frozen a
            have O3 := own_setB hG2 a true
            rw [← mkA_snoc, ← htk] at O3
            have HO := Lib.hid (And.intro O3 (hQ2.far (p := ⟨g, a, none⟩) (by show q ≠ g; omega) (.bool true)))
            clear hae htk O3 hG2 hQ2 hl2
            go_wp2
            go_roundw
            case rel => exact ⟨t + 1, by omega, by go_num, On.setCell hon3 (p := ⟨g, a, none⟩) (by show w.heap.size ≤ g; omega) _, HO.out.1, HO.out.2⟩
            case measure => simp [intOf] <;> omega
          · obtain rfl : t = m := by omega
            have hfin : mkA M (args.take t) = belD f (d + 1) := by
              rw [HS.out.1, if_pos hb, HA.out.2, List.take_of_length_le (by rw [HM.out]; omega)]
            rw [hfin] at hG2
            have HG2 := Lib.hid (And.intro hG2 hQ2)
            clear hG2 hQ2 hfin
            go_wp2
            go_roundw
            case rel => exact ⟨d + 1, (i : Int) - 1, by have := HI.out; omega, by go_num, by have := HI.out; omega, hon3, HG2.out.1, HG2.out.2⟩
            case measure => simp [intOf] <;> omega
      · rw [Bool.eq_false_iff.2 hb] at m0
        have hfin : M = belD f (d + 1) := by rw [HS.out.1, if_neg hb]
        rw [hfin] at hG
        have HG2 := Lib.hid (And.intro hG hQ)
        clear hG hQ hfin hstep hml hi
        go_wp2
        go_roundw
        case rel => exact ⟨d + 1, (i : Int) - 1, by have := HI.out; omega, by go_num, by have := HI.out; omega, hon, HG2.out.1, HG2.out.2⟩
        case measure => simp [intOf] <;> omega
    · obtain rfl : d = n := by omega
      have hzi : z = -1 := by omega
      clear hz
      subst hzi
      have hfull : belD f d = bel f := by unfold bel; rw [HN.out]
      rw [hfull] at hG
      have HG := Lib.hid (And.intro hG hQ)
      have hbl : (bel f).length = f.vars + d := by rw [bel_len, HN.out]
      obtain ⟨M, hM⟩ : ∃ M, bel f = M := ⟨_, rfl⟩
      rw [hM] at HG hbl
      have HB := Lib.hid (And.intro hbl hM)
      clear hG hQ hfull hbl hM r1
      go_wp2
      clear r0
      go_loopw [52, 2] (fun j ev wx => ∃ t : Nat, t ≤ f.vars ∧ j = .int .i64 (t : Int) ∧ ev = .int .i64 (supTo M t : Nat) ∧ On w wx ∧ Own wx g 4 (VB M).toArray ∧ Own wx q 24 #[.int .i64 (f.vars : Int), .slice A d c, .int .i64 (f.top : Int)]) (fun j _ _ => f.vars - (intOf j).toNat)
      case atStart => exact ⟨0, by omega, rfl, rfl, hon, HG.out.1, HG.out.2⟩
      case round =>
        obtain ⟨t, ht, rfl, rfl, hon3, hG2, hQ2⟩ := hrel
        by_cases hlt2 : t < f.vars
        · have m0 := own_atB hG2 (i := t) (by rw [HB.out.1]; omega)
          have e1 := shl_step t (by omega)
          have e2 := or_bits (supTo M t) t (supTo_24 M (by omega)) (by omega)
          have hs : supTo M (t + 1) = if M.getD t false = true then supTo M t ||| 2 ^ t else supTo M t := rfl
          have ht64 : t < 64 := by omega
          obtain ⟨x, hx⟩ : ∃ x, supTo M t = x := ⟨_, rfl⟩
          obtain ⟨p2, hp2⟩ : ∃ p2, 2 ^ t = p2 := ⟨_, rfl⟩
          rw [hx] at e2 hs ⊢
          rw [hp2] at e1 e2 hs
          have HS := Lib.hid (And.intro hs (And.intro hG2 hQ2))
          clear hs hG2 hQ2 hx hp2
          by_cases hb : M.getD t false = true
          · rw [hb] at m0
            go_wp2
            go_roundw
            case rel => exact ⟨t + 1, by omega, by go_num, by rw [HS.out.1, if_pos hb], hon3, HS.out.2.1, HS.out.2.2⟩
            case measure => simp [intOf] <;> omega
          · rw [Bool.eq_false_iff.2 hb] at m0
            go_wp2
            go_roundw
            case rel => exact ⟨t + 1, by omega, by go_num, by rw [HS.out.1, if_neg hb], hon3, HS.out.2.1, HS.out.2.2⟩
            case measure => simp [intOf] <;> omega
        · have hte : t = f.vars := by omega
          have r0 := hQ2.cell 0
          simp at r0
          have hsup : supTo M t = sup f := by unfold sup; rw [HB.out.2, hte]
          have hlo : t < f.vars + d + 1 := by omega
          rw [hsup]
          have R1 := own_rdB hG2 HB.out.1 (by omega)
          have R2 := R1.cut (k := f.vars) (by omega)
          have HS := Lib.hid (And.intro R2 hte)
          clear hsup hG2 hQ2 R1 R2 hte
          go_wp2
          go_quiet (fail)
          all_goals go_wp2
          all_goals go_ret2
          all_goals have R3 := HS.out.1
          all_goals rw [cut_own, show f.vars + d - f.vars = d by omega, show (VB M).drop f.vars = VB ((bel f).drop f.vars) by rw [HB.out.2]; unfold VB; rw [List.map_drop]] at R3
          all_goals first | (have hd0 : d = 0 := by omega
                             rw [if_pos hd0, hd0] at R3; exact ⟨_, _, rfl, R3.drewN _, On.drewN hon3 _⟩) | (rw [if_neg (by omega)] at R3; exact ⟨_, _, rfl, R3.drewN _, On.drewN hon3 _⟩)
set_option maxHeartbeats 8000000 in
theorem rbelow_big {N : Nat} (hN : N ≤ 30000) (w : World) (f : Fn) (hf : WFb N f) (A : Option Addr) (n c : Nat) (h : RdN w A n c (rawL f.nodes)) :
    Calls Try.prog 45 #[.agg #[.int .i64 (f.vars : Int), .slice A n c, .int .i64 (f.top : Int)]] w fun e w' => ∃ g, e = .returned (.slice (some ⟨g, 0, none⟩) (f.vars + n) (f.vars + n)) ∧ Own w' g 4 (VB (bel f)).toArray ∧ w.heap.size ≤ g ∧ On w w' := by
  have hn : f.nodes.length = n := by have := h.len; rwa [raw_len] at this
  have hcap := h.cap
  have hmax := h.max
  have hv := hf.1
  have hn128 := hf.2.1
  have htop := hf.2.2.2
  rw [hn] at hn128 htop
  obtain ⟨q, hq⟩ : ∃ q, w.heap.size = q := ⟨_, rfl⟩
  obtain ⟨w0, hw0⟩ : ∃ w0, w.alloc (.cells #[.int .i64 (f.vars : Int), .slice A n c, .int .i64 (f.top : Int)] 24) = w0 := ⟨_, rfl⟩
  have O0 : Own w0 q 24 #[.int .i64 (f.vars : Int), .slice A n c, .int .i64 (f.top : Int)] := by rw [← hw0, ← hq]; exact Own.new _ _ _
  have P0 : On w w0 := by rw [← hw0]; exact (On.refl w).alloc _
  have hmk := run_mkB (f.vars + n) (by omega) w0
  obtain ⟨g, hg⟩ : ∃ g, w0.heap.size = g := ⟨_, rfl⟩
  obtain ⟨w2, hw2⟩ : ∃ w2, w0.alloc (.cells (VB (List.replicate (f.vars + n) false)).toArray 4) = w2 := ⟨_, rfl⟩
  have OG : Own w2 g 4 (VB (List.replicate (f.vars + n) false)).toArray := by rw [← hw2, ← hg]; exact Own.new _ _ _
  have P2 : On w0 w2 := by rw [← hw2]; exact (On.refl w0).alloc _
  have O2 := O0.on P2
  rw [hg, hw2, Int.natCast_add] at hmk
  have hgq : q < g := by have := O0.lt; omega
  have r0 := O0.cell 0
  have r1 := O0.cell 1
  have s0 := O2.cell 0
  have s1 := O2.cell 1
  have s2 := O2.cell 2
  simp at r0 r1 s0 s1 s2
  have d0 := own_atB OG (i := f.top) (by rw [List.length_replicate]; exact htop)
  have d1 := OG.frozen f.top
  have O3 := own_setB OG f.top true
  have eb : (List.replicate (f.vars + n) false).set f.top true = belD f 0 := by rw [belD, hn]
  rw [eb] at O3
  have P02 := P0.trans P2
  have H2 := Lib.hid (And.intro O3 (And.intro (O2.far (p := ⟨g, f.top, none⟩) (by show q ≠ g; omega) (.bool true)) (On.setCell P02 (p := ⟨g, f.top, none⟩) (by show w.heap.size ≤ g; omega) (.bool true))))
  have HR := Lib.hid h
  have HN := Lib.hid hn
  have HF := Lib.hid hf
  have p0 : (w2.setCell ⟨g, f.top, none⟩ (.bool true)).cell? ⟨q, 1, none⟩ = some (.slice A n c) := by have := H2.out.2.1.cell 1; simpa using this
  clear h hn hf O0 P0 P2 OG O2 O3 eb P02
  go_enter Try.func45, Try.ntmps45
  go_wp2
  clear r0 r1 s0 s1 s2 d0 d1 p0 hmk hw0 hw2
  go_loopw [4] (fun i wr => ∃ (d : Nat) (z : Int), d ≤ n ∧ i = .int .i64 z ∧ z = (n : Int) - 1 - (d : Int) ∧ On w wr ∧ Own wr g 4 (VB (belD f d)).toArray ∧ Own wr q 24 #[.int .i64 (f.vars : Int), .slice A n c, .int .i64 (f.top : Int)]) (fun i _ => (intOf i + 1).toNat)
  case atStart => exact ⟨0, (n : Int) - 1, by omega, by go_num, by omega, H2.out.2.2, H2.out.1, H2.out.2.1⟩
  case round =>
    obtain ⟨d, z, hd, rfl, hz, hon, hG, hQ⟩ := hrel
    obtain ⟨wo, hwo⟩ : ∃ wo, wo = wr := ⟨_, rfl⟩
    subst hwo
    have r0 := hQ.cell 0
    have r1 := hQ.cell 1
    simp at r0 r1
    by_cases hlt : d < n
    · obtain ⟨i, hi⟩ : ∃ i, n = d + 1 + i := ⟨n - d - 1, by omega⟩
      have hzi : z = (i : Int) := by omega
      clear hz
      subst hzi
      have hid : f.nodes.length - 1 - d = i := by rw [HN.out]; omega
      have hstep : belD f (d + 1) = if (belD f d).getD (f.vars + i) false = true then mkA (belD f d) (f.nd i).args else belD f d := by rw [belD, hid]
      have hml : (belD f d).length = f.vars + n := by rw [belD_len, HN.out]
      have m0 := own_atB hG (i := f.vars + i) (by rw [hml]; omega)
      obtain ⟨M, hM⟩ : ∃ M, belD f d = M := ⟨_, rfl⟩
      rw [hM] at hstep hml m0 hG
      have HI := Lib.hid hi
      have HS := Lib.hid (And.intro hstep hml)
      have hin : (i : Int) < (n : Int) := by omega
      by_cases hb : M.getD (f.vars + i) false = true
      · rw [hb] at m0
        obtain ⟨ad, rfl, hbl, P, m, k, hc0, hc1, hc2', hRA⟩ := HR.out.at_ i (by omega)
        have hc2 := (Below.cell hon (p := ⟨(ad.add (i * 3)).block, (ad.add (i * 3)).off + 2, none⟩) (by show (Addr.add _ _).block < _; rw [block_of_add]; exact hbl)).trans hc2'
        rw [raw_get] at hRA
        have hm : (f.nd i).args.length = m := by have := VI_len hRA; unfold Nn.raw at this; rwa [ints_length] at this
        have harg : ∀ a ∈ (f.nd i).args, a < f.vars + i := fun a ha => HF.out.arg (by rw [HN.out]; omega) ha
        have hm16 : m ≤ 16 := by rw [← hm]; exact HF.out.len (by rw [HN.out]; omega)
        obtain ⟨args, hargs⟩ : ∃ args, (f.nd i).args = args := ⟨_, rfl⟩
        have hcapA := hRA.cap
        have hmaxA := hRA.max
        have hRA' : Rd w P m k (VI (ints (f.nd i).args)) := hRA
        rw [hargs] at hm harg hRA'
        have HRA := Lib.hid hRA'
        have HM := Lib.hid hm
        have HA := Lib.hid (And.intro harg hargs)
        have HG := Lib.hid (And.intro hG hQ)
        clear hRA hRA' hm harg hargs hG hQ hc0 hc1 hc2' hstep hml hi
        go_wp2
        clear hc2 m0 r0 r1
        go_loopw [41] (fun j wx => ∃ t : Nat, t ≤ m ∧ j = .int .i64 (t : Int) ∧ On w wx ∧ Own wx g 4 (VB (mkA M (args.take t))).toArray ∧ Own wx q 24 #[.int .i64 (f.vars : Int), .slice (some ad) n c, .int .i64 (f.top : Int)]) (fun j _ => m - (intOf j).toNat)
        case atStart => exact ⟨0, by omega, rfl, hon, HG.out.1, HG.out.2⟩
        case round =>
          obtain ⟨t, ht, rfl, hon3, hG2, hQ2⟩ := hrel
          by_cases hlt2 : t < m
          · obtain ⟨ad2, rfl, hb2, hc⟩ := VI_at (HRA.out.on hon3) hlt2
            have hl2 : t < args.length := by rw [HM.out]; exact hlt2
            rw [ints_getD hl2] at hc
            have ha := HA.out.1 _ (getD_memN hl2)
            have htk := take_args hl2
            obtain ⟨a, hae⟩ : ∃ a, args.getD t 0 = a := ⟨_, rfl⟩
            rw [hae] at hc ha htk
            have e0 := own_atB hG2 (i := a) (by rw [mkA_len, HS.out.2]; omega)
            have e1 := hG2.frozen a
            have O3 := own_setB hG2 a true
            rw [← mkA_snoc, ← htk] at O3
            have HO := Lib.hid (And.intro O3 (hQ2.far (p := ⟨g, a, none⟩) (by show q ≠ g; omega) (.bool true)))
            clear hae htk O3 hG2 hQ2 hl2
            go_wp2
            go_roundw
            case rel => exact ⟨t + 1, by omega, by go_num, On.setCell hon3 (p := ⟨g, a, none⟩) (by show w.heap.size ≤ g; omega) _, HO.out.1, HO.out.2⟩
            case measure => simp [intOf] <;> omega
          · obtain rfl : t = m := by omega
            have hfin : mkA M (args.take t) = belD f (d + 1) := by
              rw [HS.out.1, if_pos hb, HA.out.2, List.take_of_length_le (by rw [HM.out]; omega)]
            rw [hfin] at hG2
            have HG2 := Lib.hid (And.intro hG2 hQ2)
            clear hG2 hQ2 hfin
            go_wp2
            go_roundw
            case rel => exact ⟨d + 1, (i : Int) - 1, by have := HI.out; omega, by go_num, by have := HI.out; omega, hon3, HG2.out.1, HG2.out.2⟩
            case measure => simp [intOf] <;> omega
      · rw [Bool.eq_false_iff.2 hb] at m0
        have hfin : M = belD f (d + 1) := by rw [HS.out.1, if_neg hb]
        rw [hfin] at hG
        have HG2 := Lib.hid (And.intro hG hQ)
        clear hG hQ hfin hstep hml hi
        go_wp2
        go_roundw
        case rel => exact ⟨d + 1, (i : Int) - 1, by have := HI.out; omega, by go_num, by have := HI.out; omega, hon, HG2.out.1, HG2.out.2⟩
        case measure => simp [intOf] <;> omega
    · obtain rfl : d = n := by omega
      have hzi : z = -1 := by omega
      clear hz
      subst hzi
      have hfull : belD f d = bel f := by unfold bel; rw [HN.out]
      rw [hfull] at hG
      clear hQ hfull r0 r1
      go_wp2
      go_ret
      exact ⟨g, rfl, hG, by omega, hon⟩
theorem rbelow_ok (w : World) (f : Fn) (hf : WF f) (A : Option Addr) (n c : Nat) (h : RdN w A n c (rawL f.nodes)) :
    Calls Try.prog 45 #[.agg #[.int .i64 (f.vars : Int), .slice A n c, .int .i64 (f.top : Int)]] w fun e w' => ∃ g, e = .returned (.slice (some ⟨g, 0, none⟩) (f.vars + n) (f.vars + n)) ∧ Own w' g 4 (VB (bel f)).toArray ∧ w.heap.size ≤ g ∧ On w w' :=
  rbelow_big (by decide) w f hf A n c h
end Go.Proofs.Ytmkogcaafkobaaa.Fm
