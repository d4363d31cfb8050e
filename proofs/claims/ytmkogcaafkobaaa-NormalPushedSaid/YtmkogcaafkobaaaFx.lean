/-
  Values of the program.
-/
import Derived.Test.YtmkogcaafkobaaaFv
namespace Go.Proofs.Ytmkogcaafkobaaa.Fm
open Go.RowKit Go.Proofs.Ytmkogcaafkobaaa.Sb
set_option linter.unusedVariables false
set_option maxRecDepth 100000
theorem infob : (Try.prog.info? 4).map (fun i => (i.zero, i.size, i.bytes)) = some (some (.bool false), 1, 1) := by kernel_rfl
theorem made_list {z : Value} (n : Nat) : (madeCells #[z] n) = (List.replicate n z).toArray := by
  apply Array.ext
  · simp [madeCells]
  · intro i h1 h2
    simp [madeCells, Nat.mod_one]
theorem run_mkB (n : Nat) (h : n ≤ 100000) (w : World) :
    (Instr.makeSlice 69 (.int .i64 (n : Int)) (.int .i64 (n : Int))).run Try.prog w = .ok (.slice (some ⟨w.heap.size, 0, none⟩) n n) (w.alloc (.cells (VB (List.replicate n false)).toArray 4)) := by
  have := run_make_row' 69 4 (.bool false) 1 Try.underlying69 infob rfl .i64 .i64 n (by omega) (by omega) w
  rw [made_list] at this
  rw [this, VB, List.map_replicate]
theorem own_rdB {w : World} {g : Nat} {xs : List Bool} {n : Nat} (h : Own w g 4 (VB xs).toArray) (hn : xs.length = n) (hm : n ≤ 100000) : Rd w (some ⟨g, 0, none⟩) n n (VB xs) := by
  refine ⟨by rw [VB_length]; exact hn, Nat.le_refl _, by omega, fun e => (by cases e), fun h0 => ⟨_, rfl, h.lt, fun j u hj => ?_⟩⟩
  rw [add_plain, h.cell, Nat.zero_add]
  simpa using hj
theorem own_setB {w : World} {g : Nat} {xs : List Bool} (h : Own w g 4 (VB xs).toArray) (i : Nat) (b : Bool) : Own (w.setCell ⟨g, i, none⟩ (.bool b)) g 4 (VB (xs.set i b)).toArray := by
  have := h.set_ i (.bool b)
  have e : (VB xs).toArray.setIfInBounds i (.bool b) = (VB (xs.set i b)).toArray := by simp [VB, List.map_set]
  rw [e] at this
  exact this
/-- how many of the first j arguments are true -/
def cntA (vars : Nat) (vs : List Bool) (s : Nat) (args : List Nat) (j : Nat) : Nat := ((args.take j).map (argV vars vs s)).count true
theorem cntA_zero {vars : Nat} {vs : List Bool} {s : Nat} {args : List Nat} : cntA vars vs s args 0 = 0 := rfl
theorem cntA_succ {vars : Nat} {vs : List Bool} {s : Nat} {args : List Nat} {j : Nat} (h : j < args.length) : cntA vars vs s args (j + 1) = cntA vars vs s args j + (if argV vars vs s (args.getD j 0) = true then 1 else 0) := by
  unfold cntA
  rw [List.take_add_one, List.getElem?_eq_getElem h, Option.toList_some, List.map_append, List.count_append]
  have : args.getD j 0 = args[j] := by simp [h]
  rw [this]
  cases hb : argV vars vs s args[j] <;> simp [hb]
theorem cntA_le {vars : Nat} {vs : List Bool} {s : Nat} {args : List Nat} {j : Nat} : cntA vars vs s args j ≤ j := by
  unfold cntA
  refine Nat.le_trans List.count_le_length ?_
  rw [List.length_map, List.length_take]; omega
theorem argV_rep (vars : Nat) (vs : List Bool) (k s a : Nat) : argV vars (vs ++ List.replicate k false) s a = argV vars vs s a := by
  unfold argV argE
  rw [getD_rep]
theorem cntA_rep (vars : Nat) (vs : List Bool) (k s : Nat) (args : List Nat) (j : Nat) : cntA vars (vs ++ List.replicate k false) s args j = cntA vars vs s args j := by
  unfold cntA
  congr 2
  funext a
  exact argV_rep _ _ _ _ _
/-- the values so far, the others still false -/
def vrow (f : Fn) (s i : Nat) : List Bool := valsTo f s i ++ List.replicate (f.nodes.length - i) false
theorem vrow_len {f : Fn} {s i : Nat} (h : i ≤ f.nodes.length) : (vrow f s i).length = f.nodes.length := by
  unfold vrow valsTo
  rw [List.length_append, evTo_len h, List.length_replicate]; omega
theorem vrow_zero (f : Fn) (s : Nat) : vrow f s 0 = List.replicate f.nodes.length false := by
  unfold vrow valsTo; rw [evTo_zero]; rfl
theorem vrow_full (f : Fn) (s : Nat) : vrow f s f.nodes.length = vals f s := by
  unfold vrow vals; simp
theorem set_rep {α : Type} (l : List α) (x d : α) (k : Nat) : (l ++ List.replicate (k + 1) d).set l.length x = (l ++ [x]) ++ List.replicate k d := by
  rw [List.set_append_right _ _ (Nat.le_refl _), Nat.sub_self, List.replicate_succ, List.set_cons_zero, List.append_assoc]; rfl
theorem vrow_succ {f : Fn} {s i : Nat} (h : i < f.nodes.length) : (vrow f s i).set i (decB (f.nd i).kind (f.nd i).k (f.nd i).args.length (cntA f.vars (vrow f s i) s (f.nd i).args (f.nd i).args.length)) = vrow f s (i + 1) := by
  have hl : (valsTo f s i).length = i := evTo_len (by omega)
  obtain ⟨k, hk⟩ : ∃ k, f.nodes.length - i = k + 1 := ⟨f.nodes.length - i - 1, by omega⟩
  unfold vrow
  rw [cntA_rep, hk, show f.nodes.length - (i + 1) = k by omega]
  have e : valsTo f s (i + 1) = valsTo f s i ++ [decB (f.nd i).kind (f.nd i).k (f.nd i).args.length (cntA f.vars (valsTo f s i) s (f.nd i).args (f.nd i).args.length)] := by
    unfold valsTo
    rw [evTo_succ h, cmbV_dec, List.length_map]
    unfold cntA
    rw [List.take_length]
    rfl
  rw [e]
  conv => lhs; arg 2; rw [← hl]
  exact set_rep _ _ _ _
theorem shl_step (v : Nat) (h : v ≤ 24) : wrap64 ((2 : Int) ^ v) = ((2 ^ v : Nat) : Int) := by
  have : ∀ v, v ≤ 24 → wrap64 ((2 : Int) ^ v) = ((2 ^ v : Nat) : Int) := by decide +kernel
  exact this v h
theorem pow24 {v : Nat} (h : v ≤ 24) : 2 ^ v ≤ 16777216 := by
  have : 2 ^ v ≤ 2 ^ 24 := Nat.pow_le_pow_right (by omega) h
  omega
set_option maxHeartbeats 8000000 in
theorem values_ok (w : World) (f : Fn) (hf : WF f) (A : Option Addr) (n c : Nat) (h : RdN w A n c (rawL f.nodes)) (s : Nat) (hs : s < 2 ^ f.vars) :
    Calls Try.prog 35 #[.agg #[.int .i64 (f.vars : Int), .slice A n c, .int .i64 (f.top : Int)], .int .i64 (s : Int)] w fun e w' => ∃ g, e = .returned (.tuple #[.slice (some ⟨g, 0, none⟩) n n, .nilIface]) ∧ Own w' g 4 (VB (vals f s)).toArray ∧ w.heap.size ≤ g ∧ On w w' := by
  have hn : f.nodes.length = n := by have := h.len; rwa [raw_len] at this
  have hcap := h.cap
  have hmax := h.max
  have hv := hf.1
  have hn128 := hf.2.1
  rw [hn] at hn128
  have hp24 := pow24 hv
  have hs24 : s < 16777216 := by omega
  obtain ⟨q, hq⟩ : ∃ q, w.heap.size = q := ⟨_, rfl⟩
  obtain ⟨w0, hw0⟩ : ∃ w0, w.alloc (.cells #[.int .i64 (f.vars : Int), .slice A n c, .int .i64 (f.top : Int)] 24) = w0 := ⟨_, rfl⟩
  have O0 : Own w0 q 24 #[.int .i64 (f.vars : Int), .slice A n c, .int .i64 (f.top : Int)] := by rw [← hw0, ← hq]; exact Own.new _ _ _
  have P0 : On w w0 := by rw [← hw0]; exact (On.refl w).alloc _
  have hC := check_any w0 (f.vars : Int) (f.top : Int) A n c _ (h.on P0) (by unfold I64; omega) (by unfold I64; have := hf.2.2.2; omega)
  rw [chk_ok hf, errV_zero, ← hw0] at hC
  have HR := Lib.hid h
  have HN := Lib.hid hn
  have HF := Lib.hid hf
  have HO := Lib.hid O0
  have HP := Lib.hid P0
  have HW := Lib.hid hw0
  have e1 := shl_step f.vars hv
  have hsi : (s : Int) < ((2 ^ f.vars : Nat) : Int) := by exact_mod_cast hs
  have hv64 : f.vars < 64 := by omega
  obtain ⟨p2, hp2⟩ : ∃ p2, 2 ^ f.vars = p2 := ⟨_, rfl⟩
  rw [hp2] at e1 hsi
  have d1 : decide ((s : Int) < 0) = false := decide_eq_false (by omega)
  have d2 : decide (p2 ≤ s) = false := decide_eq_false (by omega)
  have d3 : decide ((p2 : Int) ≤ (s : Int)) = false := decide_eq_false (by omega)
  clear h hn hf O0 P0 hw0 hp24 hs hp2
  go_enter Try.func35, Try.ntmps35
  go_wp2_with fail
  refine hC.mono ?_
  rintro e w1 ⟨rfl, P1⟩
  rw [HW.out] at P1
  clear hC
  have O1 := HO.out.on P1
  have r0 := O1.cell 0
  have r1 := O1.cell 1
  simp at r0 r1
  have hmk := run_mkB n (by omega) w1
  obtain ⟨g, hg⟩ : ∃ g, w1.heap.size = g := ⟨_, rfl⟩
  obtain ⟨w2, hw2⟩ : ∃ w2, w1.alloc (.cells (VB (List.replicate n false)).toArray 4) = w2 := ⟨_, rfl⟩
  have OG : Own w2 g 4 (VB (List.replicate n false)).toArray := by rw [← hw2, ← hg]; exact Own.new _ _ _
  have P2 : On w1 w2 := by rw [← hw2]; exact (On.refl w1).alloc _
  have O2 := O1.on P2
  have s0 := O2.cell 0
  have s1 := O2.cell 1
  simp at s0 s1
  rw [hg, hw2] at hmk
  have hgq : q < g := by have := HO.out.lt; have := P1.size; omega
  have H2 := Lib.hid (And.intro OG (And.intro O2 ((HP.out.trans P1).trans P2)))
  clear OG P2 O2 hw2 P1 O1
  go_wp2
  clear r0 r1 s0 s1 hmk hsi e1 d1 d2 d3
  go_loopw [35] (fun i wr => ∃ k : Nat, k ≤ n ∧ i = .int .i64 (k : Int) ∧ On w wr ∧ Own wr g 4 (VB (vrow f s k)).toArray ∧ Own wr q 24 #[.int .i64 (f.vars : Int), .slice A n c, .int .i64 (f.top : Int)]) (fun i _ => n - (intOf i).toNat)
  case atStart => exact ⟨0, by omega, rfl, H2.out.2.2, by rw [vrow_zero, HN.out]; exact H2.out.1, H2.out.2.1⟩
  case round =>
    obtain ⟨i, hi, rfl, hon, hG, hQ⟩ := hrel
    obtain ⟨wo, hwo⟩ : ∃ wo, wo = wr := ⟨_, rfl⟩
    subst hwo
    by_cases hlt : i < n
    · obtain ⟨ad, rfl, hb, P, m, k, hc0, hc1, hc2, hRA⟩ := (HR.out.on hon).at_ i hlt
      rw [raw_get] at hc0 hc1 hRA
      have hm : (f.nd i).args.length = m := by have := VI_len hRA; unfold Nn.raw at this; rwa [ints_length] at this
      have h5 := (HF.out.2.2.1 i (by rw [HN.out]; exact hlt)).1
      have hm16 : m ≤ 16 := by rw [← hm]; exact HF.out.len (by rw [HN.out]; exact hlt)
      have harg : ∀ a ∈ (f.nd i).args, a < f.vars + i := fun a ha => HF.out.arg (by rw [HN.out]; exact hlt) ha
      have hvl : (vrow f s i).length = n := by rw [vrow_len (by rw [HN.out]; omega)]; exact HN.out
      have hsucc := vrow_succ (f := f) (s := s) (i := i) (by rw [HN.out]; exact hlt)
      obtain ⟨x, hx⟩ : ∃ x, f.nd i = x := ⟨_, rfl⟩
      rw [hx] at hc0 hc1 hRA hm h5 harg hsucc
      obtain ⟨vs, hvs⟩ : ∃ vs, vrow f s i = vs := ⟨_, rfl⟩
      rw [hvs] at hG hvl hsucc
      rw [hm] at hsucc
      have hcapA := hRA.cap
      have hmaxA := hRA.max
      have c0 : wo.cell? (ad.add (i * 3)) = some (.int .i64 (x.kind : Int)) := hc0
      have c1 : wo.cell? ⟨(ad.add (i * 3)).block, (ad.add (i * 3)).off + 1, none⟩ = some (.int .i64 (x.k : Int)) := hc1
      have HRA := Lib.hid (show Rd wo P m k (VI (ints x.args)) from hRA)
      obtain ⟨p, hp⟩ : ∃ p, wo.heap.size = p := ⟨_, rfl⟩
      obtain ⟨w3, hw3⟩ : ∃ w3, wo.alloc (.cells #[.int .i64 (x.kind : Int), .int .i64 (x.k : Int), .slice P m k] 41) = w3 := ⟨_, rfl⟩
      have ON : Own w3 p 41 #[.int .i64 (x.kind : Int), .int .i64 (x.k : Int), .slice P m k] := by rw [← hw3, ← hp]; exact Own.new _ _ _
      have P3 : On wo w3 := by rw [← hw3]; exact (On.refl wo).alloc _
      have H3 := Lib.hid (And.intro ON (And.intro (hG.on P3) (And.intro (hQ.on P3) P3)))
      have HM := Lib.hid hm
      have HX := Lib.hid (And.intro harg (And.intro hsucc hvl))
      have hpg : g < p := by have := hG.lt; omega
      clear hc0 hc1 hRA hx hG hQ hm harg hsucc hvl ON P3
      have n2 := H3.out.1.cell 2
      simp at n2
      go_wp2
      clear c0 c1 hc2 n2 hw3
      go_loopw [43, 10] (fun j cn wx => ∃ t : Nat, t ≤ m ∧ j = .int .i64 (t : Int) ∧ cn = .int .i64 (cntA f.vars vs s x.args t : Nat) ∧ On wo wx ∧ Own wx p 41 #[.int .i64 (x.kind : Int), .int .i64 (x.k : Int), .slice P m k] ∧ Own wx g 4 (VB vs).toArray ∧ Own wx q 24 #[.int .i64 (f.vars : Int), .slice (some ad) n c, .int .i64 (f.top : Int)]) (fun j _ _ => m - (intOf j).toNat)
      case atStart => exact ⟨0, by omega, rfl, rfl, H3.out.2.2.2, H3.out.1, H3.out.2.1, H3.out.2.2.1⟩
      case round =>
        obtain ⟨t, ht, rfl, rfl, hon2, hN2, hG2, hQ2⟩ := hrel
        have r0 := hQ2.cell 0
        have r1 := hQ2.cell 1
        have r2 := hQ2.cell 2
        simp at r0 r1 r2
        by_cases hlt2 : t < m
        · obtain ⟨ad2, rfl, hb2, hc⟩ := VI_at (HRA.out.on hon2) hlt2
          have hl2 : t < x.args.length := by rw [HM.out]; exact hlt2
          have hcs := cntA_succ (vars := f.vars) (vs := vs) (s := s) hl2
          have ha := HX.out.1 (x.args.getD t 0) (by
            have : x.args.getD t 0 = x.args[t] := by simp [hl2]
            rw [this]; exact List.getElem_mem hl2)
          have eg : (ints x.args).getD t 0 = ((x.args.getD t 0 : Nat) : Int) := by
            unfold ints
            rw [List.getD_eq_getElem?_getD, List.getElem?_map, List.getD_eq_getElem?_getD, List.getElem?_eq_getElem hl2]; rfl
          rw [eg] at hc
          obtain ⟨a, hae⟩ : ∃ a, x.args.getD t 0 = a := ⟨_, rfl⟩
          rw [hae] at hc hcs ha
          have hV := valueOf_any wr f.vars (f.top : Int) (some ad) n c (some ⟨g, 0, none⟩) n n vs s a (own_rdB hG2 HX.out.2.2 (by omega)) hs24 hv (by omega)
          have hcl := cntA_le (vars := f.vars) (vs := vs) (s := s) (args := x.args) (j := t)
          obtain ⟨cn, hcn⟩ : ∃ cn, cntA f.vars vs s x.args t = cn := ⟨_, rfl⟩
          rw [hcn] at hcs hcl ⊢
          have HC := Lib.hid (And.intro hcs (And.intro hN2 (And.intro hG2 hQ2)))
          clear hcs hN2 hG2 hQ2 hae eg hl2 hcn
          by_cases hbv : argV f.vars vs s a = true
          · rw [hbv] at hV
            go_wp2_with fail
            refine hV.mono ?_
            rintro e w4 ⟨rfl, P4⟩
            clear hV
            go_wp2
            go_roundw
            case rel => exact ⟨t + 1, by omega, by go_num, by rw [HC.out.1, if_pos hbv]; go_num, hon2.trans P4, HC.out.2.1.on P4, HC.out.2.2.1.on P4, HC.out.2.2.2.on P4⟩
            case measure => simp [intOf]; omega
          · rw [Bool.eq_false_iff.2 hbv] at hV
            go_wp2_with fail
            refine hV.mono ?_
            rintro e w4 ⟨rfl, P4⟩
            clear hV
            go_wp2
            go_roundw
            case rel => exact ⟨t + 1, by omega, by go_num, by rw [HC.out.1, if_neg hbv]; rfl, hon2.trans P4, HC.out.2.1.on P4, HC.out.2.2.1.on P4, HC.out.2.2.2.on P4⟩
            case measure => simp [intOf]; omega
        · obtain rfl : t = m := by omega
          have n0 := hN2.cell 0
          have n1 := hN2.cell 1
          have n2 := hN2.cell 2
          simp at n0 n1 n2
          have hcl := cntA_le (vars := f.vars) (vs := vs) (s := s) (args := x.args) (j := t)
          have hsu := HX.out.2.1
          obtain ⟨cn, hcn⟩ : ∃ cn, cntA f.vars vs s x.args t = cn := ⟨_, rfl⟩
          rw [hcn] at hcl hsu ⊢
          have hD := decide_any wr x P t k cn HM.out h5 (by omega)
          obtain ⟨b, hbd⟩ : ∃ b, decB x.kind x.k t cn = b := ⟨_, rfl⟩
          rw [hbd] at hD hsu
          have HC := Lib.hid (And.intro hsu (And.intro hG2 hQ2))
          clear hG2 hQ2 hsu hN2 hcn hbd r0 r1 r2
          go_wp2_with fail
          refine hD.mono ?_
          rintro e w4 ⟨rfl, P4⟩
          have OG4 := HC.out.2.1.on P4
          obtain ⟨cb, d0⟩ : ∃ cb, w4.cell? ⟨g, i, none⟩ = some cb := by
            rw [OG4.cell]
            have : i < (VB vs).length := by rw [VB_length, HX.out.2.2]; exact hlt
            exact ⟨(VB vs)[i], by simp [this]⟩
          have d1 := OG4.frozen i
          have HO4 := Lib.hid (And.intro OG4 (And.intro (HC.out.2.2.on P4) (hon2.trans P4)))
          clear OG4 hD n0 n1 n2
          go_wp2
          go_roundw
          case rel =>
            refine ⟨i + 1, by omega, by go_num, On.setCell (hon.trans HO4.out.2.2) (by show w.heap.size ≤ g; omega) _, ?_, HO4.out.2.1.far (by show q ≠ g; omega) _⟩
            rw [← HC.out.1]
            exact own_setB HO4.out.1 i b
          case measure => simp [intOf]; omega
    · obtain rfl : i = n := by omega
      have hfull := vrow_full f s
      rw [HN.out] at hfull
      rw [hfull] at hG
      clear hQ
      go_wp2
      go_ret2
      exact ⟨g, rfl, hG, by omega, hon⟩
end Go.Proofs.Ytmkogcaafkobaaa.Fm
