/-
  Values of the specification; Value of both; Set; a set of failed events that is none.
-/
import Derived.Test.YtpllgpjplliadaaFx
namespace Go.Proofs.Ytpllgpjplliadaa.Fm
open Go.RowKit Go.Proofs.Ytpllgpjplliadaa.Sb
set_option linter.unusedVariables false
set_option maxRecDepth 100000
theorem own_setB' {w : World} {g : Nat} {xs ys : List Bool} (h : Own w g 4 (VB xs).toArray) (i : Nat) {b b' : Bool} (hb : b = b') (he : xs.set i b' = ys) : Own (w.setCell ⟨g, i, none⟩ (.bool b)) g 4 (VB ys).toArray := by
  subst hb; subst he; exact own_setB h i b
set_option maxHeartbeats 8000000 in
theorem rvalues_ok (w : World) (f : Fn) (hf : WF f) (A : Option Addr) (n c : Nat) (h : RdN w A n c (rawL f.nodes)) (s : Nat) (hs : s < 2 ^ f.vars) :
    Calls Try.prog 47 #[.agg #[.int .i64 (f.vars : Int), .slice A n c, .int .i64 (f.top : Int)], .int .i64 (s : Int)] w fun e w' => ∃ g, e = .returned (.slice (some ⟨g, 0, none⟩) n n) ∧ Own w' g 4 (VB (vals f s)).toArray ∧ w.heap.size ≤ g ∧ On w w' := by
  have hn : f.nodes.length = n := by have := h.len; rwa [raw_len] at this
  have hcap := h.cap
  have hmax := h.max
  have hv := hf.1
  have hn128 := hf.2.1
  rw [hn] at hn128
  have hp24 := pow24 hv
  have hs24 : s < 16777216 := by omega
  obtain ⟨q, hq⟩ : ∃ q, w.heap.size = q := ⟨_, rfl⟩
  obtain ⟨w0, hw0⟩ : ∃ w0, w.alloc (.cells #[.int .i64 (f.vars : Int), .slice A n c, .int .i64 (f.top : Int)] 24) = w0 := ⟨_, rfl⟩
  have O0 : Own w0 q 24 #[.int .i64 (f.vars : Int), .slice A n c, .int .i64 (f.top : Int)] := by rw [← hw0, ← hq]; exact Own.new _ _ _
  have P0 : On w w0 := by rw [← hw0]; exact (On.refl w).alloc _
  have HR := Lib.hid h
  have HN := Lib.hid hn
  have HF := Lib.hid hf
  have HO := Lib.hid O0
  have HP := Lib.hid P0
  clear h hn hf O0 P0 hp24 hs
  have r0 := HO.out.cell 0
  have r1 := HO.out.cell 1
  simp at r0 r1
  have hmk := run_mkB n (by omega) w0
  obtain ⟨g, hg⟩ : ∃ g, w0.heap.size = g := ⟨_, rfl⟩
  obtain ⟨w2, hw2⟩ : ∃ w2, w0.alloc (.cells (VB (List.replicate n false)).toArray 4) = w2 := ⟨_, rfl⟩
  have OG : Own w2 g 4 (VB (List.replicate n false)).toArray := by rw [← hw2, ← hg]; exact Own.new _ _ _
  have P2 : On w0 w2 := by rw [← hw2]; exact (On.refl w0).alloc _
  have O2 := HO.out.on P2
  have s0 := O2.cell 0
  have s1 := O2.cell 1
  simp at s0 s1
  rw [hg, hw2] at hmk
  have hgq : q < g := by have := HO.out.lt; omega
  have H2 := Lib.hid (And.intro OG (And.intro O2 (HP.out.trans P2)))
  clear OG P2 O2
  go_enter Try.func47, Try.ntmps47
  go_wp2
  clear r0 r1 s0 s1 hmk hw0 hw2
  go_loopw [18] (fun i wr => ∃ k : Nat, k ≤ n ∧ i = .int .i64 (k : Int) ∧ On w wr ∧ Own wr g 4 (VB (vrow f s k)).toArray ∧ Own wr q 24 #[.int .i64 (f.vars : Int), .slice A n c, .int .i64 (f.top : Int)]) (fun i _ => n - (intOf i).toNat)
  case atStart => exact ⟨0, by omega, rfl, H2.out.2.2, by rw [vrow_zero, HN.out]; exact H2.out.1, H2.out.2.1⟩
  case round =>
    obtain ⟨i, hi, rfl, hon, hG, hQ⟩ := hrel
    obtain ⟨wo, hwo⟩ : ∃ wo, wo = wr := ⟨_, rfl⟩
    subst hwo
    by_cases hlt : i < n
    · obtain ⟨ad, rfl, hb, P, m, k, hc0, hc1, hc2, hRA⟩ := (HR.out.on hon).at_ i hlt
      rw [raw_get] at hc0 hc1 hRA
      have hm : (f.nd i).args.length = m := by have := VI_len hRA; unfold Nn.raw at this; rwa [ints_length] at this
      have h5 := (HF.out.2.2.1 i (by rw [HN.out]; exact hlt)).1
      have hm16 : m ≤ 16 := by rw [← hm]; exact HF.out.len (by rw [HN.out]; exact hlt)
      have harg : ∀ a ∈ (f.nd i).args, a < f.vars + i := fun a ha => HF.out.arg (by rw [HN.out]; exact hlt) ha
      have hvl : (vrow f s i).length = n := by rw [vrow_len (by rw [HN.out]; omega)]; exact HN.out
      have hsucc := vrow_succ (f := f) (s := s) (i := i) (by rw [HN.out]; exact hlt)
      obtain ⟨x, hx⟩ : ∃ x, f.nd i = x := ⟨_, rfl⟩
      rw [hx] at hc0 hc1 hRA hm h5 harg hsucc
      obtain ⟨vs, hvs⟩ : ∃ vs, vrow f s i = vs := ⟨_, rfl⟩
      rw [hvs] at hG hvl hsucc
      rw [hm] at hsucc
      have hcapA := hRA.cap
      have hmaxA := hRA.max
      have c0 : wo.cell? (ad.add (i * 3)) = some (.int .i64 (x.kind : Int)) := hc0
      have c1 : wo.cell? ⟨(ad.add (i * 3)).block, (ad.add (i * 3)).off + 1, none⟩ = some (.int .i64 (x.k : Int)) := hc1
      have HRA := Lib.hid (show Rd wo P m k (VI (ints x.args)) from hRA)
      obtain ⟨p, hp⟩ : ∃ p, wo.heap.size = p := ⟨_, rfl⟩
      obtain ⟨w3, hw3⟩ : ∃ w3, wo.alloc (.cells #[.int .i64 (x.kind : Int), .int .i64 (x.k : Int), .slice P m k] 57) = w3 := ⟨_, rfl⟩
      have ON : Own w3 p 57 #[.int .i64 (x.kind : Int), .int .i64 (x.k : Int), .slice P m k] := by rw [← hw3, ← hp]; exact Own.new _ _ _
      have P3 : On wo w3 := by rw [← hw3]; exact (On.refl wo).alloc _
      have H3 := Lib.hid (And.intro ON (And.intro (hG.on P3) (And.intro (hQ.on P3) P3)))
      have HM := Lib.hid hm
      have HX := Lib.hid (And.intro harg (And.intro hsucc hvl))
      have hpg : g < p := by have := hG.lt; omega
      clear hc0 hc1 hRA hx hG hQ hm harg hsucc hvl ON P3
      have n2 := H3.out.1.cell 2
      simp at n2
      go_wp2
      clear c0 c1 hc2 n2 hw3
      go_loopw [26, 8] (fun j cn wx => ∃ t : Nat, t ≤ m ∧ j = .int .i64 (t : Int) ∧ cn = .int .i64 (cntA f.vars vs s x.args t : Nat) ∧ On wo wx ∧ Own wx p 57 #[.int .i64 (x.kind : Int), .int .i64 (x.k : Int), .slice P m k] ∧ Own wx g 4 (VB vs).toArray ∧ Own wx q 24 #[.int .i64 (f.vars : Int), .slice (some ad) n c, .int .i64 (f.top : Int)]) (fun j _ _ => m - (intOf j).toNat)
      case atStart => exact ⟨0, by omega, rfl, rfl, H3.out.2.2.2, H3.out.1, H3.out.2.1, H3.out.2.2.1⟩
      case round =>
        obtain ⟨t, ht, rfl, rfl, hon2, hN2, hG2, hQ2⟩ := hrel
        have r0 := hQ2.cell 0
        have r1 := hQ2.cell 1
        have r2 := hQ2.cell 2
        simp at r0 r1 r2
        by_cases hlt2 : t < m
        · obtain ⟨ad2, rfl, hb2, hc⟩ := VI_at (HRA.out.on hon2) hlt2
          have hl2 : t < x.args.length := by rw [HM.out]; exact hlt2
          have hcs := cntA_succ (vars := f.vars) (vs := vs) (s := s) hl2
          have ha := HX.out.1 (x.args.getD t 0) (by
            have : x.args.getD t 0 = x.args[t] := by simp [hl2]
            rw [this]; exact List.getElem_mem hl2)
          have eg : (ints x.args).getD t 0 = ((x.args.getD t 0 : Nat) : Int) := by
            unfold ints
            rw [List.getD_eq_getElem?_getD, List.getElem?_map, List.getD_eq_getElem?_getD, List.getElem?_eq_getElem hl2]; rfl
          rw [eg] at hc
          obtain ⟨a, hae⟩ : ∃ a, x.args.getD t 0 = a := ⟨_, rfl⟩
          rw [hae] at hc hcs ha
          have hV := of_any wr f.vars (f.top : Int) (some ad) n c (some ⟨g, 0, none⟩) n n vs s a (own_rdB hG2 HX.out.2.2 (by omega)) hs24 hv (by omega)
          have hcl := cntA_le (vars := f.vars) (vs := vs) (s := s) (args := x.args) (j := t)
          obtain ⟨cn, hcn⟩ : ∃ cn, cntA f.vars vs s x.args t = cn := ⟨_, rfl⟩
          rw [hcn] at hcs hcl ⊢
          have HC := Lib.hid (And.intro hcs (And.intro hN2 (And.intro hG2 hQ2)))
          clear hcs hN2 hG2 hQ2 hae eg hl2 hcn
          by_cases hbv : argV f.vars vs s a = true
          · rw [hbv] at hV
            go_wp2_with fail
            refine hV.mono ?_
            rintro e w4 ⟨rfl, P4⟩
            clear hV
            go_wp2
            go_roundw
            case rel => exact ⟨t + 1, by omega, by go_num, by rw [HC.out.1, if_pos hbv]; go_num, hon2.trans P4, HC.out.2.1.on P4, HC.out.2.2.1.on P4, HC.out.2.2.2.on P4⟩
            case measure => simp [intOf]; omega
          · rw [Bool.eq_false_iff.2 hbv] at hV
            go_wp2_with fail
            refine hV.mono ?_
            rintro e w4 ⟨rfl, P4⟩
            clear hV
            go_wp2
            go_roundw
            case rel => exact ⟨t + 1, by omega, by go_num, by rw [HC.out.1, if_neg hbv]; rfl, hon2.trans P4, HC.out.2.1.on P4, HC.out.2.2.1.on P4, HC.out.2.2.2.on P4⟩
            case measure => simp [intOf]; omega
        · obtain rfl : t = m := by omega
          have n0 := hN2.cell 0
          have n1 := hN2.cell 1
          have n2 := hN2.cell 2
          simp at n0 n1 n2
          have hcl := cntA_le (vars := f.vars) (vs := vs) (s := s) (args := x.args) (j := t)
          have hsu := HX.out.2.1
          obtain ⟨cn, hcn⟩ : ∃ cn, cntA f.vars vs s x.args t = cn := ⟨_, rfl⟩
          rw [hcn] at hcl hsu ⊢
          have HC := Lib.hid (And.intro hsu (And.intro hG2 hQ2))
          clear hsu hN2 hcn r0 r1 r2
          obtain ⟨cb, d0⟩ : ∃ cb, wr.cell? ⟨g, i, none⟩ = some cb := by
            rw [hG2.cell]
            have : i < (VB vs).length := by rw [VB_length, HX.out.2.2]; exact hlt
            exact ⟨(VB vs)[i], by simp [this]⟩
          have d1 := hG2.frozen i
          clear hG2 hQ2
          obtain ⟨kind, kk, args⟩ := x
          simp only at n0 n1 h5
          have h6 : kind = 0 ∨ kind = 1 ∨ kind = 2 ∨ kind = 3 ∨ kind = 4 ∨ kind = 5 := by omega
          clear h5
          rcases h6 with rfl | rfl | rfl | rfl | rfl | rfl
          · go_wp2
            go_roundw
            case rel =>
              refine ⟨i + 1, by omega, by go_num, On.setCell (hon.trans hon2) (by show w.heap.size ≤ g; omega) _, ?_, HC.out.2.2.far (by show q ≠ g; omega) _⟩
              refine own_setB' HC.out.2.1 i ?_ HC.out.1
              show (_ == _) = decide (kk = 1)
              rw [Bool.eq_iff_iff]; simp <;> omega
            case measure => simp [intOf]; omega
          · go_wp2
            go_roundw
            case rel =>
              refine ⟨i + 1, by omega, by go_num, On.setCell (hon.trans hon2) (by show w.heap.size ≤ g; omega) _, ?_, HC.out.2.2.far (by show q ≠ g; omega) _⟩
              refine own_setB' HC.out.2.1 i ?_ HC.out.1
              show (_ == _) = decide (cn = 0)
              rw [Bool.eq_iff_iff]; simp <;> omega
            case measure => simp [intOf]; omega
          · go_wp2
            go_roundw
            case rel =>
              refine ⟨i + 1, by omega, by go_num, On.setCell (hon.trans hon2) (by show w.heap.size ≤ g; omega) _, ?_, HC.out.2.2.far (by show q ≠ g; omega) _⟩
              refine own_setB' HC.out.2.1 i ?_ HC.out.1
              show (_ == _) = decide (cn = t)
              rw [Bool.eq_iff_iff]; simp <;> omega
            case measure => simp [intOf]; omega
          · go_wp2
            go_roundw
            case rel =>
              refine ⟨i + 1, by omega, by go_num, On.setCell (hon.trans hon2) (by show w.heap.size ≤ g; omega) _, ?_, HC.out.2.2.far (by show q ≠ g; omega) _⟩
              refine own_setB' HC.out.2.1 i ?_ HC.out.1
              show decide _ = decide (0 < cn)
              rw [Bool.eq_iff_iff]
            case measure => simp [intOf]; omega
          · go_wp2
            go_roundw
            case rel =>
              refine ⟨i + 1, by omega, by go_num, On.setCell (hon.trans hon2) (by show w.heap.size ≤ g; omega) _, ?_, HC.out.2.2.far (by show q ≠ g; omega) _⟩
              refine own_setB' HC.out.2.1 i ?_ HC.out.1
              show decide _ = decide (kk ≤ cn)
              rw [Bool.eq_iff_iff]
            case measure => simp [intOf]; omega
          · go_wp2
            go_roundw
            case rel =>
              refine ⟨i + 1, by omega, by go_num, On.setCell (hon.trans hon2) (by show w.heap.size ≤ g; omega) _, ?_, HC.out.2.2.far (by show q ≠ g; omega) _⟩
              refine own_setB' HC.out.2.1 i ?_ HC.out.1
              show (_ == _) = decide (cn % 2 = 1)
              rw [Bool.eq_iff_iff]; simp <;> omega
            case measure => simp [intOf]; omega
    · obtain rfl : i = n := by omega
      have hfull := vrow_full f s
      rw [HN.out] at hfull
      rw [hfull] at hG
      clear hQ
      go_wp2
      go_ret
      exact ⟨g, rfl, hG, by omega, hon⟩
end Go.Proofs.Ytpllgpjplliadaa.Fm
