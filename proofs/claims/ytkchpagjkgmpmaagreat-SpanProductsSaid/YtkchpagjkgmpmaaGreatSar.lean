/-
  Lists of fractions; around.
-/
import Derived.Test.YtkchpagjkgmpmaaGreatSpf
import Derived.Test.YtkchpagjkgmpmaaGreatRgh
namespace Go.Proofs.YtkchpagjkgmpmaaGreat
open Go.RowKit
set_option linter.unusedVariables false
namespace Num
/-- a block of fractions, each of their lists at most L words -/
def Rats (w : World) (g : Nat) (rs : List Rat) (L : Nat) : Prop := ∃ cur, Own w g 24 cur ∧ 3 < cur.size ∧ ∀ k (h : k < rs.length), ∃ (s : Bool) (A : Option Addr) (n c : Nat) (A' : Option Addr) (n' c' : Nat), cur[k * 3]? = some (.bool s) ∧ cur[k * 3 + 1]? = some (.slice A n c) ∧ cur[k * 3 + 2]? = some (.slice A' n' c') ∧ IsR w (.agg #[.bool s, .slice A n c, .slice A' n' c']) rs[k] L
theorem Rats.kept {w w' : World} {g : Nat} {rs : List Rat} {L : Nat} (h : Rats w g rs L) (k : Kept w w') : Rats w' g rs L := by
  obtain ⟨cur, ho, hs, hk⟩ := h
  refine ⟨cur, ?_, hs, fun i hi => ?_⟩
  · rcases k.2 g ho.lt with e | ⟨cur', t', e, hn⟩
    · exact e.trans ho
    · exfalso
      have e2 : some (Obj.cells cur 24 (0, 0)) = some (Obj.cells cur' t' (0, 0)) := ho.symm.trans e
      injection e2 with e2
      injection e2 with e3 e4
      subst e3
      have := hn.1 e4.symm
      omega
  · obtain ⟨s, A, n, c, A', n', c', h1, h2, h3, h4⟩ := hk i hi
    exact ⟨s, A, n, c, A', n', c', h1, h2, h3, h4.kept k⟩
theorem Rats.on {w w' : World} {g : Nat} {rs : List Rat} {L : Nat} (h : Rats w g rs L) (k : On w w') : Rats w' g rs L := h.kept (Kept.on k)
theorem Rats.at_ {w : World} {g : Nat} {rs : List Rat} {L : Nat} (h : Rats w g rs L) (k : Nat) (hk : k < rs.length) : ∃ (s : Bool) (A : Option Addr) (n c : Nat) (A' : Option Addr) (n' c' : Nat), w.cell? ⟨g, k * 3, none⟩ = some (.bool s) ∧ w.cell? ⟨g, k * 3 + 1, none⟩ = some (.slice A n c) ∧ w.cell? ⟨g, k * 3 + 2, none⟩ = some (.slice A' n' c') ∧ IsR w (.agg #[.bool s, .slice A n c, .slice A' n' c']) rs[k] L := by
  obtain ⟨cur, ho, hs, hkk⟩ := h
  obtain ⟨s, A, n, c, A', n', c', h1, h2, h3, h4⟩ := hkk k hk
  exact ⟨s, A, n, c, A', n', c', (ho.cell _).trans h1, (ho.cell _).trans h2, (ho.cell _).trans h3, h4⟩
def lowest (x : Rat) (rs : List Rat) : Rat := rs.foldl rmin x
def highest (x : Rat) (rs : List Rat) : Rat := rs.foldl rmax x
theorem lowest_take (x : Rat) (rs : List Rat) (k : Nat) (h : k < rs.length) : lowest x (rs.take (k + 1)) = rmin (lowest x (rs.take k)) rs[k] := by
  unfold lowest; rw [List.take_succ_eq_append_getElem h, List.foldl_append]; rfl
theorem highest_take (x : Rat) (rs : List Rat) (k : Nat) (h : k < rs.length) : highest x (rs.take (k + 1)) = rmax (highest x (rs.take k)) rs[k] := by
  unfold highest; rw [List.take_succ_eq_append_getElem h, List.foldl_append]; rfl
set_option maxRecDepth 100000 in
set_option maxHeartbeats 1600000 in
theorem saround_any (w : World) (v : Value) (x : Rat) (g c L M : Nat) (rs : List Rat) (h : Fld w v x L) (HR : Rats w g rs M) (hL2 : 2 ≤ L) (hL : L ≤ 1000) (hM : L + L + 1 ≤ M) (hMb : M ≤ 2000) (hc : rs.length ≤ c) (hcb : c ≤ 1000) :
    Calls Tryz.prog 97 #[v, .slice (some ⟨g, 0, none⟩) rs.length c] w (SpPost w (lowest x rs) (highest x rs) M) := by
  obtain ⟨b0, A0, n0, c0, D0, m0, e0, rfl⟩ := fld_form h
  have B : On w ((w.alloc (.cells #[.bool b0, .slice A0 n0 c0, .slice D0 m0 e0] 24)).alloc (.cells #[.bool false, .slice none 0 0, .slice none 0 0, .bool false, .slice none 0 0, .slice none 0 0] 26)) := On.alloc (On.alloc (On.refl w) _) _
  have OB2 : w.heap.size ≤ w.heap.size ∧ Own ((w.alloc (.cells #[.bool b0, .slice A0 n0 c0, .slice D0 m0 e0] 24)).alloc (.cells #[.bool false, .slice none 0 0, .slice none 0 0, .bool false, .slice none 0 0, .slice none 0 0] 26)) (w.heap.size) 24 #[.bool b0, .slice A0 n0 c0, .slice D0 m0 e0] := ⟨by omega, ((Own.at_ w (w.heap.size) (by simp) 24 #[.bool b0, .slice A0 n0 c0, .slice D0 m0 e0]).alloc (.cells #[.bool false, .slice none 0 0, .slice none 0 0, .bool false, .slice none 0 0, .slice none 0 0] 26))⟩
  have OB4 : w.heap.size ≤ w.heap.size + 1 ∧ Own ((w.alloc (.cells #[.bool b0, .slice A0 n0 c0, .slice D0 m0 e0] 24)).alloc (.cells #[.bool false, .slice none 0 0, .slice none 0 0, .bool false, .slice none 0 0, .slice none 0 0] 26)) (w.heap.size + 1) 26 #[.bool false, .slice none 0 0, .slice none 0 0, .bool false, .slice none 0 0, .slice none 0 0] := ⟨by omega, (Own.at_ (w.alloc (.cells #[.bool b0, .slice A0 n0 c0, .slice D0 m0 e0] 24)) (w.heap.size + 1) (by simp) 26 #[.bool false, .slice none 0 0, .slice none 0 0, .bool false, .slice none 0 0, .slice none 0 0])⟩
  obtain ⟨N, hN⟩ : ∃ N, rs.length = N := ⟨_, rfl⟩
  rw [hN] at hc ⊢
  have HN := Lib.hid hN
  clear hN
  go_enter Tryz.func97, Tryz.ntmps97
  go_wp2_with fail
  refine (spoint_any _ _ x L (h.on B) hL2 hL).mono ?_
  rintro e w1 ⟨v5, rfl, I, P1⟩
  replace I := I.wide hM
  obtain ⟨sl, P, Pn, Pc, R, Rn, Rc, sh, U, Un, Uc, V, Vn, Vc, rfl, IL0, IH0⟩ := id I
  replace OB2 := And.intro OB2.1 (OB2.2.on P1)
  replace OB4 := And.intro OB4.1 (OB4.2.on P1)
  replace B := B.trans P1
  have PA := (On.refl w1).alloc (.cells #[.bool sl, .slice P Pn Pc, .slice R Rn Rc, .bool sh, .slice U Un Uc, .slice V Vn Vc] 26)
  have O5 := Own.new w1 26 #[.bool sl, .slice P Pn Pc, .slice R Rn Rc, .bool sh, .slice U Un Uc, .slice V Vn Vc]
  have hg5 : w.heap.size + 1 < w1.heap.size := OB4.2.lt
  obtain ⟨g5, hg⟩ : ∃ g5, w1.heap.size = g5 := ⟨_, rfl⟩
  replace OB2 := And.intro OB2.1 (OB2.2.on PA)
  replace OB4 := And.intro OB4.1 (OB4.2.on PA)
  replace B := B.trans PA
  rw [hg] at O5
  have JL := IL0.on PA
  have JH := IH0.on PA
  clear I
  have hB5 : w.heap.size ≤ g5 := by omega
  have hne4 : g5 ≠ w.heap.size + 1 := by omega
  go_wp2
  go_loopw [12] (fun i wr => ∃ (k : Nat) (sl : Bool) (P : Option Addr) (Pn Pc : Nat) (R : Option Addr) (Rn Rc : Nat) (sh : Bool) (U : Option Addr) (Un Uc : Nat) (V : Option Addr) (Vn Vc : Nat), k ≤ N ∧ i = .int .i64 (k : Int) ∧ Own wr g5 26 #[.bool sl, .slice P Pn Pc, .slice R Rn Rc, .bool sh, .slice U Un Uc, .slice V Vn Vc] ∧ Own wr (w.heap.size + 1) 26 #[.bool false, .slice none 0 0, .slice none 0 0, .bool false, .slice none 0 0, .slice none 0 0] ∧ Rats wr g rs M ∧ IsR wr (.agg #[.bool sl, .slice P Pn Pc, .slice R Rn Rc]) (lowest x (rs.take k)) M ∧ IsR wr (.agg #[.bool sh, .slice U Un Uc, .slice V Vn Vc]) (highest x (rs.take k)) M ∧ On w wr) (fun i _ => N - (intOf i).toNat)
  case atStart =>
    exact ⟨0, _, _, _, _, _, _, _, _, _, _, _, _, _, _, by omega, rfl, O5, OB4.2, HR.on B, JL, JH, B⟩
  case round =>
    clear O5 PA OB2 OB4 P1 B IL0 IH0 JL JH hg hg5
    obtain ⟨k, sl, P, Pn, Pc, R, Rn, Rc, sh, U, Un, Uc, V, Vn, Vc, hk, rfl, O5, O4, RR, IL, IH, hon⟩ := hrel
    by_cases hlt : k < N
    · have hlt2 : k < rs.length := by rw [HN.out]; exact hlt
      obtain ⟨s, A, n, c1, A', n', c2, d0, d1, d2, IX⟩ := RR.at_ k hlt2
      have HLT := Lib.hid (lowest_take x rs k hlt2)
      have HHT := Lib.hid (highest_take x rs k hlt2)
      obtain ⟨y, hy⟩ : ∃ y, rs[k] = y := ⟨_, rfl⟩
      rw [hy] at IX HLT HHT
      clear hy
      have PA := (On.refl wr).alloc (.cells #[.bool s, .slice A n c1, .slice A' n' c2] 24)
      have O7 := Own.new wr 24 #[.bool s, .slice A n c1, .slice A' n' c2]
      have hlt5 : g5 < wr.heap.size := O5.lt
      have O5a := O5.on PA
      have ILa := IL.on PA
      have IHa := IH.on PA
      have IXa := IX.on PA
      have O4a := O4.on PA
      have RRa := RR.on PA
      have hona := hon.trans PA
      go_wp2
      clear O5 IL IH IX O4 RR hon
      refine wp_region_headf (by kernel_rfl) 9 [Fact.eq (.pointer (some ⟨g5, 0, none⟩)), Fact.eq (.agg #[.bool sl, .slice P Pn Pc, .slice R Rn Rc]), Fact.eq (.agg #[.bool s, .slice A n c1, .slice A' n' c2]), Fact.rat (rmin (lowest x (rs.take k)) y) (M), Fact.eq (.pointer (some ⟨g5, 3, none⟩)), Fact.eq (.agg #[.bool sh, .slice U Un Uc, .slice V Vn Vc]), Fact.eq (.agg #[.bool s, .slice A n c1, .slice A' n' c2]), Fact.rat (rmax (highest x (rs.take k)) y) (M), Fact.eq (.pointer (some ⟨g5, 0, none⟩)), Fact.any, Fact.any, Fact.any] [none, none, none, none, none, none, none, none, none, none, none, none, none, none, none, none, some 16, some 17, some 18, some 19, some 20, some 21, some 22, some 23, some 24, some 25, none, none] (by kernel_rfl) (by kernel_rfl) (by kernel_rfl) (by kernel_rfl) rfl ?_ ?_
      · refine ⟨?_, ?_, ?_, ?_, ?_, ?_, ?_, ?_, ?_, trivial⟩
        · exact fun a w hp => ob_yes rfl (ob_fieldS0 (hp.same 5 (by kernel_rfl)) rfl)
        · exact fun a w hp => ob_yes rfl (ob_loadLo (hp.fact 0 16 (by kernel_rfl) rfl) (O5a.on hp.on) rfl)
        · exact fun a w hp => ob_yes rfl (ob_loadR (hp.same 7 (by kernel_rfl)) (O7.on hp.on) rfl)
        · refine fun a w hp => ob_yes rfl ?_
          have h17 : a.tmps.getD 17 undef = .agg #[.bool sl, .slice P Pn Pc, .slice R Rn Rc] := (hp.fact 1 17 (by kernel_rfl) rfl)
          have h18 : a.tmps.getD 18 undef = .agg #[.bool s, .slice A n c1, .slice A' n' c2] := (hp.fact 2 18 (by kernel_rfl) rfl)
          unfold Does
          go_simp
          refine (minr_any _ _ _ (lowest x (rs.take k)) y M (IsR.fld (ILa.on hp.on)) (IsR.fld (IXa.on hp.on)) (by omega)).mono ?_
          rintro e w' ⟨u, rfl, I8, P8⟩
          exact ⟨_, rfl, P8, I8⟩
        · exact fun a w hp => ob_yes rfl (ob_fieldS1 (hp.same 5 (by kernel_rfl)) rfl)
        · exact fun a w hp => ob_yes rfl (ob_loadHi (hp.fact 4 20 (by kernel_rfl) rfl) (O5a.on hp.on) rfl)
        · exact fun a w hp => ob_yes rfl (ob_loadR (hp.same 7 (by kernel_rfl)) (O7.on hp.on) rfl)
        · refine fun a w hp => ob_yes rfl ?_
          have h21 : a.tmps.getD 21 undef = .agg #[.bool sh, .slice U Un Uc, .slice V Vn Vc] := (hp.fact 5 21 (by kernel_rfl) rfl)
          have h22 : a.tmps.getD 22 undef = .agg #[.bool s, .slice A n c1, .slice A' n' c2] := (hp.fact 6 22 (by kernel_rfl) rfl)
          unfold Does
          go_simp
          refine (maxr_any _ _ _ (highest x (rs.take k)) y M (IsR.fld (IHa.on hp.on)) (IsR.fld (IXa.on hp.on)) (by omega)).mono ?_
          rintro e w' ⟨u, rfl, I8, P8⟩
          exact ⟨_, rfl, P8, I8⟩
        · exact fun a w hp => ob_yes rfl (ob_fieldS0 (hp.same 5 (by kernel_rfl)) rfl)
      · intro f w9 hon9 hf
        have h19 : IsR w9 (f 19) (rmin (lowest x (rs.take k)) y) M := hf 3 19 (by decide) rfl
        have h23 : IsR w9 (f 23) (rmax (highest x (rs.take k)) y) M := hf 7 23 (by decide) rfl
        have e24 : f 24 = .pointer (some ⟨g5, 0, none⟩) := hf 8 24 (by decide) rfl
        obtain ⟨mb, M1, Mn, Mc, M2, Mm, Mo, e19⟩ := isR_form h19
        obtain ⟨xb, X1, Xn, Xc, X2, Xm, Xo, e23⟩ := isR_form h23
        rw [e19] at h19
        rw [e23] at h23
        clear hf
        simp only [fillL, e19, e23, e24]
        clear e19 e23 e24
        have O5n := O5a.on hon9
        have q0 : w9.cell? ⟨g5, 0, none⟩ = some (.bool sl) := O5n.cell 0
        have q1 : w9.cell? ⟨g5, 1, none⟩ = some (.slice P Pn Pc) := O5n.cell 1
        have q2 : w9.cell? ⟨g5, 2, none⟩ = some (.slice R Rn Rc) := O5n.cell 2
        have q3 : w9.cell? ⟨g5, 3, none⟩ = some (.bool sh) := O5n.cell 3
        have q4 : w9.cell? ⟨g5, 4, none⟩ = some (.slice U Un Uc) := O5n.cell 4
        have q5 : w9.cell? ⟨g5, 5, none⟩ = some (.slice V Vn Vc) := O5n.cell 5
        have qf0 := O5n.frozen 0
        have qf1 := O5n.frozen 1
        have qf2 := O5n.frozen 2
        have qf3 := O5n.frozen 3
        have qf4 := O5n.frozen 4
        have qf5 := O5n.frozen 5
        have oo := only6 (w := w9) (g := g5) (.bool mb) (.slice M1 Mn Mc) (.slice M2 Mm Mo) (.bool xb) (.slice X1 Xn Xc) (.slice X2 Xm Xo)
        have hk5 := Kept.only oo O5n (noWords_S _ _ _ _ _ _ _ _ _ _ _ _ _ _)
        have O6 := (((((O5n.set_ 0 (.bool mb)).set_ 1 (.slice M1 Mn Mc)).set_ 2 (.slice M2 Mm Mo)).set_ 3 (.bool xb)).set_ 4 (.slice X1 Xn Xc)).set_ 5 (.slice X2 Xm Xo)
        have O4n := (O4a.on hon9).only oo (Ne.symm hne4)
        have RRn := (RRa.on hon9).kept hk5
        have JL := h19.kept hk5
        have JH := h23.kept hk5
        rw [← HLT.out] at JL
        rw [← HHT.out] at JH
        have honn := on6 (g := g5) (hona.trans hon9) hB5 (.bool mb) (.slice M1 Mn Mc) (.slice M2 Mm Mo) (.bool xb) (.slice X1 Xn Xc) (.slice X2 Xm Xo)
        clear oo hk5 O5n O5a O4a RRa hona h19 h23 ILa IHa IXa O7
        show wpList _ _ _ [_, _, _] _ _
        go_wp2
        exact ⟨⟨k + 1, mb, M1, Mn, Mc, M2, Mm, Mo, xb, X1, Xn, Xc, X2, Xm, Xo, by omega, by go_num, O6, O4n, RRn, JL, JH, honn⟩, by simp [intOf]; omega⟩
    · obtain rfl : k = N := by omega
      have hall : rs.take k = rs := List.take_of_length_le (by rw [HN.out]; exact Nat.le_refl _)
      rw [hall] at IL IH
      have y0 : wr.cell? ⟨g5, 0, none⟩ = some (.bool sl) := O5.cell 0
      have y1 : wr.cell? ⟨g5, 1, none⟩ = some (.slice P Pn Pc) := O5.cell 1
      have y2 : wr.cell? ⟨g5, 2, none⟩ = some (.slice R Rn Rc) := O5.cell 2
      have y3 : wr.cell? ⟨g5, 3, none⟩ = some (.bool sh) := O5.cell 3
      have y4 : wr.cell? ⟨g5, 4, none⟩ = some (.slice U Un Uc) := O5.cell 4
      have y5 : wr.cell? ⟨g5, 5, none⟩ = some (.slice V Vn Vc) := O5.cell 5
      have yf0 := O5.frozen 0
      have yf1 := O5.frozen 1
      have yf2 := O5.frozen 2
      have yf3 := O5.frozen 3
      have yf4 := O5.frozen 4
      have yf5 := O5.frozen 5
      have c4_0 : wr.cell? ⟨(w.heap.size + 1), 0, none⟩ = some (.bool false) := O4.cell 0
      have c4_1 : wr.cell? ⟨(w.heap.size + 1), 1, none⟩ = some (.slice none 0 0) := O4.cell 1
      have c4_2 : wr.cell? ⟨(w.heap.size + 1), 2, none⟩ = some (.slice none 0 0) := O4.cell 2
      have c4_3 : wr.cell? ⟨(w.heap.size + 1), 3, none⟩ = some (.bool false) := O4.cell 3
      have c4_4 : wr.cell? ⟨(w.heap.size + 1), 4, none⟩ = some (.slice none 0 0) := O4.cell 4
      have c4_5 : wr.cell? ⟨(w.heap.size + 1), 5, none⟩ = some (.slice none 0 0) := O4.cell 5
      have c4_f0 := O4.frozen 0
      have c4_f1 := O4.frozen 1
      have c4_f2 := O4.frozen 2
      have c4_f3 := O4.frozen 3
      have c4_f4 := O4.frozen 4
      have c4_f5 := O4.frozen 5
      have IS : IsS wr (.agg #[.bool sl, .slice P Pn Pc, .slice R Rn Rc, .bool sh, .slice U Un Uc, .slice V Vn Vc]) (lowest x rs) (highest x rs) M := ⟨_, _, _, _, _, _, _, _, _, _, _, _, _, _, rfl, IL, IH⟩
      have IS2 := IS.kept (Kept.only (only6 (w := wr) (g := w.heap.size + 1) (.bool sl) (.slice P Pn Pc) (.slice R Rn Rc) (.bool sh) (.slice U Un Uc) (.slice V Vn Vc)) O4 (noWords_S _ _ _ _ _ _ _ _ _ _ _ _ _ _))
      have hon6 := on6 (g := w.heap.size + 1) hon (by omega) (.bool sl) (.slice P Pn Pc) (.slice R Rn Rc) (.bool sh) (.slice U Un Uc) (.slice V Vn Vc)
      clear hall
      go_wp2
      exact bodyPost_ret (v := .agg #[.bool sl, .slice P Pn Pc, .slice R Rn Rc, .bool sh, .slice U Un Uc, .slice V Vn Vc]) (by simp [results, Tryz.results97, go_sem, c4_0, c4_1, c4_2, c4_3, c4_4, c4_5]) rfl ⟨_, rfl, IS2, hon6⟩
end Num
end Go.Proofs.YtkchpagjkgmpmaaGreat
