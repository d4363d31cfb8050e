/-
  The specification's functions that keep the size of a fraction; Around.
-/
import Derived.Test.YtkchpagjkgmpmaaGreatSsm
import Derived.Test.YtkchpagjkgmpmaaGreatZdiv
namespace Go.Proofs.YtkchpagjkgmpmaaGreat
open Go.RowKit
set_option linter.unusedVariables false
namespace Num
theorem fld_num_lt {w : World} {v : Value} {r : Rat} {L : Nat} (h : Fld w v r L) (hL : 1 ≤ L) : r.num.natAbs < BB ^ L ∧ r.den < BB ^ L := by
  obtain ⟨s, A, n, c, A', n', c', xs, ys, _, R, R', h1, h2, h3⟩ := h
  by_cases hf : fitB s xs ys = true ∧ 0 < xs.length
  · obtain ⟨C, C', p1, p2, g⟩ := fit_parts hf.1 hf.2
    rw [raw_fit hf.1 hf.2] at h3
    rw [← h3, fr_abs _ _ _ p2, fr_den _ _ _ p2, g, Nat.div_one, Nat.div_one]
    exact ⟨Nat.lt_of_lt_of_le (val_lt R.ok) (Nat.pow_le_pow_right (by decide) (by rw [R.len]; exact h1)), Nat.lt_of_lt_of_le (val_lt R'.ok) (Nat.pow_le_pow_right (by decide) (by rw [R'.len]; exact h2))⟩
  · have h0 : r = 0 := by
      rw [← h3]; unfold raw
      rw [if_neg (fun e => hf ⟨decide_eq_true e.1, e.2⟩)]
    subst h0
    have h1 : 1 < BB ^ L := Nat.one_lt_pow (by omega) (by decide)
    exact ⟨Nat.lt_trans Nat.zero_lt_one h1, h1⟩
theorem dn_le (r : Rat) : dn r ≤ r.den := by unfold dn; split <;> omega
/-- a number that a struct of L words has needs no more -/
theorem IsR.size_ {w w2 : World} {v v2 : Value} {r : Rat} {L M : Nat} (h : IsR w v r M) (k : Fld w2 v2 r L) (hL : 1 ≤ L) : IsR w v r L :=
  h.tight (fld_num_lt k hL).1 (Nat.lt_of_le_of_lt (dn_le r) (fld_num_lt k hL).2)
theorem rmin_or (r q : Rat) : rmin r q = r ∨ rmin r q = q := by unfold rmin; split <;> simp
theorem rmax_or (r q : Rat) : rmax r q = r ∨ rmax r q = q := by unfold rmax; split <;> simp
theorem smin_keep (w : World) (v v' : Value) (r q : Rat) (L : Nat) (h : Fld w v r L) (k : Fld w v' q L) (hL2 : 2 ≤ L) (hL : L ≤ 1000) :
    Calls Tryz.prog 64 #[v, v'] w (RatPost w (rmin r q) L) := by
  refine (smin_any w v v' r q L h k hL2 hL).mono ?_
  rintro e w' ⟨u, rfl, I, P⟩
  refine ⟨u, rfl, ?_, P⟩
  rcases rmin_or r q with e | e
  · rw [e] at I ⊢; exact I.size_ h (by omega)
  · rw [e] at I ⊢; exact I.size_ k (by omega)
theorem smax_keep (w : World) (v v' : Value) (r q : Rat) (L : Nat) (h : Fld w v r L) (k : Fld w v' q L) (hL2 : 2 ≤ L) (hL : L ≤ 1000) :
    Calls Tryz.prog 63 #[v, v'] w (RatPost w (rmax r q) L) := by
  refine (smax_any w v v' r q L h k hL2 hL).mono ?_
  rintro e w' ⟨u, rfl, I, P⟩
  refine ⟨u, rfl, ?_, P⟩
  rcases rmax_or r q with e | e
  · rw [e] at I ⊢; exact I.size_ h (by omega)
  · rw [e] at I ⊢; exact I.size_ k (by omega)
theorem smove_keep (w : World) (v v' : Value) (r : Rat) (L : Nat) (h : Fld w v r L) (k : Fld w v' 0 L) (hL2 : 2 ≤ L) (hL : L ≤ 1000) :
    Calls Tryz.prog 51 #[v, v'] w (RatPost w r L) := by
  refine (sadd_any w v v' r 0 L h k hL2 hL).mono ?_
  rintro e w' ⟨u, rfl, I, P⟩
  rw [show r + 0 = r from by grind] at I
  exact ⟨u, rfl, I.size_ h (by omega), P⟩
theorem lowest_self (x : Rat) (rs : List Rat) : lowest x (x :: rs) = lowest x rs := by
  show rs.foldl rmin (rmin x x) = rs.foldl rmin x
  rw [show rmin x x = x from by unfold rmin; split <;> rfl]
theorem highest_self (x : Rat) (rs : List Rat) : highest x (x :: rs) = highest x rs := by
  show rs.foldl rmax (rmax x x) = rs.foldl rmax x
  rw [show rmax x x = x from by unfold rmax; split <;> rfl]
theorem hap_ne {ops : Array Oper} {a0 : Act} {f : Nat → Value} {s t g h : Nat} (H : (if freeB ops s = true then a0.tmps.getD s undef else f s) ≠ (if freeB ops t = true then a0.tmps.getD t undef else f t)) (hs : freeB ops s = false) (ht : freeB ops t = true) (e1 : f s = .pointer (some ⟨g, 0, none⟩)) (e2 : a0.tmps.getD t undef = .pointer (some ⟨h, 0, none⟩)) : g ≠ h := by
  intro e
  subst e
  apply H
  rw [hs, ht, e1, e2]
  rfl
/-- a block of any structs of fractions, each of their lists at most L words -/
def FRats (w : World) (g : Nat) (rs : List Rat) (L : Nat) : Prop := ∃ cur, Own w g 24 cur ∧ 3 < cur.size ∧ ∀ k (h : k < rs.length), ∃ (s : Bool) (A : Option Addr) (n c : Nat) (A' : Option Addr) (n' c' : Nat), cur[k * 3]? = some (.bool s) ∧ cur[k * 3 + 1]? = some (.slice A n c) ∧ cur[k * 3 + 2]? = some (.slice A' n' c') ∧ Fld w (.agg #[.bool s, .slice A n c, .slice A' n' c']) rs[k] L
theorem FRats.kept {w w' : World} {g : Nat} {rs : List Rat} {L : Nat} (h : FRats w g rs L) (k : Kept w w') : FRats w' g rs L := by
  obtain ⟨cur, ho, hs, hk⟩ := h
  refine ⟨cur, ?_, hs, fun i hi => ?_⟩
  · rcases k.2 g ho.lt with e | ⟨cur', t', e, hn⟩
    · exact e.trans ho
    · exfalso
      have e2 : some (Obj.cells cur 24 (0, 0)) = some (Obj.cells cur' t' (0, 0)) := ho.symm.trans e
      injection e2 with e2
      injection e2 with e3 e4
      subst e3
      have := hn.1 e4.symm
      omega
  · obtain ⟨s, A, n, c, A', n', c', h1, h2, h3, h4⟩ := hk i hi
    exact ⟨s, A, n, c, A', n', c', h1, h2, h3, h4.kept k⟩
theorem FRats.on {w w' : World} {g : Nat} {rs : List Rat} {L : Nat} (h : FRats w g rs L) (k : On w w') : FRats w' g rs L := h.kept (Kept.on k)
theorem FRats.at_ {w : World} {g : Nat} {rs : List Rat} {L : Nat} (h : FRats w g rs L) (k : Nat) (hk : k < rs.length) : ∃ (s : Bool) (A : Option Addr) (n c : Nat) (A' : Option Addr) (n' c' : Nat), w.cell? ⟨g, k * 3, none⟩ = some (.bool s) ∧ w.cell? ⟨g, k * 3 + 1, none⟩ = some (.slice A n c) ∧ w.cell? ⟨g, k * 3 + 2, none⟩ = some (.slice A' n' c') ∧ Fld w (.agg #[.bool s, .slice A n c, .slice A' n' c']) rs[k] L := by
  obtain ⟨cur, ho, hs, hkk⟩ := h
  obtain ⟨s, A, n, c, A', n', c', h1, h2, h3, h4⟩ := hkk k hk
  exact ⟨s, A, n, c, A', n', c', (ho.cell _).trans h1, (ho.cell _).trans h2, (ho.cell _).trans h3, h4⟩
theorem frats_two {w : World} {s1 : Bool} {A1 : Option Addr} {n1 c1 : Nat} {D1 : Option Addr} {m1 e1 : Nat} {s2 : Bool} {A2 : Option Addr} {n2 c2 : Nat} {D2 : Option Addr} {m2 e2 : Nat} {r1 r2 : Rat} {M : Nat} (I1 : Fld w (.agg #[.bool s1, .slice A1 n1 c1, .slice D1 m1 e1]) r1 M) (I2 : Fld w (.agg #[.bool s2, .slice A2 n2 c2, .slice D2 m2 e2]) r2 M) : FRats (w.alloc (.cells #[.bool s1, .slice A1 n1 c1, .slice D1 m1 e1, .bool s2, .slice A2 n2 c2, .slice D2 m2 e2] 24)) w.heap.size [r1, r2] M := by
  refine ⟨_, Own.new w _ _, by simp, fun k h => ?_⟩
  match k, h with
  | 0, _ => exact ⟨_, _, _, _, _, _, _, rfl, rfl, rfl, I1.on ((On.refl w).alloc _)⟩
  | 1, _ => exact ⟨_, _, _, _, _, _, _, rfl, rfl, rfl, I2.on ((On.refl w).alloc _)⟩
theorem frats_four {w : World} {s1 : Bool} {A1 : Option Addr} {n1 c1 : Nat} {D1 : Option Addr} {m1 e1 : Nat} {s2 : Bool} {A2 : Option Addr} {n2 c2 : Nat} {D2 : Option Addr} {m2 e2 : Nat} {s3 : Bool} {A3 : Option Addr} {n3 c3 : Nat} {D3 : Option Addr} {m3 e3 : Nat} {s4 : Bool} {A4 : Option Addr} {n4 c4 : Nat} {D4 : Option Addr} {m4 e4 : Nat} {r1 r2 r3 r4 : Rat} {M : Nat} (I1 : Fld w (.agg #[.bool s1, .slice A1 n1 c1, .slice D1 m1 e1]) r1 M) (I2 : Fld w (.agg #[.bool s2, .slice A2 n2 c2, .slice D2 m2 e2]) r2 M) (I3 : Fld w (.agg #[.bool s3, .slice A3 n3 c3, .slice D3 m3 e3]) r3 M) (I4 : Fld w (.agg #[.bool s4, .slice A4 n4 c4, .slice D4 m4 e4]) r4 M) : FRats (w.alloc (.cells #[.bool s1, .slice A1 n1 c1, .slice D1 m1 e1, .bool s2, .slice A2 n2 c2, .slice D2 m2 e2, .bool s3, .slice A3 n3 c3, .slice D3 m3 e3, .bool s4, .slice A4 n4 c4, .slice D4 m4 e4] 24)) w.heap.size [r1, r2, r3, r4] M := by
  refine ⟨_, Own.new w _ _, by simp, fun k h => ?_⟩
  match k, h with
  | 0, _ => exact ⟨_, _, _, _, _, _, _, rfl, rfl, rfl, I1.on ((On.refl w).alloc _)⟩
  | 1, _ => exact ⟨_, _, _, _, _, _, _, rfl, rfl, rfl, I2.on ((On.refl w).alloc _)⟩
  | 2, _ => exact ⟨_, _, _, _, _, _, _, rfl, rfl, rfl, I3.on ((On.refl w).alloc _)⟩
  | 3, _ => exact ⟨_, _, _, _, _, _, _, rfl, rfl, rfl, I4.on ((On.refl w).alloc _)⟩
set_option maxRecDepth 100000 in
set_option maxHeartbeats 1600000 in
theorem rpoint3_any (w : World) (v : Value) (r : Rat) (L : Nat) (h : Fld w v r L) (hL2 : 2 ≤ L) (hL : L ≤ 1000) :
    Calls Tryz.prog 16 #[v] w (SpPost w r r L) := by
  obtain ⟨b0, A0, n0, c0, D0, m0, e0, rfl⟩ := fld_form h
  have B : On w ((w.alloc (.cells #[.bool b0, .slice A0 n0 c0, .slice D0 m0 e0] 24)).alloc (.cells #[.bool false, .slice none 0 0, .slice none 0 0, .bool false, .slice none 0 0, .slice none 0 0] 26)) := On.alloc (On.alloc (On.refl w) _) _
  have OB1 : w.heap.size ≤ w.heap.size ∧ Own ((w.alloc (.cells #[.bool b0, .slice A0 n0 c0, .slice D0 m0 e0] 24)).alloc (.cells #[.bool false, .slice none 0 0, .slice none 0 0, .bool false, .slice none 0 0, .slice none 0 0] 26)) (w.heap.size) 24 #[.bool b0, .slice A0 n0 c0, .slice D0 m0 e0] := ⟨by omega, ((Own.at_ w (w.heap.size) (by simp) 24 #[.bool b0, .slice A0 n0 c0, .slice D0 m0 e0]).alloc (.cells #[.bool false, .slice none 0 0, .slice none 0 0, .bool false, .slice none 0 0, .slice none 0 0] 26))⟩
  have OB2 : w.heap.size ≤ w.heap.size + 1 ∧ Own ((w.alloc (.cells #[.bool b0, .slice A0 n0 c0, .slice D0 m0 e0] 24)).alloc (.cells #[.bool false, .slice none 0 0, .slice none 0 0, .bool false, .slice none 0 0, .slice none 0 0] 26)) (w.heap.size + 1) 26 #[.bool false, .slice none 0 0, .slice none 0 0, .bool false, .slice none 0 0, .slice none 0 0] := ⟨by omega, (Own.at_ (w.alloc (.cells #[.bool b0, .slice A0 n0 c0, .slice D0 m0 e0] 24)) (w.heap.size + 1) (by simp) 26 #[.bool false, .slice none 0 0, .slice none 0 0, .bool false, .slice none 0 0, .slice none 0 0])⟩
  go_enter Tryz.func16, Tryz.ntmps16
  go_wp2_with fail
  refine (smove_keep _ _ _ r L (h.on B) (IsR.fld (isR_zero _ _)) hL2 hL).mono ?_
  rintro e w1 ⟨u, rfl, I, P1_⟩
  obtain ⟨s1, P1, Pn1, Pc1, R1, Rn1, Rc1, rfl⟩ := isR_form I
  replace OB1 := And.intro OB1.1 (OB1.2.on P1_)
  replace OB2 := And.intro OB2.1 (OB2.2.on P1_)
  replace B := B.trans P1_
  have y1_0 : w1.cell? ⟨w.heap.size, 0, none⟩ = some (.bool b0) := OB1.2.cell 0
  have y1_1 : w1.cell? ⟨w.heap.size, 1, none⟩ = some (.slice A0 n0 c0) := OB1.2.cell 1
  have y1_2 : w1.cell? ⟨w.heap.size, 2, none⟩ = some (.slice D0 m0 e0) := OB1.2.cell 2
  have y1_f0 := OB1.2.frozen 0
  have y1_f1 := OB1.2.frozen 1
  have y1_f2 := OB1.2.frozen 2
  have oo := only3 (w := w1) (g := w.heap.size) (.bool s1) (.slice P1 Pn1 Pc1) (.slice R1 Rn1 Rc1)
  have hk1 := Kept.only oo OB1.2 (noWords_R _ _ _ _ _ _ _)
  replace I := I.kept hk1
  have hon1 := on3 (g := w.heap.size) B (by omega) (.bool s1) (.slice P1 Pn1 Pc1) (.slice R1 Rn1 Rc1)
  have ON1 := ((OB1.2.set_ 0 (.bool s1)).set_ 1 (.slice P1 Pn1 Pc1)).set_ 2 (.slice R1 Rn1 Rc1)
  have ON2 := OB2.2.only oo (by omega)
  obtain ⟨W, hW⟩ : ∃ W, (((w1.setCell ⟨w.heap.size, 0, none⟩ (.bool s1)).setCell ⟨w.heap.size, 1, none⟩ (.slice P1 Pn1 Pc1)).setCell ⟨w.heap.size, 2, none⟩ (.slice R1 Rn1 Rc1)) = W := ⟨_, rfl⟩
  rw [hW] at hon1 I ON1 ON2
  have IS : IsS W (.agg #[.bool s1, .slice P1 Pn1 Pc1, .slice R1 Rn1 Rc1, .bool s1, .slice P1 Pn1 Pc1, .slice R1 Rn1 Rc1]) r r L := ⟨_, _, _, _, _, _, _, _, _, _, _, _, _, _, rfl, I, I⟩
  have IS2 := IS.kept (Kept.only (only6 (w := W) (g := w.heap.size + 1) (.bool s1) (.slice P1 Pn1 Pc1) (.slice R1 Rn1 Rc1) (.bool s1) (.slice P1 Pn1 Pc1) (.slice R1 Rn1 Rc1)) ON2 (noWords_S _ _ _ _ _ _ _ _ _ _ _ _ _ _))
  have hon := on6 (g := w.heap.size + 1) hon1 (by omega) (.bool s1) (.slice P1 Pn1 Pc1) (.slice R1 Rn1 Rc1) (.bool s1) (.slice P1 Pn1 Pc1) (.slice R1 Rn1 Rc1)
  have q0 : W.cell? ⟨w.heap.size, 0, none⟩ = some (.bool s1) := ON1.cell 0
  have q1 : W.cell? ⟨w.heap.size, 1, none⟩ = some (.slice P1 Pn1 Pc1) := ON1.cell 1
  have q2 : W.cell? ⟨w.heap.size, 2, none⟩ = some (.slice R1 Rn1 Rc1) := ON1.cell 2
  have c2_0 : W.cell? ⟨w.heap.size + 1, 0, none⟩ = some (.bool false) := ON2.cell 0
  have c2_1 : W.cell? ⟨w.heap.size + 1, 1, none⟩ = some (.slice none 0 0) := ON2.cell 1
  have c2_2 : W.cell? ⟨w.heap.size + 1, 2, none⟩ = some (.slice none 0 0) := ON2.cell 2
  have c2_3 : W.cell? ⟨w.heap.size + 1, 3, none⟩ = some (.bool false) := ON2.cell 3
  have c2_4 : W.cell? ⟨w.heap.size + 1, 4, none⟩ = some (.slice none 0 0) := ON2.cell 4
  have c2_5 : W.cell? ⟨w.heap.size + 1, 5, none⟩ = some (.slice none 0 0) := ON2.cell 5
  have c2_f0 := ON2.frozen 0
  have c2_f1 := ON2.frozen 1
  have c2_f2 := ON2.frozen 2
  have c2_f3 := ON2.frozen 3
  have c2_f4 := ON2.frozen 4
  have c2_f5 := ON2.frozen 5
  go_wp2
  exact bodyPost_ret (v := .agg #[.bool s1, .slice P1 Pn1 Pc1, .slice R1 Rn1 Rc1, .bool s1, .slice P1 Pn1 Pc1, .slice R1 Rn1 Rc1]) (by simp [results, Tryz.results16, go_sem, c2_0, c2_1, c2_2, c2_3, c2_4, c2_5]) rfl ⟨_, rfl, IS2, hon⟩
set_option maxRecDepth 100000 in
set_option maxHeartbeats 1600000 in
theorem raround3_any (w : World) (x : Rat) (rs : List Rat) (g c L : Nat) (HR : FRats w g (x :: rs) L) (hL2 : 2 ≤ L) (hL : L ≤ 1000) (hc : rs.length + 1 ≤ c) (hcb : c ≤ 9223372036854775807) :
    Calls Tryz.prog 48 #[.slice (some ⟨g, 0, none⟩) (rs.length + 1) c] w (SpPost w (lowest x rs) (highest x rs) L) := by
  rw [← lowest_self, ← highest_self]
  obtain ⟨N, hN⟩ : ∃ N, rs.length + 1 = N := ⟨_, rfl⟩
  rw [hN] at hc ⊢
  have HN : Hid ((x :: rs).length = N) := Lib.hid hN
  have hN1 : 1 ≤ N := by omega
  clear hN
  have B : On w (w.alloc (.cells #[.bool false, .slice none 0 0, .slice none 0 0, .bool false, .slice none 0 0, .slice none 0 0] 26)) := On.alloc (On.refl w) _
  have OB2 : w.heap.size ≤ w.heap.size ∧ Own (w.alloc (.cells #[.bool false, .slice none 0 0, .slice none 0 0, .bool false, .slice none 0 0, .slice none 0 0] 26)) (w.heap.size) 26 #[.bool false, .slice none 0 0, .slice none 0 0, .bool false, .slice none 0 0, .slice none 0 0] := ⟨by omega, (Own.at_ w (w.heap.size) (by simp) 26 #[.bool false, .slice none 0 0, .slice none 0 0, .bool false, .slice none 0 0, .slice none 0 0])⟩
  obtain ⟨s, A, n, c1, A', n', c2, d0, d1, d2, IX⟩ := (HR.on B).at_ 0 (by simp)
  replace IX : Fld _ _ x L := IX
  simp only [Nat.zero_mul, Nat.zero_add] at d0 d1 d2
  go_enter Tryz.func48, Tryz.ntmps48
  go_wp2_with fail
  refine (rpoint3_any _ _ x L IX hL2 hL).mono ?_
  rintro e w1 ⟨v5, rfl, I, P1⟩
  obtain ⟨sl, P, Pn, Pc, R, Rn, Rc, sh, U, Un, Uc, V, Vn, Vc, rfl, IL0, IH0⟩ := id I
  clear d0 d1 d2 IX
  replace OB2 := And.intro OB2.1 (OB2.2.on P1)
  replace B := B.trans P1
  have PA := (On.refl w1).alloc (.cells #[.bool sl, .slice P Pn Pc, .slice R Rn Rc, .bool sh, .slice U Un Uc, .slice V Vn Vc] 26)
  have O5 := Own.new w1 26 #[.bool sl, .slice P Pn Pc, .slice R Rn Rc, .bool sh, .slice U Un Uc, .slice V Vn Vc]
  have hg5 : w.heap.size < w1.heap.size := OB2.2.lt
  obtain ⟨g5, hg⟩ : ∃ g5, w1.heap.size = g5 := ⟨_, rfl⟩
  replace OB2 := And.intro OB2.1 (OB2.2.on PA)
  replace B := B.trans PA
  rw [hg] at O5
  have JL := IL0.on PA
  have JH := IH0.on PA
  clear I
  have hB5 : w.heap.size ≤ g5 := by omega
  have hne4 : g5 ≠ w.heap.size := by omega
  have hl0 : lowest x ((x :: rs).take 0) = x := rfl
  have hh0 : highest x ((x :: rs).take 0) = x := rfl
  go_wp2
  go_loopw [12] (fun i wr => ∃ (k : Nat) (sl : Bool) (P : Option Addr) (Pn Pc : Nat) (R : Option Addr) (Rn Rc : Nat) (sh : Bool) (U : Option Addr) (Un Uc : Nat) (V : Option Addr) (Vn Vc : Nat), k ≤ N ∧ i = .int .i64 (k : Int) ∧ Own wr g5 26 #[.bool sl, .slice P Pn Pc, .slice R Rn Rc, .bool sh, .slice U Un Uc, .slice V Vn Vc] ∧ Own wr w.heap.size 26 #[.bool false, .slice none 0 0, .slice none 0 0, .bool false, .slice none 0 0, .slice none 0 0] ∧ FRats wr g (x :: rs) L ∧ IsR wr (.agg #[.bool sl, .slice P Pn Pc, .slice R Rn Rc]) (lowest x ((x :: rs).take k)) L ∧ IsR wr (.agg #[.bool sh, .slice U Un Uc, .slice V Vn Vc]) (highest x ((x :: rs).take k)) L ∧ On w wr) (fun i _ => N - (intOf i).toNat)
  case atStart =>
    exact ⟨0, _, _, _, _, _, _, _, _, _, _, _, _, _, _, by omega, rfl, O5, OB2.2, HR.on B, JL, JH, B⟩
  case round =>
    clear O5 PA OB2 P1 B IL0 IH0 JL JH hg hg5 hl0 hh0
    obtain ⟨k, sl, P, Pn, Pc, R, Rn, Rc, sh, U, Un, Uc, V, Vn, Vc, hk, rfl, O5, O4, RR, IL, IH, hon⟩ := hrel
    by_cases hlt : k < N
    · have hlt2 : k < (x :: rs).length := by rw [HN.out]; exact hlt
      obtain ⟨s, A, n, c1, A', n', c2, d0, d1, d2, IX⟩ := RR.at_ k hlt2
      have HLT := Lib.hid (lowest_take x (x :: rs) k hlt2)
      have HHT := Lib.hid (highest_take x (x :: rs) k hlt2)
      obtain ⟨y, hy⟩ : ∃ y, (x :: rs)[k] = y := ⟨_, rfl⟩
      rw [hy] at IX HLT HHT
      clear hy
      have PA := (On.refl wr).alloc (.cells #[.bool s, .slice A n c1, .slice A' n' c2] 24)
      have O7 := Own.new wr 24 #[.bool s, .slice A n c1, .slice A' n' c2]
      have hlt5 : g5 < wr.heap.size := O5.lt
      have hlt4 : w.heap.size < wr.heap.size := O4.lt
      have O5a := O5.on PA
      have ILa := IL.on PA
      have IHa := IH.on PA
      have IXa := IX.on PA
      have O4a := O4.on PA
      have RRa := RR.on PA
      have hona := hon.trans PA
      go_wp2
      clear O5 IL IH IX O4 RR hon
      have OB3 : w.heap.size ≤ g5 ∧ _ := ⟨hB5, O5a⟩
      have OB2 : w.heap.size ≤ w.heap.size ∧ _ := ⟨Nat.le_refl _, O4a⟩
      have OB5 : w.heap.size ≤ wr.heap.size ∧ _ := ⟨by omega, O7⟩
      refine wp_region_facts (by kernel_rfl) w [Fact.eq (.pointer (some ⟨g5, 0, none⟩)), Fact.eq (.agg #[.bool sl, .slice P Pn Pc, .slice R Rn Rc]), Fact.eq (.agg #[.bool s, .slice A n c1, .slice A' n' c2]), Fact.rat (rmin (lowest x ((x :: rs).take k)) y) (L), Fact.eq (.pointer (some ⟨g5, 3, none⟩)), Fact.eq (.agg #[.bool sh, .slice U Un Uc, .slice V Vn Vc]), Fact.eq (.agg #[.bool s, .slice A n c1, .slice A' n' c2]), Fact.rat (rmax (highest x ((x :: rs).take k)) y) (L), Fact.sp (rmin (lowest x ((x :: rs).take k)) y) (rmax (highest x ((x :: rs).take k)) y) (L), Fact.any] [Fact.sp (rmin (lowest x ((x :: rs).take k)) y) (rmax (highest x ((x :: rs).take k)) y) (L), Fact.any, Fact.any] [⟨10, 3, 26, 9, #[.bool sl, .slice P Pn Pc, .slice R Rn Rc, .bool sh, .slice U Un Uc, .slice V Vn Vc]⟩, ⟨10, 2, 26, 10, #[.bool false, .slice none 0 0, .slice none 0 0, .bool false, .slice none 0 0, .slice none 0 0]⟩, ⟨10, 5, 24, 10, #[.bool s, .slice A n c1, .slice A' n' c2]⟩] [g5, w.heap.size, wr.heap.size] [none, none, none, none, none, none, none, none, none, none, none, none, none, none, none, none, some 16, some 17, some 18, some 19, some 20, some 21, some 22, some 23, some 24, none, none] (by kernel_rfl) (by kernel_rfl) (by kernel_rfl) rfl hona ?_ ?_ ?_ ?_ ?_
      · exact ⟨fun _ => ⟨by simp, rfl, OB3⟩, fun _ => ⟨by simp, rfl, OB2⟩, fun _ => ⟨by simp, rfl, OB5⟩, trivial⟩
      · exact .inr (by simp <;> omega)
      · exact ⟨⟨noWords_S _ _ _ _ _ _ _ _ _ _ _ _ _ _, (.inl (Nat.le_refl _)), (.inr (store_obS (j := 8) (noWords_S _ _ _ _ _ _ _ _ _ _ _ _ _ _) rfl rfl rfl (by kernel_rfl) rfl rfl rfl))⟩, ⟨noWords_S _ _ _ _ _ _ _ _ _ _ _ _ _ _, (.inl (Nat.le_refl _)), (.inl (Nat.le_refl _))⟩, ⟨noWords_R _ _ _ _ _ _ _, (.inl (Nat.le_refl _)), (.inl (Nat.le_refl _))⟩, trivial⟩
      · refine ⟨?_, ?_, ?_, ?_, ?_, ?_, ?_, ?_, ?_, ?_, trivial⟩
        · exact .inr fun a w hp => ob_yes rfl (ob_fieldS0 (hp.box (k := 0) rfl (Nat.le_refl _) (.inr (.inl (by kernel_rfl))) (by kernel_rfl) rfl).1 rfl)
        · exact .inr fun a w hp => ob_yes rfl (ob_loadLo (hp.fact 0 16 (by kernel_rfl) rfl) (hp.box (k := 0) rfl (Nat.le_refl _) (.inr (.inl (by kernel_rfl))) (by kernel_rfl) rfl).2 rfl)
        · exact .inr fun a w hp => ob_yes rfl (ob_loadR (hp.box (k := 2) rfl (Nat.le_refl _) (.inl (Nat.le_refl _)) (by kernel_rfl) rfl).1 (hp.box (k := 2) rfl (Nat.le_refl _) (.inl (Nat.le_refl _)) (by kernel_rfl) rfl).2 rfl)
        · refine .inr fun a w hp => ob_yes rfl ?_
          have h17 : a.tmps.getD 17 undef = .agg #[.bool sl, .slice P Pn Pc, .slice R Rn Rc] := (hp.fact 1 17 (by kernel_rfl) rfl)
          have h18 : a.tmps.getD 18 undef = .agg #[.bool s, .slice A n c1, .slice A' n' c2] := (hp.fact 2 18 (by kernel_rfl) rfl)
          unfold Does
          go_simp
          refine (smin_keep _ _ _ (lowest x ((x :: rs).take k)) y L (IsR.fld (ILa.kept hp.kept)) (IXa.kept hp.kept) hL2 hL).mono ?_
          rintro e w' ⟨u, rfl, I8, P8⟩
          exact ⟨_, rfl, P8, I8⟩
        · exact .inr fun a w hp => ob_yes rfl (ob_fieldS1 (hp.box (k := 0) rfl (Nat.le_refl _) (.inr (.inl (by kernel_rfl))) (by kernel_rfl) rfl).1 rfl)
        · exact .inr fun a w hp => ob_yes rfl (ob_loadHi (hp.fact 4 20 (by kernel_rfl) rfl) (hp.box (k := 0) rfl (Nat.le_refl _) (.inr (.inl (by kernel_rfl))) (by kernel_rfl) rfl).2 rfl)
        · exact .inr fun a w hp => ob_yes rfl (ob_loadR (hp.box (k := 2) rfl (Nat.le_refl _) (.inl (Nat.le_refl _)) (by kernel_rfl) rfl).1 (hp.box (k := 2) rfl (Nat.le_refl _) (.inl (Nat.le_refl _)) (by kernel_rfl) rfl).2 rfl)
        · refine .inr fun a w hp => ob_yes rfl ?_
          have h21 : a.tmps.getD 21 undef = .agg #[.bool sh, .slice U Un Uc, .slice V Vn Vc] := (hp.fact 5 21 (by kernel_rfl) rfl)
          have h22 : a.tmps.getD 22 undef = .agg #[.bool s, .slice A n c1, .slice A' n' c2] := (hp.fact 6 22 (by kernel_rfl) rfl)
          unfold Does
          go_simp
          refine (smax_keep _ _ _ (highest x ((x :: rs).take k)) y L (IsR.fld (IHa.kept hp.kept)) (IXa.kept hp.kept) hL2 hL).mono ?_
          rintro e w' ⟨u, rfl, I8, P8⟩
          exact ⟨_, rfl, P8, I8⟩
        · refine .inr fun a w hp => ob_yes rfl ?_
          have h19 : IsR w (a.tmps.getD 19 undef) (rmin (lowest x ((x :: rs).take k)) y) (L) := (hp.fact 3 19 (by kernel_rfl) rfl)
          obtain ⟨v19, e19⟩ : ∃ v, a.tmps.getD 19 undef = v := ⟨_, rfl⟩
          rw [e19] at h19
          have h23 : IsR w (a.tmps.getD 23 undef) (rmax (highest x ((x :: rs).take k)) y) (L) := (hp.fact 7 23 (by kernel_rfl) rfl)
          obtain ⟨v23, e23⟩ : ∃ v, a.tmps.getD 23 undef = v := ⟨_, rfl⟩
          rw [e23] at h23
          exact ob_buildS e19 e23 h19 h23 (fun x hx => hx)
        · exact .inl rfl
      · intro f w9 hon hk hf hb hap
        obtain ⟨q0, q1, q2, qz⟩ := hb
        clear qz
        obtain ⟨cur3, O3, I3⟩ : ∃ cur, Own w9 (g5) 26 cur ∧ IsS w9 (.agg cur) (rmin (lowest x ((x :: rs).take k)) y) (rmax (highest x ((x :: rs).take k)) y) (L) := q0
        obtain ⟨sl3, P3, Pn3, Pc3, R3, Rn3, Rc3, sh3, U3, Un3, Uc3, V3, Vn3, Vc3, hz3, IL3, IH3⟩ := id I3
        injection hz3 with hz3
        subst hz3
        have c3_0 : w9.cell? ⟨g5, 0, none⟩ = some (.bool sl3) := O3.cell 0
        have z3_0 := O3.frozen 0
        have c3_1 : w9.cell? ⟨g5, 1, none⟩ = some (.slice P3 Pn3 Pc3) := O3.cell 1
        have z3_1 := O3.frozen 1
        have c3_2 : w9.cell? ⟨g5, 2, none⟩ = some (.slice R3 Rn3 Rc3) := O3.cell 2
        have z3_2 := O3.frozen 2
        have c3_3 : w9.cell? ⟨g5, 3, none⟩ = some (.bool sh3) := O3.cell 3
        have z3_3 := O3.frozen 3
        have c3_4 : w9.cell? ⟨g5, 4, none⟩ = some (.slice U3 Un3 Uc3) := O3.cell 4
        have z3_4 := O3.frozen 4
        have c3_5 : w9.cell? ⟨g5, 5, none⟩ = some (.slice V3 Vn3 Vc3) := O3.cell 5
        have z3_5 := O3.frozen 5
        have O2 : Own w9 (w.heap.size) 26 #[.bool false, .slice none 0 0, .slice none 0 0, .bool false, .slice none 0 0, .slice none 0 0] := q1
        have c2_0 : w9.cell? ⟨w.heap.size, 0, none⟩ = some (.bool false) := O2.cell 0
        have z2_0 := O2.frozen 0
        have c2_1 : w9.cell? ⟨w.heap.size, 1, none⟩ = some (.slice none 0 0) := O2.cell 1
        have z2_1 := O2.frozen 1
        have c2_2 : w9.cell? ⟨w.heap.size, 2, none⟩ = some (.slice none 0 0) := O2.cell 2
        have z2_2 := O2.frozen 2
        have c2_3 : w9.cell? ⟨w.heap.size, 3, none⟩ = some (.bool false) := O2.cell 3
        have z2_3 := O2.frozen 3
        have c2_4 : w9.cell? ⟨w.heap.size, 4, none⟩ = some (.slice none 0 0) := O2.cell 4
        have z2_4 := O2.frozen 4
        have c2_5 : w9.cell? ⟨w.heap.size, 5, none⟩ = some (.slice none 0 0) := O2.cell 5
        have z2_5 := O2.frozen 5
        clear q1
        have O5 : Own w9 (wr.heap.size) 24 #[.bool s, .slice A n c1, .slice A' n' c2] := q2
        have c5_0 : w9.cell? ⟨wr.heap.size, 0, none⟩ = some (.bool s) := O5.cell 0
        have z5_0 := O5.frozen 0
        have c5_1 : w9.cell? ⟨wr.heap.size, 1, none⟩ = some (.slice A n c1) := O5.cell 1
        have z5_1 := O5.frozen 1
        have c5_2 : w9.cell? ⟨wr.heap.size, 2, none⟩ = some (.slice A' n' c2) := O5.cell 2
        have z5_2 := O5.frozen 2
        clear q2
        clear hf hap
        simp only [fillL]
        have RRn := RRa.kept hk
        rw [← HLT.out] at IL3
        rw [← HHT.out] at IH3
        clear c3_0 z3_0 c2_0 z2_0 c3_1 z3_1 c2_1 z2_1 c3_2 z3_2 c2_2 z2_2 c3_3 z3_3 c2_3 z2_3 c3_4 z3_4 c2_4 z2_4 c3_5 z3_5 c2_5 z2_5 c5_0 z5_0 c5_1 z5_1 c5_2 z5_2 I3 O5 O5a O4a RRa hona ILa IHa IXa O7 OB2 OB3 OB5
        go_wp2
        exact ⟨⟨k + 1, sl3, P3, Pn3, Pc3, R3, Rn3, Rc3, sh3, U3, Un3, Uc3, V3, Vn3, Vc3, by omega, by go_num, O3, O2, RRn, IL3, IH3, hon⟩, by simp [intOf]; omega⟩
    · obtain rfl : k = N := by omega
      have hall : (x :: rs).take k = x :: rs := List.take_of_length_le (by rw [HN.out]; exact Nat.le_refl _)
      rw [hall] at IL IH
      have y0 : wr.cell? ⟨g5, 0, none⟩ = some (.bool sl) := O5.cell 0
      have y1 : wr.cell? ⟨g5, 1, none⟩ = some (.slice P Pn Pc) := O5.cell 1
      have y2 : wr.cell? ⟨g5, 2, none⟩ = some (.slice R Rn Rc) := O5.cell 2
      have y3 : wr.cell? ⟨g5, 3, none⟩ = some (.bool sh) := O5.cell 3
      have y4 : wr.cell? ⟨g5, 4, none⟩ = some (.slice U Un Uc) := O5.cell 4
      have y5 : wr.cell? ⟨g5, 5, none⟩ = some (.slice V Vn Vc) := O5.cell 5
      have yf0 := O5.frozen 0
      have yf1 := O5.frozen 1
      have yf2 := O5.frozen 2
      have yf3 := O5.frozen 3
      have yf4 := O5.frozen 4
      have yf5 := O5.frozen 5
      have c4_0 : wr.cell? ⟨w.heap.size, 0, none⟩ = some (.bool false) := O4.cell 0
      have c4_1 : wr.cell? ⟨w.heap.size, 1, none⟩ = some (.slice none 0 0) := O4.cell 1
      have c4_2 : wr.cell? ⟨w.heap.size, 2, none⟩ = some (.slice none 0 0) := O4.cell 2
      have c4_3 : wr.cell? ⟨w.heap.size, 3, none⟩ = some (.bool false) := O4.cell 3
      have c4_4 : wr.cell? ⟨w.heap.size, 4, none⟩ = some (.slice none 0 0) := O4.cell 4
      have c4_5 : wr.cell? ⟨w.heap.size, 5, none⟩ = some (.slice none 0 0) := O4.cell 5
      have c4_f0 := O4.frozen 0
      have c4_f1 := O4.frozen 1
      have c4_f2 := O4.frozen 2
      have c4_f3 := O4.frozen 3
      have c4_f4 := O4.frozen 4
      have c4_f5 := O4.frozen 5
      have IS : IsS wr (.agg #[.bool sl, .slice P Pn Pc, .slice R Rn Rc, .bool sh, .slice U Un Uc, .slice V Vn Vc]) (lowest x (x :: rs)) (highest x (x :: rs)) L := ⟨_, _, _, _, _, _, _, _, _, _, _, _, _, _, rfl, IL, IH⟩
      have IS2 := IS.kept (Kept.only (only6 (w := wr) (g := w.heap.size) (.bool sl) (.slice P Pn Pc) (.slice R Rn Rc) (.bool sh) (.slice U Un Uc) (.slice V Vn Vc)) O4 (noWords_S _ _ _ _ _ _ _ _ _ _ _ _ _ _))
      have hon6 := on6 (g := w.heap.size) hon (Nat.le_refl _) (.bool sl) (.slice P Pn Pc) (.slice R Rn Rc) (.bool sh) (.slice U Un Uc) (.slice V Vn Vc)
      clear hall
      go_wp2
      exact bodyPost_ret (v := .agg #[.bool sl, .slice P Pn Pc, .slice R Rn Rc, .bool sh, .slice U Un Uc, .slice V Vn Vc]) (by simp [results, Tryz.results48, go_sem, c4_0, c4_1, c4_2, c4_3, c4_4, c4_5]) rfl ⟨_, rfl, IS2, hon6⟩
end Num
end Go.Proofs.YtkchpagjkgmpmaaGreat
