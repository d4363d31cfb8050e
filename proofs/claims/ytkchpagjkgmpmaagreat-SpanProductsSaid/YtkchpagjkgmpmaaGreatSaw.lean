/-
  The statements' awake and large, over spans.
-/
import Derived.Test.YtkchpagjkgmpmaaGreatSpg
import Derived.Test.YtkchpagjkgmpmaaGreatSph
namespace Go.Proofs.YtkchpagjkgmpmaaGreat
open Go.RowKit
set_option linter.unusedVariables false
namespace Num
/-- a block of spans: the lengths of their lists -/
def SLens (w : World) (g : Nat) (ls : List (Nat × Nat × Nat × Nat)) : Prop := g < w.heap.size ∧ ∀ i p, ls[i]? = some p → ∃ (s : Bool) (A : Option Addr) (c : Nat) (A' : Option Addr) (c' : Nat) (d : Bool) (E : Option Addr) (o : Nat) (E' : Option Addr) (o' : Nat), w.cell? ⟨g, i * 6, none⟩ = some (.bool s) ∧ w.cell? ⟨g, i * 6 + 1, none⟩ = some (.slice A p.1 c) ∧ w.cell? ⟨g, i * 6 + 2, none⟩ = some (.slice A' p.2.1 c') ∧ w.cell? ⟨g, i * 6 + 3, none⟩ = some (.bool d) ∧ w.cell? ⟨g, i * 6 + 4, none⟩ = some (.slice E p.2.2.1 o) ∧ w.cell? ⟨g, i * 6 + 5, none⟩ = some (.slice E' p.2.2.2 o') ∧ (p.1 ≤ c ∧ c ≤ 9223372036854775807) ∧ (p.2.1 ≤ c' ∧ c' ≤ 9223372036854775807) ∧ (p.2.2.1 ≤ o ∧ o ≤ 9223372036854775807) ∧ (p.2.2.2 ≤ o' ∧ o' ≤ 9223372036854775807)
theorem SLens.on {w w' : World} {g : Nat} {ls : List (Nat × Nat × Nat × Nat)} (h : SLens w g ls) (k : On w w') : SLens w' g ls := by
  refine ⟨Nat.lt_of_lt_of_le h.1 k.size, fun i p hp => ?_⟩
  obtain ⟨s, A, c, A', c', d, E, o, E', o', h1, h2, h3, h4, h5, h6, h7⟩ := h.2 i p hp
  exact ⟨s, A, c, A', c', d, E, o, E', o', by rw [Below.cell k (p := ⟨g, i * 6, none⟩) h.1]; exact h1, by rw [Below.cell k (p := ⟨g, i * 6 + 1, none⟩) h.1]; exact h2, by rw [Below.cell k (p := ⟨g, i * 6 + 2, none⟩) h.1]; exact h3, by rw [Below.cell k (p := ⟨g, i * 6 + 3, none⟩) h.1]; exact h4, by rw [Below.cell k (p := ⟨g, i * 6 + 4, none⟩) h.1]; exact h5, by rw [Below.cell k (p := ⟨g, i * 6 + 5, none⟩) h.1]; exact h6, h7⟩
def Big (p : Nat × Nat × Nat × Nat) : Prop := 6 < p.1 ∨ 6 < p.2.1 ∨ 6 < p.2.2.1 ∨ 6 < p.2.2.2
set_option maxRecDepth 100000 in
set_option maxHeartbeats 1600000 in
theorem slarge_no (w : World) (g k c : Nat) (ls : List (Nat × Nat × Nat × Nat)) (h : SLens w g ls) (hk : ls.length = k) (hkb : k ≤ 10) (hc1 : k ≤ c) (hc2 : c ≤ 100) (hno : ∀ p ∈ ls, ¬ Big p) :
    Calls Tryz.prog 8 #[.slice (some ⟨g, 0, none⟩) k c] w fun e w' => e = .returned (.bool false) ∧ On w w' := by
  have HK := Lib.hid hk
  have HN := Lib.hid hno
  clear hk hno
  go_enter Tryz.func8, Tryz.ntmps8
  go_wp2
  go_loopw [7] (fun i wr => ∃ j : Nat, j ≤ k ∧ i = .int .i64 (j : Int) ∧ On w wr) (fun i _ => k - (intOf i).toNat)
  case atStart => exact ⟨0, by omega, rfl, On.refl _⟩
  case round =>
    obtain ⟨j, hj, rfl, hon⟩ := hrel
    by_cases hlt : j < k
    · have hjl : j < ls.length := by rw [HK.out]; exact hlt
      obtain ⟨s, A, c1, A', c2, d, E, o, E', o', d0, d1, d2, d3, d4, d5, hm1, hm2, hm3, hm4⟩ := (h.on hon).2 j _ (List.getElem?_eq_getElem hjl)
      have hn := HN.out _ (List.getElem_mem hjl)
      obtain ⟨⟨n, n', m, m'⟩, hp⟩ : ∃ p, ls[j] = p := ⟨_, rfl⟩
      rw [hp] at d1 d2 d4 d5 hm1 hm2 hm3 hm4 hn
      simp only [Big] at hn
      simp only at d1 d2 d4 d5 hm1 hm2 hm3 hm4
      have n1 : ¬ 6 < n := fun e => hn (.inl e)
      have n2 : ¬ 6 < n' := fun e => hn (.inr (.inl e))
      have n3 : ¬ 6 < m := fun e => hn (.inr (.inr (.inl e)))
      have n4 : ¬ 6 < m' := fun e => hn (.inr (.inr (.inr e)))
      clear hp hn
      go_wp2
      refine ⟨⟨j + 1, by omega, by go_num, hon.alloc _⟩, by first | (simp [intOf]; done) | (simp [intOf]; omega)⟩
    · go_wp2
      go_ret
      exact ⟨rfl, hon⟩
set_option maxRecDepth 100000 in
set_option maxHeartbeats 1600000 in
theorem slarge_yes (w : World) (g k c : Nat) (ls : List (Nat × Nat × Nat × Nat)) (h : SLens w g ls) (hk : ls.length = k) (hkb : k ≤ 10) (hc1 : k ≤ c) (hc2 : c ≤ 100) (mi : Nat) (q : Nat × Nat × Nat × Nat) (hq : ls[mi]? = some q) (hyes : Big q) :
    Calls Tryz.prog 8 #[.slice (some ⟨g, 0, none⟩) k c] w fun e w' => e = .returned (.bool true) ∧ On w w' := by
  have HK := Lib.hid hk
  have HQ := Lib.hid hq
  have HY := Lib.hid hyes
  have hmk : mi < k := by rw [← hk]; exact (List.getElem?_eq_some_iff.1 hq).1
  clear hk hq hyes
  go_enter Tryz.func8, Tryz.ntmps8
  go_wp2
  go_loopw [7] (fun i wr => ∃ j : Nat, j ≤ mi ∧ i = .int .i64 (j : Int) ∧ On w wr) (fun i _ => k - (intOf i).toNat)
  case atStart => exact ⟨0, by omega, rfl, On.refl _⟩
  case round =>
    obtain ⟨j, hj, rfl, hon⟩ := hrel
    have hjk : j < k := by omega
    have hjl : j < ls.length := by rw [HK.out]; exact hjk
    obtain ⟨s, A, c1, A', c2, d, E, o, E', o', d0, d1, d2, d3, d4, d5, hm1, hm2, hm3, hm4⟩ := (h.on hon).2 j _ (List.getElem?_eq_getElem hjl)
    obtain ⟨⟨n, n', m, m'⟩, hp⟩ : ∃ p, ls[j] = p := ⟨_, rfl⟩
    have HP := Lib.hid hp
    rw [hp] at d1 d2 d4 d5 hm1 hm2 hm3 hm4
    simp only at d1 d2 d4 d5 hm1 hm2 hm3 hm4
    clear hp
    by_cases b1 : 6 < n
    · go_wp2
      go_ret
      exact ⟨rfl, hon.alloc _⟩
    · by_cases b2 : 6 < n'
      · go_wp2
        go_ret
        exact ⟨rfl, hon.alloc _⟩
      · by_cases b3 : 6 < m
        · go_wp2
          go_ret
          exact ⟨rfl, hon.alloc _⟩
        · by_cases b4 : 6 < m'
          · go_wp2
            go_ret
            exact ⟨rfl, hon.alloc _⟩
          · have hne : j ≠ mi := by
              intro e; subst e
              have h1 := HQ.out
              rw [List.getElem?_eq_getElem hjl, HP.out] at h1
              obtain rfl := Option.some.inj h1
              rcases HY.out with h2 | h2 | h2 | h2
              · exact b1 h2
              · exact b2 h2
              · exact b3 h2
              · exact b4 h2
            have hjm : j + 1 ≤ mi := by omega
            clear hne
            go_wp2
            refine ⟨⟨j + 1, by omega, by go_num, hon.alloc _⟩, by first | (simp [intOf]; done) | (simp [intOf]; omega)⟩
theorem stx_mul {bs : List Nat} (h : STx (-6) 3 bs) : str bs = { data := #[45, 54, 46, 46, 51] } := by
  have e : bs = [45, 54, 46, 46, 51] := h.unique ⟨[45, 54], [51], ⟨[54], [49], one_digit 6 (by decide) (by decide), one_digit 1 (by decide) (by decide), by decide⟩, ⟨[51], [49], one_digit 3 (by decide) (by decide), one_digit 1 (by decide) (by decide), by decide⟩, rfl⟩
  rw [e]; rfl
theorem stx_div {bs : List Nat} (h : STx (mkRat 1 4) 1 bs) : str bs = { data := #[49, 47, 52, 46, 46, 49] } := by
  have e : bs = [49, 47, 52, 46, 46, 49] := h.unique ⟨[49, 47, 52], [49], ⟨[49], [52], one_digit 1 (by decide) (by decide), one_digit 4 (by decide) (by decide), by decide⟩, ⟨[49], [49], one_digit 1 (by decide) (by decide), one_digit 1 (by decide) (by decide), by decide⟩, rfl⟩
  rw [e]; rfl
theorem mul_lo : prodLo (-1) 2 (-3) 1 = -6 := by decide +kernel
theorem mul_hi : prodHi (-1) 2 (-3) 1 = 3 := by decide +kernel
theorem div_lo : prodLo 1 2 (4 : Rat)⁻¹ (2 : Rat)⁻¹ = mkRat 1 4 := by decide +kernel
theorem div_hi : prodHi 1 2 (4 : Rat)⁻¹ (2 : Rat)⁻¹ = 1 := by decide +kernel
set_option maxRecDepth 100000 in
set_option maxHeartbeats 1600000 in
theorem awake03 (w : World) :
    Calls Tryz.prog 7 #[] w fun e w' => e = .returned (.bool true) ∧ On w w' := by
  have B := On.refl w
  go_enter Tryz.func7, Tryz.ntmps7
  go_wp2_with fail
  refine (rofr_any _ (-1) (by decide) (by decide)).mono ?_
  rintro e wax ⟨ua, rfl, J, Pa⟩
  rw [show (((-1 : Int)) : Rat) = -1 from rfl] at J
  obtain ⟨sx, Px, Pnx, Pcx, Rx, Rnx, Rcx, rfl⟩ := isR_form J
  replace B := B.trans Pa
  go_wp2_with fail
  refine (rofr_any _ (2) (by decide) (by decide)).mono ?_
  rintro e wbx ⟨ub, rfl, J2, Pb⟩
  rw [show (((2 : Int)) : Rat) = 2 from rfl] at J2
  obtain ⟨dx, Ux, Unx, Ucx, Vx, Vnx, Vcx, rfl⟩ := isR_form J2
  replace B := B.trans Pb
  replace J := J.on Pb
  have Ix : IsS wbx (.agg #[.bool sx, .slice Px Pnx Pcx, .slice Rx Rnx Rcx, .bool dx, .slice Ux Unx Ucx, .slice Vx Vnx Vcx]) (-1) (2) 2 := ⟨_, _, _, _, _, _, _, _, _, _, _, _, _, _, rfl, J, J2⟩
  clear J J2
  clear Pa Pb
  have PA := (On.refl wbx).alloc (.cells #[.bool sx, .slice Px Pnx Pcx, .slice Rx Rnx Rcx, .bool dx, .slice Ux Unx Ucx, .slice Vx Vnx Vcx] 26)
  have O1 := Own.new wbx 26 #[.bool sx, .slice Px Pnx Pcx, .slice Rx Rnx Rcx, .bool dx, .slice Ux Unx Ucx, .slice Vx Vnx Vcx]
  replace Ix := Ix.on PA
  replace B := B.trans PA
  clear PA
  go_wp2_with fail
  refine (rofr_any _ (-3) (by decide) (by decide)).mono ?_
  rintro e way ⟨ua, rfl, J, Pa⟩
  rw [show (((-3 : Int)) : Rat) = -3 from rfl] at J
  obtain ⟨sy, Py, Pny, Pcy, Ry, Rny, Rcy, rfl⟩ := isR_form J
  replace B := B.trans Pa
  go_wp2_with fail
  refine (rofr_any _ (1) (by decide) (by decide)).mono ?_
  rintro e wby ⟨ub, rfl, J2, Pb⟩
  rw [show (((1 : Int)) : Rat) = 1 from rfl] at J2
  obtain ⟨dy, Uy, Uny, Ucy, Vy, Vny, Vcy, rfl⟩ := isR_form J2
  replace B := B.trans Pb
  replace J := J.on Pb
  have Iy : IsS wby (.agg #[.bool sy, .slice Py Pny Pcy, .slice Ry Rny Rcy, .bool dy, .slice Uy Uny Ucy, .slice Vy Vny Vcy]) (-3) (1) 2 := ⟨_, _, _, _, _, _, _, _, _, _, _, _, _, _, rfl, J, J2⟩
  clear J J2
  replace O1 := (O1.on Pa).on Pb
  replace Ix := (Ix.on Pa).on Pb
  clear Pa Pb
  have PA := (On.refl wby).alloc (.cells #[.bool sy, .slice Py Pny Pcy, .slice Ry Rny Rcy, .bool dy, .slice Uy Uny Ucy, .slice Vy Vny Vcy] 26)
  have O2 := Own.new wby 26 #[.bool sy, .slice Py Pny Pcy, .slice Ry Rny Rcy, .bool dy, .slice Uy Uny Ucy, .slice Vy Vny Vcy]
  replace Ix := Ix.on PA
  replace Iy := Iy.on PA
  replace O1 := O1.on PA
  replace B := B.trans PA
  clear PA
  go_wp2_with fail
  refine (rofr_any _ (1) (by decide) (by decide)).mono ?_
  rintro e waz ⟨ua, rfl, J, Pa⟩
  rw [show (((1 : Int)) : Rat) = 1 from rfl] at J
  obtain ⟨sz, Pz, Pnz, Pcz, Rz, Rnz, Rcz, rfl⟩ := isR_form J
  replace B := B.trans Pa
  go_wp2_with fail
  refine (rofr_any _ (2) (by decide) (by decide)).mono ?_
  rintro e wbz ⟨ub, rfl, J2, Pb⟩
  rw [show (((2 : Int)) : Rat) = 2 from rfl] at J2
  obtain ⟨dz, Uz, Unz, Ucz, Vz, Vnz, Vcz, rfl⟩ := isR_form J2
  replace B := B.trans Pb
  replace J := J.on Pb
  have Iz : IsS wbz (.agg #[.bool sz, .slice Pz Pnz Pcz, .slice Rz Rnz Rcz, .bool dz, .slice Uz Unz Ucz, .slice Vz Vnz Vcz]) (1) (2) 2 := ⟨_, _, _, _, _, _, _, _, _, _, _, _, _, _, rfl, J, J2⟩
  clear J J2
  replace O1 := (O1.on Pa).on Pb
  replace O2 := (O2.on Pa).on Pb
  replace Ix := (Ix.on Pa).on Pb
  replace Iy := (Iy.on Pa).on Pb
  clear Pa Pb
  go_wp2_with fail
  refine (rofr_any _ (2) (by decide) (by decide)).mono ?_
  rintro e wat ⟨ua, rfl, J, Pa⟩
  rw [show (((2 : Int)) : Rat) = 2 from rfl] at J
  obtain ⟨st, Pt, Pnt, Pct, Rt, Rnt, Rct, rfl⟩ := isR_form J
  replace B := B.trans Pa
  go_wp2_with fail
  refine (rofr_any _ (4) (by decide) (by decide)).mono ?_
  rintro e wbt ⟨ub, rfl, J2, Pb⟩
  rw [show (((4 : Int)) : Rat) = 4 from rfl] at J2
  obtain ⟨dt, Ut, Unt, Uct, Vt, Vnt, Vct, rfl⟩ := isR_form J2
  replace B := B.trans Pb
  replace J := J.on Pb
  have It : IsS wbt (.agg #[.bool st, .slice Pt Pnt Pct, .slice Rt Rnt Rct, .bool dt, .slice Ut Unt Uct, .slice Vt Vnt Vct]) (2) (4) 2 := ⟨_, _, _, _, _, _, _, _, _, _, _, _, _, _, rfl, J, J2⟩
  clear J J2
  replace O1 := (O1.on Pa).on Pb
  replace O2 := (O2.on Pa).on Pb
  replace Ix := (Ix.on Pa).on Pb
  replace Iy := (Iy.on Pa).on Pb
  replace Iz := (Iz.on Pa).on Pb
  clear Pa Pb
  go_wp2_with fail
  refine (spdiv_ok _ _ _ 1 2 2 4 2 (Iz.sp (by decide)) (It.sp (by decide)) (by decide) (by decide) (by decide)).mono ?_
  rintro e w3 ⟨u3, rfl, I3, P3⟩
  rw [div_lo, div_hi] at I3
  obtain ⟨ba3, Aa3, na3, ca3, Ba3, ma3, oa3, bb3, Ab3, nb3, cb3, Bb3, mb3, ob3, rfl, IL3, IH3⟩ := id I3
  replace O1 := O1.on P3
  replace O2 := O2.on P3
  replace Ix := Ix.on P3
  replace Iy := Iy.on P3
  replace B := B.trans P3
  clear Iz It P3 IL3 IH3
  have PA := (On.refl w3).alloc (.cells #[.bool ba3, .slice Aa3 na3 ca3, .slice Ba3 ma3 oa3, .bool bb3, .slice Ab3 nb3 cb3, .slice Bb3 mb3 ob3] 26)
  have O3 := Own.new w3 26 #[.bool ba3, .slice Aa3 na3 ca3, .slice Ba3 ma3 oa3, .bool bb3, .slice Ab3 nb3 cb3, .slice Bb3 mb3 ob3]
  replace Ix := Ix.on PA
  replace Iy := Iy.on PA
  replace I3 := I3.on PA
  replace O1 := O1.on PA
  replace O2 := O2.on PA
  replace B := B.trans PA
  clear PA
  have a0 : (w3.alloc (.cells #[.bool ba3, .slice Aa3 na3 ca3, .slice Ba3 ma3 oa3, .bool bb3, .slice Ab3 nb3 cb3, .slice Bb3 mb3 ob3] 26)).cell? ⟨wbx.heap.size, 0, none⟩ = some (.bool sx) := O1.cell 0
  have a1 : (w3.alloc (.cells #[.bool ba3, .slice Aa3 na3 ca3, .slice Ba3 ma3 oa3, .bool bb3, .slice Ab3 nb3 cb3, .slice Bb3 mb3 ob3] 26)).cell? ⟨wbx.heap.size, 1, none⟩ = some (.slice Px Pnx Pcx) := O1.cell 1
  have a2 : (w3.alloc (.cells #[.bool ba3, .slice Aa3 na3 ca3, .slice Ba3 ma3 oa3, .bool bb3, .slice Ab3 nb3 cb3, .slice Bb3 mb3 ob3] 26)).cell? ⟨wbx.heap.size, 2, none⟩ = some (.slice Rx Rnx Rcx) := O1.cell 2
  have a3 : (w3.alloc (.cells #[.bool ba3, .slice Aa3 na3 ca3, .slice Ba3 ma3 oa3, .bool bb3, .slice Ab3 nb3 cb3, .slice Bb3 mb3 ob3] 26)).cell? ⟨wbx.heap.size, 3, none⟩ = some (.bool dx) := O1.cell 3
  have a4 : (w3.alloc (.cells #[.bool ba3, .slice Aa3 na3 ca3, .slice Ba3 ma3 oa3, .bool bb3, .slice Ab3 nb3 cb3, .slice Bb3 mb3 ob3] 26)).cell? ⟨wbx.heap.size, 4, none⟩ = some (.slice Ux Unx Ucx) := O1.cell 4
  have a5 : (w3.alloc (.cells #[.bool ba3, .slice Aa3 na3 ca3, .slice Ba3 ma3 oa3, .bool bb3, .slice Ab3 nb3 cb3, .slice Bb3 mb3 ob3] 26)).cell? ⟨wbx.heap.size, 5, none⟩ = some (.slice Vx Vnx Vcx) := O1.cell 5
  have b0 : (w3.alloc (.cells #[.bool ba3, .slice Aa3 na3 ca3, .slice Ba3 ma3 oa3, .bool bb3, .slice Ab3 nb3 cb3, .slice Bb3 mb3 ob3] 26)).cell? ⟨wby.heap.size, 0, none⟩ = some (.bool sy) := O2.cell 0
  have b1 : (w3.alloc (.cells #[.bool ba3, .slice Aa3 na3 ca3, .slice Ba3 ma3 oa3, .bool bb3, .slice Ab3 nb3 cb3, .slice Bb3 mb3 ob3] 26)).cell? ⟨wby.heap.size, 1, none⟩ = some (.slice Py Pny Pcy) := O2.cell 1
  have b2 : (w3.alloc (.cells #[.bool ba3, .slice Aa3 na3 ca3, .slice Ba3 ma3 oa3, .bool bb3, .slice Ab3 nb3 cb3, .slice Bb3 mb3 ob3] 26)).cell? ⟨wby.heap.size, 2, none⟩ = some (.slice Ry Rny Rcy) := O2.cell 2
  have b3 : (w3.alloc (.cells #[.bool ba3, .slice Aa3 na3 ca3, .slice Ba3 ma3 oa3, .bool bb3, .slice Ab3 nb3 cb3, .slice Bb3 mb3 ob3] 26)).cell? ⟨wby.heap.size, 3, none⟩ = some (.bool dy) := O2.cell 3
  have b4 : (w3.alloc (.cells #[.bool ba3, .slice Aa3 na3 ca3, .slice Ba3 ma3 oa3, .bool bb3, .slice Ab3 nb3 cb3, .slice Bb3 mb3 ob3] 26)).cell? ⟨wby.heap.size, 4, none⟩ = some (.slice Uy Uny Ucy) := O2.cell 4
  have b5 : (w3.alloc (.cells #[.bool ba3, .slice Aa3 na3 ca3, .slice Ba3 ma3 oa3, .bool bb3, .slice Ab3 nb3 cb3, .slice Bb3 mb3 ob3] 26)).cell? ⟨wby.heap.size, 5, none⟩ = some (.slice Vy Vny Vcy) := O2.cell 5
  go_wp2_with fail
  refine (spmul_any _ _ _ (-1) 2 (-3) 1 2 (Ix.sp (by decide)) (Iy.sp (by decide)) (by decide) (by decide)).mono ?_
  rintro e w5 ⟨u5, rfl, I5, P5⟩
  rw [mul_lo, mul_hi] at I5
  replace I3 := I3.on P5
  replace O3 := O3.on P5
  replace B := B.trans P5
  clear a0 b0 a1 b1 a2 b2 a3 b3 a4 b4 a5 b5 O1 O2 Ix Iy P5
  go_wp2_with fail
  refine (sptext_any _ _ (-6) 3 _ (I5.sp (by decide)) (by decide) (by decide)).mono ?_
  rintro e w6 ⟨bs, rfl, HT, P6⟩
  rw [stx_mul HT]
  replace I3 := I3.on P6
  replace O3 := O3.on P6
  replace B := B.trans P6
  clear HT I5 P6
  have a0 : w6.cell? ⟨w3.heap.size, 0, none⟩ = some (.bool ba3) := O3.cell 0
  have a1 : w6.cell? ⟨w3.heap.size, 1, none⟩ = some (.slice Aa3 na3 ca3) := O3.cell 1
  have a2 : w6.cell? ⟨w3.heap.size, 2, none⟩ = some (.slice Ba3 ma3 oa3) := O3.cell 2
  have a3 : w6.cell? ⟨w3.heap.size, 3, none⟩ = some (.bool bb3) := O3.cell 3
  have a4 : w6.cell? ⟨w3.heap.size, 4, none⟩ = some (.slice Ab3 nb3 cb3) := O3.cell 4
  have a5 : w6.cell? ⟨w3.heap.size, 5, none⟩ = some (.slice Bb3 mb3 ob3) := O3.cell 5
  go_wp2_with fail
  refine (sptext_any _ _ (mkRat 1 4) 1 _ (I3.sp (by decide)) (by decide) (by decide)).mono ?_
  rintro e w7 ⟨bs, rfl, HT, P7⟩
  rw [stx_div HT]
  go_wp2
  go_ret
  exact ⟨rfl, B.trans P7⟩
end Num
end Go.Proofs.YtkchpagjkgmpmaaGreat
