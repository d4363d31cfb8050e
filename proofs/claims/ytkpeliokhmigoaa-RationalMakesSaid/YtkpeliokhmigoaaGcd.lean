/-
  Gcd of any two numbers.
-/
import Derived.Test.YtkpeliokhmigoaaLehs
import Derived.Test.YtkpeliokhmigoaaGcds
import Derived.Deep.RegionHeld3
import Derived.Deep.LoopGhost
import Derived.Deep.DeepCutAuto
namespace Go.Proofs.Ytkpeliokhmigoaa
open Go.RowKit
set_option linter.unusedVariables false
namespace Num
/-- coefficients with which combine may be called -/
def CombOk (x y n : Nat) (s t : Int) : Prop := (-1073741824 ≤ s ∧ s ≤ 1073741824) ∧ (-1073741824 ≤ t ∧ t ≤ 1073741824) ∧ 0 ≤ s * (x : Int) + t * (y : Int) ∧ s * (x : Int) + t * (y : Int) < (BB ^ n : Nat)
theorem combine_of (w : World) (A A' : Option Addr) (n c n' c' : Nat) (xs ys : List Nat) (h : Rd w A n c xs) (k : Rd w A' n' c' ys) (hn : n ≤ 100000) (hle : n' ≤ n) (s t : Int) (ok : CombOk (val xs) (val ys) n s t) :
    Calls Try.prog 80 #[.int .i64 s, .int .i64 t, .slice A n c, .slice A' n' c'] w (Gives w (s * (val xs : Int) + t * (val ys : Int)).toNat n) := by
  obtain ⟨h1, h2, h3, h4⟩ := ok
  exact combine_any w A A' n c n' c' xs ys h k hn hle s t h1 h2 _ (by omega) (by omega)
/-- what two steps of Lehmer's make of two numbers -/
theorem lehmer_ok {x y n : Nat} {p0 q0 a b c d p q : Int} (h : Steps (x : Int) (y : Int) p0 q0 a b c d p q) (hb : b ≠ 0) (hx : x < BB ^ n) :
    CombOk x y n a b ∧ CombOk x y n c d ∧ (c * (x : Int) + d * (y : Int)).toNat < y ∧ (c * (x : Int) + d * (y : Int)).toNat ≤ (a * (x : Int) + b * (y : Int)).toNat ∧ Nat.gcd (a * (x : Int) + b * (y : Int)).toNat (c * (x : Int) + d * (y : Int)).toNat = Nat.gcd x y := by
  have y0 := h.y0
  have yx := h.yx
  have xx := h.xx
  have lt : c * (x : Int) + d * (y : Int) < (y : Int) := by
    rcases h.lt with ⟨_, e, _, _⟩ | e
    · exact absurd e hb
    · exact e
  have gc := h.gc
  refine ⟨⟨h.ba, h.bb, by omega, by omega⟩, ⟨h.bc, h.bd, by omega, by omega⟩, by omega, by omega, ?_⟩
  obtain ⟨u, hu⟩ := Int.eq_ofNat_of_zero_le (show 0 ≤ a * (x : Int) + b * (y : Int) by omega)
  obtain ⟨v, hv⟩ := Int.eq_ofNat_of_zero_le y0
  rw [hu, hv] at gc ⊢
  rw [Int.toNat_natCast, Int.toNat_natCast]
  rwa [Int.gcd_natCast_natCast, Int.gcd_natCast_natCast] at gc
theorem two_words {w : World} {A : Option Addr} {n c : Nat} {xs : List Nat} (h : Rd w A n c xs) (hn : n ≤ 2) : val xs ≤ 18446744073709551615 := by
  have h1 := val_lt h.ok
  rw [h.len] at h1
  have h2 : BB ^ n ≤ BB ^ 2 := Nat.pow_le_pow_right BB_pos hn
  have h3 : BB ^ 2 = 18446744073709551616 := by decide
  omega
theorem gcd_le2 {x y : Nat} (hx : x ≤ 18446744073709551615) (hy : y ≤ 18446744073709551615) : Nat.gcd x y ≤ 18446744073709551615 := by
  rcases Nat.eq_zero_or_pos y with h | h
  · subst h; rw [Nat.gcd_zero_right]; exact hx
  · exact Nat.le_trans (Nat.le_of_dvd h (Nat.gcd_dvd_right _ _)) hy
theorem clean_len_le {xs ys : List Nat} (hx : Ok xs) (cy : Clean ys) (h : val ys ≤ val xs) : ys.length ≤ xs.length := by
  apply Nat.le_of_not_lt
  intro hlt
  have := val_lt_of_len hx cy hlt
  omega
theorem steps_of (w : World) (A A' : Option Addr) (n c n' c' : Nat) (xs ys : List Nat) (h : Rd w A n c xs) (k : Rd w A' n' c' ys) (C : Clean xs) (hm : n ≤ 10000) (hle : n' ≤ n) (h3 : 2 < n) (hv : val ys ≤ val xs) :
    Calls Try.prog 78 #[.slice A n c, .slice A' n' c'] w (StepsPost w (val xs) (val ys)) := by
  obtain ⟨m, rfl⟩ : ∃ m, n = m + 3 := ⟨n - 3, by omega⟩
  exact steps_any w A A' m c n' c' xs ys h k (by omega) hle (clean_last C (m + 2) h.len) hv
theorem divlong_of (w : World) (A A' : Option Addr) (n c n' c' : Nat) (xs ys : List Nat) (h : Rd w A n c xs) (k : Rd w A' n' c' ys) (C : Clean ys) (hm : n ≤ 10000) (hle : n' ≤ n) (h3 : 1 < n') :
    Calls Try.prog 79 #[.slice A n c, .slice A' n' c'] w (QR2 w (val xs) (val ys) n n') := by
  obtain ⟨m, rfl⟩ : ∃ m, n' = m + 2 := ⟨n' - 2, by omega⟩
  exact divlong_any w A A' n c m c' xs ys h k (clean_last C (m + 1) k.len) hle hm
set_option maxRecDepth 100000 in
set_option maxHeartbeats 2000000 in
theorem gcd_any (w : World) (A A' : Option Addr) (n c n' c' L : Nat) (xs ys : List Nat) (h : Rd w A n c xs) (k : Rd w A' n' c' ys) (hn : n ≤ 10000) (hn' : n' ≤ 10000) (hL : tl xs ≤ L) (hL' : tl ys ≤ L) (hL2 : 2 ≤ L) (hLb : L ≤ 10000) :
    Calls Try.prog 43 #[.slice A n c, .slice A' n' c'] w (Gives w (Nat.gcd (val xs) (val ys)) L) := by
  have T := h.take (k := tl xs) (by rw [← h.len]; exact tl_le xs)
  have T' := k.take (k := tl ys) (by rw [← k.len]; exact tl_le ys)
  have C := clean_take xs
  have C' := clean_take ys
  rw [← val_take_tl xs, ← val_take_tl ys]
  generalize xs.take (tl xs) = zs at *
  generalize ys.take (tl ys) = us at *
  go_enter Try.func43, Try.ntmps43
  go_wp2_with fail
  refine (trim_any _ _ _ _ _ h).mono ?_
  rintro e w' ⟨rfl, rfl⟩
  go_wp2_with fail
  refine (clone_any _ _ _ _ _ T (by omega)).mono ?_
  rintro e w1 ⟨A1, c1, rfl, R1, hon1, _⟩
  go_wp2_with fail
  refine (trim_any _ _ _ _ _ (k.on hon1)).mono ?_
  rintro e w' ⟨rfl, rfl⟩
  go_wp2_with fail
  refine (clone_any _ _ _ _ _ (T'.on hon1) (by omega)).mono ?_
  rintro e w2 ⟨A2, c2, rfl, R2, hon2, _⟩
  have R3 := R1.on hon2
  have hon := hon1.trans hon2
  clear h k T T' R1 hon1 hon2
  go_wp2_with fail
  refine (cmp_any _ _ _ _ _ _ _ _ _ R3 R2).mono ?_
  rintro e w3 ⟨rfl, hon3⟩
  have R4 := R3.on hon3
  have R5 := R2.on hon3
  have hon := hon.trans hon3
  clear R3 R2 hon3
  generalize tl xs = m at *
  generalize tl ys = m' at *
  clear xs ys
  have hce : ∀ a b : Nat, a < b ∨ b ≤ a := fun a b => Nat.lt_or_ge a b
  have HR4 := Lib.hid R4
  have HR5 := Lib.hid R5
  have HC4 := Lib.hid C
  have HC5 := Lib.hid C'
  clear R4 R5 C C'
  go_upto_if 22 with (fail)
  go_cut [5, 6] (fun s5 s6 wx => ∃ (A1 : Option Addr) (n1 c1 : Nat) (l1 : List Nat) (A2 : Option Addr) (n2 c2 : Nat) (l2 : List Nat), s5 = .slice A1 n1 c1 ∧ s6 = .slice A2 n2 c2 ∧ Rd wx A1 n1 c1 l1 ∧ Rd wx A2 n2 c2 l2 ∧ Clean l1 ∧ Clean l2 ∧ n1 ≤ L ∧ n2 ≤ L ∧ val l2 ≤ val l1 ∧ Nat.gcd (val l1) (val l2) = Nat.gcd (val zs) (val us) ∧ On w wx)
  case first =>
    rcases hce (val zs) (val us) with h | h
    · rw [cmpI_lt h]
      have H := Lib.hid h
      clear h
      go_wp2
      go_meet
      exact ⟨_, _, _, us, _, _, _, zs, rfl, rfl, HR5.out, HR4.out, HC5.out, HC4.out, hL', hL, Nat.le_of_lt H.out, Nat.gcd_comm _ _, hon⟩
    · have hge : 0 ≤ cmpI (val zs) (val us) := by
        rcases Nat.lt_or_eq_of_le h with h | h
        · rw [cmpI_gt h]; decide
        · rw [cmpI_eq h.symm]; decide
      have H := Lib.hid h
      clear h
      generalize cmpI (val zs) (val us) = ci at *
      go_wp2
      go_meet
      exact ⟨_, _, _, zs, _, _, _, us, rfl, rfl, HR4.out, HR5.out, HC4.out, HC5.out, hL, hL', H.out, rfl, hon⟩
  case rest =>
    clear HR4 HR5 HC4 HC5 hL hL' hon
    generalize Nat.gcd (val zs) (val us) = gg at *
    obtain ⟨A3, n3, c3, l3, A4, n4, c4, l4, rfl, rfl, R3, R4, C3, C4, hn3, hn4, hle, hg, hon⟩ := hcut
    go_wp2
    go_loopg [5, 6] (val l4) (fun gh s5 s6 wx => ∃ (A1 : Option Addr) (n1 c1 : Nat) (l1 : List Nat) (A2 : Option Addr) (n2 c2 : Nat) (l2 : List Nat), s5 = .slice A1 n1 c1 ∧ s6 = .slice A2 n2 c2 ∧ Rd wx A1 n1 c1 l1 ∧ Rd wx A2 n2 c2 l2 ∧ Clean l1 ∧ Clean l2 ∧ n1 ≤ L ∧ n2 ≤ L ∧ val l2 ≤ val l1 ∧ val l2 ≤ gh ∧ Nat.gcd (val l1) (val l2) = gg ∧ On w wx)
    case atStart => exact ⟨A3, n3, c3, l3, A4, n4, c4, l4, rfl, rfl, R3, R4, C3, C4, hn3, hn4, hle, Nat.le_refl _, hg, hon⟩
    case round =>
      clear R3 R4 C3 C4 hn3 hn4 hle hg hon
      obtain ⟨A1, n1, c1, l1, A2, n2, c2, l2, rfl, rfl, R1, R2, C1, C2, hn1, hn2, hle, hgh, hg, hon⟩ := hrel
      have HG := Lib.hid hg
      clear hg
      have hlen : n2 ≤ n1 := by have := clean_len_le R1.ok C2 hle; rwa [R1.len, R2.len] at this
      by_cases hgt : 2 < n2
      · have hp2 : 0 < val l2 := val_pos C2 (by rw [R2.len]; omega)
        go_wp2_with fail
        refine (steps_of _ _ _ _ _ _ _ _ _ R1 R2 C1 (by omega) hlen (by omega) hle).mono ?_
        rintro e w1 ⟨p0, q0, a, b, c, d, p, q, rfl, hS, hon1⟩
        have HS := Lib.hid hS
        clear hS
        have R1' := R1.on hon1
        have R2' := R2.on hon1
        have honw := hon.trans hon1
        clear R1 R2 hon hon1
        have hne := @val_lt l1 R1'.ok
        rw [R1'.len] at hne
        by_cases hb : b = 0
        · have t1 : (b == 0) = true := by simp [hb]
          have HB := Lib.hid hb
          clear hb
          go_wp2_with fail
          refine (divlong_of _ _ _ _ _ _ _ _ _ (R1'.alloc _) (R2'.alloc _) C2 (by omega) hlen (by omega)).mono ?_
          rintro e w2 ⟨A5, n5, c5, A6, n6, c6, rfl, _, ⟨rs, RR, CR, VR, LR⟩, hon2⟩
          have hlt : val l1 % val l2 < val l2 := Nat.mod_lt _ hp2
          have HG2 : Hid (Nat.gcd (val l2) (val rs) = gg) := Lib.hid (by rw [VR, Nat.gcd_comm, ← Nat.gcd_rec, Nat.gcd_comm, HG.out])
          have HV := Lib.hid VR
          have HL := Lib.hid hlt
          clear VR hlt
          go_wp2
          go_roundg (val rs)
          case measure => have := HV.out; have := HL.out; omega
          case rel => exact ⟨_, _, _, l2, _, _, _, rs, rfl, rfl, (R2'.alloc _).on hon2, RR, C2, CR, hn2, by omega, by have := HV.out; have := HL.out; omega, Nat.le_refl _, HG2.out, (honw.alloc _).trans hon2⟩
        · have t1 : (b == 0) = false := by simp [hb]
          have HL := Lib.hid (lehmer_ok HS.out hb hne)
          clear hb hne
          go_wp2
          have hown := Own.new w1 89 #[.int .i64 a, .int .i64 b, .int .i64 c, .int .i64 d]
          have hond := honw.alloc (.cells #[.int .i64 a, .int .i64 b, .int .i64 c, .int .i64 d] 89)
          have R1d := R1'.alloc (.cells #[.int .i64 a, .int .i64 b, .int .i64 c, .int .i64 d] 89)
          have R2d := R2'.alloc (.cells #[.int .i64 a, .int .i64 b, .int .i64 c, .int .i64 d] 89)
          obtain ⟨wd, hwd⟩ : ∃ wd, w1.alloc (.cells #[.int .i64 a, .int .i64 b, .int .i64 c, .int .i64 d] 89) = wd := ⟨_, rfl⟩
          rw [hwd] at hown hond R1d R2d ⊢
          clear hwd R1' R2' honw
          have d0 : wd.cell? ⟨w1.heap.size, 0, none⟩ = some (.int .i64 a) := hown.cell 0
          have d1 : wd.cell? ⟨w1.heap.size, 1, none⟩ = some (.int .i64 b) := hown.cell 1
          have d2 : wd.cell? ⟨w1.heap.size, 2, none⟩ = some (.int .i64 c) := hown.cell 2
          have d3 : wd.cell? ⟨w1.heap.size, 3, none⟩ = some (.int .i64 d) := hown.cell 3
          have ok1 := HL.out.1
          have ok2 := HL.out.2.1
          go_region_held3 (fun W => On wd W ∧ W.cell? ⟨w1.heap.size, 0, none⟩ = some (.int .i64 a) ∧ W.cell? ⟨w1.heap.size, 1, none⟩ = some (.int .i64 b) ∧ W.cell? ⟨w1.heap.size, 2, none⟩ = some (.int .i64 c) ∧ W.cell? ⟨w1.heap.size, 3, none⟩ = some (.int .i64 d))
            (first
              | exact ⟨(On.refl wd).drew, d0, d1, d2, d3⟩
              | (go_split_ands; exact ⟨On.trans (by assumption) P7, cell_later (On.below P7) (by assumption), cell_later (On.below P7) (by assumption), cell_later (On.below P7) (by assumption), cell_later (On.below P7) (by assumption)⟩))
            ((go_at_call 80; refine (combine_of _ _ _ _ _ _ _ _ _ (R1d.on ?_) (R2d.on ?_) (by omega) hlen _ _ ?_).mono ?_; (first | assumption | (go_split_ands; assumption)); (first | assumption | (go_split_ands; assumption)); (first | exact ok1 | exact ok2); rintro e w' ⟨A7, n7, c7, rfl, N7, P7⟩))
          rename_i wa Aa na ca Na Pa hHe
          have Nb := Na.on P7
          have honz : On w w' := hond.trans hHe.1
          have HH := Lib.hid hHe
          clear hHe Na Pa P7 d0 d1 d2 d3 hown R1d R2d hond ok1 ok2
          obtain ⟨X, hX⟩ : ∃ X, (a * (val l1 : Int) + b * (val l2 : Int)).toNat = X := ⟨_, rfl⟩
          obtain ⟨Y, hY⟩ : ∃ Y, (c * (val l1 : Int) + d * (val l2 : Int)).toNat = Y := ⟨_, rfl⟩
          have HLL := HL.out.2.2
          rw [hX, hY] at HLL
          rw [hX] at Nb
          rw [hY] at N7
          clear hX hY HL
          obtain ⟨g1, g2, g3⟩ := HLL
          rw [HG.out] at g3
          obtain ⟨la, Ra, Ca, Va, La⟩ := Nb
          obtain ⟨lb, Rb, Cb, Vb, Lb⟩ := N7
          rw [← Va, ← Vb] at g3
          rw [← Va, ← Vb] at g2
          rw [← Vb] at g1
          have HG3 := Lib.hid g3
          clear g3 Va Vb
          go_wp2
          go_roundg (val lb)
          case measure => omega
          case rel => exact ⟨_, _, _, la, _, _, _, lb, rfl, rfl, Ra, Rb, Ca, Cb, by omega, by omega, g2, Nat.le_refl _, HG3.out, honz⟩
      · rcases Nat.eq_zero_or_pos n2 with h0 | h0
        · subst h0
          obtain rfl := List.eq_nil_of_length_eq_zero R2.len
          have hgz : gg = val l1 := by rw [← HG.out]; simp [val]
          have HGZ := Lib.hid hgz
          clear hgz
          go_wp2
          go_ret
          exact ⟨_, _, _, rfl, ⟨l1, R1, C1, HGZ.out.symm, hn1⟩, hon⟩
        · have hb1 : ((n2 : Int) == 0) = false := by simp; omega
          have hp2 : 0 < val l2 := val_pos C2 (by rw [R2.len]; omega)
          by_cases h2 : 2 < n1
          · go_wp2_with fail
            refine (div_any _ _ _ _ _ _ _ n1 2 _ _ R1 R2 hp2 (by omega) (by rw [C1, R1.len]; omega) (by rw [C2, R2.len]; omega) (by omega)).mono ?_
            rintro e w1 ⟨A5, n5, c5, A6, n6, c6, rfl, _, ⟨rs, RR, CR, VR, LR⟩, hon1⟩
            have HG2 : Hid (Nat.gcd (val l2) (val rs) = gg) := Lib.hid (by rw [VR, Nat.gcd_comm, ← Nat.gcd_rec, Nat.gcd_comm, HG.out])
            have R2' := R2.on hon1
            clear VR
            have hm3 : val l2 ≤ 18446744073709551615 := two_words R2' (by omega)
            have hm4 : val rs ≤ 18446744073709551615 := two_words RR (by omega)
            go_wp2_with fail
            refine (to64_any _ _ _ _ _ R2' (by omega)).mono ?_
            rintro e w' ⟨rfl, rfl⟩
            go_wp2_with fail
            refine (to64_any _ _ _ _ _ RR (by omega)).mono ?_
            rintro e w' ⟨rfl, rfl⟩
            go_wp2_with fail
            refine (gcd64_any _ _ _ hm3 hm4).mono ?_
            rintro e w5 ⟨rfl, hon5⟩
            rw [HG2.out]
            have hgl2 : gg ≤ 18446744073709551615 := by rw [← HG2.out]; exact gcd_le2 hm3 hm4
            go_wp2_with fail
            refine (of64_any _ _ (by omega) (by omega)).mono ?_
            rintro e w6 ⟨A6, n6, c6, rfl, N6, hon6⟩
            rw [Int.toNat_natCast] at N6
            go_wp2
            go_ret
            obtain ⟨l6, r1, r2, r3, r4⟩ := N6
            exact ⟨_, _, _, rfl, ⟨l6, r1, r2, r3, by omega⟩, ((hon.trans hon1).trans hon5).trans hon6⟩
          · have hz : ¬ 2 < n1 := h2
            have hm3 : val l1 ≤ 18446744073709551615 := two_words R1 (by omega)
            have hm4 : val l2 ≤ 18446744073709551615 := two_words R2 (by omega)
            go_wp2_with fail
            refine (to64_any _ _ _ _ _ R1 (by omega)).mono ?_
            rintro e w' ⟨rfl, rfl⟩
            go_wp2_with fail
            refine (to64_any _ _ _ _ _ R2 (by omega)).mono ?_
            rintro e w' ⟨rfl, rfl⟩
            go_wp2_with fail
            refine (gcd64_any _ _ _ hm3 hm4).mono ?_
            rintro e w5 ⟨rfl, hon5⟩
            rw [HG.out]
            have hgl2 : gg ≤ 18446744073709551615 := by rw [← HG.out]; exact gcd_le2 hm3 hm4
            go_wp2_with fail
            refine (of64_any _ _ (by omega) (by omega)).mono ?_
            rintro e w6 ⟨A6, n6, c6, rfl, N6, hon6⟩
            rw [Int.toNat_natCast] at N6
            go_wp2
            go_ret
            obtain ⟨l6, r1, r2, r3, r4⟩ := N6
            exact ⟨_, _, _, rfl, ⟨l6, r1, r2, r3, by omega⟩, (hon.trans hon5).trans hon6⟩
end Num
end Go.Proofs.Ytkpeliokhmigoaa
