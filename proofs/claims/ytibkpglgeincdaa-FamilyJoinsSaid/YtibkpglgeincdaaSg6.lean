/-
  The statement FamilyJoins, walked: Plus, Product and Same, and their errors.
-/
import Derived.Test.YtibkpglgeincdaaSg5
namespace Go.Proofs.Ytibkpglgeincdaa.Sb
open Go.RowKit
set_option linter.unusedVariables false
set_option maxRecDepth 100000
set_option maxHeartbeats 8000000 in
theorem joins_law (w : World) (A : Option Addr) (n c : Nat) (l : List Int) (B : Option Addr) (m d : Nat) (k : List Int) (h : Rd w A n c (VI l)) (h2 : Rd w B m d (VI k)) :
    Calls Try.prog 3 #[.slice A n c, .slice B m d] w fun e w' => e = .returned (.bool true) ∧ On w w' := by
  have hV := few2 w A n c l h B m d k h2
  have P1 := (On.refl w).alloc (.cells #[.slice A n c, .slice B m d] 22)
  have hA := fun W => awake_any W
  by_cases hok : (fewB l && fewB k) = true
  · rw [hok] at hV
    rw [Bool.and_eq_true] at hok
    have sh1 := fun he => fewB_short hok.1 he
    have sh2 := fun he => fewB_short hok.2 he
    have ha := h.on P1
    have hb := h2.on P1
    have hP := fun W h h2 => Plus_all W A n c l h B m d k h2
    have hQ := fun W h h2 => Product_all W A n c l h B m d k h2
    have hS := fun W h h2 => Same_all W A n c l h B m d k h2
    have hP' := fun W h h2 => rplus_all W A n c l h B m d k h2
    have hQ' := fun W h h2 => rproduct_all W A n c l h B m d k h2 sh1 sh2
    have hS' := fun W h h2 => rsame_all W A n c l h B m d k h2
    generalize (plusR l k).1 = L1 at *
    generalize (plusR l k).2 = E1 at *
    generalize (prodR l k).1 = L2 at *
    generalize (prodR l k).2 = E2 at *
    generalize (sameR l k).1 = b3 at *
    generalize (sameR l k).2 = E3 at *
    have hN1 := fun W => num_any W E1
    have hN2 := fun W => num_any W E2
    have hN3 := fun W => num_any W E3
    obtain ⟨v1, hv1⟩ : ∃ v, errV E1 = v := ⟨_, rfl⟩
    obtain ⟨v2, hv2⟩ : ∃ v, errV E2 = v := ⟨_, rfl⟩
    obtain ⟨v3, hv3⟩ : ∃ v, errV E3 = v := ⟨_, rfl⟩
    unfold GivesI at hP hQ
    unfold GivesK at hP' hQ'
    simp only [hv1] at hP hN1
    simp only [hv2] at hQ hN2
    simp only [hv3] at hS hN3
    clear hok h h2 sh1 sh2 hv1 hv2 hv3
    go_enter Try.func3, Try.ntmps3
    go_wp2_with fail
    refine hV.mono ?_
    rintro e w1 ⟨rfl, rfl⟩
    generalize w.alloc (.cells #[.slice A n c, .slice B m d] 22) = w1 at *
    clear hV
    go_wp2_with fail
    refine (hA _).mono ?_
    rintro e w2 ⟨rfl, P2⟩
    replace ha := ha.on P2
    replace hb := hb.on P2
    replace P1 := P1.trans P2
    clear hA P2
    go_wp2_with fail
    refine (hP _ ha hb).mono ?_
    rintro e w3 ⟨A3, n3, c3, rfl, R3, P3⟩
    replace ha := ha.on P3
    replace hb := hb.on P3
    replace P1 := P1.trans P3
    clear hP P3
    go_wp2_with fail
    refine (hQ _ ha hb).mono ?_
    rintro e w4 ⟨A4, n4, c4, rfl, R4, P4⟩
    replace ha := ha.on P4
    replace hb := hb.on P4
    replace P1 := P1.trans P4
    replace R3 := R3.on P4
    clear hQ P4
    go_wp2_with fail
    refine (hS _ ha hb).mono ?_
    rintro e w5 ⟨rfl, P5⟩
    replace ha := ha.on P5
    replace hb := hb.on P5
    replace P1 := P1.trans P5
    replace R3 := R3.on P5
    replace R4 := R4.on P5
    clear hS P5
    go_wp2_with fail
    refine (hP' _ ha hb).mono ?_
    rintro e w6 ⟨A6, n6, c6, rfl, R6, P6⟩
    replace ha := ha.on P6
    replace hb := hb.on P6
    replace P1 := P1.trans P6
    replace R3 := R3.on P6
    replace R4 := R4.on P6
    clear hP' P6
    go_wp2_with fail
    refine (hQ' _ ha hb).mono ?_
    rintro e w7 ⟨A7, n7, c7, rfl, R7, P7⟩
    replace ha := ha.on P7
    replace hb := hb.on P7
    replace P1 := P1.trans P7
    replace R3 := R3.on P7
    replace R4 := R4.on P7
    replace R6 := R6.on P7
    clear hQ' P7
    go_wp2_with fail
    refine (hS' _ ha hb).mono ?_
    rintro e w8 ⟨rfl, P8⟩
    replace P1 := P1.trans P8
    replace R3 := R3.on P8
    replace R4 := R4.on P8
    replace R6 := R6.on P8
    replace R7 := R7.on P8
    clear hS' P8 ha hb
    have I1 := ints_any _ _ _ _ _ _ _ _ _ R3 R6
    rw [decide_eq_true rfl] at I1
    go_wp2_with fail
    refine (hN1 _).mono ?_
    rintro e w' ⟨rfl, rfl⟩
    go_wp2_with fail
    refine I1.mono ?_
    rintro e w9 ⟨rfl, P9⟩
    replace P1 := P1.trans P9
    have I2 := ints_any _ _ _ _ _ _ _ _ _ (R4.on P9) (R7.on P9)
    rw [decide_eq_true rfl] at I2
    clear I1 R3 R6 R4 R7 hN1 P9
    go_wp2_with fail
    refine (hN2 _).mono ?_
    rintro e w' ⟨rfl, rfl⟩
    go_wp2_with fail
    refine I2.mono ?_
    rintro e w10 ⟨rfl, P10⟩
    replace P1 := P1.trans P10
    clear I2 hN2 P10
    go_wp2_with fail
    refine (hN3 _).mono ?_
    rintro e w' ⟨rfl, rfl⟩
    clear hN3
    go_wp2
    go_ret
    exact ⟨rfl, P1⟩
  · have hok2 : (fewB l && fewB k) = false := by simpa using hok
    rw [hok2] at hV
    clear hok hok2
    go_enter Try.func3, Try.ntmps3
    go_wp2_with fail
    refine hV.mono ?_
    rintro e w1 ⟨rfl, rfl⟩
    generalize w.alloc (.cells #[.slice A n c, .slice B m d] 22) = w1 at *
    clear hV
    go_wp2_with fail
    refine (hA _).mono ?_
    rintro e w2 ⟨rfl, P2⟩
    go_wp2
    go_ret
    exact ⟨rfl, P1.trans P2⟩
end Go.Proofs.Ytibkpglgeincdaa.Sb
