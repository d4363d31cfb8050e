/-
  The statement FamilyLists, walked: Check, Sort, Minimal, Maximal, Support, Sizes and Text, and their errors.
-/
import Derived.Test.YtibkpglgeincdaaGreatDoorSf9
import Derived.Test.YtibkpglgeincdaaGreatDoorSg5
import Derived.Test.YtibkpglgeincdaaGreatDoorSk2
import Derived.Test.YtibkpglgeincdaaGreatDoorSk7
import Derived.Test.YtibkpglgeincdaaGreatDoorSk8
namespace Go.Proofs.YtibkpglgeincdaaGreatDoor.Sb
open Go.RowKit
set_option linter.unusedVariables false
set_option maxRecDepth 100000
set_option maxHeartbeats 16000000 in
theorem lists6_law (w : World) (A : Option Addr) (n c : Nat) (l : List Int) (h : Rd w A n c (VI l)) :
    Calls Tryz.prog 3 #[.slice A n c] w fun e w' => e = .returned (.bool true) ∧ On w w' := by
  have hA := fun W => awake_any W
  have hV := few1 _ A n c l h
  have P1 := (On.refl w).alloc (.cells #[.slice A n c] 22)
  by_cases hok : fewB l = true
  · rw [hok] at hV
    have R1 := h.on P1
    obtain ⟨L1, E1, V1, W1⟩ : ∃ (L : List Nat) (E : Nat), (∀ W, Rd W A n c (VI l) → Calls Tryz.prog 6 #[.slice A n c] W (GivesI W (ints L) E)) ∧ (∀ W, Rd W A n c (VI l) → Calls Tryz.prog 12 #[.slice A n c] W (GivesK W L E)) := ⟨_, _, fun W h => Sort_all W A n c l h, fun W h => rSort_all W A n c l h⟩
    obtain ⟨L2, E2, V2, W2⟩ : ∃ (L : List Nat) (E : Nat), (∀ W, Rd W A n c (VI l) → Calls Tryz.prog 7 #[.slice A n c] W (GivesI W (ints L) E)) ∧ (∀ W, Rd W A n c (VI l) → Calls Tryz.prog 13 #[.slice A n c] W (GivesK W L E)) := ⟨_, _, fun W h => Minimal_all W A n c l h, fun W h => rMinimal_all W A n c l h⟩
    obtain ⟨L3, E3, V3, W3⟩ : ∃ (L : List Nat) (E : Nat), (∀ W, Rd W A n c (VI l) → Calls Tryz.prog 8 #[.slice A n c] W (GivesI W (ints L) E)) ∧ (∀ W, Rd W A n c (VI l) → Calls Tryz.prog 14 #[.slice A n c] W (GivesK W L E)) := ⟨_, _, fun W h => Maximal_all W A n c l h, fun W h => rMaximal_all W A n c l h⟩
    obtain ⟨x4, E4, V4, W4⟩ : ∃ (x : Nat) (E : Nat), (∀ W, Rd W A n c (VI l) → Calls Tryz.prog 9 #[.slice A n c] W fun e w' => e = .returned (.tuple #[.int .i64 (x : Int), errV E]) ∧ On W w') ∧ (∀ W, Rd W A n c (VI l) → Calls Tryz.prog 15 #[.slice A n c] W fun e w' => e = .returned (.tuple #[.int .i64 (x : Int), .int .i64 (E : Int)]) ∧ On W w') := ⟨_, _, fun W h => Support_all W A n c l h, fun W h => rSupport_all W A n c l h⟩
    obtain ⟨L5, E5, V5, W5⟩ : ∃ (L : List Nat) (E : Nat), (∀ W, Rd W A n c (VI l) → Calls Tryz.prog 10 #[.slice A n c] W (GivesI W (ints L) E)) ∧ (∀ W, Rd W A n c (VI l) → Calls Tryz.prog 16 #[.slice A n c] W (GivesK W L E)) := ⟨_, _, fun W h => Sizes_all W A n c l h, fun W h => rSizes_all W A n c l h⟩
    obtain ⟨T6, E6, V6, W6⟩ : ∃ (T : ByteArray) (E : Nat), (∀ W, Rd W A n c (VI l) → Calls Tryz.prog 11 #[.slice A n c] W fun e w' => e = .returned (.tuple #[.string T, errV E]) ∧ On W w') ∧ (∀ W, Rd W A n c (VI l) → Calls Tryz.prog 17 #[.slice A n c] W fun e w' => e = .returned (.tuple #[.string T, .int .i64 (E : Int)]) ∧ On W w') := ⟨_, _, fun W h => Text_all W A n c l h, fun W h => rText_all W A n c l h⟩
    obtain ⟨E7, V7, W7⟩ : ∃ (E : Nat), (∀ W, Rd W A n c (VI l) → Calls Tryz.prog 19 #[.slice A n c] W fun e w' => e = .returned (errV E) ∧ On W w') ∧ (∀ W, Rd W A n c (VI l) → Calls Tryz.prog 20 #[.slice A n c] W fun e w' => e = .returned (.int .i64 (E : Int)) ∧ On W w') := ⟨_, fun W h => Check_all W A n c l h, fun W h => rCheck_all W A n c l h⟩
    clear hok h
    go_enter Tryz.func3, Tryz.ntmps3
    go_wp2_with fail
    refine hV.mono ?_
    rintro e w1 ⟨rfl, rfl⟩
    generalize w.alloc (.cells #[.slice A n c] 22) = w1 at *
    clear hV
    go_wp2_with fail
    refine (hA _).mono ?_
    rintro e w2 ⟨rfl, P2⟩
    replace R1 := R1.on P2
    replace P1 := P1.trans P2
    clear hA P2
    go_wp2_with fail
    refine (V1 _ R1).mono ?_
    rintro e w3 ⟨A1, n1, c1, rfl, S1, P2⟩
    replace R1 := R1.on P2
    replace P1 := P1.trans P2
    clear V1 P2
    go_wp2_with fail
    refine (V2 _ R1).mono ?_
    rintro e w4 ⟨A2, n2, c2, rfl, S2, P2⟩
    replace R1 := R1.on P2
    replace S1 := S1.on P2
    replace P1 := P1.trans P2
    clear V2 P2
    go_wp2_with fail
    refine (V3 _ R1).mono ?_
    rintro e w5 ⟨A3, n3, c3, rfl, S3, P2⟩
    replace R1 := R1.on P2
    replace S1 := S1.on P2
    replace S2 := S2.on P2
    replace P1 := P1.trans P2
    clear V3 P2
    go_wp2_with fail
    refine (V4 _ R1).mono ?_
    rintro e w6 ⟨rfl, P2⟩
    replace R1 := R1.on P2
    replace S1 := S1.on P2
    replace S2 := S2.on P2
    replace S3 := S3.on P2
    replace P1 := P1.trans P2
    clear V4 P2
    go_wp2_with fail
    refine (V5 _ R1).mono ?_
    rintro e w7 ⟨A5, n5, c5, rfl, S5, P2⟩
    replace R1 := R1.on P2
    replace S1 := S1.on P2
    replace S2 := S2.on P2
    replace S3 := S3.on P2
    replace P1 := P1.trans P2
    clear V5 P2
    go_wp2_with fail
    refine (V6 _ R1).mono ?_
    rintro e w8 ⟨rfl, P2⟩
    replace R1 := R1.on P2
    replace S1 := S1.on P2
    replace S2 := S2.on P2
    replace S3 := S3.on P2
    replace S5 := S5.on P2
    replace P1 := P1.trans P2
    clear V6 P2
    go_wp2_with fail
    refine (W1 _ R1).mono ?_
    rintro e w9 ⟨B1, m1, d1, rfl, T1, P2⟩
    replace R1 := R1.on P2
    replace S1 := S1.on P2
    replace S2 := S2.on P2
    replace S3 := S3.on P2
    replace S5 := S5.on P2
    replace P1 := P1.trans P2
    clear W1 P2
    go_wp2_with fail
    refine (W2 _ R1).mono ?_
    rintro e w10 ⟨B2, m2, d2, rfl, T2, P2⟩
    replace R1 := R1.on P2
    replace S1 := S1.on P2
    replace S2 := S2.on P2
    replace S3 := S3.on P2
    replace S5 := S5.on P2
    replace T1 := T1.on P2
    replace P1 := P1.trans P2
    clear W2 P2
    go_wp2_with fail
    refine (W3 _ R1).mono ?_
    rintro e w11 ⟨B3, m3, d3, rfl, T3, P2⟩
    replace R1 := R1.on P2
    replace S1 := S1.on P2
    replace S2 := S2.on P2
    replace S3 := S3.on P2
    replace S5 := S5.on P2
    replace T1 := T1.on P2
    replace T2 := T2.on P2
    replace P1 := P1.trans P2
    clear W3 P2
    go_wp2_with fail
    refine (W4 _ R1).mono ?_
    rintro e w12 ⟨rfl, P2⟩
    replace R1 := R1.on P2
    replace S1 := S1.on P2
    replace S2 := S2.on P2
    replace S3 := S3.on P2
    replace S5 := S5.on P2
    replace T1 := T1.on P2
    replace T2 := T2.on P2
    replace T3 := T3.on P2
    replace P1 := P1.trans P2
    clear W4 P2
    go_wp2_with fail
    refine (W5 _ R1).mono ?_
    rintro e w13 ⟨B5, m5, d5, rfl, T5, P2⟩
    replace R1 := R1.on P2
    replace S1 := S1.on P2
    replace S2 := S2.on P2
    replace S3 := S3.on P2
    replace S5 := S5.on P2
    replace T1 := T1.on P2
    replace T2 := T2.on P2
    replace T3 := T3.on P2
    replace P1 := P1.trans P2
    clear W5 P2
    go_wp2_with fail
    refine (W6 _ R1).mono ?_
    rintro e w14 ⟨rfl, P2⟩
    replace R1 := R1.on P2
    replace P1 := P1.trans P2
    have U1 := ints_any _ _ _ _ _ _ _ _ _ (S1.on P2) (T1.on P2)
    have U2 := fun W (hW : On w14 W) => ints_any _ _ _ _ _ _ _ _ _ ((S2.on P2).on hW) ((T2.on P2).on hW)
    have U3 := fun W (hW : On w14 W) => ints_any _ _ _ _ _ _ _ _ _ ((S3.on P2).on hW) ((T3.on P2).on hW)
    have U5 := fun W (hW : On w14 W) => ints_any _ _ _ _ _ _ _ _ _ ((S5.on P2).on hW) ((T5.on P2).on hW)
    have U1' := fun W (hW : On w14 W) => ints_any _ _ _ _ _ _ _ _ _ ((S1.on P2).on hW) ((T1.on P2).on hW)
    simp only [decide_true] at U1' U2 U3 U5
    clear W6 P2 U1 S1 S2 S3 S5 T1 T2 T3 T5
    go_wp2_with fail
    refine (V7 _ R1).mono ?_
    rintro e w15 ⟨rfl, Q⟩
    replace R1 := R1.on Q
    go_wp2_with fail
    refine (num_any _ E7).mono ?_
    rintro e w' ⟨rfl, rfl⟩
    go_wp2_with fail
    refine (W7 _ R1).mono ?_
    rintro e w16 ⟨rfl, P2⟩
    replace Q := Q.trans P2
    clear P2 R1 V7 W7
    go_wp2_with fail
    refine (num_any _ E1).mono ?_
    rintro e w' ⟨rfl, rfl⟩
    go_wp2_with fail
    refine (U1' _ Q).mono ?_
    rintro e w17 ⟨rfl, P2⟩
    replace Q := Q.trans P2
    clear P2 U1'
    go_wp2_with fail
    refine (num_any _ E2).mono ?_
    rintro e w' ⟨rfl, rfl⟩
    go_wp2_with fail
    refine (U2 _ Q).mono ?_
    rintro e w18 ⟨rfl, P2⟩
    replace Q := Q.trans P2
    clear P2 U2
    go_wp2_with fail
    refine (num_any _ E3).mono ?_
    rintro e w' ⟨rfl, rfl⟩
    go_wp2_with fail
    refine (U3 _ Q).mono ?_
    rintro e w19 ⟨rfl, P2⟩
    replace Q := Q.trans P2
    clear P2 U3
    go_wp2_with fail
    refine (num_any _ E4).mono ?_
    rintro e w' ⟨rfl, rfl⟩
    go_wp2_with fail
    refine (num_any _ E5).mono ?_
    rintro e w' ⟨rfl, rfl⟩
    go_wp2_with fail
    refine (U5 _ Q).mono ?_
    rintro e w20 ⟨rfl, P2⟩
    replace Q := Q.trans P2
    clear P2 U5
    go_wp2_with fail
    refine (num_any _ E6).mono ?_
    rintro e w' ⟨rfl, rfl⟩
    go_wp2
    go_ret
    exact ⟨rfl, P1.trans Q⟩
  · have hok2 : fewB l = false := by simpa using hok
    rw [hok2] at hV
    clear hok hok2 h
    go_enter Tryz.func3, Tryz.ntmps3
    go_wp2_with fail
    refine hV.mono ?_
    rintro e w1 ⟨rfl, rfl⟩
    generalize w.alloc (.cells #[.slice A n c] 22) = w1 at *
    clear hV
    go_wp2_with fail
    refine (hA _).mono ?_
    rintro e w2 ⟨rfl, P2⟩
    go_wp2
    go_ret
    exact ⟨rfl, P1.trans P2⟩
end Go.Proofs.YtibkpglgeincdaaGreatDoor.Sb
