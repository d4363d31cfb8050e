/-
  The statement FamilyMeets, walked: Covers, Meets and Restrict, and their errors.
-/
import Derived.Test.YtibkpglgeincdaaSg5
import Derived.Test.YtibkpglgeincdaaSg7
import Derived.Test.YtibkpglgeincdaaSarr
namespace Go.Proofs.Ytibkpglgeincdaa.Sb
open Go.RowKit
set_option linter.unusedVariables false
set_option maxRecDepth 100000
set_option maxHeartbeats 8000000 in
theorem meets_law (w : World) (A : Option Addr) (n c : Nat) (l : List Int) (x0 x1 : Int) (h : Rd w A n c (VI l)) :
    Calls Try.prog 4 #[.slice A n c, .agg #[.int .i64 x0, .int .i64 x1]] w fun e w' => e = .returned (.bool true) ∧ On w w' := by
  have PB := (On.refl w).alloc (.cells #[.int .i64 x0, .int .i64 x1] 37)
  have hb := h.on PB
  have C0 : (w.alloc (.cells #[.int .i64 x0, .int .i64 x1] 37)).cell? ⟨w.heap.size, 0, none⟩ = some (.int .i64 x0) := by rw [(Own.new w 37 _).cell]; rfl
  have C1 : (w.alloc (.cells #[.int .i64 x0, .int .i64 x1] 37)).cell? ⟨w.heap.size, 1, none⟩ = some (.int .i64 x1) := by rw [(Own.new w 37 _).cell]; rfl
  have es : (w.alloc (.cells #[.int .i64 x0, .int .i64 x1] 37)).heap.size = w.heap.size + 1 := by simp
  have hA := fun W => awake_any W
  have hV := few1 _ A n c l hb
  rw [es] at hV
  have P1 := (On.refl (w.alloc (.cells #[.int .i64 x0, .int .i64 x1] 37))).alloc (.cells #[.slice A n c] 22)
  by_cases hok : fewB l = true
  · rw [hok] at hV
    have R1 := hb.on P1
    have D0 := (Below.cell P1 (p := ⟨w.heap.size, 0, none⟩) (by rw [es]; exact Nat.lt_succ_self _)).trans C0
    have D1 := (Below.cell P1 (p := ⟨w.heap.size, 1, none⟩) (by rw [es]; exact Nat.lt_succ_self _)).trans C1
    have PB1 := PB.trans P1
    have hlt : w.heap.size < ((w.alloc (.cells #[.int .i64 x0, .int .i64 x1] 37)).alloc (.cells #[.slice A n c] 22)).heap.size := by simp; omega
    have hC := fun W h => Covers_all W A n c l h x0
    have hM := fun W h => Meets_all W A n c l h x0
    have hR := fun W h => Restrict_all W A n c l h x0 x1
    have hC' := fun W h => rcovers_all W A n c l h x0
    have hM' := fun W h => rmeets_all W A n c l h x0
    have hR' := fun W h => rrestrict_all W A n c l h x0 x1
    generalize (coversR l x0).1 = b1 at *
    generalize (coversR l x0).2 = E1 at *
    generalize (meetsR l x0).1 = b2 at *
    generalize (meetsR l x0).2 = E2 at *
    generalize (restrR l x0 x1).1 = L3 at *
    generalize (restrR l x0 x1).2 = E3 at *
    have hN1 := fun W => num_any W E1
    have hN2 := fun W => num_any W E2
    have hN3 := fun W => num_any W E3
    obtain ⟨v1, hv1⟩ : ∃ v, errV E1 = v := ⟨_, rfl⟩
    obtain ⟨v2, hv2⟩ : ∃ v, errV E2 = v := ⟨_, rfl⟩
    obtain ⟨v3, hv3⟩ : ∃ v, errV E3 = v := ⟨_, rfl⟩
    unfold GivesI at hR
    unfold GivesK at hR'
    simp only [hv1] at hC hN1
    simp only [hv2] at hM hN2
    simp only [hv3] at hR hN3
    clear hok h hb C0 C1 PB P1 es hv1 hv2 hv3
    go_enter Try.func4, Try.ntmps4
    go_wp2_with fail
    refine hV.mono ?_
    rintro e w1 ⟨rfl, rfl⟩
    generalize ((w.alloc (.cells #[.int .i64 x0, .int .i64 x1] 37)).alloc (.cells #[.slice A n c] 22)) = w1 at *
    clear hV
    go_wp2_with fail
    refine (hA _).mono ?_
    rintro e w2 ⟨rfl, P2⟩
    have E0 := (Below.cell P2 (p := ⟨w.heap.size, 0, none⟩) hlt).trans D0
    have F0 := (Below.cell P2 (p := ⟨w.heap.size, 1, none⟩) hlt).trans D1
    have hl2 := Nat.lt_of_lt_of_le hlt P2.size
    replace R1 := R1.on P2
    replace PB1 := PB1.trans P2
    clear D0 D1 hA P2 hlt
    go_wp2_with fail
    refine (hC _ R1).mono ?_
    rintro e w3 ⟨rfl, P3⟩
    replace E0 := (Below.cell P3 (p := ⟨w.heap.size, 0, none⟩) hl2).trans E0
    replace F0 := (Below.cell P3 (p := ⟨w.heap.size, 1, none⟩) hl2).trans F0
    replace hl2 := Nat.lt_of_lt_of_le hl2 P3.size
    replace R1 := R1.on P3
    replace PB1 := PB1.trans P3
    clear P3 hC
    go_wp2_with fail
    refine (hM _ R1).mono ?_
    rintro e w4 ⟨rfl, P4⟩
    replace E0 := (Below.cell P4 (p := ⟨w.heap.size, 0, none⟩) hl2).trans E0
    replace F0 := (Below.cell P4 (p := ⟨w.heap.size, 1, none⟩) hl2).trans F0
    replace hl2 := Nat.lt_of_lt_of_le hl2 P4.size
    replace R1 := R1.on P4
    replace PB1 := PB1.trans P4
    clear P4 hM
    go_wp2_with fail
    refine (hR _ R1).mono ?_
    rintro e w5 ⟨A5, n5, c5, rfl, R5, P5⟩
    replace E0 := (Below.cell P5 (p := ⟨w.heap.size, 0, none⟩) hl2).trans E0
    replace F0 := (Below.cell P5 (p := ⟨w.heap.size, 1, none⟩) hl2).trans F0
    replace hl2 := Nat.lt_of_lt_of_le hl2 P5.size
    replace R1 := R1.on P5
    replace PB1 := PB1.trans P5
    clear P5 hR
    go_wp2_with fail
    refine (hC' _ R1).mono ?_
    rintro e w6 ⟨rfl, P6⟩
    replace E0 := (Below.cell P6 (p := ⟨w.heap.size, 0, none⟩) hl2).trans E0
    replace F0 := (Below.cell P6 (p := ⟨w.heap.size, 1, none⟩) hl2).trans F0
    replace hl2 := Nat.lt_of_lt_of_le hl2 P6.size
    replace R1 := R1.on P6
    replace R5 := R5.on P6
    replace PB1 := PB1.trans P6
    clear P6 hC'
    go_wp2_with fail
    refine (hM' _ R1).mono ?_
    rintro e w7 ⟨rfl, P7⟩
    replace E0 := (Below.cell P7 (p := ⟨w.heap.size, 0, none⟩) hl2).trans E0
    replace F0 := (Below.cell P7 (p := ⟨w.heap.size, 1, none⟩) hl2).trans F0
    replace hl2 := Nat.lt_of_lt_of_le hl2 P7.size
    replace R1 := R1.on P7
    replace R5 := R5.on P7
    replace PB1 := PB1.trans P7
    clear P7 hM'
    go_wp2_with fail
    refine (hR' _ R1).mono ?_
    rintro e w8 ⟨A8, n8, c8, rfl, R8, P8⟩
    replace R5 := R5.on P8
    replace PB1 := PB1.trans P8
    clear P8 hR' E0 F0 hl2 R1
    have I1 := ints_any _ _ _ _ _ _ _ _ _ R5 R8
    rw [decide_eq_true rfl] at I1
    go_wp2_with fail
    refine (hN1 _).mono ?_
    rintro e w' ⟨rfl, rfl⟩
    go_wp2_with fail
    refine (hN2 _).mono ?_
    rintro e w' ⟨rfl, rfl⟩
    go_wp2_with fail
    refine (hN3 _).mono ?_
    rintro e w' ⟨rfl, rfl⟩
    go_wp2_with fail
    refine I1.mono ?_
    rintro e w9 ⟨rfl, P9⟩
    go_wp2
    go_ret
    exact ⟨rfl, PB1.trans P9⟩
  · have hok2 : fewB l = false := by simpa using hok
    rw [hok2] at hV
    have PB1 := PB.trans P1
    clear hok hok2 C0 C1 es h hb
    go_enter Try.func4, Try.ntmps4
    go_wp2_with fail
    refine hV.mono ?_
    rintro e w1 ⟨rfl, rfl⟩
    generalize ((w.alloc (.cells #[.int .i64 x0, .int .i64 x1] 37)).alloc (.cells #[.slice A n c] 22)) = w1 at *
    clear hV
    go_wp2_with fail
    refine (hA _).mono ?_
    rintro e w2 ⟨rfl, P2⟩
    go_wp2
    go_ret
    exact ⟨rfl, PB1.trans P2⟩
end Go.Proofs.Ytibkpglgeincdaa.Sb
