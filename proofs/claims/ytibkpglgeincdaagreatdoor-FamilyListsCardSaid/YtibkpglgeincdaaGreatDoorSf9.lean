/-
  What the statements about families share: the document's examples.
-/
import Derived.Test.YtibkpglgeincdaaGreatDoorSf8
namespace Go.Proofs.YtibkpglgeincdaaGreatDoor.Sb
open Go.RowKit
set_option linter.unusedVariables false
set_option maxRecDepth 100000
theorem ex_min : minL [3, 1, 6] = [1, 6] := by decide +kernel
theorem ex_prod : minL (uni [1, 2] [1, 4]) = [1, 6] := by decide +kernel
theorem ex_left : minL (left [3, 4] 1 0) = [2, 4] := by decide +kernel
theorem ok_of (l : List Nat) (h : l.all (fun x => decide (x < 16777216)) = true) : Ok l := fun x hx => of_decide_eq_true (List.all_eq_true.1 h x hx)
set_option maxHeartbeats 4000000 in
theorem awake_any (w : World) :
    Calls Tryz.prog 5 #[] w fun e w' => e = .returned (.bool true) ∧ On w w' := by
  have R1 := rd_lit w 3 #[.int .i64 3, .int .i64 1, .int .i64 6] (VI (ints [3, 1, 6])) 3 rfl rfl (by omega)
  have hM := Minimal_ok _ _ _ _ _ R1 (ok_of _ (by decide)) (by decide)
  rw [ex_min] at hM
  have P1 := (On.refl w).alloc (.cells #[.int .i64 3, .int .i64 1, .int .i64 6] 3)
  go_enter Tryz.func5, Tryz.ntmps5
  go_wp2_with fail
  refine hM.mono ?_
  rintro e w1 ⟨A1, n1, c1, rfl, Ra, P2⟩
  have R2 := (rd_lit w1 3 #[.int .i64 1, .int .i64 2] (VI (ints [1, 2])) 2 rfl rfl (by omega)).alloc (.cells #[.int .i64 1, .int .i64 4] 3)
  have R3 := rd_lit (w1.alloc (.cells #[.int .i64 1, .int .i64 2] 3)) 3 #[.int .i64 1, .int .i64 4] (VI (ints [1, 4])) 2 rfl rfl (by omega)
  have e3 : (w1.alloc (.cells #[.int .i64 1, .int .i64 2] 3)).heap.size = w1.heap.size + 1 := by simp
  rw [e3] at R3
  have hP := Product_ok _ _ _ _ _ R2 (ok_of _ (by decide)) (by decide) _ _ _ _ R3 (ok_of _ (by decide)) (by decide)
  rw [ex_prod] at hP
  have P3 := ((On.refl w1).alloc (.cells #[.int .i64 1, .int .i64 2] 3)).alloc (.cells #[.int .i64 1, .int .i64 4] 3)
  clear hM R1 R2 R3 e3
  go_wp2_with fail
  refine hP.mono ?_
  rintro e w2 hg
  obtain ⟨A2, n2, c2, rfl, Rb, P4⟩ := hg.ok (by decide)
  have R4 := rd_lit w2 3 #[.int .i64 3, .int .i64 4] (VI (ints [3, 4])) 2 rfl rfl (by omega)
  have hR := Restrict_ok _ _ _ _ _ R4 (ok_of _ (by decide)) (by decide) 1 0 (by omega) (by omega) (Nat.and_zero 1)
  rw [ex_left] at hR
  have P5 := (On.refl w2).alloc (.cells #[.int .i64 3, .int .i64 4] 3)
  clear hP hg R4
  go_wp2_with fail
  refine hR.mono ?_
  rintro e w3 ⟨A3, n3, c3, rfl, Rc, P6⟩
  have P36 : On w w3 := ((((P1.trans P2).trans P3).trans P4).trans P5).trans P6
  have Ra3 := Ra.on (((P3.trans P4).trans P5).trans P6)
  have Rb3 := Rb.on (P5.trans P6)
  clear hR Ra Rb P1 P2 P3 P4 P5 P6
  have I1 := ints_any _ _ _ _ _ _ _ _ _ (Ra3.alloc (.cells #[.int .i64 1, .int .i64 6] 3)) (rd_lit w3 3 #[.int .i64 1, .int .i64 6] (VI (ints [1, 6])) 2 rfl rfl (by omega))
  rw [decide_eq_true rfl] at I1
  go_wp2_with fail
  refine I1.mono ?_
  rintro e w4 ⟨rfl, P7⟩
  have P8 := ((On.refl w3).alloc _).trans P7
  have Rb4 := Rb3.on P8
  have Rc4 := Rc.on P8
  have I2 := ints_any _ _ _ _ _ _ _ _ _ (Rb4.alloc (.cells #[.int .i64 1, .int .i64 6] 3)) (rd_lit w4 3 #[.int .i64 1, .int .i64 6] (VI (ints [1, 6])) 2 rfl rfl (by omega))
  rw [decide_eq_true rfl] at I2
  clear I1
  go_wp2_with fail
  refine I2.mono ?_
  rintro e w5 ⟨rfl, P9⟩
  have P10 := ((On.refl w4).alloc _).trans P9
  have Rc5 := Rc4.on P10
  have I3 := ints_any _ _ _ _ _ _ _ _ _ (Rc5.alloc (.cells #[.int .i64 2, .int .i64 4] 3)) (rd_lit w5 3 #[.int .i64 2, .int .i64 4] (VI (ints [2, 4])) 2 rfl rfl (by omega))
  rw [decide_eq_true rfl] at I3
  clear I2
  go_wp2_with fail
  refine I3.mono ?_
  rintro e w6 ⟨rfl, P11⟩
  clear I3
  go_wp2
  go_ret
  exact ⟨rfl, ((P36.trans P8).trans P10).trans (((On.refl w5).alloc _).trans P11)⟩
end Go.Proofs.YtibkpglgeincdaaGreatDoor.Sb
