/-
  HittingAll: the walk.
-/
import Derived.Test.YtakkbemldccekaaDoorHa0
import Derived.Test.YtakkbemldccekaaDoorHra
namespace Go.Proofs.YtakkbemldccekaaDoor.Sb
open Go.RowKit
set_option linter.unusedVariables false
set_option maxRecDepth 100000
set_option maxHeartbeats 8000000 in
theorem hall_any (w : World) (A : Option Addr) (n c : Nat) (la : List Int) (B : Option Addr) (m d : Nat) (lb : List Int) (R1 : Rd w A n c (VI la)) (R2 : Rd w B m d (VI lb)) (hT : Tab w) :
    Calls Tryd.prog 3 #[.slice A n c, .slice B m d] w fun e w' => e = .returned (.bool true) ∧ On w w' := by
  have hF1 := hfew_any w A n c la R1
  have hF2 := hfew_any w B m d lb R2
  have hAW := hawake_any w hT
  have HALL := fun W (k : On w W) => All_all W A n c la (R1.on k)
  have HPACK := fun W (k : On w W) => Packing_all W A n c la (R1.on k)
  have HDUAL := fun W (k : On w W) => Dual_all W A n c la (R1.on k) B m d lb (R2.on k)
  have HRALL := fun W (k : On w W) => rAll_all W A n c la (R1.on k)
  have HRPACK := fun W (k : On w W) => rPacking_all W A n c la (R1.on k)
  have HRDUAL := fun W (k : On w W) => rDual_all W A n c la (R1.on k) B m d lb (R2.on k)
  generalize allR la = FA at HALL HRALL
  generalize packR la = FP at HPACK HRPACK
  generalize dualR la lb = FD at HDUAL HRDUAL
  obtain ⟨fa, ea⟩ := FA
  obtain ⟨fp, ep⟩ := FP
  obtain ⟨fd, ed⟩ := FD
  simp only at HALL HRALL HPACK HRPACK HDUAL HRDUAL
  have K1 := Lib.hid HALL
  have K2 := Lib.hid HPACK
  have K3 := Lib.hid HDUAL
  have K4 := Lib.hid HRALL
  have K5 := Lib.hid HRPACK
  have K6 := Lib.hid HRDUAL
  generalize fewH la = b1 at hF1
  generalize fewH lb = b2 at hF2
  clear HALL HPACK HDUAL HRALL HRPACK HRDUAL R1 R2 hT
  go_enter Tryd.func3, Tryd.ntmps3
  go_wp2_with fail
  refine hF1.mono ?_
  rintro e w' ⟨rfl, rfl⟩
  cases b1 with
  | false =>
    go_wp2_with fail
    refine hAW.mono ?_
    rintro e w1 ⟨rfl, P1⟩
    go_wp2
    go_ret
    exact ⟨rfl, P1⟩
  | true =>
    go_wp2_with fail
    refine hF2.mono ?_
    rintro e w' ⟨rfl, rfl⟩
    cases b2 with
    | false =>
      go_wp2_with fail
      refine hAW.mono ?_
      rintro e w1 ⟨rfl, P1⟩
      go_wp2
      go_ret
      exact ⟨rfl, P1⟩
    | true =>
      go_wp2_with fail
      refine hAW.mono ?_
      rintro e w1 ⟨rfl, P1⟩
      clear hAW hF1 hF2
      go_wp2_with fail
      refine (K1.out w1 P1).mono ?_
      rintro e w2 ⟨A2, n2, c2, rfl, S2, Q2⟩
      have P2 := P1.trans Q2
      go_wp2_with fail
      refine (K2.out w2 P2).mono ?_
      rintro e w3 ⟨A3, n3, c3, rfl, S3, Q3⟩
      have P3 := P2.trans Q3
      replace S2 := S2.on Q3
      go_wp2_with fail
      refine (K3.out w3 P3).mono ?_
      rintro e w4 ⟨rfl, Q4⟩
      have P4 := P3.trans Q4
      replace S2 := S2.on Q4
      replace S3 := S3.on Q4
      go_wp2_with fail
      refine (K4.out w4 P4).mono ?_
      rintro e w5 ⟨A5, n5, c5, rfl, S5, Q5⟩
      have P5 := P4.trans Q5
      replace S2 := S2.on Q5
      replace S3 := S3.on Q5
      go_wp2_with fail
      refine (K5.out w5 P5).mono ?_
      rintro e w6 ⟨A6, n6, c6, rfl, S6, Q6⟩
      have P6 := P5.trans Q6
      replace S2 := S2.on Q6
      replace S3 := S3.on Q6
      replace S5 := S5.on Q6
      go_wp2_with fail
      refine (K6.out w6 P6).mono ?_
      rintro e w7 ⟨rfl, Q7⟩
      have P7 := P6.trans Q7
      replace S2 := S2.on Q7
      replace S3 := S3.on Q7
      replace S5 := S5.on Q7
      replace S6 := S6.on Q7
      clear K1 K2 K3 K4 K5 K6 P1 P2 P3 P4 P5 P6 Q2 Q3 Q4 Q5 Q6 Q7
      go_wp2_with fail
      refine (num_any w7 ea).mono ?_
      rintro e w' ⟨rfl, rfl⟩
      have I1 := ints_any _ _ _ _ _ _ _ _ _ S2 S5
      rw [decide_eq_true rfl] at I1
      go_wp2_with fail
      refine I1.mono ?_
      rintro e w8 ⟨rfl, Q8⟩
      replace S3 := S3.on Q8
      replace S6 := S6.on Q8
      have P8 := P7.trans Q8
      clear I1 S2 S5 P7 Q8
      go_wp2_with fail
      refine (num_any w8 ep).mono ?_
      rintro e w' ⟨rfl, rfl⟩
      have I2 := ints_any _ _ _ _ _ _ _ _ _ S3 S6
      rw [decide_eq_true rfl] at I2
      go_wp2_with fail
      refine I2.mono ?_
      rintro e w9 ⟨rfl, Q9⟩
      have P9 := P8.trans Q9
      clear I2 S3 S6 P8 Q9
      go_wp2_with fail
      refine (num_any w9 ed).mono ?_
      rintro e w' ⟨rfl, rfl⟩
      have hbb : (fd == fd) = true := by cases fd <;> rfl
      go_wp2
      go_ret
      exact ⟨rfl, P9⟩
end Go.Proofs.YtakkbemldccekaaDoor.Sb
