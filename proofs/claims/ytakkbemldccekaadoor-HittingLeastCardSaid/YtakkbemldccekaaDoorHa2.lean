/-
  HittingLeast: the walk.
-/
import Derived.Test.YtakkbemldccekaaDoorHa0
import Derived.Test.YtakkbemldccekaaDoorHra
import Derived.Test.YtakkbemldccekaaDoorHrb
namespace Go.Proofs.YtakkbemldccekaaDoor.Sb
open Go.RowKit
set_option linter.unusedVariables false
set_option maxRecDepth 100000
set_option maxHeartbeats 8000000 in
theorem hleast_any (w : World) (A : Option Addr) (n c : Nat) (la : List Int) (B : Option Addr) (m d : Nat) (lb : List Int) (s : Int) (R1 : Rd w A n c (VI la)) (R2 : Rd w B m d (VI lb)) (_ : -9223372036854775808 ≤ s ∧ s ≤ 9223372036854775807) (hT : Tab w) :
    Calls Tryd.prog 4 #[.slice A n c, .slice B m d, .int .i64 s] w fun e w' => e = .returned (.bool true) ∧ On w w' := by
  have hF1 := hfew_any w A n c la R1
  have hAW := hawake_any w hT
  have capA := R1.cap
  have maxA := R1.max
  have capB := R2.cap
  have maxB := R2.max
  have K1 := Lib.hid (fun W (k : On w W) => Least_all W A n c la (R1.on k) (hT.on k))
  have K2 := Lib.hid (fun W (k : On w W) => Cheapest_all W A n c la (R1.on k) B m d lb (R2.on k) (hT.on k))
  have HMIN := fun W (k : On w W) => HMinimal_all W A n c la (R1.on k) s
  have K4 := Lib.hid (fun W (k : On w W) => rLeast_all W A n c la (R1.on k))
  have K5 := Lib.hid (fun W (k : On w W) => rCheapest_all W A n c la (R1.on k) B m d lb (R2.on k))
  have HRMIN := fun W (k : On w W) => rMinimal_any W A n c la (R1.on k) s
  generalize minR la s = FD at HMIN HRMIN
  obtain ⟨fd, ed⟩ := FD
  simp only at HMIN HRMIN
  have K3 := Lib.hid HMIN
  have K6 := Lib.hid HRMIN
  generalize fewH la = b1 at hF1
  clear HMIN HRMIN R1 R2 hT
  go_enter Tryd.func4, Tryd.ntmps4
  go_wp2_with fail
  refine hF1.mono ?_
  rintro e w' ⟨rfl, rfl⟩
  have back : ∀ x : Bool, x = true ∨ x = false := fun x => by cases x <;> simp
  cases b1 with
  | false =>
    go_wp2_with fail
    refine hAW.mono ?_
    rintro e w1 ⟨rfl, P1⟩
    go_wp2
    go_ret
    exact ⟨rfl, P1⟩
  | true =>
    by_cases hmid : 8 < n ∧ n ≤ 1024
    · have d1 : decide ((8 : Int) < (n : Int)) = true := decide_eq_true (by omega)
      have d2 : decide ((n : Int) ≤ 1024) = true := decide_eq_true (by omega)
      go_wp2_with fail
      refine hAW.mono ?_
      rintro e w1 ⟨rfl, P1⟩
      go_wp2
      go_ret
      exact ⟨rfl, P1⟩
    · by_cases h40 : 40 < m
      · have d3 : decide ((40 : Int) < (m : Int)) = true := decide_eq_true (by omega)
        by_cases h8 : 8 < n
        · have d1 : decide ((8 : Int) < (n : Int)) = true := decide_eq_true (by omega)
          have d2 : decide ((n : Int) ≤ 1024) = false := decide_eq_false (by omega)
          go_wp2_with fail
          refine hAW.mono ?_
          rintro e w1 ⟨rfl, P1⟩
          go_wp2
          go_ret
          exact ⟨rfl, P1⟩
        · have d1 : decide ((8 : Int) < (n : Int)) = false := decide_eq_false (by omega)
          go_wp2_with fail
          refine hAW.mono ?_
          rintro e w1 ⟨rfl, P1⟩
          go_wp2
          go_ret
          exact ⟨rfl, P1⟩
      · have d3 : decide ((40 : Int) < (m : Int)) = false := decide_eq_false (by omega)
        by_cases h8 : 8 < n
        · have d1 : decide ((8 : Int) < (n : Int)) = true := decide_eq_true (by omega)
          have d2 : decide ((n : Int) ≤ 1024) = false := decide_eq_false (by omega)
          go_wp2_with fail
          refine hAW.mono ?_
          rintro e w1 ⟨rfl, P1⟩
          clear hAW hF1
          go_wp2_with fail
          refine (K1.out w1 P1).mono ?_
          rintro e w2 ⟨s1, e1, hL1, rfl, Q2⟩
          have P2 := P1.trans Q2
          go_wp2_with fail
          refine (K2.out w2 P2).mono ?_
          rintro e w3 ⟨s2, t2, e2, hC2, rfl, Q3⟩
          have P3 := P2.trans Q3
          go_wp2_with fail
          refine (K3.out w3 P3).mono ?_
          rintro e w4 ⟨rfl, Q4⟩
          have P4 := P3.trans Q4
          go_wp2_with fail
          refine (K4.out w4 P4).mono ?_
          rintro e w5 ⟨s5, e5, hL5, rfl, Q5⟩
          obtain ⟨rfl, rfl⟩ := hL1.uniq hL5
          have P5 := P4.trans Q5
          go_wp2_with fail
          refine (K5.out w5 P5).mono ?_
          rintro e w6 ⟨s6, t6, e6, hC6, rfl, Q6⟩
          obtain ⟨rfl, rfl, rfl⟩ := hC2.uniq hC6
          have P6 := P5.trans Q6
          go_wp2_with fail
          refine (K6.out w6 P6).mono ?_
          rintro e w7 ⟨rfl, Q7⟩
          have P7 := Lib.hid (P6.trans Q7)
          clear K1 K2 K3 K4 K5 K6 P1 P2 P3 P4 P5 P6 Q2 Q3 Q4 Q5 Q6 Q7 hL1 hL5 hC2 hC6 d1 d3 h40 h8 hmid
          have hbb : (fd == fd) = true := by cases fd <;> rfl
          go_wp2_with fail
          refine (num_any w7 e1).mono ?_
          rintro e w' ⟨rfl, rfl⟩
          go_wp2_with fail
          refine (num_any w7 e2).mono ?_
          rintro e w' ⟨rfl, rfl⟩
          go_wp2_with fail
          refine (num_any w7 ed).mono ?_
          rintro e w' ⟨rfl, rfl⟩
          go_wp2
          go_ret
          exact ⟨rfl, P7.out⟩
        · have d1 : decide ((8 : Int) < (n : Int)) = false := decide_eq_false (by omega)
          go_wp2_with fail
          refine hAW.mono ?_
          rintro e w1 ⟨rfl, P1⟩
          clear hAW hF1
          go_wp2_with fail
          refine (K1.out w1 P1).mono ?_
          rintro e w2 ⟨s1, e1, hL1, rfl, Q2⟩
          have P2 := P1.trans Q2
          go_wp2_with fail
          refine (K2.out w2 P2).mono ?_
          rintro e w3 ⟨s2, t2, e2, hC2, rfl, Q3⟩
          have P3 := P2.trans Q3
          go_wp2_with fail
          refine (K3.out w3 P3).mono ?_
          rintro e w4 ⟨rfl, Q4⟩
          have P4 := P3.trans Q4
          go_wp2_with fail
          refine (K4.out w4 P4).mono ?_
          rintro e w5 ⟨s5, e5, hL5, rfl, Q5⟩
          obtain ⟨rfl, rfl⟩ := hL1.uniq hL5
          have P5 := P4.trans Q5
          go_wp2_with fail
          refine (K5.out w5 P5).mono ?_
          rintro e w6 ⟨s6, t6, e6, hC6, rfl, Q6⟩
          obtain ⟨rfl, rfl, rfl⟩ := hC2.uniq hC6
          have P6 := P5.trans Q6
          go_wp2_with fail
          refine (K6.out w6 P6).mono ?_
          rintro e w7 ⟨rfl, Q7⟩
          have P7 := Lib.hid (P6.trans Q7)
          clear K1 K2 K3 K4 K5 K6 P1 P2 P3 P4 P5 P6 Q2 Q3 Q4 Q5 Q6 Q7 hL1 hL5 hC2 hC6 d1 d3 h40 h8 hmid
          have hbb : (fd == fd) = true := by cases fd <;> rfl
          go_wp2_with fail
          refine (num_any w7 e1).mono ?_
          rintro e w' ⟨rfl, rfl⟩
          go_wp2_with fail
          refine (num_any w7 e2).mono ?_
          rintro e w' ⟨rfl, rfl⟩
          go_wp2_with fail
          refine (num_any w7 ed).mono ?_
          rintro e w' ⟨rfl, rfl⟩
          go_wp2
          go_ret
          exact ⟨rfl, P7.out⟩
end Go.Proofs.YtakkbemldccekaaDoor.Sb
