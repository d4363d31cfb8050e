/-
  Package family: Minimal, Support, Check, for any list of ints.
-/
import Derived.Test.YtakkbemldccekaaDoorSg3
import Derived.Test.YtakkbemldccekaaDoorSh4
namespace Go.Proofs.YtakkbemldccekaaDoor.Sb
open Go.RowKit
set_option linter.unusedVariables false
set_option maxRecDepth 100000
/-- a function of sets, after the errors of a list -/
def oneR (f : List Nat → List Nat) (l : List Int) : List Nat × Nat := if lerr l = 0 then (f (natsOf l), 0) else ([], lerr l)
def supR (l : List Int) : Nat × Nat := if lerr l = 0 then (orL (natsOf l), 0) else (0, lerr l)
def chkR (l : List Int) : Nat := if lerr l = 0 then chk (natsOf l) else lerr l
set_option maxHeartbeats 2000000 in
theorem Minimal_badl (w : World) (A : Option Addr) (n c : Nat) (l : List Int) (h : Rd w A n c (VI l)) (hb : lerr l ≠ 0) :
    Calls Tryd.prog 31 #[.slice A n c] w fun e w' => e = .returned (.tuple #[.slice none 0 0, errV (lerr l)]) ∧ On w w' := by
  have hA := accept1 w A n c l h
  have P1 := (On.refl w).alloc (.cells #[.slice A n c] 22)
  generalize lerr l = E at *
  rw [errV_pos E hb] at hA ⊢
  clear h
  go_enter Tryd.func31, Tryd.ntmps31
  go_wp2_with fail
  refine hA.mono ?_
  rintro e w1 ⟨rfl, rfl⟩
  generalize w.alloc (.cells #[.slice A n c] 22) = w1 at *
  go_wp2
  go_ret2
  exact ⟨rfl, P1⟩
theorem Minimal_all (w : World) (A : Option Addr) (n c : Nat) (l : List Int) (h : Rd w A n c (VI l)) :
    Calls Tryd.prog 31 #[.slice A n c] w (GivesI w (ints (oneR (minL) l).1) (oneR (minL) l).2) := by
  unfold oneR
  by_cases hb : lerr l = 0
  · rw [if_pos hb]
    obtain ⟨e1, o1, l1⟩ := lerr_nats l hb
    rw [e1] at h
    refine (Minimal_ok w A n c _ h o1 l1).mono ?_
    rintro e w' ⟨A', n', c', rfl, R, P⟩
    exact ⟨A', n', c', rfl, R, P⟩
  · rw [if_neg hb]
    refine (Minimal_badl w A n c l h hb).mono ?_
    rintro e w' ⟨rfl, P⟩
    exact ⟨none, 0, 0, rfl, Rd.nil_ _, P⟩
set_option maxHeartbeats 2000000 in
theorem Support_badl (w : World) (A : Option Addr) (n c : Nat) (l : List Int) (h : Rd w A n c (VI l)) (hb : lerr l ≠ 0) :
    Calls Tryd.prog 36 #[.slice A n c] w fun e w' => e = .returned (.tuple #[.int .i64 0, errV (lerr l)]) ∧ On w w' := by
  have hA := accept1 w A n c l h
  have P1 := (On.refl w).alloc (.cells #[.slice A n c] 22)
  generalize lerr l = E at *
  rw [errV_pos E hb] at hA ⊢
  clear h
  go_enter Tryd.func36, Tryd.ntmps36
  go_wp2_with fail
  refine hA.mono ?_
  rintro e w1 ⟨rfl, rfl⟩
  generalize w.alloc (.cells #[.slice A n c] 22) = w1 at *
  go_wp2
  go_ret2
  exact ⟨rfl, P1⟩
theorem Support_all (w : World) (A : Option Addr) (n c : Nat) (l : List Int) (h : Rd w A n c (VI l)) :
    Calls Tryd.prog 36 #[.slice A n c] w fun e w' => e = .returned (.tuple #[.int .i64 ((supR l).1 : Nat), errV (supR l).2]) ∧ On w w' := by
  unfold supR
  by_cases hb : lerr l = 0
  · rw [if_pos hb]
    obtain ⟨e1, o1, l1⟩ := lerr_nats l hb
    rw [e1] at h
    exact Support_ok w A n c _ h o1 l1
  · rw [if_neg hb]
    exact Support_badl w A n c l h hb
set_option maxHeartbeats 2000000 in
theorem Check_badl (w : World) (A : Option Addr) (n c : Nat) (l : List Int) (h : Rd w A n c (VI l)) (hb : lerr l ≠ 0) :
    Calls Tryd.prog 30 #[.slice A n c] w fun e w' => e = .returned (errV (lerr l)) ∧ On w w' := by
  have hA := accept1 w A n c l h
  have P1 := (On.refl w).alloc (.cells #[.slice A n c] 22)
  generalize lerr l = E at *
  rw [errV_pos E hb] at hA ⊢
  clear h
  go_enter Tryd.func30, Tryd.ntmps30
  go_wp2_with fail
  refine hA.mono ?_
  rintro e w1 ⟨rfl, rfl⟩
  generalize w.alloc (.cells #[.slice A n c] 22) = w1 at *
  go_wp2
  go_ret
  exact ⟨rfl, P1⟩
theorem Check_all (w : World) (A : Option Addr) (n c : Nat) (l : List Int) (h : Rd w A n c (VI l)) :
    Calls Tryd.prog 30 #[.slice A n c] w fun e w' => e = .returned (errV (chkR l)) ∧ On w w' := by
  unfold chkR
  by_cases hb : lerr l = 0
  · rw [if_pos hb]
    obtain ⟨e1, o1, l1⟩ := lerr_nats l hb
    rw [e1] at h
    exact Check_ok w A n c _ h o1 l1
  · rw [if_neg hb]
    exact Check_badl w A n c l h hb
end Go.Proofs.YtakkbemldccekaaDoor.Sb
