/-
  The specification's Maximal, Sizes, Support, for any list of ints.
-/
import Derived.Test.YtibkpglgeincdaaGreatDoorSk3
import Derived.Test.YtibkpglgeincdaaGreatDoorSk4
import Derived.Test.YtibkpglgeincdaaGreatDoorSk5
namespace Go.Proofs.YtibkpglgeincdaaGreatDoor.Sb
open Go.RowKit
set_option linter.unusedVariables false
set_option maxRecDepth 100000
theorem rMaximal_all (w : World) (A : Option Addr) (n c : Nat) (l : List Int) (h : Rd w A n c (VI l)) :
    Calls Tryz.prog 14 #[.slice A n c] w (GivesK w (oneR (maxL) l).1 (oneR (maxL) l).2) := by
  unfold oneR
  by_cases hb : lerr l = 0
  · rw [if_pos hb]
    obtain ⟨e1, o1, l1⟩ := lerr_nats l hb
    rw [e1] at h
    refine (rMaximal_ok w A n c _ h o1 l1).mono ?_
    rintro e w' ⟨A', n', c', rfl, R, P⟩
    exact ⟨A', n', c', rfl, R, P⟩
  · rw [if_neg hb]
    refine (rMaximal_badl w A n c l h hb).mono ?_
    rintro e w' ⟨rfl, P⟩
    exact ⟨none, 0, 0, rfl, Rd.nil_ _, P⟩
theorem rSizes_all (w : World) (A : Option Addr) (n c : Nat) (l : List Int) (h : Rd w A n c (VI l)) :
    Calls Tryz.prog 16 #[.slice A n c] w (GivesK w (oneR (fun k => szs (sortU k)) l).1 (oneR (fun k => szs (sortU k)) l).2) := by
  unfold oneR
  by_cases hb : lerr l = 0
  · rw [if_pos hb]
    obtain ⟨e1, o1, l1⟩ := lerr_nats l hb
    rw [e1] at h
    refine (rSizes_ok w A n c _ h o1 l1).mono ?_
    rintro e w' ⟨A', n', c', rfl, R, P⟩
    exact ⟨A', n', c', rfl, R, P⟩
  · rw [if_neg hb]
    refine (rSizes_badl w A n c l h hb).mono ?_
    rintro e w' ⟨rfl, P⟩
    exact ⟨none, 0, 0, rfl, Rd.nil_ _, P⟩
theorem rSupport_all (w : World) (A : Option Addr) (n c : Nat) (l : List Int) (h : Rd w A n c (VI l)) :
    Calls Tryz.prog 15 #[.slice A n c] w fun e w' => e = .returned (.tuple #[.int .i64 ((supR l).1 : Nat), .int .i64 ((supR l).2 : Nat)]) ∧ On w w' := by
  unfold supR
  by_cases hb : lerr l = 0
  · rw [if_pos hb]
    obtain ⟨e1, o1, l1⟩ := lerr_nats l hb
    rw [e1] at h
    exact rSupport_ok w A n c _ h o1 l1
  · rw [if_neg hb]
    exact rSupport_badl w A n c l h hb
end Go.Proofs.YtibkpglgeincdaaGreatDoor.Sb
