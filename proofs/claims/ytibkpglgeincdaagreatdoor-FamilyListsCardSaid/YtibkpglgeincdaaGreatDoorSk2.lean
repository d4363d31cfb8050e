/-
  The specification's Sort, Minimal, Support, Check, for any list of ints; and the errors of all.
-/
import Derived.Test.YtibkpglgeincdaaGreatDoorSk1
import Derived.Test.YtibkpglgeincdaaGreatDoorSg2
import Derived.Test.YtibkpglgeincdaaGreatDoorSfa
namespace Go.Proofs.YtibkpglgeincdaaGreatDoor.Sb
open Go.RowKit
set_option linter.unusedVariables false
set_option maxRecDepth 100000
set_option maxHeartbeats 2000000 in
theorem rSort_badl (w : World) (A : Option Addr) (n c : Nat) (l : List Int) (h : Rd w A n c (VI l)) (hb : lerr l ≠ 0) :
    Calls Tryz.prog 12 #[.slice A n c] w fun e w' => e = .returned (.tuple #[.slice none 0 0, .int .i64 (lerr l : Nat)]) ∧ On w w' := by
  have hA := Error_any w A n c l h
  generalize lerr l = E at *
  have h0 : ¬ (E : Int) = 0 := by omega
  clear h
  go_enter Tryz.func12, Tryz.ntmps12
  go_wp2_with fail
  refine hA.mono ?_
  rintro e w1 ⟨rfl, rfl⟩
  go_wp2
  go_ret2
  exact ⟨rfl, On.refl _⟩
set_option maxHeartbeats 2000000 in
theorem rMinimal_badl (w : World) (A : Option Addr) (n c : Nat) (l : List Int) (h : Rd w A n c (VI l)) (hb : lerr l ≠ 0) :
    Calls Tryz.prog 13 #[.slice A n c] w fun e w' => e = .returned (.tuple #[.slice none 0 0, .int .i64 (lerr l : Nat)]) ∧ On w w' := by
  have hA := Error_any w A n c l h
  generalize lerr l = E at *
  have h0 : ¬ (E : Int) = 0 := by omega
  clear h
  go_enter Tryz.func13, Tryz.ntmps13
  go_wp2_with fail
  refine hA.mono ?_
  rintro e w1 ⟨rfl, rfl⟩
  go_wp2
  go_ret2
  exact ⟨rfl, On.refl _⟩
set_option maxHeartbeats 2000000 in
theorem rMaximal_badl (w : World) (A : Option Addr) (n c : Nat) (l : List Int) (h : Rd w A n c (VI l)) (hb : lerr l ≠ 0) :
    Calls Tryz.prog 14 #[.slice A n c] w fun e w' => e = .returned (.tuple #[.slice none 0 0, .int .i64 (lerr l : Nat)]) ∧ On w w' := by
  have hA := Error_any w A n c l h
  generalize lerr l = E at *
  have h0 : ¬ (E : Int) = 0 := by omega
  clear h
  go_enter Tryz.func14, Tryz.ntmps14
  go_wp2_with fail
  refine hA.mono ?_
  rintro e w1 ⟨rfl, rfl⟩
  go_wp2
  go_ret2
  exact ⟨rfl, On.refl _⟩
set_option maxHeartbeats 2000000 in
theorem rSizes_badl (w : World) (A : Option Addr) (n c : Nat) (l : List Int) (h : Rd w A n c (VI l)) (hb : lerr l ≠ 0) :
    Calls Tryz.prog 16 #[.slice A n c] w fun e w' => e = .returned (.tuple #[.slice none 0 0, .int .i64 (lerr l : Nat)]) ∧ On w w' := by
  have hA := Error_any w A n c l h
  generalize lerr l = E at *
  have h0 : ¬ (E : Int) = 0 := by omega
  clear h
  go_enter Tryz.func16, Tryz.ntmps16
  go_wp2_with fail
  refine hA.mono ?_
  rintro e w1 ⟨rfl, rfl⟩
  go_wp2
  go_ret2
  exact ⟨rfl, On.refl _⟩
set_option maxHeartbeats 2000000 in
theorem rSupport_badl (w : World) (A : Option Addr) (n c : Nat) (l : List Int) (h : Rd w A n c (VI l)) (hb : lerr l ≠ 0) :
    Calls Tryz.prog 15 #[.slice A n c] w fun e w' => e = .returned (.tuple #[.int .i64 0, .int .i64 (lerr l : Nat)]) ∧ On w w' := by
  have hA := Error_any w A n c l h
  generalize lerr l = E at *
  have h0 : ¬ (E : Int) = 0 := by omega
  clear h
  go_enter Tryz.func15, Tryz.ntmps15
  go_wp2_with fail
  refine hA.mono ?_
  rintro e w1 ⟨rfl, rfl⟩
  go_wp2
  go_ret2
  exact ⟨rfl, On.refl _⟩
set_option maxHeartbeats 2000000 in
theorem rCheck_badl (w : World) (A : Option Addr) (n c : Nat) (l : List Int) (h : Rd w A n c (VI l)) (hb : lerr l ≠ 0) :
    Calls Tryz.prog 20 #[.slice A n c] w fun e w' => e = .returned (.int .i64 (lerr l : Nat)) ∧ On w w' := by
  have hA := Error_any w A n c l h
  generalize lerr l = E at *
  have h0 : ¬ (E : Int) = 0 := by omega
  clear h
  go_enter Tryz.func20, Tryz.ntmps20
  go_wp2_with fail
  refine hA.mono ?_
  rintro e w1 ⟨rfl, rfl⟩
  go_wp2
  go_ret
  exact ⟨rfl, On.refl _⟩
set_option maxHeartbeats 2000000 in
theorem rSort_ok (w : World) (A : Option Addr) (n c : Nat) (k : List Nat) (h : Rd w A n c (VI (ints k))) (hk : Ok k) (hl : k.length ≤ 1024) :
    Calls Tryz.prog 12 #[.slice A n c] w fun e w' => ∃ A n c, e = .returned (.tuple #[.slice A n c, .int .i64 0]) ∧ Rd w' A n c (VI (ints (sortU k))) ∧ On w w' := by
  have hn : k.length = n := by have := h.len; rw [ints_len] at this; exact this
  have hA := Error_any w A n c _ h
  rw [lerr_ok hk hl] at hA
  have hS := rsort_any n w A n c k (Nat.le_refl _) h hk (by omega)
  clear h
  go_enter Tryz.func12, Tryz.ntmps12
  go_wp2_with fail
  refine hA.mono ?_
  rintro e w' ⟨rfl, rfl⟩
  go_wp2_with fail
  refine hS.mono ?_
  rintro e w2 ⟨A', n', c', rfl, R, P⟩
  go_wp2
  go_ret2
  exact ⟨A', n', c', rfl, R, P⟩
theorem rSort_all (w : World) (A : Option Addr) (n c : Nat) (l : List Int) (h : Rd w A n c (VI l)) :
    Calls Tryz.prog 12 #[.slice A n c] w (GivesK w (oneR sortU l).1 (oneR sortU l).2) := by
  unfold oneR
  by_cases hb : lerr l = 0
  · rw [if_pos hb]
    obtain ⟨e1, o1, l1⟩ := lerr_nats l hb
    rw [e1] at h
    refine (rSort_ok w A n c _ h o1 l1).mono ?_
    rintro e w' ⟨A', n', c', rfl, R, P⟩
    exact ⟨A', n', c', rfl, R, P⟩
  · rw [if_neg hb]
    refine (rSort_badl w A n c l h hb).mono ?_
    rintro e w' ⟨rfl, P⟩
    exact ⟨none, 0, 0, rfl, Rd.nil_ _, P⟩
set_option maxHeartbeats 2000000 in
theorem rMinimal_ok (w : World) (A : Option Addr) (n c : Nat) (k : List Nat) (h : Rd w A n c (VI (ints k))) (hk : Ok k) (hl : k.length ≤ 1024) :
    Calls Tryz.prog 13 #[.slice A n c] w fun e w' => ∃ A n c, e = .returned (.tuple #[.slice A n c, .int .i64 0]) ∧ Rd w' A n c (VI (ints (minL k))) ∧ On w w' := by
  have hn : k.length = n := by have := h.len; rw [ints_len] at this; exact this
  have hA := Error_any w A n c _ h
  rw [lerr_ok hk hl] at hA
  have hS := rleast_any w A n c k h hk (by omega)
  clear h
  go_enter Tryz.func13, Tryz.ntmps13
  go_wp2_with fail
  refine hA.mono ?_
  rintro e w' ⟨rfl, rfl⟩
  go_wp2_with fail
  refine hS.mono ?_
  rintro e w2 ⟨A', n', c', rfl, R, P⟩
  go_wp2
  go_ret2
  exact ⟨A', n', c', rfl, R, P⟩
theorem rMinimal_all (w : World) (A : Option Addr) (n c : Nat) (l : List Int) (h : Rd w A n c (VI l)) :
    Calls Tryz.prog 13 #[.slice A n c] w (GivesK w (oneR minL l).1 (oneR minL l).2) := by
  unfold oneR
  by_cases hb : lerr l = 0
  · rw [if_pos hb]
    obtain ⟨e1, o1, l1⟩ := lerr_nats l hb
    rw [e1] at h
    refine (rMinimal_ok w A n c _ h o1 l1).mono ?_
    rintro e w' ⟨A', n', c', rfl, R, P⟩
    exact ⟨A', n', c', rfl, R, P⟩
  · rw [if_neg hb]
    refine (rMinimal_badl w A n c l h hb).mono ?_
    rintro e w' ⟨rfl, P⟩
    exact ⟨none, 0, 0, rfl, Rd.nil_ _, P⟩
set_option maxHeartbeats 2000000 in
theorem rCheck_ok (w : World) (A : Option Addr) (n c : Nat) (k : List Nat) (h : Rd w A n c (VI (ints k))) (hk : Ok k) (hl : k.length ≤ 1024) :
    Calls Tryz.prog 20 #[.slice A n c] w fun e w' => e = .returned (.int .i64 (chk k : Nat)) ∧ On w w' := by
  have hn : k.length = n := by have := h.len; rw [ints_len] at this; exact this
  have hA := Error_any w A n c _ h
  rw [lerr_ok hk hl] at hA
  have hS := rsort_any n w A n c k (Nat.le_refl _) h hk (by omega)
  have H := Lib.hid h
  clear h
  unfold chk
  by_cases h1 : k = sortU k
  · rw [if_pos h1]
    by_cases h2 : k = minL k
    · rw [if_pos h2]
      go_enter Tryz.func20, Tryz.ntmps20
      go_wp2_with fail
      refine hA.mono ?_
      rintro e w' ⟨rfl, rfl⟩
      go_wp2_with fail
      refine hS.mono ?_
      rintro e w2 ⟨A', n', c', rfl, R, P⟩
      have hI := ints_any w2 A n c _ A' n' c' _ (H.out.on P) R
      rw [decide_eq_true (congrArg ints h1)] at hI
      go_wp2_with fail
      refine hI.mono ?_
      rintro e w3 ⟨rfl, P3⟩
      have R3 := (H.out.on P).on P3
      have hL := rleast_any w3 A n c k R3 hk (by omega)
      go_wp2_with fail
      refine hL.mono ?_
      rintro e w4 ⟨A4, n4, c4, rfl, R4, P4⟩
      have hJ := ints_any w4 A n c _ A4 n4 c4 _ (R3.on P4) R4
      rw [decide_eq_true (congrArg ints h2)] at hJ
      go_wp2_with fail
      refine hJ.mono ?_
      rintro e w5 ⟨rfl, P5⟩
      go_wp2
      go_ret
      exact ⟨rfl, P.trans (P3.trans (P4.trans P5))⟩
    · rw [if_neg h2]
      go_enter Tryz.func20, Tryz.ntmps20
      go_wp2_with fail
      refine hA.mono ?_
      rintro e w' ⟨rfl, rfl⟩
      go_wp2_with fail
      refine hS.mono ?_
      rintro e w2 ⟨A', n', c', rfl, R, P⟩
      have hI := ints_any w2 A n c _ A' n' c' _ (H.out.on P) R
      rw [decide_eq_true (congrArg ints h1)] at hI
      go_wp2_with fail
      refine hI.mono ?_
      rintro e w3 ⟨rfl, P3⟩
      have R3 := (H.out.on P).on P3
      have hL := rleast_any w3 A n c k R3 hk (by omega)
      go_wp2_with fail
      refine hL.mono ?_
      rintro e w4 ⟨A4, n4, c4, rfl, R4, P4⟩
      have hJ := ints_any w4 A n c _ A4 n4 c4 _ (R3.on P4) R4
      rw [decide_eq_false (fun e => h2 (ints_inj.1 e))] at hJ
      go_wp2_with fail
      refine hJ.mono ?_
      rintro e w5 ⟨rfl, P5⟩
      go_wp2
      go_ret
      exact ⟨rfl, P.trans (P3.trans (P4.trans P5))⟩
  · rw [if_neg h1]
    go_enter Tryz.func20, Tryz.ntmps20
    go_wp2_with fail
    refine hA.mono ?_
    rintro e w' ⟨rfl, rfl⟩
    go_wp2_with fail
    refine hS.mono ?_
    rintro e w2 ⟨A', n', c', rfl, R, P⟩
    have hI := ints_any w2 A n c _ A' n' c' _ (H.out.on P) R
    rw [decide_eq_false (fun e => h1 (ints_inj.1 e))] at hI
    go_wp2_with fail
    refine hI.mono ?_
    rintro e w3 ⟨rfl, P3⟩
    go_wp2
    go_ret
    exact ⟨rfl, P.trans P3⟩
theorem rCheck_all (w : World) (A : Option Addr) (n c : Nat) (l : List Int) (h : Rd w A n c (VI l)) :
    Calls Tryz.prog 20 #[.slice A n c] w fun e w' => e = .returned (.int .i64 (chkR l : Nat)) ∧ On w w' := by
  unfold chkR
  by_cases hb : lerr l = 0
  · rw [if_pos hb]
    obtain ⟨e1, o1, l1⟩ := lerr_nats l hb
    rw [e1] at h
    exact rCheck_ok w A n c _ h o1 l1
  · rw [if_neg hb]
    exact rCheck_badl w A n c l h hb
end Go.Proofs.YtibkpglgeincdaaGreatDoor.Sb
