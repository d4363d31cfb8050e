/-
  Package family and its specification: Plus, Product, Same, for any lists.
-/
import Derived.Test.YtibkpglgeincdaaGreatDoorSg2
import Derived.Test.YtibkpglgeincdaaGreatDoorSf8
namespace Go.Proofs.YtibkpglgeincdaaGreatDoor.Sb
open Go.RowKit
set_option linter.unusedVariables false
set_option maxRecDepth 100000
/-- the sets of a list without errors -/
def natsOf (l : List Int) : List Nat := l.map Int.toNat
theorem nats_ints (k : List Nat) : natsOf (ints k) = k := by
  unfold natsOf ints
  rw [List.map_map]
  have : (Int.toNat ∘ fun (i : Nat) => (i : Int)) = id := by funext x; simp
  rw [this, List.map_id]
theorem lerr_nats (l : List Int) (h : lerr l = 0) : l = ints (natsOf l) ∧ Ok (natsOf l) ∧ (natsOf l).length ≤ 1024 := by
  obtain ⟨k, rfl, hk, hl⟩ := lerr_zero l h
  rw [nats_ints]
  exact ⟨rfl, hk, hl⟩
/-- the first error of two lists -/
def both (l k : List Int) : Nat := if lerr l = 0 then lerr k else lerr l
theorem both_zero {l k : List Int} (h : both l k = 0) : lerr l = 0 ∧ lerr k = 0 := by
  unfold both at h
  split at h
  · exact ⟨by assumption, h⟩
  · omega
def lim (L : List Nat) : List Nat × Nat := if L.length ≤ 1024 then (L, 0) else ([], 4)
def plusR (l k : List Int) : List Nat × Nat := if both l k = 0 then lim (minL (natsOf l ++ natsOf k)) else ([], both l k)
def prodR (l k : List Int) : List Nat × Nat := if both l k = 0 then lim (minL (uni (natsOf l) (natsOf k))) else ([], both l k)
def sameR (l k : List Int) : Bool × Nat := if both l k = 0 then (decide (minL (natsOf l) = minL (natsOf k)), 0) else (false, both l k)
theorem GivesM.lim {w w' : World} {L : List Nat} {e : Ending} (h : GivesM w L e w') : GivesI w (ints (lim L).1) (lim L).2 e w' := by
  obtain ⟨P, h | h⟩ := h
  · obtain ⟨hle, A, n, c, he, hr⟩ := h
    unfold Sb.lim
    rw [if_pos hle]
    exact ⟨A, n, c, he, hr, P⟩
  · obtain ⟨hgt, he⟩ := h
    unfold Sb.lim
    rw [if_neg (by omega)]
    exact ⟨none, 0, 0, he, Rd.nil_ _, P⟩
set_option maxHeartbeats 1000000 in
theorem minimals_bad (w : World) (A : Option Addr) (n c : Nat) (l : List Int) (h : Rd w A n c (VI l)) (B : Option Addr) (m d : Nat) (k : List Int) (h2 : Rd w B m d (VI k)) (hb : both l k ≠ 0) :
    Calls Tryz.prog 42 #[.slice A n c, .slice B m d] w fun e w' => e = .returned (.tuple #[.slice none 0 0, .slice none 0 0, errV (both l k)]) ∧ On w w' := by
  have hA := accept2 w A n c _ h B m d _ h2
  have P1 := (On.refl w).alloc (.cells #[.slice A n c, .slice B m d] 22)
  have e : (if lerr l = 0 then lerr k else lerr l) = both l k := rfl
  rw [e] at hA
  generalize both l k = E at *
  rw [errV_pos E hb] at hA ⊢
  clear h h2 e
  go_enter Tryz.func42, Tryz.ntmps42
  go_wp2_with fail
  refine hA.mono ?_
  rintro e w1 ⟨rfl, rfl⟩
  generalize w.alloc (.cells #[.slice A n c, .slice B m d] 22) = w1 at *
  go_wp2
  go_ret3
  exact ⟨rfl, P1⟩
set_option maxHeartbeats 1000000 in
theorem Product_bad (w : World) (A : Option Addr) (n c : Nat) (l : List Int) (h : Rd w A n c (VI l)) (B : Option Addr) (m d : Nat) (k : List Int) (h2 : Rd w B m d (VI k)) (hb : both l k ≠ 0) :
    Calls Tryz.prog 22 #[.slice A n c, .slice B m d] w fun e w' => e = .returned (.tuple #[.slice none 0 0, errV (both l k)]) ∧ On w w' := by
  have hM := minimals_bad w A n c l h B m d k h2 hb
  generalize both l k = E at *
  rw [errV_pos E hb] at hM ⊢
  clear h h2
  go_enter Tryz.func22, Tryz.ntmps22
  go_wp2_with fail
  refine hM.mono ?_
  rintro e w1 ⟨rfl, P1⟩
  go_wp2
  go_ret2
  exact ⟨rfl, P1⟩
theorem Product_all (w : World) (A : Option Addr) (n c : Nat) (l : List Int) (h : Rd w A n c (VI l)) (B : Option Addr) (m d : Nat) (k : List Int) (h2 : Rd w B m d (VI k)) :
    Calls Tryz.prog 22 #[.slice A n c, .slice B m d] w (GivesI w (ints (prodR l k).1) (prodR l k).2) := by
  unfold prodR
  by_cases hb : both l k = 0
  · rw [if_pos hb]
    obtain ⟨h3, h4⟩ := both_zero hb
    obtain ⟨e1, o1, l1⟩ := lerr_nats l h3
    obtain ⟨e2, o2, l2⟩ := lerr_nats k h4
    rw [e1] at h
    rw [e2] at h2
    exact (Product_ok w A n c _ h o1 l1 B m d _ h2 o2 l2).mono fun e w' hg => hg.lim
  · rw [if_neg hb]
    refine (Product_bad w A n c l h B m d k h2 hb).mono ?_
    rintro e w' ⟨rfl, P⟩
    exact ⟨none, 0, 0, rfl, Rd.nil_ _, P⟩
theorem ints_inj {a b : List Nat} : ints a = ints b ↔ a = b := by
  constructor
  · intro h
    have := congrArg natsOf h
    rwa [nats_ints, nats_ints] at this
  · rintro rfl; rfl
/-- a list of the specification, and the number of an error -/
def GivesK (w : World) (l : List Nat) (c : Nat) (e : Ending) (w' : World) : Prop := ∃ A n k, e = .returned (.tuple #[.slice A n k, .int .i64 (c : Int)]) ∧ Rd w' A n k (VI (ints l)) ∧ On w w'
end Go.Proofs.YtibkpglgeincdaaGreatDoor.Sb
