/-
  Package sets: the least element, the next set, and what reads math/bits' table.
-/
import Derived.Test.YtakkbemldccekaaDoorSs1
import Derived.Test.YtakkbemldccekaaDoorSo
import Derived.Shelf.Spec.TrailingZeros
namespace Go.Proofs.YtakkbemldccekaaDoor.Sb
open Go.RowKit
set_option linter.unusedVariables false
/-- the table of math/bits in its variable -/
def Tab (w : World) : Prop := TabAt 1 Lib.deBruijn64tab w
theorem Tab.lt {w : World} (h : Tab w) : 1 < w.heap.size := World.block_lt_of_cell? _ _ (h 0 (by decide))
theorem Tab.on {w w' : World} (h : Tab w) (k : On w w') : Tab w' := fun j hj => (Below.cell k h.lt).trans (h j hj)
theorem Tab.drewN {w : World} (h : Tab w) (n : Nat) : Tab (w.drewN n) := h
set_option maxHeartbeats 1000000 in
theorem tz64_core (x k idx : Nat) (w : World) (hx0 : ((x : Int) == 0) = false)
    (key : IntKind.u64.wrap (bits BinOp.and IntKind.u64 (x : Int) (IntKind.u64.wrap (-(x : Int))) * 285870213051353865) / 288230376151711744 = (idx : Int))
    (hi : idx < 64) (hk : k < 64) (hcell : w.cell? ⟨1, idx, none⟩ = some (.int .u8 k)) :
    Calls Tryd.prog 87 #[.int .u64 x] w fun e w' => e = .returned (.int .i64 k) ∧ w = w' := by
  go_enter Tryd.func87, Tryd.ntmps87
  go_wp2_with (simp only [key])
  go_ret
  exact ⟨rfl, rfl⟩
theorem tz64_any (x : Nat) (hx : x < 18446744073709551616) (h0 : x ≠ 0) (w : World) (hT : Tab w) :
    Calls Tryd.prog 87 #[.int .u64 x] w fun e w' => e = .returned (.int .i64 (Lib.ctz 64 x)) ∧ w = w' := by
  obtain ⟨hlow, hk⟩ := Lib.lowest_bit 64 x h0 hx
  obtain ⟨hi, htab⟩ := Lib.deBruijn64_at _ hk
  have hcell := hT _ hi
  rw [htab] at hcell
  exact tz64_core x _ _ w (by simp; omega) (tz64_key x _ hx h0 hlow) hi hk hcell
set_option maxHeartbeats 400000 in
theorem tz_any (x : Nat) (hx : x < 18446744073709551616) (h0 : x ≠ 0) (w : World) (hT : Tab w) :
    Calls Tryd.prog 69 #[.int .u64 x] w fun e w' => e = .returned (.int .i64 (Lib.ctz 64 x)) ∧ w = w' := by
  have c64 := tz64_any x hx h0 w hT
  generalize Lib.ctz 64 x = r at c64 ⊢
  go_enter Tryd.func69, Tryd.ntmps69
  go_wp2_with (refine c64.mono ?_; rintro e w' ⟨rfl, rfl⟩)
  go_ret
  exact ⟨rfl, rfl⟩
set_option maxHeartbeats 400000 in
theorem least_any (w : World) (s : Int) (hT : Tab w) :
    Calls Tryd.prog 46 #[.int .i64 s] w fun e w' => e = .returned (.int .i64 (least (cut s))) ∧ w = w' := by
  have hC := fun W => cut_any W s
  by_cases h : cut s = 0
  · rw [h] at hC
    have hl : least (cut s) = -1 := by rw [h]; rfl
    rw [hl]
    go_enter Tryd.func46, Tryd.ntmps46
    go_wp2_with (refine (hC _).mono ?_; rintro e w' ⟨rfl, rfl⟩)
    go_ret
    exact ⟨rfl, rfl⟩
  · obtain ⟨x, hx⟩ : ∃ x : Nat, IntKind.u64.wrap s = (x : Int) := ⟨(s % 18446744073709551616).toNat, by rw [IntKind.wrap_u64]; omega⟩
    have hx2 : x < 18446744073709551616 ∧ x % 2 ^ 24 = cut s := by
      rw [IntKind.wrap_u64] at hx; unfold cut; omega
    have hl := least_tz x hx2.1 (by rw [hx2.2]; exact h)
    rw [hx2.2] at hl
    have hZ := tz_any x hx2.1 (by intro e; rw [e] at hx2; exact h (by omega)) w hT
    rw [← hl] at hZ
    have h' : ((cut s : Nat) : Int) ≠ 0 := by omega
    clear hl hx2
    generalize least (cut s) = r at hZ ⊢
    generalize cut s = c at *
    go_enter Tryd.func46, Tryd.ntmps46
    go_wp2_with (first | (refine (hC _).mono ?_; rintro e w' ⟨rfl, rfl⟩) | (refine hZ.mono ?_; rintro e w' ⟨rfl, rfl⟩))
    go_ret
    exact ⟨rfl, rfl⟩
end Go.Proofs.YtakkbemldccekaaDoor.Sb
