/-
  The program's count of ones, for sets of at most 24 events (the road of XSb2), and the count of events of a set.
-/
import Derived.Test.YtpllgpjplliadaaSo
import Derived.Test.YtpllgpjplliadaaSb0
import Derived.Test.YtpllgpjplliadaaSb2
import Derived.Test.YtpllgpjplliadaaTp
import Derived.Laws.Bits128
namespace Go.Proofs.Ytpllgpjplliadaa.Fm
open Go.RowKit Go.Proofs.Ytpllgpjplliadaa.Sb
set_option linter.unusedVariables false
set_option maxRecDepth 100000
theorem u64m (n : Nat) (h : n < 18446744073709551616) : IntKind.u64.wrap (n : Int) = (n : Int) := by rw [IntKind.wrap_u64]; omega
theorem road1_go (c : Nat) (hc : c < 16777216) : IntKind.u64.wrap (bits .and .u64 ((c : Int) / 2) 6148914691236517205 + bits .and .u64 (c : Int) 6148914691236517205) = (road1 c : Nat) := by
  have a1 := u64_and_nat (c / 2) 6148914691236517205 (by omega) (by omega)
  have a2 := u64_and_nat c 6148914691236517205 (by omega) (by omega)
  have hl := (road_lt c hc).1
  unfold road1 at hl ⊢
  rw [show ((c : Int) / 2) = ((c / 2 : Nat) : Int) by omega]
  rw [show ((6148914691236517205 : Nat) : Int) = 6148914691236517205 from rfl] at a1 a2
  rw [a1, a2, ← Int.natCast_add, u64m _ (by omega)]
theorem road2_go (c : Nat) (hc : c < 16777216) (hl : road2 c < 16777216) : IntKind.u64.wrap (bits .and .u64 ((c : Int) / 4) 3689348814741910323 + bits .and .u64 (c : Int) 3689348814741910323) = (road2 c : Nat) := by
  have a1 := u64_and_nat (c / 4) 3689348814741910323 (by omega) (by omega)
  have a2 := u64_and_nat c 3689348814741910323 (by omega) (by omega)
  unfold road2 at hl ⊢
  rw [show ((c : Int) / 4) = ((c / 4 : Nat) : Int) by omega]
  rw [show ((3689348814741910323 : Nat) : Int) = 3689348814741910323 from rfl] at a1 a2
  rw [a1, a2, ← Int.natCast_add, u64m _ (by omega)]
theorem road3_go (c : Nat) (hc : c < 16777216) : bits .and .u64 (IntKind.u64.wrap ((c : Int) / 16 + (c : Int))) 1085102592571150095 = (road3 c : Nat) := by
  have a1 := u64_and_nat (c / 16 + c) 1085102592571150095 (by omega) (by omega)
  unfold road3
  rw [show ((c : Int) / 16 + (c : Int)) = ((c / 16 + c : Nat) : Int) by omega, u64m _ (by omega)]
  rw [show ((1085102592571150095 : Nat) : Int) = 1085102592571150095 from rfl] at a1
  exact a1
set_option maxHeartbeats 400000 in
theorem count64_any (w : World) (c : Nat) (hc : c < 16777216) :
    Calls Try.prog 43 #[.int .u64 (c : Int)] w fun e w' => e = .returned (.int .i64 (Lib.popAux 24 c : Nat)) ∧ w = w' := by
  obtain ⟨l1, l2, _⟩ := road_lt c hc
  obtain ⟨y, ey, hy, eq⟩ := road_all c hc
  generalize Lib.popAux 24 c = r at eq ⊢
  go_enter Try.func43, Try.ntmps43
  go_wp2
  go_ret
  refine ⟨congrArg (fun z => Ending.returned (.int .i64 z)) ?_, rfl⟩
  rw [road1_go c hc, road2_go _ l1 l2, road3_go _ l2, ey]
  have i64127 := i64_and127
  rw [i64_and127, ← eq]
  clear ey l1 l2 hc
  simp only [IntKind.wrap_u64, wrap64]
  have e1 : ((y : Int) + (y : Int) / 256) % 18446744073709551616 = ((y + y / 256 : Nat) : Int) := by omega
  rw [e1]
  have hz : y + y / 256 < 33554432 := by omega
  generalize y + y / 256 = z at *
  have e2 : ((z : Int) + (z : Int) / 65536) % 18446744073709551616 = ((z + z / 65536 : Nat) : Int) := by omega
  rw [e2]
  have hz2 : z + z / 65536 < 67108864 := by omega
  generalize z + z / 65536 = x at *
  have e3 : (x : Int) / 4294967296 = 0 := by omega
  rw [e3, Int.add_zero]
  have e4 : (x : Int) % 18446744073709551616 = x := by omega
  rw [e4]
  have e5 : ((x : Int) + 9223372036854775808) % 18446744073709551616 - 9223372036854775808 = x := by omega
  rw [e5]
  omega
set_option maxHeartbeats 400000 in
theorem count_pop (w : World) (c : Nat) (hc : c < 16777216) :
    Calls Try.prog 33 #[.int .u64 (c : Int)] w fun e w' => e = .returned (.int .i64 (Lib.popAux 24 c : Nat)) ∧ w = w' := by
  have hS := fun W => count64_any W c hc
  generalize Lib.popAux 24 c = r at hS ⊢
  go_enter Try.func33, Try.ntmps33
  go_wp2_with (refine (hS _).mono ?_; rintro e w' ⟨rfl, rfl⟩)
  go_ret
  exact ⟨rfl, rfl⟩
theorem pop_zero : ∀ g, Lib.popAux g 0 = 0 := by
  intro g
  induction g with
  | zero => rfl
  | succ g ih => rw [pop_split g 1 0, ih]; simp [Lib.popAux]
theorem pop_pcT (s : Nat) : ∀ j, Lib.popAux j s = pcT s j := by
  intro j
  induction j with
  | zero => rfl
  | succ j ih => rw [pop_split j 1 s, ih]; simp [Lib.popAux, pcT]
theorem pop_set {s v : Nat} (h : s < 2 ^ v) (hv : v ≤ 24) : Lib.popAux 24 s = pcT s v := by
  obtain ⟨k, hk⟩ : ∃ k, 24 = v + k := ⟨24 - v, by omega⟩
  rw [hk, pop_split v k s, Nat.div_eq_of_lt h, pop_zero, Nat.add_zero, pop_pcT]
theorem count_any (w : World) (s v : Nat) (h : s < 2 ^ v) (hv : v ≤ 24) :
    Calls Try.prog 33 #[.int .u64 (s : Int)] w fun e w' => e = .returned (.int .i64 (pcT s v : Nat)) ∧ w = w' := by
  have h2 : 2 ^ v ≤ 2 ^ 24 := Nat.pow_le_pow_right (by omega) hv
  rw [← pop_set h hv]
  exact count_pop w s (by omega)
end Go.Proofs.Ytpllgpjplliadaa.Fm
