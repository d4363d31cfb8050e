/-
  Shifts: shiftLeft, shiftRight.
-/
import Derived.Test.YtkpeliokhmigoaaSub
namespace Go.Proofs.Ytkpeliokhmigoaa
open Go.RowKit
set_option linter.unusedVariables false
namespace Num
theorem pow_lt32 {r : Nat} (hr : r < 32) : 2 ^ r ≤ 2147483648 := Nat.pow_le_pow_right (by decide) (show r ≤ 31 by omega)
theorem shl_bound (x r : Nat) (hx : x < 4294967296) (hr : r < 32) : x * 2 ^ r ≤ 9223372036854775808 := by
  have h := pow_lt32 hr
  have h2 : x * 2 ^ r ≤ 4294967296 * 2147483648 := Nat.mul_le_mul (by omega) h
  omega
theorem cast_shl (x r : Nat) : ((x : Int) * 2 ^ r) = ((x * 2 ^ r : Nat) : Int) := by rw [Int.natCast_mul, Int.natCast_pow]; rfl
theorem shl_wrap (x r : Nat) (hx : x < 4294967296) (hr : r < 32) : IntKind.u64.wrap ((x : Int) * 2 ^ r) = ((x * 2 ^ r : Nat) : Int) := by
  have h := shl_bound x r hx hr
  rw [cast_shl]
  exact IntWalk.u64_in _ (by omega)
theorem or_low (a x r : Nat) (ha : a < 2 ^ r) (hr : r < 32) : bits .or .u32 (a : Int) (((x * 2 ^ r : Nat) : Int) % 4294967296) = ((a + x * 2 ^ r % 4294967296 : Nat) : Int) ∧ a + x * 2 ^ r % 4294967296 < 4294967296 := by
  have h := pow_lt32 hr
  have hm : x * 2 ^ r % 4294967296 < 4294967296 := Nat.mod_lt _ (by decide)
  have hd : x * 2 ^ r % 4294967296 % 2 ^ r = 0 := by
    have : (2 : Nat) ^ r ∣ 4294967296 := Nat.pow_dvd_pow 2 (show r ≤ 32 by omega)
    rw [Nat.mod_mod_of_dvd _ this, Nat.mul_mod_left]
  have hj := nat_join r _ a hd ha
  have hlt : (x * 2 ^ r % 4294967296 ||| a) < 2 ^ 32 := Nat.or_lt_two_pow (by omega) (by omega)
  rw [show (((x * 2 ^ r : Nat) : Int) % 4294967296) = ((x * 2 ^ r % 4294967296 : Nat) : Int) from by rw [Int.natCast_emod]; rfl, u32_or_nat _ _ (by omega) hm, Nat.or_comm, hj]
  rw [hj] at hlt
  exact ⟨by rw [Nat.add_comm], by omega⟩
theorem hi_lt (x r : Nat) (hx : x < 4294967296) : x * 2 ^ r / 4294967296 < 2 ^ r := by
  apply Nat.div_lt_of_lt_mul
  exact Nat.mul_lt_mul_of_pos_right hx (Nat.pow_pos (by decide))
theorem shl_step (os : List Nat) (W k x r V : Nat) (hl : W + k + 1 < os.length) (h : val (os.take (W + k + 1)) = BB ^ W * (V * 2 ^ r)) :
    val (((os.set (W + k) (gw os (W + k) + x * 2 ^ r % 4294967296)).set (W + k + 1) (x * 2 ^ r / 4294967296)).take (W + (k + 1) + 1)) = BB ^ W * ((V + BB ^ k * x) * 2 ^ r) := by
  rw [show W + (k + 1) + 1 = (W + k + 1) + 1 from by omega, set_take_succ _ _ _ (by rw [List.length_set]; exact hl), set_take_succ _ _ _ (by omega)]
  rw [val_take_succ_any] at h
  rw [Nat.add_mul, Nat.mul_add (BB ^ W), ← h]
  have e : BB ^ W * (BB ^ k * x * 2 ^ r) = BB ^ (W + k) * (x * 2 ^ r) := by rw [Nat.pow_add, Nat.mul_assoc (BB ^ k), ← Nat.mul_assoc (BB ^ W)]
  rw [e, Nat.pow_succ]
  have h1 := Nat.div_add_mod (x * 2 ^ r) 4294967296
  have h2 : BB ^ (W + k) * (x * 2 ^ r % 4294967296) + BB ^ (W + k) * BB * (x * 2 ^ r / 4294967296) = BB ^ (W + k) * (x * 2 ^ r) := by
    rw [Nat.mul_assoc, ← Nat.mul_add]; congr 1; simp only [BB]; omega
  rw [Nat.mul_add]
  omega
theorem pow_split (q : Nat) : 2 ^ q = BB ^ (q / 32) * 2 ^ (q % 32) := by
  have h : BB = 2 ^ 32 := rfl
  rw [h, ← Nat.pow_mul, ← Nat.pow_add]
  congr 1; omega
def ShlPost (w : World) (n s : Nat) (xs : List Nat) (e : Ending) (w' : World) : Prop :=
  ∃ g cur ys, e = .returned (.slice (some ⟨g, 0, none⟩) (n + s / 32 + 1) (n + s / 32 + 1)) ∧ w.heap.size ≤ g ∧ Own w' g 53 cur ∧ Has cur 0 ys ∧ ys.length = n + s / 32 + 1 ∧ val ys = val xs * 2 ^ s ∧ On w w'
set_option maxHeartbeats 1000000 in
theorem shl_any (w : World) (A : Option Addr) (n c : Nat) (xs : List Nat) (h : Rd w A n c xs) (hn : n ≤ 100000000) (s : Int) (h0 : 0 ≤ s) (h1 : s ≤ 200000) :
    Calls Try.prog 103 #[.slice A n c, .int .i64 s] w (ShlPost w n s.toNat xs) := by
  obtain ⟨q, rfl⟩ := Int.eq_ofNat_of_zero_le h0
  rw [Int.toNat_natCast]
  have hmk := run_mk (n + q / 32 + 1) (by omega) w
  rw [show ((n + q / 32 + 1 : Nat) : Int) = (n : Int) + (q : Int) / 32 + 1 from by omega] at hmk
  have hcap := h.cap
  have hmax := h.max
  go_enter Try.func103, Try.ntmps103
  go_wp2
  go_loopw [23] (fun i wr => ∃ (k : Nat) (cur : Array Value) (os : List Nat), k ≤ n ∧ i = .int .i64 (k : Int) ∧ Own wr w.heap.size 53 cur ∧ Has cur 0 os ∧ os.length = n + q / 32 + 1 ∧ val (os.take (q / 32 + k + 1)) = BB ^ (q / 32) * (val (xs.take k) * 2 ^ (q % 32)) ∧ gw os (q / 32 + k) < 2 ^ (q % 32) ∧ On w wr) (fun i _ => n - (intOf i).toNat)
  case atStart => exact ⟨0, _, _, by omega, rfl, Own.new _ _ _, has_made _, by simp, by rw [List.take_replicate, val_replicate]; simp [val], by rw [gw_replicate]; exact Nat.pow_pos (by decide), (On.refl w).alloc _⟩
  case round =>
    obtain ⟨k, cur, os, hk, rfl, hown, hh, hl, hv, hlow, hon⟩ := hrel
    have H1 := Lib.hid hl
    have H2 := Lib.hid hv
    have H3 := Lib.hid hown
    have H4 := Lib.hid hlow
    clear hl hv hown hlow
    by_cases hlt : k < n
    · obtain ⟨ad, rfl, hb, hc⟩ := (h.on hon).at_ k hlt
      have hz := h.ok.get k
      have ho := hh.ok.get (q / 32 + k)
      have hcell : wr.cell? ⟨w.heap.size, q / 32 + k, none⟩ = some (.int .u32 ((gw os (q / 32 + k) : Nat) : Int)) := (H3.out.cell _).trans (by have := hh.get (q / 32 + k) (by rw [H1.out]; omega); rwa [Nat.zero_add] at this)
      have hfroz : wr.frozen? ⟨w.heap.size, q / 32 + k, none⟩ = false := H3.out.frozen _
      have hcell2 : wr.cell? ⟨w.heap.size, q / 32 + k + 1, none⟩ = some (.int .u32 ((gw os (q / 32 + k + 1) : Nat) : Int)) := (H3.out.cell _).trans (by have := hh.get (q / 32 + k + 1) (by rw [H1.out]; omega); rwa [Nat.zero_add] at this)
      have hfroz2 : wr.frozen? ⟨w.heap.size, q / 32 + k + 1, none⟩ = false := H3.out.frozen _
      have hr : q % 32 < 32 := Nat.mod_lt _ (by decide)
      obtain ⟨o1, o2⟩ := or_low (gw os (q / 32 + k)) (gw xs k) (q % 32) H4.out hr
      have hhi := hi_lt (gw xs k) (q % 32) hz
      have h2r := pow_lt32 hr
      have HW := Lib.hid (shl_wrap (gw xs k) (q % 32) hz hr)
      have O1 := Lib.hid o1
      clear o1
      go_wp2
      rw [HW.out, O1.out, show (((gw xs k * 2 ^ (q % 32) : Nat) : Int) / 4294967296 % 4294967296) = ((gw xs k * 2 ^ (q % 32) / 4294967296 : Nat) : Int) from by
        rw [show (((gw xs k * 2 ^ (q % 32) : Nat) : Int) / 4294967296) = ((gw xs k * 2 ^ (q % 32) / 4294967296 : Nat) : Int) from by rw [Int.natCast_ediv]; rfl]
        exact Int.emod_eq_of_lt (Int.natCast_nonneg _) (Int.ofNat_lt.2 (by omega : _ < 4294967296))]
      have hA := hh.set_ (j := q / 32 + k) (x := gw os (q / 32 + k) + gw xs k * 2 ^ (q % 32) % 4294967296) (by rw [H1.out]; omega) o2
      have hB := hA.set_ (j := q / 32 + k + 1) (x := gw xs k * 2 ^ (q % 32) / 4294967296) (by rw [List.length_set, H1.out]; omega) (by omega)
      rw [Nat.zero_add] at hB
      rw [Nat.zero_add] at hB
      refine ⟨⟨k + 1, _, _, by omega, by go_num, (H3.out.set_ _ _).set_ _ _, hB, by rw [List.length_set, List.length_set, H1.out], ?_, ?_, (hon.setCell (Nat.le_refl _) _).setCell (Nat.le_refl _) _⟩, by simp [intOf]; omega⟩
      · rw [val_take_succ_any xs]
        exact shl_step os (q / 32) k (gw xs k) (q % 32) _ (by rw [H1.out]; omega) H2.out
      · rw [show q / 32 + (k + 1) = q / 32 + k + 1 from by omega, gw_set _ _ _ _ (by rw [List.length_set, H1.out]; omega), if_pos rfl]
        exact hhi
    · obtain rfl : k = n := by omega
      go_wp2
      go_ret
      refine ⟨w.heap.size, cur, os, rfl, Nat.le_refl _, H3.out, hh, H1.out, ?_, hon⟩
      have h2 := H2.out
      rw [List.take_of_length_le (by rw [H1.out]; omega), List.take_of_length_le (Nat.le_of_eq h.len)] at h2
      rw [h2, pow_split q]
      rw [← Nat.mul_assoc, Nat.mul_comm (BB ^ (q / 32)), Nat.mul_assoc]
end Num
end Go.Proofs.Ytkpeliokhmigoaa
