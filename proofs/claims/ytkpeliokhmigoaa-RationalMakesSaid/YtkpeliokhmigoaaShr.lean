/-
  shiftRight; Bits.
-/
import Derived.Test.YtkpeliokhmigoaaShift
namespace Go.Proofs.Ytkpeliokhmigoaa
open Go.RowKit
set_option linter.unusedVariables false
namespace Num
theorem val_div (l : List Nat) (h : Ok l) (k : Nat) : val l / BB ^ k = val (l.drop k) := by
  rcases Nat.lt_or_ge l.length k with hk | hk
  · rw [List.drop_of_length_le (by omega)]
    have h1 := val_lt h
    have h2 : BB ^ l.length ≤ BB ^ k := Nat.pow_le_pow_right BB_pos (by omega)
    rw [Nat.div_eq_of_lt (by omega)]; rfl
  · rw [val_split l k hk, Nat.add_mul_div_left _ _ (Nat.pow_pos BB_pos)]
    have h1 := val_lt (h.take k)
    rw [List.length_take, Nat.min_eq_left hk] at h1
    rw [Nat.div_eq_of_lt h1, Nat.zero_add]
theorem val_drop_any (l : List Nat) (k : Nat) : val (l.drop k) = gw l k + BB * val (l.drop (k + 1)) := by
  rcases Nat.lt_or_ge k l.length with h | h
  · exact val_drop l k h
  · rw [List.drop_of_length_le h, List.drop_of_length_le (by omega), getD_ge h]; rfl
/-- word k of the number shifted by r bits -/
theorem shr_digit (l : List Nat) (h : Ok l) (k r : Nat) (hr : r < 32) : val l / 2 ^ r / BB ^ k % BB = (gw l (k + 1) * 4294967296 + gw l k) / 2 ^ r % 4294967296 := by
  rw [Nat.div_div_eq_div_mul, Nat.mul_comm, ← Nat.div_div_eq_div_mul, val_div l h, val_drop_any, val_drop_any l (k + 1)]
  have e : BB = 2 ^ r * 2 ^ (32 - r) := by rw [← Nat.pow_add, show r + (32 - r) = 32 from by omega]; rfl
  have e2 : gw l k + BB * (gw l (k + 1) + BB * val (l.drop (k + 1 + 1))) = (gw l (k + 1) * 4294967296 + gw l k) + 2 ^ r * (BB * (2 ^ (32 - r) * val (l.drop (k + 1 + 1)))) := by
    have : 2 ^ r * (BB * (2 ^ (32 - r) * val (l.drop (k + 1 + 1)))) = BB * (BB * val (l.drop (k + 1 + 1))) := by
      conv => rhs; rw [e]
      rw [← e]
      rw [Nat.mul_left_comm (2 ^ r), ← Nat.mul_assoc (2 ^ r), ← e]
    rw [this, Nat.mul_add]
    have : BB * gw l (k + 1) = gw l (k + 1) * 4294967296 := Nat.mul_comm _ _
    omega
  rw [e2, Nat.add_mul_div_left _ _ (Nat.pow_pos (by decide)), Nat.add_mul_mod_self_left]
  rfl
set_option maxHeartbeats 1000000 in
theorem shr_any (w : World) (A : Option Addr) (n c : Nat) (xs : List Nat) (h : Rd w A n c xs) (hn : n ≤ 100000000) (s : Int) (h0 : 0 ≤ s) (h1 : s ≤ 200000) :
    Calls Try.prog 106 #[.slice A n c, .int .i64 s] w (Gives w (val xs / 2 ^ s.toNat) n) := by
  obtain ⟨q, rfl⟩ := Int.eq_ofNat_of_zero_le h0
  rw [Int.toNat_natCast]
  have hv : val xs / 2 ^ q = val (xs.drop (q / 32)) / 2 ^ (q % 32) := by
    rw [pow_split q, ← Nat.div_div_eq_div_mul, val_div xs h.ok]
  rw [hv]
  clear hv
  have hr : q % 32 < 32 := Nat.mod_lt _ (by decide)
  by_cases hq : n ≤ q / 32
  · have hz : val (xs.drop (q / 32)) = 0 := by rw [List.drop_of_length_le (by rw [h.len]; omega)]; rfl
    rw [hz, Nat.zero_div]
    go_enter Try.func106, Try.ntmps106
    go_wp2
    go_ret
    exact ⟨none, 0, 0, rfl, ⟨[], Rd.nil_, clean_nil, rfl, by omega⟩, On.refl _⟩
  · have hcut := (h.ok).drop (q / 32)
    obtain ⟨m, hm1, hm2⟩ : ∃ m, m + q / 32 ≤ n ∧ n ≤ m + q / 32 := ⟨n - q / 32, by omega, by omega⟩
    have hmk := run_mk m (by omega) w
    rw [show ((m : Nat) : Int) = (n : Int) - (q : Int) / 32 from by omega] at hmk
    have hbb : val (xs.drop (q / 32)) / 2 ^ (q % 32) < BB ^ m := by
      have := val_lt hcut
      rw [List.length_drop, h.len, show n - q / 32 = m from by omega] at this
      exact Nat.lt_of_le_of_lt (Nat.div_le_self _ _) this
    have HB := Lib.hid hbb
    clear hbb
    have hdec : decide ((n : Int) ≤ (q : Int) / 32) = false := decide_eq_false (by omega)
    go_enter Try.func106, Try.ntmps106
    go_wp2
    go_loopw [25] (fun i wr => ∃ (k : Nat) (cur : Array Value) (os : List Nat), k ≤ m ∧ i = .int .i64 (k : Int) ∧ Own wr w.heap.size 53 cur ∧ Has cur 0 os ∧ os.length = m ∧ val (os.take k) = val (xs.drop (q / 32)) / 2 ^ (q % 32) % BB ^ k ∧ On w wr) (fun i _ => m - (intOf i).toNat)
    case atStart => exact ⟨0, _, _, by omega, rfl, Own.new _ _ _, has_made _, by simp, by simp [val, Nat.mod_one], (On.refl w).alloc _⟩
    case round =>
      obtain ⟨k, cur, os, hk, rfl, hown, hh, hl, hv, hon⟩ := hrel
      have H1 := Lib.hid hl
      have H2 := Lib.hid hv
      have H3 := Lib.hid hown
      clear hl hv hown
      by_cases hlt : k < m
      · obtain ⟨ad, rfl, hb, hc⟩ := (h.on hon).at_ (q / 32 + k) (by omega)
        have hz := h.ok.get (q / 32 + k)
        have hz1 := h.ok.get (q / 32 + k + 1)
        have T := h.on hon
        have hcell : wr.cell? ⟨w.heap.size, k, none⟩ = some (.int .u32 ((gw os k : Nat) : Int)) := (H3.out.cell _).trans (by have := hh.get k (by rw [H1.out]; omega); rwa [Nat.zero_add] at this)
        have hfroz : wr.frozen? ⟨w.heap.size, k, none⟩ = false := H3.out.frozen _
        have hor := Lib.hid (or64' (gw xs (q / 32 + k + 1)) (gw xs (q / 32 + k)) hz1 hz)
        have s1 : IntKind.i64.wrap ((q : Int) / 32 + (k : Int)) = (q : Int) / 32 + (k : Int) := IntWalk.i64_in _ (by omega)
        have s2 : IntKind.i64.wrap ((q : Int) / 32 + (k : Int) + 1) = (q : Int) / 32 + (k : Int) + 1 := IntWalk.i64_in _ (by omega)
        have s3 : 0 ≤ (q : Int) / 32 + (k : Int) := by omega
        have s4 : ((q : Int) / 32 + (k : Int)).toNat = q / 32 + k := by omega
        have s5 : (q : Int) / 32 + (k : Int) < (n : Int) := by omega
        have s6 : q / 32 + k < n := by omega
        go_wp2
        go_quiet ((go_at_call 107; go_must (exact Calls.quiet_of_same (at_is _ _ _ _ _ (T.drewN _) _ (q / 32 + k + 1) (by omega) (by omega)))))
        go_wp2
        rw [hor.out, show (((gw xs (q / 32 + k + 1) * 4294967296 + gw xs (q / 32 + k) : Nat) : Int) / 2 ^ (q % 32) % 4294967296) = (((gw xs (q / 32 + k + 1) * 4294967296 + gw xs (q / 32 + k)) / 2 ^ (q % 32) % 4294967296 : Nat) : Int) from by rw [Int.natCast_emod, Int.natCast_ediv, Int.natCast_pow]; rfl]
        have hA := hh.set_ (j := k) (x := (gw xs (q / 32 + k + 1) * 4294967296 + gw xs (q / 32 + k)) / 2 ^ (q % 32) % 4294967296) (by rw [H1.out]; omega) (Nat.mod_lt _ (by decide))
        rw [Nat.zero_add] at hA
        refine ⟨⟨k + 1, _, _, by omega, by go_num, (H3.out.drewN nq).set_ _ _, hA, by rw [List.length_set, H1.out], ?_, (hon.drewN nq).setCell (Nat.le_refl _) _⟩, by simp [intOf]; omega⟩
        rw [set_take_succ _ _ _ (by rw [H1.out]; omega), H2.out, Nat.mod_pow_succ, shr_digit _ hcut k _ hr, getD_drop, getD_drop]
        rfl
      · obtain rfl : k = m := by omega
        have R := Rd.own (n := k) (c := k) H3.out hh H1.out (Nat.le_refl _) (by omega)
        go_wp2_with fail
        refine (trim_any _ _ _ _ _ R).mono ?_
        rintro e w' ⟨rfl, rfl⟩
        go_wp2
        go_ret
        have hN := nm_trim R (L := n) (Nat.le_trans (tl_le _) (by rw [H1.out]; omega))
        have hval : val os = val (xs.drop (q / 32)) / 2 ^ (q % 32) := by
          have := H2.out
          rwa [List.take_of_length_le (Nat.le_of_eq H1.out), Nat.mod_eq_of_lt HB.out] at this
        rw [hval] at hN
        exact ⟨_, _, _, rfl, hN, hon⟩
end Num
end Go.Proofs.Ytkpeliokhmigoaa
