/-
  Differences: Sub.
-/
import Derived.Test.YtkpeliokhmigoaaAdd
namespace Go.Proofs.Ytkpeliokhmigoaa
open Go.RowKit
set_option linter.unusedVariables false
namespace Num
theorem sub_step (P a b x y t v : Nat) (hx : x < 4294967296) (hy : y < 4294967296) (ht : t ≤ 1) (h : v + b = a + P * t) : v + P * ((x + 8589934592 - y - t) % 4294967296) + (b + P * y) = a + P * x + P * BB * bw x y t := by
  have h1 : (x + 8589934592 - y - t) % 4294967296 + y + t = x + 4294967296 * bw x y t := by
    unfold bw; split <;> omega
  have h2 : P * ((x + 8589934592 - y - t) % 4294967296 + y + t) = P * (x + 4294967296 * bw x y t) := by rw [h1]
  rw [Nat.mul_add, Nat.mul_add, Nat.mul_add, ← Nat.mul_assoc] at h2
  have h3 : P * BB * bw x y t = P * 4294967296 * bw x y t := rfl
  omega
set_option maxHeartbeats 400000 in
theorem sub_bad (w : World) (A A' : Option Addr) (n c n' c' : Nat) (xs ys : List Nat) (h : Rd w A n c xs) (k : Rd w A' n' c' ys) (hlt : val xs < val ys) :
    Calls Try.prog 89 #[.slice A n c, .slice A' n' c'] w (Refuses w (.iface 49 (.int .i64 3))) := by
  go_enter Try.func89, Try.ntmps89
  go_wp2_with fail
  refine (cmp_any _ _ _ _ _ _ _ _ _ h k).mono ?_
  rintro e w1 ⟨rfl, hon⟩
  rw [cmpI_lt hlt]
  go_wp2
  go_ret2
  exact ⟨rfl, hon⟩
set_option maxHeartbeats 1000000 in
theorem sub_good (w : World) (A A' : Option Addr) (n c n' c' L : Nat) (xs ys : List Nat) (h : Rd w A n c xs) (k : Rd w A' n' c' ys) (hlt : val ys ≤ val xs) (h1 : tl xs ≤ L) (hL : L ≤ 100000000) :
    Calls Try.prog 89 #[.slice A n c, .slice A' n' c'] w (Gives2 w (val xs - val ys) L .nilIface) := by
  have T := h.take (k := tl xs) (by rw [← h.len]; exact tl_le xs)
  have V := Lib.hid (val_take_tl xs)
  have hcm : 0 ≤ cmpI (val xs) (val ys) := by
    rcases Nat.lt_or_eq_of_le hlt with h | h
    · rw [cmpI_gt h]; decide
    · rw [cmpI_eq h.symm]; decide
  have htys : tl ys ≤ tl xs := by
    have h1 := clean_take ys
    have h2 := clean_len h1 (tl xs) (by
      rw [val_take_tl]
      have := val_lt T.ok
      rw [T.len, V.out] at this
      omega)
    rwa [List.length_take, Nat.min_eq_left (tl_le ys)] at h2
  have HT := Lib.hid htys
  have HV := Lib.hid hlt
  clear htys hlt
  go_enter Try.func89, Try.ntmps89
  go_wp2_with fail
  refine (cmp_any _ _ _ _ _ _ _ _ _ h k).mono ?_
  rintro e w1 ⟨rfl, hon1⟩
  generalize cmpI (val xs) (val ys) = ci at *
  have hdec : decide (ci < 0) = false := decide_eq_false (by omega)
  go_wp2_with fail
  refine (trim_any _ _ _ _ _ (h.on hon1)).mono ?_
  rintro e w' ⟨rfl, rfl⟩
  have T1 := T.on hon1
  have T2 := k.on hon1
  generalize hzs : xs.take (tl xs) = zs at *
  generalize hm : tl xs = m at *
  clear hzs hm
  have hmk := run_mk m (by omega) w1
  have HMK := Lib.hid hmk
  clear hmk T h k
  have hmk := HMK.out
  go_wp2
  go_loopw [7, 22] (fun cy i wr => ∃ (k t : Nat) (cur : Array Value) (ss : List Nat), k ≤ m ∧ i = .int .i64 (k : Int) ∧ cy = .int .u32 (t : Int) ∧ t ≤ 1 ∧ Own wr w1.heap.size 53 cur ∧ Has cur 0 ss ∧ ss.length = m ∧ val (ss.take k) + val (ys.take k) = val (zs.take k) + BB ^ k * t ∧ On w1 wr) (fun _ i _ => m - (intOf i).toNat)
  case atStart => exact ⟨0, 0, _, _, by omega, rfl, rfl, by omega, Own.new _ _ _, has_made _, by simp, by simp [val], (On.refl w1).alloc _⟩
  case round =>
    obtain ⟨k, t, cur, ss, hk, rfl, rfl, ht, hown, hh, hl, hv, hon⟩ := hrel
    have H1 := Lib.hid hl
    have H2 := Lib.hid hv
    have H3 := Lib.hid hown
    clear hl hv hown
    by_cases hlt : k < m
    · obtain ⟨ad, rfl, hb, hc⟩ := (T1.on hon).at_ k hlt
      have T3 := T2.on hon
      have hz := T1.ok.get k
      have hu := T2.ok.get k
      have hcell : wr.cell? ⟨w1.heap.size, k, none⟩ = some (.int .u32 ((gw ss k : Nat) : Int)) := (H3.out.cell _).trans (by have := hh.get k (by rw [H1.out]; omega); rwa [Nat.zero_add] at this)
      have hfroz : wr.frozen? ⟨w1.heap.size, k, none⟩ = false := H3.out.frozen _
      go_wp2_with fail
      refine (at_any _ _ _ _ _ T3 _ (by omega) (by omega)).mono ?_
      rintro e w' ⟨rfl, rfl⟩
      rw [Int.toNat_natCast]
      go_wp2_with fail
      refine (sub32_any _ (gw zs k) (gw ys k) t hz hu ht).mono ?_
      rintro e w' ⟨rfl, rfl⟩
      have hdl : (gw zs k + 8589934592 - gw ys k - t) % 4294967296 < 4294967296 := Nat.mod_lt _ (by decide)
      have HE := Lib.hid (sub_step (BB ^ k) (val (zs.take k)) (val (ys.take k)) (gw zs k) (gw ys k) t (val (ss.take k)) hz hu ht H2.out)
      have hbl := bw_le (gw zs k) (gw ys k) t
      generalize (gw zs k + 8589934592 - gw ys k - t) % 4294967296 = dd at *
      generalize bw (gw zs k) (gw ys k) t = tt at *
      go_wp2
      go_roundw
      case measure => simp [intOf]; omega
      refine ⟨k + 1, tt, _, _, by omega, by go_num, rfl, by omega, H3.out.set_ _ _, by have := hh.set_ (j := k) (x := dd) (by rw [H1.out]; omega) (by omega); rwa [Nat.zero_add] at this, by rw [List.length_set, H1.out], ?_, hon.setCell (Nat.le_refl _) _⟩
      rw [set_take_succ _ _ _ (by rw [H1.out]; omega), val_take_succ_any, val_take_succ_any, Nat.pow_succ]
      exact HE.out
    · obtain rfl : k = m := by omega
      go_wp2_with fail
      have R := Rd.own (n := k) (c := k) H3.out hh H1.out (Nat.le_refl _) (by omega)
      refine (trim_any _ _ _ _ _ R).mono ?_
      rintro e w' ⟨rfl, rfl⟩
      go_wp2
      go_ret2
      have hN := nm_trim R (L := L) (Nat.le_trans (tl_le _) (by rw [H1.out]; omega))
      have hval : val ss = val xs - val ys := by
        have e1 := H2.out
        rw [List.take_of_length_le (Nat.le_of_eq H1.out), List.take_of_length_le (Nat.le_of_eq T1.len), V.out] at e1
        have e3 : val (ys.take k) = val ys := val_take_ge ys k HT.out
        have hs := val_lt R.ok
        rw [H1.out] at hs
        have := HV.out
        rcases t with _ | t
        · omega
        · have : BB ^ k * 1 ≤ BB ^ k * (t + 1) := Nat.mul_le_mul_left _ (by omega)
          omega
      rw [hval] at hN
      exact ⟨_, _, _, rfl, hN, hon1.trans hon⟩
end Num
end Go.Proofs.Ytkpeliokhmigoaa
