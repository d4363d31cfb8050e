/-
  The parts of Lehmer's step: leading, small, combine.
-/
import Derived.Test.YtkpeliokhmigoaaDiva
import Derived.Test.YtkpeliokhmigoaaLehm
namespace Go.Proofs.Ytkpeliokhmigoaa
open Go.RowKit
set_option linter.unusedVariables false
namespace Num
theorem lead_or (T g s : Nat) (hs : s ≤ 31) (hg : g < 4294967296) (hT : T * 2 ^ s < 18446744073709551616) : bits .or .u64 ((T * 2 ^ s : Nat) : Int) (((g * 2 ^ s : Nat) : Int) / 4294967296) = ((T * 2 ^ s + g * 2 ^ s / 4294967296 : Nat) : Int) := by
  have hp : 0 < 2 ^ s := Nat.pow_pos (by decide)
  have h1 : g * 2 ^ s / 4294967296 < 2 ^ s := Nat.div_lt_of_lt_mul (by rw [Nat.mul_comm 4294967296]; rw [Nat.mul_comm g]; exact Nat.mul_lt_mul_of_pos_left hg hp)
  have h2 : 2 ^ s ≤ 2147483648 := Nat.pow_le_pow_right (by decide) hs
  rw [show ((g * 2 ^ s : Nat) : Int) / 4294967296 = ((g * 2 ^ s / 4294967296 : Nat) : Int) from by rw [Int.natCast_ediv]; rfl, u64_or_nat _ _ hT (by omega), nat_join s _ _ (Nat.mul_mod_left _ _) h1]
theorem lead_wrap (T s : Nat) (hT : T * 2 ^ s < 18446744073709551616) : IntKind.u64.wrap ((T : Int) * 2 ^ s) = ((T * 2 ^ s : Nat) : Int) := by
  rw [cast_shl]; exact IntWalk.u64_in _ (by omega)
theorem lead_top (a b s : Nat) (hs : s ≤ 31) (hb : b < 4294967296) (ha : a * 2 ^ s < 4294967296) : (a * 4294967296 + b) * 2 ^ s < 18446744073709551616 := by
  have h2 : 2 ^ s ≤ 2147483648 := Nat.pow_le_pow_right (by decide) hs
  have hp : 0 < 2 ^ s := Nat.pow_pos (by decide)
  have h3 : b * 2 ^ s < 4294967296 * 2 ^ s := Nat.mul_lt_mul_of_pos_right hb hp
  rw [Nat.add_mul, Nat.mul_right_comm]
  have h4 : a * 2 ^ s + 2 ^ s ≤ 4294967296 := by
    obtain ⟨q, hq⟩ : ∃ q, 4294967296 = 2 ^ s * q := ⟨2 ^ (32 - s), by rw [← Nat.pow_add, show s + (32 - s) = 32 from by omega]⟩
    rw [hq, Nat.mul_comm a] at ha
    have h5 := Nat.lt_of_mul_lt_mul_left ha
    have h6 : 2 ^ s * (a + 1) ≤ 2 ^ s * q := Nat.mul_le_mul_left _ h5
    rw [← hq, Nat.mul_add, Nat.mul_comm (2 ^ s) a] at h6
    omega
  have h5 : (a * 2 ^ s + 2 ^ s) * 4294967296 ≤ 4294967296 * 4294967296 := Nat.mul_le_mul_right _ h4
  rw [Nat.add_mul] at h5
  omega
set_option maxHeartbeats 400000 in
theorem leading_any (w : World) (A : Option Addr) (n c m s : Nat) (xs : List Nat) (h : Rd w A n c xs) (hn : n ≤ m + 3) (hm : m ≤ 100000) (hs : s ≤ 31) (htop : gw xs (m + 2) * 2 ^ s < 4294967296) (N : Int) (hN : N = (m : Int) + 3) :
    Calls Try.prog 101 #[.slice A n c, .int .i64 N, .int .i64 (s : Int)] w fun e w' => e = .returned (.int .i64 ((val xs / (2 ^ (34 - s) * BB ^ m) : Nat) : Int)) ∧ w' = w := by
  have g0 := h.ok.get m
  have g1 := h.ok.get (m + 1)
  have g2 := h.ok.get (m + 2)
  have hT := lead_top _ _ s hs g1 htop
  have hv := val_three xs h.ok m (by rw [h.len]; exact hn)
  have hb := lead_bits (gw xs (m + 2) * 4294967296 + gw xs (m + 1)) (gw xs m) s hs
  have he : val xs / (2 ^ (34 - s) * BB ^ m) = ((gw xs (m + 2) * 4294967296 + gw xs (m + 1)) * 2 ^ s + gw xs m * 2 ^ s / 4294967296) / 4 := by
    rw [hb, Nat.mul_comm, ← Nat.div_div_eq_div_mul, hv]; rfl
  rw [he]
  have h32 : (gw xs (m + 2) * 4294967296 + gw xs (m + 1)) * 2 ^ s + gw xs m * 2 ^ s / 4294967296 < 18446744073709551616 := by
    have h2 := lead_or (gw xs (m + 2) * 4294967296 + gw xs (m + 1)) (gw xs m) s hs g0 hT
    have h3 : (4294967296 : Nat) ∣ 18446744073709551616 := ⟨4294967296, rfl⟩
    have hp : 0 < 2 ^ s := Nat.pow_pos (by decide)
    have h1 : gw xs m * 2 ^ s / 4294967296 < 2 ^ s := Nat.div_lt_of_lt_mul (by rw [Nat.mul_comm 4294967296]; rw [Nat.mul_comm (gw xs m)]; exact Nat.mul_lt_mul_of_pos_left g0 hp)
    have h4 : (gw xs (m + 2) * 4294967296 + gw xs (m + 1)) * 2 ^ s + 2 ^ s ≤ 18446744073709551616 := by
      obtain ⟨q, hq⟩ : ∃ q, 18446744073709551616 = 2 ^ s * q := ⟨2 ^ (64 - s), by rw [← Nat.pow_add, show s + (64 - s) = 64 from by omega]⟩
      rw [hq, Nat.mul_comm _ (2 ^ s)] at hT
      have h5 := Nat.lt_of_mul_lt_mul_left hT
      have h6 : 2 ^ s * (gw xs (m + 2) * 4294967296 + gw xs (m + 1) + 1) ≤ 2 ^ s * q := Nat.mul_le_mul_left _ h5
      rw [← hq, Nat.mul_add, Nat.mul_comm (2 ^ s) (gw xs (m + 2) * 4294967296 + gw xs (m + 1))] at h6
      omega
    omega
  have w2 := lead_wrap _ s hT
  have w3 := shl_wrap (gw xs m) s g0 (by omega)
  have o1 := or64' (gw xs (m + 2)) (gw xs (m + 1)) g2 g1
  have o2 := lead_or _ (gw xs m) s hs g0 hT
  clear he hb hv htop
  generalize hTT : gw xs (m + 2) * 4294967296 + gw xs (m + 1) = T at *
  have HT := Lib.hid hTT
  clear hTT
  have hz : 0 ≤ gw xs m * 2 ^ s := Nat.zero_le _
  subst hN
  go_enter Try.func101, Try.ntmps101
  go_wp2_with fail
  refine (at_is _ _ _ _ _ h _ (m + 2) (by omega) (by omega)).mono ?_
  rintro e w' ⟨rfl, rfl⟩
  go_wp2_with fail
  refine (at_is _ _ _ _ _ h _ (m + 1) (by omega) (by omega)).mono ?_
  rintro e w' ⟨rfl, rfl⟩
  go_wp2_with fail
  refine (at_is _ _ _ _ _ h _ m (by omega) (by omega)).mono ?_
  rintro e w' ⟨rfl, rfl⟩
  go_wp2
  go_ret
  exact ⟨ret_int (by rw [cast_shl, cast_shl, o2, show ((T * 2 ^ s + gw xs m * 2 ^ s / 4294967296 : Nat) : Int) / 4 = (((T * 2 ^ s + gw xs m * 2 ^ s / 4294967296) / 4 : Nat) : Int) from by rw [Int.natCast_ediv]; rfl]; exact IntWalk.wrap64_in _ (by omega)), rfl⟩
/-- the same, the result under a name -/
theorem leading_is (w : World) (A : Option Addr) (n c m s v : Nat) (xs : List Nat) (h : Rd w A n c xs) (hn : n ≤ m + 3) (hm : m ≤ 100000) (hs : s ≤ 31) (htop : gw xs (m + 2) * 2 ^ s < 4294967296) (N : Int) (hN : N = (m : Int) + 3) (hv : val xs / (2 ^ (34 - s) * BB ^ m) = v) :
    Calls Try.prog 101 #[.slice A n c, .int .i64 N, .int .i64 (s : Int)] w fun e w' => e = .returned (.int .i64 ((v : Nat) : Int)) ∧ w' = w := by
  subst hv
  exact leading_any w A n c m s xs h hn hm hs htop N hN
theorem small_yes (w : World) (x : Int) (h : -1073741824 ≤ x ∧ x ≤ 1073741824) :
    Calls Try.prog 102 #[.int .i64 x] w fun e w' => e = .returned (.bool true) ∧ w' = w := by
  obtain ⟨h1, h2⟩ := h
  go_enter Try.func102, Try.ntmps102
  go_wp2
  go_ret
  exact ⟨rfl, rfl⟩
theorem small_no (w : World) (x : Int) (h : ¬ (-1073741824 ≤ x ∧ x ≤ 1073741824)) :
    Calls Try.prog 102 #[.int .i64 x] w fun e w' => e = .returned (.bool false) ∧ w' = w := by
  by_cases h1 : -1073741824 ≤ x
  · have h2 : ¬ x ≤ 1073741824 := fun e => h ⟨h1, e⟩
    clear h
    go_enter Try.func102, Try.ntmps102
    go_wp2
    go_ret
    exact ⟨rfl, rfl⟩
  · clear h
    go_enter Try.func102, Try.ntmps102
    go_wp2
    go_ret
    exact ⟨rfl, rfl⟩
set_option maxHeartbeats 1000000 in
/-- s*x + t*y, which is not below 0 and has no more words than x -/
theorem combine_any (w : World) (A A' : Option Addr) (n c n' c' : Nat) (xs ys : List Nat) (h : Rd w A n c xs) (k : Rd w A' n' c' ys) (hn : n ≤ 100000) (hle : n' ≤ n) (s t : Int) (hs : -1073741824 ≤ s ∧ s ≤ 1073741824) (ht : -1073741824 ≤ t ∧ t ≤ 1073741824)
    (z : Nat) (hz : s * (val xs : Int) + t * (val ys : Int) = (z : Int)) (hzl : z < BB ^ n) :
    Calls Try.prog 80 #[.int .i64 s, .int .i64 t, .slice A n c, .slice A' n' c'] w (Gives w z n) := by
  have hmk := run_mk n (by omega) w
  have HZ := Lib.hid hz
  have HZL := Lib.hid hzl
  obtain ⟨hs1, hs2⟩ := hs
  obtain ⟨ht1, ht2⟩ := ht
  clear hz hzl
  go_enter Try.func80, Try.ntmps80
  go_wp2
  go_loopw [10, 18] (fun cy i wr => ∃ (j : Nat) (v : Int) (cur : Array Value) (ss : List Nat), j ≤ n ∧ i = .int .i64 (j : Int) ∧ cy = .int .i64 v ∧ -2147483648 ≤ v ∧ v ≤ 2147483647 ∧ Own wr w.heap.size 53 cur ∧ Has cur 0 ss ∧ ss.length = n ∧ (val (ss.take j) : Int) + (BB ^ j : Nat) * v = s * (val (xs.take j) : Int) + t * (val (ys.take j) : Int) ∧ On w wr) (fun _ i _ => n - (intOf i).toNat)
  case atStart => exact ⟨0, 0, _, _, by omega, rfl, rfl, by omega, by omega, Own.new _ _ _, has_made _, by simp, by simp [val], (On.refl w).alloc _⟩
  case round =>
    obtain ⟨j, v, cur, ss, hj, rfl, rfl, hv1, hv2, hown, hh, hl, hv, hon⟩ := hrel
    have H1 := Lib.hid hl
    have H2 := Lib.hid hv
    have H3 := Lib.hid hown
    clear hl hv hown
    by_cases hlt : j < n
    · obtain ⟨ad, rfl, hb, hc⟩ := (h.on hon).at_ j hlt
      have T2 := k.on hon
      have gx := h.ok.get j
      have gy := k.ok.get j
      have m1 := comb_mul s (gw xs j : Int) ⟨hs1, hs2⟩ (by omega)
      have m2 := comb_mul t (gw ys j : Int) ⟨ht1, ht2⟩ (by omega)
      obtain ⟨m11, m12⟩ := m1
      obtain ⟨m21, m22⟩ := m2
      have hcell : wr.cell? ⟨w.heap.size, j, none⟩ = some (.int .u32 ((gw ss j : Nat) : Int)) := (H3.out.cell _).trans (by have := hh.get j (by rw [H1.out]; omega); rwa [Nat.zero_add] at this)
      have hfroz : wr.frozen? ⟨w.heap.size, j, none⟩ = false := H3.out.frozen _
      go_wp2_with fail
      refine (at_is _ _ _ _ _ T2 _ j (by omega) (by omega)).mono ?_
      rintro e w' ⟨rfl, rfl⟩
      go_wp2
      have e0 : ((v + (s * (gw xs j : Int) + t * (gw ys j : Int))) % 4294967296) = ((((v + (s * (gw xs j : Int) + t * (gw ys j : Int))) % 4294967296).toNat : Nat) : Int) := by omega
      have hA := hh.set_ (j := j) (x := ((v + (s * (gw xs j : Int) + t * (gw ys j : Int))) % 4294967296).toNat) (by rw [H1.out]; omega) (by omega)
      rw [Nat.zero_add] at hA
      rw [e0]
      refine ⟨⟨j + 1, (v + (s * (gw xs j : Int) + t * (gw ys j : Int))) / 4294967296, _, _, by omega, by go_num, rfl, by omega, by omega, H3.out.set_ _ _, hA, by rw [List.length_set, H1.out], ?_, hon.setCell (Nat.le_refl _) _⟩, by simp [intOf]; omega⟩
      rw [set_take_succ _ _ _ (by rw [H1.out]; omega), val_take_succ_any, val_take_succ_any, Nat.pow_succ, Int.natCast_add, Int.natCast_add, Int.natCast_add, Int.natCast_mul, Int.natCast_mul, Int.natCast_mul, Int.natCast_mul, ← e0]
      exact comb_step _ _ _ _ _ _ _ _ _ _ H2.out rfl
    · obtain rfl : j = n := by omega
      have R := Rd.own (n := j) (c := j) H3.out hh H1.out (Nat.le_refl _) (by omega)
      go_wp2_with fail
      refine (trim_any _ _ _ _ _ R).mono ?_
      rintro e w' ⟨rfl, rfl⟩
      go_wp2
      go_ret
      have hN := nm_trim R (L := j) (Nat.le_trans (tl_le _) (by rw [H1.out]; omega))
      have hval : val ss = z := by
        have h2 := H2.out
        rw [List.take_of_length_le (Nat.le_of_eq H1.out), List.take_of_length_le (Nat.le_of_eq h.len), List.take_of_length_le (by rw [k.len]; exact hle), HZ.out] at h2
        have hvl := val_lt hh.ok
        rw [H1.out] at hvl
        have := comb_end _ _ _ _ h2 (by omega) (by omega) (by omega) (by have := HZL.out; omega)
        omega
      rw [hval] at hN
      exact ⟨_, _, _, rfl, hN, hon⟩
end Num
end Go.Proofs.Ytkpeliokhmigoaa
