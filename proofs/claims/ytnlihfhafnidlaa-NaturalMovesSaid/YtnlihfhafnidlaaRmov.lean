/-
  The specification's bit, Shift and Root; Shift out of range.
-/
import Derived.Test.YtnlihfhafnidlaaRup
import Derived.Test.YtnlihfhafnidlaaRmul
import Derived.Test.YtnlihfhafnidlaaDiva
import Derived.Test.YtnlihfhafnidlaaPower
import Derived.Deep.RegionHeld3
namespace Go.Proofs.Ytnlihfhafnidlaa
open Go.RowKit
set_option linter.unusedVariables false
namespace Num
theorem bit_val (xs : List Nat) (ok : Ok xs) (i : Nat) : gw xs (i / 32) / 2 ^ (i % 32) % 2 = val xs / 2 ^ i % 2 := by
  have hr : i % 32 < 32 := Nat.mod_lt _ (by decide)
  rw [pow_split i, ← Nat.div_div_eq_div_mul, val_div xs ok, val_drop_any xs (i / 32)]
  have e : BB = 2 ^ (i % 32) * (2 * 2 ^ (31 - i % 32)) := by
    rw [Nat.mul_comm 2 (2 ^ (31 - i % 32)), ← Nat.pow_succ, ← Nat.pow_add, show i % 32 + (31 - i % 32 + 1) = 32 from by omega]; rfl
  rw [e, Nat.mul_assoc, Nat.add_mul_div_left _ _ (Nat.pow_pos (by decide)), Nat.mul_assoc, Nat.add_mul_mod_self_left]
theorem bit_is (w : World) (A : Option Addr) (n c : Nat) (xs : List Nat) (h : Rd w A n c xs) (i : Int) (j : Nat) (hi : i = (j : Int)) (hj : j ≤ 100000000) :
    Calls Try.prog 71 #[.slice A n c, .int .i64 i] w fun e w' => e = .returned (.int .u32 ((val xs / 2 ^ j % 2 : Nat) : Int)) ∧ w = w' := by
  subst hi
  have g := h.ok.get (j / 32)
  have ha := and_one (gw xs (j / 32)) (j % 32) g
  rw [bit_val xs h.ok j] at ha
  have HA := Lib.hid ha
  clear ha
  go_enter Try.func71, Try.ntmps71
  go_wp2_with fail
  refine (word_is _ _ _ _ _ h _ (j / 32) (by omega) (by omega)).mono ?_
  rintro e w' ⟨rfl, rfl⟩
  go_wp2
  go_ret
  exact ⟨ret_int HA.out, rfl⟩
/-- what Shift's loop has made of the first i bits -/
def shifted (v p q i : Nat) : Nat := v % 2 ^ i * 2 ^ p / 2 ^ q
theorem shifted_zero (v p q : Nat) : shifted v p q 0 = 0 := by simp [shifted, Nat.mod_one]
theorem shifted_low (v p q i : Nat) (h : i + p < q) : shifted v p q (i + 1) = 0 := by
  unfold shifted
  apply Nat.div_eq_of_lt
  have h1 : v % 2 ^ (i + 1) * 2 ^ p < 2 ^ (i + 1) * 2 ^ p := Nat.mul_lt_mul_of_pos_right (Nat.mod_lt _ (Nat.pow_pos (by decide))) (Nat.pow_pos (by decide))
  rw [← Nat.pow_add] at h1
  exact Nat.lt_of_lt_of_le h1 (Nat.pow_le_pow_right (by decide) (by omega))
theorem shifted_lt (v p q i k : Nat) (h : i + p = k + q) : shifted v p q i < 2 ^ k := by
  unfold shifted
  rw [Nat.div_lt_iff_lt_mul (Nat.pow_pos (by decide)), ← Nat.pow_add, ← h, Nat.pow_add]
  exact Nat.mul_lt_mul_of_pos_right (Nat.mod_lt _ (Nat.pow_pos (by decide))) (Nat.pow_pos (by decide))
theorem shifted_step (v p q i k : Nat) (h : i + p = k + q) : shifted v p q (i + 1) = shifted v p q i + 2 ^ k * (v / 2 ^ i % 2) := by
  unfold shifted
  rw [Nat.pow_succ, Nat.mod_mul, Nat.add_mul]
  have e : 2 ^ i * (v / 2 ^ i % 2) * 2 ^ p = 2 ^ q * (2 ^ k * (v / 2 ^ i % 2)) := by
    rw [Nat.mul_right_comm, ← Nat.pow_add, h, Nat.pow_add, Nat.mul_comm (2 ^ k), Nat.mul_assoc]
  rw [e, Nat.add_mul_div_left _ _ (Nat.pow_pos (by decide))]
theorem shifted_end (v p q i : Nat) (h : v < 2 ^ i) : shifted v p q i = v * 2 ^ p / 2 ^ q := by unfold shifted; rw [Nat.mod_eq_of_lt h]
/-- a bit that is not there is put in -/
theorem put_low (os : List Nat) (ok : Ok os) (k : Nat) (h : val os < 2 ^ k) : gw os (k / 32) < 2 ^ (k % 32) := by
  rw [pow_split k] at h
  have h1 := Nat.div_lt_of_lt_mul h
  rw [val_div os ok, val_drop_any] at h1
  omega
theorem put_val (os : List Nat) (k b : Nat) (hk : k / 32 < os.length) : val (os.set (k / 32) (gw os (k / 32) + b * 2 ^ (k % 32))) = val os + 2 ^ k * b := by
  have h1 := val_split_any os (k / 32)
  have h2 := val_split_any (os.set (k / 32) (gw os (k / 32) + b * 2 ^ (k % 32))) (k / 32)
  rw [val_drop_any] at h1 h2
  rw [take_set_same, drop_set_same, gw_set _ _ _ _ hk, if_pos rfl] at h2
  rw [h2, h1, pow_split k]
  rw [Nat.add_right_comm (gw os (k / 32)), Nat.mul_add (BB ^ (k / 32)), Nat.mul_comm b, Nat.mul_assoc, Nat.add_assoc]
theorem or_bit (g b r : Nat) (hr : r < 32) (hg : g < 2 ^ r) (hb : b < 2) : bits .or .u32 (g : Int) ((b : Int) * 2 ^ r) = ((g + b * 2 ^ r : Nat) : Int) ∧ g + b * 2 ^ r < 4294967296 ∧ IntKind.u32.wrap ((b : Int) * 2 ^ r) = (b : Int) * 2 ^ r := by
  have h1 : 2 ^ r ≤ 2147483648 := Nat.pow_le_pow_right (by decide) (show r ≤ 31 by omega)
  have h2 : b * 2 ^ r ≤ 1 * 2 ^ r := Nat.mul_le_mul_right _ (by omega)
  rw [cast_shl]
  refine ⟨?_, by omega, by rw [IntKind.wrap_u32]; omega⟩
  rw [u32_or_nat _ _ (by omega) (by omega), Nat.or_comm, nat_join r _ _ (Nat.mul_mod_left _ _) hg, Nat.add_comm]
set_option maxHeartbeats 400000 in
theorem shift_out (w : World) (v : Value) (i : Int) (h : i < -131072 ∨ 131072 < i) :
    Calls Try.prog 38 #[v, .int .i64 i] w fun e w' => e = .returned (.tuple #[.slice none 0 0, .iface 56 (.int .i64 3)]) ∧ w' = w := by
  by_cases h1 : i < -131072
  · clear h
    go_enter Try.func38, Try.ntmps38
    go_wp2
    go_ret2
    exact ⟨rfl, rfl⟩
  · have h2 : 131072 < i := by omega
    clear h
    go_enter Try.func38, Try.ntmps38
    go_wp2
    go_ret2
    exact ⟨rfl, rfl⟩
set_option maxHeartbeats 400000 in
theorem rshift_out (w : World) (v : Value) (i : Int) (h : i < -131072 ∨ 131072 < i) :
    Calls Try.prog 39 #[v, .int .i64 i] w fun e w' => e = .returned (.tuple #[.slice none 0 0, .int .i64 3]) ∧ w' = w := by
  by_cases h1 : i < -131072
  · clear h
    go_enter Try.func39, Try.ntmps39
    go_wp2
    go_ret2
    exact ⟨rfl, rfl⟩
  · have h2 : 131072 < i := by omega
    clear h
    go_enter Try.func39, Try.ntmps39
    go_wp2
    go_ret2
    exact ⟨rfl, rfl⟩
set_option maxRecDepth 100000 in
set_option maxHeartbeats 2000000 in
theorem rshift_any (w : World) (A : Option Addr) (n c p q : Nat) (xs : List Nat) (h : Rd w A n c xs) (hn : n ≤ 10000) (hp : p ≤ 131072) (hq : q ≤ 131072) (i : Int) (hi : i = (p : Int) - (q : Int)) (L : Nat) (hL : n + p / 32 + 1 ≤ L) :
    Calls Try.prog 39 #[.slice A n c, .int .i64 i] w (Gives2 w (val xs * 2 ^ p / 2 ^ q) L (.int .i64 0)) := by
  obtain ⟨b, hb⟩ : ∃ b, nb (val xs) = b := ⟨_, rfl⟩
  have hbn : b ≤ 32 * n := by
    rw [← hb, nb_le_iff, Nat.pow_mul]
    have := val_lt h.ok
    rw [h.len] at this
    exact this
  have HB := Lib.hid hb
  clear hb
  have i1 : -131072 ≤ i := by omega
  have i2 : i ≤ 131072 := by omega
  have i3 : ¬ i < -131072 := by omega
  have i4 : ¬ 131072 < i := by omega
  obtain ⟨N, hN1, hN2, hN3⟩ : ∃ N : Nat, max (0 : Int) (((b : Int) + i + 31).tdiv 32) = (N : Int) ∧ (∀ k : Nat, (k : Int) < (b : Int) + i → k / 32 < N) ∧ N ≤ n + p / 32 + 1 := by
    by_cases hneg : 0 ≤ (b : Int) + i + 31
    · refine ⟨(((b : Int) + i + 31) / 32).toNat, ?_, ?_, ?_⟩
      · rw [Int.tdiv_eq_ediv_of_nonneg hneg]; omega
      · intro k hk; omega
      · omega
    · refine ⟨0, ?_, ?_, ?_⟩
      · have : ((b : Int) + i + 31).tdiv 32 ≤ 0 := by
          rw [← Int.neg_neg ((b : Int) + i + 31), Int.neg_tdiv, Int.tdiv_eq_ediv_of_nonneg (by omega)]
          omega
        omega
      · intro k hk; omega
      · omega
  have HN2 := Lib.hid hN2
  have HI := Lib.hid hi
  clear hN2 hi
  have hmk := run_mk N (by omega) w
  go_enter Try.func39, Try.ntmps39
  go_wp2_with fail
  refine (rbits_any _ _ _ _ _ h (by omega)).mono ?_
  rintro e w' ⟨rfl, rfl⟩
  rw [HB.out]
  go_wp2_with fail
  refine (rbits_any _ _ _ _ _ (h.alloc _) (by omega)).mono ?_
  rintro e w' ⟨rfl, rfl⟩
  rw [HB.out]
  go_wp2
  go_loopw [25] (fun s25 wr => ∃ (j : Nat) (cur : Array Value) (os : List Nat), j ≤ b ∧ s25 = .int .i64 (j : Int) ∧ Own wr w.heap.size 30 cur ∧ Has cur 0 os ∧ os.length = N ∧ val os = shifted (val xs) p q j ∧ On w wr) (fun s25 _ => b - (intOf s25).toNat)
  case atStart => exact ⟨0, _, _, by omega, rfl, Own.new _ _ _, has_made _, by simp, by rw [val_replicate, shifted_zero], (On.refl w).alloc _⟩
  case round =>
    obtain ⟨j, cur, os, hj, rfl, hown, hh, hl, hv, hon⟩ := hrel
    have H1 := Lib.hid hl
    have H2 := Lib.hid hv
    have H3 := Lib.hid hown
    clear hl hv hown
    by_cases hlt : j < b
    · by_cases hk0 : (j : Int) + i < 0
      · have HZ : Hid (shifted (val xs) p q (j + 1) = val os) := Lib.hid (by
          have hio := HI.out
          rw [H2.out, shifted_low _ _ _ _ (by omega)]
          rcases j with _ | j
          · rw [shifted_zero]
          · rw [shifted_low _ _ _ _ (by omega)])
        go_wp2
        go_roundw
        case rel => exact ⟨j + 1, cur, os, by omega, by go_num, H3.out, hh, H1.out, HZ.out.symm, hon⟩
        case measure => simp [intOf]; omega
      · obtain ⟨k, hk⟩ := Int.eq_ofNat_of_zero_le (show 0 ≤ (j : Int) + i by omega)
        have hkq : j + p = k + q := by have := HI.out; omega
        have hkN : k / 32 < N := HN2.out k (by omega)
        have HST := Lib.hid (shifted_step (val xs) p q j k hkq)
        have hlow := put_low os hh.ok k (by rw [H2.out]; exact shifted_lt (val xs) p q j k hkq)
        have hbt : val xs / 2 ^ j % 2 < 2 := Nat.mod_lt _ (by decide)
        obtain ⟨bt, hbe⟩ : ∃ bt, val xs / 2 ^ j % 2 = bt := ⟨_, rfl⟩
        rw [hbe] at HST hbt
        have HBE := Lib.hid hbe
        have ho := or_bit (gw os (k / 32)) bt (k % 32) (by omega) hlow hbt
        obtain ⟨o1, o2, o3⟩ := ho
        have hcell : wr.cell? ⟨w.heap.size, k / 32, none⟩ = some (.int .u32 ((gw os (k / 32) : Nat) : Int)) := (H3.out.cell _).trans (by have := hh.get (k / 32) (by rw [H1.out]; omega); rwa [Nat.zero_add] at this)
        have hfroz : wr.frozen? ⟨w.heap.size, k / 32, none⟩ = false := H3.out.frozen _
        obtain ⟨kd, hkd⟩ : ∃ kd, k / 32 = kd := ⟨_, rfl⟩
        obtain ⟨kr, hkr⟩ : ∃ kr, k % 32 = kr := ⟨_, rfl⟩
        have hr32 : kr < 32 := by omega
        have hkd2 : kd < N := by omega
        have hA := hh.set_ (j := kd) (x := gw os kd + bt * 2 ^ kr) (by rw [H1.out]; exact hkd2) (by rw [← hkd, ← hkr]; exact o2)
        rw [Nat.zero_add] at hA
        have HPV : Hid (val (os.set kd (gw os kd + bt * 2 ^ kr)) = shifted (val xs) p q (j + 1)) := Lib.hid (by
          have h1 := put_val os k bt (by rw [H1.out]; exact hkN)
          rw [hkd, hkr] at h1
          rw [h1, HST.out, H2.out])
        rw [hkd] at hcell hfroz o1
        rw [hkr] at o1 o3
        obtain ⟨X, hX⟩ : ∃ X, gw os kd + bt * 2 ^ kr = X := ⟨_, rfl⟩
        rw [hX] at o1 hA HPV
        clear hX
        have t1 : (k : Int).tdiv 32 = (kd : Int) := by rw [Int.tdiv_eq_ediv_of_nonneg (by omega)]; omega
        have t2 : (k : Int).tmod 32 = (kr : Int) := by rw [Int.tmod_eq_emod_of_nonneg (by omega)]; omega
        have t3 : (k : Int) / 32 = (kd : Int) := by omega
        have t4 : (k : Int) % 32 = (kr : Int) := by omega
        have t5 : IntKind.i64.wrap (kd : Int) = (kd : Int) := IntWalk.i64_in _ (by omega)
        have t6 : IntKind.i64.wrap (kr : Int) = (kr : Int) := IntWalk.i64_in _ (by omega)
        have t7 : (0 : Int) ≤ (kd : Int) := by omega
        have t8 : (kd : Int) < (N : Int) := by omega
        have t9 : (0 : Int) ≤ (kr : Int) := by omega
        have HR := Lib.hid (h.on hon)
        clear hbe hkd hkr o2 hlow HST hkN
        go_wp2
        go_region_with (go_at_call 71; refine (bit_is _ _ _ _ _ (HR.out.drewN _) _ j rfl (by omega)).mono ?_; rintro e w' ⟨rfl, rfl⟩; rw [HBE.out])
        all_goals
          go_wp2
          exact ⟨⟨j + 1, _, _, by omega, by go_num, (H3.out.set_ _ _).drew, hA, by rw [List.length_set, H1.out], HPV.out, (hon.setCell (Nat.le_refl _) _).drew⟩, by simp [intOf]; omega⟩
    · obtain rfl : j = b := by omega
      have R := Rd.own (n := N) (c := N) H3.out hh H1.out (Nat.le_refl _) (by omega)
      have hval : val os = val xs * 2 ^ p / 2 ^ q := by rw [H2.out, shifted_end _ _ _ _ (by rw [← HB.out]; exact nb_lt _)]
      have HV := Lib.hid hval
      have HL : Hid (tl os ≤ L) := Lib.hid (Nat.le_trans (tl_le _) (by rw [H1.out]; omega))
      clear hval
      go_wp2_with fail
      refine (rtrim_any _ _ _ _ L _ R HL.out (by omega)).mono ?_
      rintro e w6 ⟨A6, n6, c6, rfl, N6, P6⟩
      rw [HV.out] at N6
      go_wp2
      go_ret2
      exact ⟨_, _, _, rfl, N6, hon.trans P6⟩
theorem rd_empty' (w : World) (t : TypeId) : Rd (w.alloc (.cells #[] t)) (some ⟨w.heap.size, 0, none⟩) 0 0 [] := ⟨rfl, by omega, by omega, Ok.nil, fun _ => rfl, fun h => absurd h (by omega)⟩
theorem sq_step (v R k : Nat) (h : v < (R + 2 ^ (k + 1)) * (R + 2 ^ (k + 1))) : v < (R + 2 ^ k + 2 ^ k) * (R + 2 ^ k + 2 ^ k) := by
  rw [Nat.pow_succ] at h
  rw [show R + 2 ^ k + 2 ^ k = R + 2 ^ k * 2 from by omega]
  exact h
theorem sq_start (v b : Nat) (h : v < 2 ^ b) : v < (0 + 2 ^ (b / 2 + 1)) * (0 + 2 ^ (b / 2 + 1)) := by
  rw [Nat.zero_add, ← Nat.pow_add]
  exact Nat.lt_of_lt_of_le h (Nat.pow_le_pow_right (by decide) (by omega))
set_option maxRecDepth 100000 in
set_option maxHeartbeats 1000000 in
theorem rroot_any (w : World) (A : Option Addr) (n c : Nat) (xs : List Nat) (h : Rd w A n c xs) (hn : n ≤ 1000) :
    Calls Try.prog 41 #[.slice A n c] w (RootPost w (val xs) n) := by
  obtain ⟨b, hb⟩ : ∃ b, nb (val xs) = b := ⟨_, rfl⟩
  have hbn : b ≤ 32 * n := by
    rw [← hb, nb_le_iff, Nat.pow_mul]
    have := val_lt h.ok
    rw [h.len] at this
    exact this
  have HB := Lib.hid hb
  clear hb
  go_enter Try.func41, Try.ntmps41
  go_wp2_with fail
  refine (rbits_any _ _ _ _ _ (h.alloc _) (by omega)).mono ?_
  rintro e w' ⟨rfl, rfl⟩
  rw [HB.out]
  go_wp2
  go_loopw [3, 4] (fun s3 s4 wr => ∃ (k : Nat) (A : Option Addr) (n1 c : Nat) (l : List Nat), k ≤ b / 2 + 1 ∧ s4 = .int .i64 ((k : Int) - 1) ∧ s3 = .slice A n1 c ∧ Rd wr A n1 c l ∧ Clean l ∧ n1 ≤ n ∧ val l * val l ≤ val xs ∧ val xs < (val l + 2 ^ k) * (val l + 2 ^ k) ∧ On w wr) (fun _ s4 _ => (intOf s4 + 1).toNat)
  case atStart => exact ⟨b / 2 + 1, _, 0, 0, [], by omega, by congr 1; omega, rfl, rd_empty' w _, clean_nil, by omega, by simp [val], sq_start _ _ (by rw [← HB.out]; exact nb_lt _), (On.refl w).alloc _⟩
  case round =>
    obtain ⟨k, A1, n1, c1, l, hk, rfl, rfl, R, C, hn1, hlo, hhi, hon⟩ := hrel
    have HLO := Lib.hid hlo
    have HHI := Lib.hid hhi
    clear hlo hhi
    rcases k with _ | k
    · go_wp2
      go_ret
      exact ⟨val l, HLO.out, by have := HHI.out; simpa using this, _, _, _, rfl, ⟨l, R, C, rfl, hn1⟩, hon⟩
    · rw [show ((k + 1 : Nat) : Int) - 1 = (k : Int) from by omega]
      go_wp2_with fail
      refine (rof_any _ _ (by decide) (by decide)).mono ?_
      rintro e w2 ⟨A2, n2, c2, rfl, ⟨bs, R2, C2, V2, L2⟩, P2⟩
      have V2' : val bs = 1 := V2
      have HV2 := Lib.hid V2'
      clear V2 V2'
      go_wp2_with fail
      refine (rshift_any _ _ _ _ k 0 _ R2 (by omega) (by omega) (by omega) _ (by omega) (k / 32 + 3) (by omega)).mono ?_
      rintro e w3 ⟨A3, n3, c3, rfl, ⟨ds, R3, C3, V3, L3⟩, P3⟩
      have V3' : val ds = 2 ^ k := by rw [V3, HV2.out]; simp
      have HV3 := Lib.hid V3'
      clear V3 V3'
      have hL3 : n3 ≤ n + 3 := by omega
      go_wp2_with fail
      refine (radd_any _ _ _ _ _ _ _ (n + 3) _ _ ((R.on P2).on P3) R3 (by omega) (by omega) (by omega) (by omega)).mono ?_
      rintro e w4 ⟨A4, n4, c4, rfl, ⟨es, R4, C4, V4, L4⟩, P4⟩
      have V4' : val es = val l + 2 ^ k := by rw [V4, HV3.out]
      have HV4 := Lib.hid V4'
      clear V4 V4'
      go_wp2_with fail
      refine (rmul_any _ _ _ _ _ _ _ (2 * (n + 4)) _ _ R4 R4 (by omega) (by omega) (by omega)).mono ?_
      rintro e w5 ⟨A5, n5, c5, rfl, ⟨fs, R5, C5, V5, L5⟩, P5⟩
      have HV5 := Lib.hid V5
      clear V5
      have hon5 := (((hon.trans P2).trans P3).trans P4).trans P5
      go_wp2_with fail
      refine (rcmp_any _ _ _ _ _ _ _ _ _ R5 (h.on hon5) (by omega) (by omega)).mono ?_
      rintro e w' ⟨rfl, rfl⟩
      by_cases hc : val es * val es ≤ val xs
      · have hci : cmpI (val fs) (val xs) ≤ 0 := by
          rw [HV5.out]
          rcases Nat.lt_or_eq_of_le hc with h | h
          · rw [cmpI_lt h]; decide
          · rw [cmpI_eq h]; decide
        have hln : n4 ≤ n := by
          have h1 := clean_len C4 n (by
            have h2 := val_lt h.ok
            rw [h.len] at h2
            have h3 : val es * 1 ≤ val es * val es := by
              rcases Nat.eq_zero_or_pos (val es) with h0 | h0
              · rw [h0]; decide
              · exact Nat.mul_le_mul_left _ h0
            omega)
          rwa [R4.len] at h1
        have HC := Lib.hid hc
        clear hc
        generalize cmpI (val fs) (val xs) = ci at *
        have hcd : decide (ci ≤ 0) = true := decide_eq_true hci
        go_wp2
        go_roundw
        case rel => exact ⟨k, A4, n4, c4, es, by omega, rfl, rfl, R4.on P5, C4, hln, HC.out, by rw [HV4.out]; exact sq_step _ _ _ HHI.out, hon5⟩
        case measure => simp [intOf]
      · have hci : cmpI (val fs) (val xs) = 1 := by rw [HV5.out]; exact cmpI_gt (by omega)
        have HCI := Lib.hid hci
        have HC := Lib.hid hc
        clear hc hci
        rw [HCI.out]
        go_wp2
        go_roundw
        case rel => exact ⟨k, A1, n1, c1, l, by omega, rfl, rfl, ((((R.on P2).on P3).on P4).on P5), C, hn1, HLO.out, by have := HC.out; rw [HV4.out] at this; omega, hon5⟩
        case measure => simp [intOf]
end Num
end Go.Proofs.Ytnlihfhafnidlaa
