/-
  The specification's up and down: shifts by less than a word.
-/
import Derived.Test.YtkpeliokhmigoaaRbits
import Derived.Test.YtkpeliokhmigoaaText
import Derived.Test.YtkpeliokhmigoaaShr
namespace Go.Proofs.Ytkpeliokhmigoaa
open Go.RowKit
set_option linter.unusedVariables false
namespace Num
theorem up_lt (t x s : Nat) (hs : s ≤ 31) (ht : t < 2 ^ s) (hx : x < 4294967296) : t + x * 2 ^ s < 4294967296 * 2 ^ s := by
  have h1 : x * 2 ^ s ≤ 4294967295 * 2 ^ s := Nat.mul_le_mul_right _ (by omega)
  omega
theorem up_or (t x s : Nat) (hs : s ≤ 31) (ht : t < 2 ^ s) (hx : x < 4294967296) : bits .or .u64 (t : Int) ((x : Int) * 2 ^ s) = ((t + x * 2 ^ s : Nat) : Int) := by
  have h2 : 2 ^ s ≤ 2147483648 := Nat.pow_le_pow_right (by decide) hs
  have h3 := up_lt t x s hs ht hx
  rw [cast_shl, u64_or_nat t _ (by omega) (by omega), Nat.or_comm, nat_join s _ _ (Nat.mul_mod_left _ _) ht, Nat.add_comm]
theorem up_step (P v a t x q : Nat) (h : v + P * t = a * q) : v + P * ((t + x * q) % 4294967296) + P * BB * ((t + x * q) / 4294967296) = (a + P * x) * q := by
  have h1 := Nat.div_add_mod (t + x * q) 4294967296
  have h2 : P * ((t + x * q) % 4294967296) + P * BB * ((t + x * q) / 4294967296) = P * (t + x * q) := by
    rw [Nat.mul_assoc, ← Nat.mul_add]; congr 1; simp only [BB]; omega
  rw [Nat.mul_add, ← Nat.mul_assoc] at h2
  rw [Nat.add_mul]
  omega
set_option maxHeartbeats 1000000 in
theorem rup_any (w : World) (A : Option Addr) (n c s : Nat) (xs : List Nat) (h : Rd w A n c xs) (hn : n ≤ 100000) (hs : s ≤ 31) :
    Calls Try.prog 71 #[.slice A n c, .int .i64 (s : Int)] w (Gives w (val xs * 2 ^ s) (n + 1)) := by
  have hcap := h.cap
  have hmax := h.max
  have h2s : 2 ^ s ≤ 2147483648 := Nat.pow_le_pow_right (by decide) hs
  have h2p : 0 < 2 ^ s := Nat.pow_pos (by decide)
  go_enter Try.func71, Try.ntmps71
  go_wp2
  go_loopw [5, 6, 11] (fun o cy i wr => ∃ (k t : Nat) (os : List Nat), k ≤ n ∧ i = .int .i64 (k : Int) ∧ cy = .int .u64 (t : Int) ∧ t < 2 ^ s ∧ wr.ownsRow w.heap.size 53 1 o k (VW .u32 os) ∧ os.length = k ∧ Ok os ∧ val os + BB ^ k * t = val (xs.take k) * 2 ^ s ∧ On w wr) (fun _ _ i _ => n - (intOf i).toNat)
  case atStart => exact ⟨0, 0, [], by omega, rfl, rfl, h2p, World.ownsRow_nil _ _ _ _, rfl, Ok.nil, by simp [val], On.refl _⟩
  case round =>
    obtain ⟨k, t, os, hk, rfl, rfl, ht, hrow, hl, hok, hv, hon⟩ := hrel
    have H1 := Lib.hid hl
    have H2 := Lib.hid hv
    have H3 := Lib.hid hrow
    clear hl hv hrow
    have hos := hon.size
    by_cases hlt : k < n
    · obtain ⟨ad, rfl, hb, hc⟩ := (h.on hon).at_ k hlt
      have gx := h.ok.get k
      have hw := shl_wrap (gw xs k) s gx (by omega)
      have hor := up_or t (gw xs k) s hs ht gx
      have hul := up_lt t (gw xs k) s hs ht gx
      have HST := Lib.hid (up_step (BB ^ k) (val os) (val (xs.take k)) t (gw xs k) (2 ^ s) H2.out)
      obtain ⟨T, hT⟩ : ∃ T, t + gw xs k * 2 ^ s = T := ⟨_, rfl⟩
      rw [hT] at hor hul HST
      have HTT := Lib.hid hT
      clear hT
      have hcell := cells_one32 wr 53 (T % 4294967296)
      rw [show ((T % 4294967296 : Nat) : Int) = (T : Int) % 4294967296 from by omega] at hcell
      have HC := Lib.hid hcell
      clear hcell
      go_wp2_with (at_builtin; refine wpList_app rfl (.tmp 21) (.tmp 24) 22 rfl w.heap.size 53 (.int .u32 0) 4 Try.underlying22 info32 rfl (by decide) .u32 _ k os rfl (H3.out.alloc _) (some ⟨wr.heap.size, 0, none⟩) 1 1 [T % 4294967296] rfl rfl (fun e => by cases e) HC.out (by omega) (by simp; omega) ?_; intro v' w5 hown5 hgrow5 _)
      have e5 : Value.int .u64 ((T : Int) / 4294967296) = Value.int .u64 ((T / 4294967296 : Nat) : Int) := by
        rw [Int.natCast_ediv]; rfl
      refine ⟨⟨k + 1, T / 4294967296, os ++ [T % 4294967296], by omega, by go_num, e5, Nat.div_lt_of_lt_mul hul, hown5, by rw [List.length_append, H1.out]; rfl, hok.append (Ok.one (Nat.mod_lt _ (by decide))), ?_, on_row (hon.alloc _) (H3.out.alloc _) (Nat.le_refl _) hgrow5⟩, by simp [intOf]; omega⟩
      rw [val_snoc' _ _ k H1.out, val_take_succ_any, Nat.pow_succ]
      exact HST.out
    · obtain rfl : k = n := by omega
      have hcell := cells_one32 wr 53 (t % 4294967296)
      rw [show ((t % 4294967296 : Nat) : Int) = (t : Int) from by omega, show t % 4294967296 = t from Nat.mod_eq_of_lt (by omega)] at hcell
      have HC := Lib.hid hcell
      clear hcell
      have hval : val (os ++ [t]) = val xs * 2 ^ s := by
        rw [val_snoc' _ _ k H1.out, H2.out, List.take_of_length_le (by rw [h.len]; omega)]
      have HV := Lib.hid hval
      clear hval
      go_wp2_with (at_builtin; refine wpList_app rfl (.tmp 29) (.tmp 32) 22 rfl w.heap.size 53 (.int .u32 0) 4 Try.underlying22 info32 rfl (by decide) .u32 _ k os rfl (H3.out.alloc _) (some ⟨wr.heap.size, 0, none⟩) 1 1 [t] rfl rfl (fun e => by cases e) HC.out (by omega) (by simp; omega) ?_; intro v' w5 hown5 hgrow5 _)
      obtain ⟨A5, c5, ho5⟩ := row_form hown5
      subst ho5
      have hok5 : Ok (os ++ [t]) := hok.append (Ok.one (by omega))
      have R := rd_of_row hok5 hown5
      have hon5 : On w w5 := on_row (hon.alloc _) (H3.out.alloc _) (Nat.le_refl _) hgrow5
      have HL : Hid (tl (os ++ [t]) ≤ k + 1) := Lib.hid (Nat.le_trans (tl_le _) (by rw [List.length_append, H1.out]; exact Nat.le_refl _))
      go_wp2_with fail
      refine (rtrim_any _ _ _ _ (k + 1) _ R HL.out (by omega)).mono ?_
      rintro e w6 ⟨A6, n6, c6, rfl, N6, P6⟩
      rw [HV.out] at N6
      go_wp2
      go_ret
      exact ⟨_, _, _, rfl, N6, hon5.trans P6⟩
theorem or64'' (x y : Nat) (hx : x < 4294967296) (hy : y < 4294967296) : bits .or .u64 (y : Int) ((x : Int) * 4294967296) = ((x * 4294967296 + y : Nat) : Int) := by
  rw [show ((x : Int) * 4294967296) = ((x * 4294967296 : Nat) : Int) from by omega, u64_or_nat y (x * 4294967296) (by omega) (by omega), Nat.or_comm, nat_join 32 (x * 4294967296) y (by omega) (by omega)]
set_option maxHeartbeats 1000000 in
theorem rdown_any (w : World) (A : Option Addr) (n c s : Nat) (xs : List Nat) (h : Rd w A n c xs) (hn : n ≤ 100000) (hs : s ≤ 31) :
    Calls Try.prog 75 #[.slice A n c, .int .i64 (s : Int)] w (Gives w (val xs / 2 ^ s) n) := by
  have hcap := h.cap
  have hmax := h.max
  go_enter Try.func75, Try.ntmps75
  go_wp2
  go_loopw [5, 9] (fun o i wr => ∃ (k : Nat) (os : List Nat), k ≤ n ∧ i = .int .i64 (k : Int) ∧ wr.ownsRow w.heap.size 53 1 o k (VW .u32 os) ∧ os.length = k ∧ Ok os ∧ val os = val xs / 2 ^ s % BB ^ k ∧ On w wr) (fun _ i _ => n - (intOf i).toNat)
  case atStart => exact ⟨0, [], by omega, rfl, World.ownsRow_nil _ _ _ _, rfl, Ok.nil, by simp [val, Nat.mod_one], On.refl _⟩
  case round =>
    obtain ⟨k, os, hk, rfl, hrow, hl, hok, hv, hon⟩ := hrel
    have H1 := Lib.hid hl
    have H2 := Lib.hid hv
    have H3 := Lib.hid hrow
    clear hl hv hrow
    have hos := hon.size
    by_cases hlt : k < n
    · have R := h.on hon
      have g0 := h.ok.get k
      have g1 := h.ok.get (k + 1)
      have hor := or64'' (gw xs (k + 1)) (gw xs k) g1 g0
      obtain ⟨T, hT⟩ : ∃ T, gw xs (k + 1) * 4294967296 + gw xs k = T := ⟨_, rfl⟩
      rw [hT] at hor
      have HTT := Lib.hid hT
      clear hT
      have hcell := cells_one32 wr 53 (T / 2 ^ s % 4294967296)
      rw [show ((T / 2 ^ s % 4294967296 : Nat) : Int) = (T : Int) / 2 ^ s % 4294967296 from by rw [Int.natCast_emod, Int.natCast_ediv, Int.natCast_pow]; rfl] at hcell
      have HC := Lib.hid hcell
      clear hcell
      go_wp2_with fail
      refine (word_is _ _ _ _ _ R _ k rfl (by omega)).mono ?_
      rintro e w' ⟨rfl, rfl⟩
      go_wp2_with fail
      refine (word_is _ _ _ _ _ R _ (k + 1) (by omega) (by omega)).mono ?_
      rintro e w' ⟨rfl, rfl⟩
      go_wp2_with (at_builtin; refine wpList_app rfl (.tmp 12) (.tmp 25) 22 rfl w.heap.size 53 (.int .u32 0) 4 Try.underlying22 info32 rfl (by decide) .u32 _ k os rfl (H3.out.alloc _) (some ⟨wr.heap.size, 0, none⟩) 1 1 [T / 2 ^ s % 4294967296] rfl rfl (fun e => by cases e) HC.out (by omega) (by simp; omega) ?_; intro v' w5 hown5 hgrow5 _)
      refine ⟨⟨k + 1, os ++ [T / 2 ^ s % 4294967296], by omega, by go_num, hown5, by rw [List.length_append, H1.out]; rfl, hok.append (Ok.one (Nat.mod_lt _ (by decide))), ?_, on_row (hon.alloc _) (H3.out.alloc _) (Nat.le_refl _) hgrow5⟩, by simp [intOf]; omega⟩
      rw [val_snoc' _ _ k H1.out, H2.out, Nat.mod_pow_succ, shr_digit xs h.ok k s (by omega), HTT.out]
    · obtain rfl : k = n := by omega
      obtain ⟨A5, c5, ho5⟩ := row_form H3.out
      subst ho5
      have R := rd_of_row hok H3.out
      have hval : val os = val xs / 2 ^ s := by
        rw [H2.out, Nat.mod_eq_of_lt]
        have := val_lt h.ok
        rw [h.len] at this
        exact Nat.lt_of_le_of_lt (Nat.div_le_self _ _) this
      have HV := Lib.hid hval
      have HL : Hid (tl os ≤ k) := Lib.hid (Nat.le_trans (tl_le _) (by rw [H1.out]; exact Nat.le_refl _))
      clear hval
      go_wp2_with fail
      refine (rtrim_any _ _ _ _ k _ R HL.out (by omega)).mono ?_
      rintro e w6 ⟨A6, n6, c6, rfl, N6, P6⟩
      rw [HV.out] at N6
      go_wp2
      go_ret
      exact ⟨_, _, _, rfl, N6, hon.trans P6⟩
end Num
end Go.Proofs.Ytkpeliokhmigoaa
