/-
  The specification's functions: Sub.
-/
import Derived.Test.YtkpeliokhmigoaaRef3
namespace Go.Proofs.Ytkpeliokhmigoaa
open Go.RowKit
set_option linter.unusedVariables false
namespace Num
set_option maxHeartbeats 400000 in
theorem rsub_bad (w : World) (A A' : Option Addr) (n c n' c' : Nat) (xs ys : List Nat) (h : Rd w A n c xs) (k : Rd w A' n' c' ys) (hn : n ≤ 100000) (hn' : n' ≤ 100000) (hlt : val xs < val ys) :
    Calls Try.prog 74 #[.slice A n c, .slice A' n' c'] w fun e w' => e = .returned (.tuple #[.slice none 0 0, .int .i64 3]) ∧ w = w' := by
  have HC := Lib.hid (cmpI_lt hlt)
  clear hlt
  go_enter Try.func74, Try.ntmps74
  go_wp2_with fail
  refine (rcmp_any _ _ _ _ _ _ _ _ _ h k (by omega) (by omega)).mono ?_
  rintro e w1 ⟨rfl, rfl⟩
  rw [HC.out]
  go_wp2
  go_ret2
  exact ⟨rfl, rfl⟩
theorem u64w (x : Int) : IntKind.u64.wrap x = x % 18446744073709551616 := by simp [IntKind.wrap, IntKind.bits, IntKind.signed]
theorem sub_wrap1 (x y t : Nat) (hx : x < 4294967296) (hy : y < 4294967296) (ht : t ≤ 1) :
    IntKind.u64.wrap (IntKind.u64.wrap ((x : Int) - (y : Int)) - (t : Int)) % 4294967296 = (((x + 8589934592 - y - t) % 4294967296 : Nat) : Int) := by
  rw [u64w, u64w]; omega
theorem sub_wrap2 (x y t : Nat) (hx : x < 4294967296) (hy : y < 4294967296) (ht : t ≤ 1) :
    IntKind.u64.wrap (IntKind.u64.wrap ((x : Int) - (y : Int)) - (t : Int)) / 9223372036854775808 = ((bw x y t : Nat) : Int) := by
  rw [u64w, u64w]; unfold bw; split <;> omega
theorem rsub_end (m t X Y v : Nat) (h : v + Y = X + BB ^ m * t) (hv : v < BB ^ m) (hle : Y ≤ X) : v = X - Y := by
  generalize BB ^ m = P at *
  rcases t with _ | t
  · omega
  · have h2 : P * 1 ≤ P * (t + 1) := Nat.mul_le_mul_left _ (by omega)
    omega
set_option maxRecDepth 100000 in
set_option maxHeartbeats 1000000 in
theorem rsub_new (w : World) (A A' : Option Addr) (n c n' c' : Nat) (xs ys : List Nat) (h : Rd w A n c xs) (k : Rd w A' n' c' ys) (hn : n ≤ 100000) (hn' : n' ≤ 100000) (hlt : val ys ≤ val xs) :
    Calls Try.prog 74 #[.slice A n c, .slice A' n' c'] w (GivesN2 w (val xs - val ys) n (.int .i64 0)) := by
  have hcm : 0 ≤ cmpI (val xs) (val ys) := by
    rcases Nat.lt_or_eq_of_le hlt with h | h
    · rw [cmpI_gt h]; decide
    · rw [cmpI_eq h.symm]; decide
  have htys : tl ys ≤ n := by
    have h2 := clean_len (clean_take ys) n (by
      rw [val_take_tl]
      have := val_lt h.ok
      rw [h.len] at this
      omega)
    rwa [List.length_take, Nat.min_eq_left (tl_le ys)] at h2
  have HT := Lib.hid htys
  have HV := Lib.hid hlt
  clear htys hlt
  go_enter Try.func74, Try.ntmps74
  go_wp2_with fail
  refine (rcmp_any _ _ _ _ _ _ _ _ _ h k (by omega) (by omega)).mono ?_
  rintro e w1 ⟨rfl, rfl⟩
  generalize cmpI (val xs) (val ys) = ci at *
  have hdec : decide (ci < 0) = false := decide_eq_false (by omega)
  go_wp2
  go_loopw [6, 7, 16] (fun o cy i wr => ∃ (k t : Nat) (os : List Nat), k ≤ n ∧ i = .int .i64 (k : Int) ∧ cy = .int .u64 (t : Int) ∧ t ≤ 1 ∧ wr.ownsRow w.heap.size 53 1 o k (VW .u32 os) ∧ os.length = k ∧ Ok os ∧ val os + val (ys.take k) = val (xs.take k) + BB ^ k * t ∧ On w wr) (fun _ _ i _ => n - (intOf i).toNat)
  case atStart => exact ⟨0, 0, [], by omega, rfl, rfl, by omega, World.ownsRow_nil _ _ _ _, rfl, Ok.nil, by simp [val], On.refl _⟩
  case round =>
    obtain ⟨k', t, os, hk, rfl, rfl, ht, hrow, hl, hok, hv, hon⟩ := hrel
    have H1 := Lib.hid hl
    have H2 := Lib.hid hv
    have H3 := Lib.hid hrow
    clear hl hv hrow
    by_cases hlt : k' < n
    · have gx := h.ok.get k'
      have gy := k.ok.get k'
      have RX := h.on hon
      have RY := k.on hon
      go_wp2_with fail
      refine (word_is _ _ _ _ _ RX _ k' rfl (by omega)).mono ?_
      rintro e w' ⟨rfl, rfl⟩
      go_wp2_with fail
      refine (word_is _ _ _ _ _ RY _ k' rfl (by omega)).mono ?_
      rintro e w' ⟨rfl, rfl⟩
      have HST := Lib.hid (sub_step (BB ^ k') (val (xs.take k')) (val (ys.take k')) (gw xs k') (gw ys k') t (val os) gx gy ht H2.out)
      have hos := hon.size
      have hcell := cells_one32 wr 53 ((gw xs k' + 8589934592 - gw ys k' - t) % 4294967296)
      have hdl : (gw xs k' + 8589934592 - gw ys k' - t) % 4294967296 < 4294967296 := Nat.mod_lt _ (by decide)
      have HW1 := Lib.hid (sub_wrap1 (gw xs k') (gw ys k') t gx gy ht)
      have HW2 := Lib.hid (sub_wrap2 (gw xs k') (gw ys k') t gx gy ht)
      have hbl := bw_le (gw xs k') (gw ys k') t
      generalize (gw xs k' + 8589934592 - gw ys k' - t) % 4294967296 = dd at *
      generalize bw (gw xs k') (gw ys k') t = tt at *
      rw [← HW1.out] at hcell
      have HC := Lib.hid hcell
      clear hcell
      go_wp2_with (at_builtin; refine wpList_app rfl (.tmp 28) (.tmp 31) 22 rfl w.heap.size 53 (.int .u32 0) 4 Try.underlying22 info32 rfl (by decide) .u32 _ k' os rfl (H3.out.alloc _) (some ⟨wr.heap.size, 0, none⟩) 1 1 [dd] rfl rfl (fun e => by cases e) HC.out (by omega) (by simp; omega) ?_; intro v' w5 hown5 hgrow5 _)
      rw [HW2.out]
      refine ⟨⟨k' + 1, tt, os ++ [dd], by omega, by go_num, rfl, hbl, hown5, by rw [List.length_append, H1.out]; rfl, hok.append (Ok.one hdl), ?_, on_row (hon.alloc _) (H3.out.alloc _) (Nat.le_refl _) hgrow5⟩, by simp [intOf]; omega⟩
      rw [val_snoc' _ _ k' H1.out, val_take_succ_any, val_take_succ_any, Nat.pow_succ]
      exact HST.out
    · obtain rfl : k' = n := by omega
      obtain ⟨A5, c5, ho5⟩ := row_form H3.out
      subst ho5
      have R := rd_of_row hok H3.out
      have hval : val os = val xs - val ys := by
        have e1 := H2.out
        rw [List.take_of_length_le (l := xs) (by rw [h.len]; omega), val_take_ge ys k' HT.out] at e1
        have b1 := val_lt hok
        rw [H1.out] at b1
        exact rsub_end k' t _ _ _ e1 b1 HV.out
      have HVV := Lib.hid hval
      clear hval
      go_wp2_with fail
      refine (rtrim_new _ _ _ _ k' _ R (Nat.le_trans (tl_le _) (by rw [H1.out]; omega)) (by omega)).mono ?_
      rintro e w6 ⟨A6, n6, c6, rfl, N6, P6, F6⟩
      rw [HVV.out] at N6
      go_wp2
      go_ret2
      exact ⟨_, _, _, rfl, N6, hon.trans P6, fun ad e => Nat.le_trans hon.size (F6 ad e)⟩
theorem rsub_good (w : World) (A A' : Option Addr) (n c n' c' : Nat) (xs ys : List Nat) (h : Rd w A n c xs) (k : Rd w A' n' c' ys) (hn : n ≤ 100000) (hn' : n' ≤ 100000) (hlt : val ys ≤ val xs) :
    Calls Try.prog 74 #[.slice A n c, .slice A' n' c'] w (Gives2 w (val xs - val ys) n (.int .i64 0)) :=
  (rsub_new w A A' n c n' c' xs ys h k hn hn' hlt).mono fun _ _ ⟨A, n, c, he, hN, hO, _⟩ => ⟨A, n, c, he, hN, hO⟩
theorem words_rd (w : World) (A A' : Option Addr) (n c n' c' : Nat) (xs ys : List Nat) (h : Rd w A n c xs) (k : Rd w A' n' c' ys) (C : Clean xs) (C' : Clean ys) (hv : val xs = val ys) :
    Calls Try.prog 44 #[.slice A n c, .slice A' n' c'] w fun e w' => e = .returned (.bool true) ∧ On w w' :=
  words_true w A A' n c n' c' (val xs) n n' ⟨xs, h, C, rfl, Nat.le_refl _⟩ ⟨ys, k, C', hv.symm, Nat.le_refl _⟩
end Num
end Go.Proofs.Ytkpeliokhmigoaa
