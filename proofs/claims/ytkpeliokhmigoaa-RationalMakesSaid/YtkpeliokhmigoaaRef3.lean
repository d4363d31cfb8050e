/-
  The specification's functions: Add.
-/
import Derived.Test.YtkpeliokhmigoaaRef2
import Derived.Test.YtkpeliokhmigoaaText
namespace Go.Proofs.Ytkpeliokhmigoaa
open Go.RowKit
set_option linter.unusedVariables false
namespace Num
theorem radd_end' (P B t X Y v : Nat) (hB : 2 ≤ B) (h : v + P * B * t = X + Y) (hx : X < P) (hy : Y < P) : v = X + Y := by
  rcases t with _ | t
  · omega
  · exfalso
    have h1 : P * 2 ≤ P * B := Nat.mul_le_mul_left _ hB
    have h2 : P * B * 1 ≤ P * B * (t + 1) := Nat.mul_le_mul_left _ (by omega)
    omega
theorem radd_end (m t X Y v : Nat) (h : v + BB ^ (m + 1) * t = X + Y) (hx : X < BB ^ m) (hy : Y < BB ^ m) : v = X + Y := by
  rw [Nat.pow_succ] at h
  exact radd_end' (BB ^ m) BB t X Y v (by decide) h hx hy
theorem cells_one32 (w : World) (t : TypeId) (d : Nat) : ∀ ad, (some ⟨w.heap.size, 0, none⟩ : Option Addr) = some ad → ∀ j, j < 1 → (w.alloc (.cells #[.int .u32 (d : Int)] t)).cell? (ad.add j) = some (.int .u32 ((gw [d] j : Nat) : Int)) := by
  intro ad e j hj
  injection e with e; subst e
  obtain rfl : j = 0 := by omega
  rw [add_nil, (Own.new w t _).cell]
  rfl
theorem val_snoc' (l : List Nat) (x k : Nat) (h : l.length = k) : val (l ++ [x]) = val l + BB ^ k * x := by rw [val_snoc, h]
set_option maxHeartbeats 1000000 in
theorem radd_any (w : World) (A A' : Option Addr) (n c n' c' L : Nat) (xs ys : List Nat) (h : Rd w A n c xs) (k : Rd w A' n' c' ys) (hn : n ≤ 100000) (hn' : n' ≤ 100000) (h1 : n ≤ L) (h2 : n' ≤ L) :
    Calls Try.prog 92 #[.slice A n c, .slice A' n' c'] w (Gives w (val xs + val ys) (L + 1)) := by
  obtain ⟨m, hm, m1, m2, m3⟩ : ∃ m, max n n' = m ∧ n ≤ m ∧ n' ≤ m ∧ m ≤ L := ⟨_, rfl, by omega, by omega, by omega⟩
  have hmm : max (n : Int) (n' : Int) = (m : Int) := by omega
  have hml : m ≤ 100000 := by omega
  clear hm
  go_enter Try.func92, Try.ntmps92
  go_wp2
  go_loopw [5, 6, 15] (fun o cy i wr => ∃ (k t : Nat) (os : List Nat), k ≤ m + 1 ∧ i = .int .i64 (k : Int) ∧ cy = .int .u64 (t : Int) ∧ t ≤ 1 ∧ wr.ownsRow w.heap.size 53 1 o k (VW .u32 os) ∧ os.length = k ∧ Ok os ∧ val os + BB ^ k * t = val (xs.take k) + val (ys.take k) ∧ On w wr) (fun _ _ i _ => m + 1 - (intOf i).toNat)
  case atStart => exact ⟨0, 0, [], by omega, rfl, rfl, by omega, World.ownsRow_nil _ _ _ _, rfl, Ok.nil, by simp [val], On.refl _⟩
  case round =>
    obtain ⟨k', t, os, hk, rfl, rfl, ht, hrow, hl, hok, hv, hon⟩ := hrel
    have H1 := Lib.hid hl
    have H2 := Lib.hid hv
    have H3 := Lib.hid hrow
    clear hl hv hrow
    by_cases hlt : k' < m + 1
    · have gx := h.ok.get k'
      have gy := k.ok.get k'
      have RX := h.on hon
      have RY := k.on hon
      go_wp2_with fail
      refine (word_is _ _ _ _ _ RX _ k' rfl (by omega)).mono ?_
      rintro e w' ⟨rfl, rfl⟩
      go_wp2_with fail
      refine (word_is _ _ _ _ _ RY _ k' rfl (by omega)).mono ?_
      rintro e w' ⟨rfl, rfl⟩
      have HST := Lib.hid (add_step (BB ^ k') (val (xs.take k')) (val (ys.take k')) (gw xs k') (gw ys k') t (val os) H2.out)
      have hcell := cells_one32 wr 53 ((gw xs k' + gw ys k' + t) % 4294967296)
      rw [show (((gw xs k' + gw ys k' + t) % 4294967296 : Nat) : Int) = ((gw xs k' : Int) + (gw ys k' : Int) + (t : Int)) % 4294967296 from by omega] at hcell
      have HC := Lib.hid hcell
      have hos := hon.size
      clear hcell
      go_wp2_with (at_builtin; refine wpList_app rfl (.tmp 27) (.tmp 30) 22 rfl w.heap.size 53 (.int .u32 0) 4 Try.underlying22 info32 rfl (by decide) .u32 _ k' os rfl (H3.out.alloc _) (some ⟨wr.heap.size, 0, none⟩) 1 1 [(gw xs k' + gw ys k' + t) % 4294967296] rfl rfl (fun e => by cases e) HC.out (by omega) (by simp; omega) ?_; intro v' w5 hown5 hgrow5 _)
      have e5 : Value.int .u64 (((gw xs k' : Int) + (gw ys k' : Int) + (t : Int)) / 4294967296) = Value.int .u64 (((gw xs k' + gw ys k' + t) / 4294967296 : Nat) : Int) := by
        rw [Int.natCast_ediv, Int.natCast_add, Int.natCast_add]; rfl
      refine ⟨⟨k' + 1, (gw xs k' + gw ys k' + t) / 4294967296, os ++ [(gw xs k' + gw ys k' + t) % 4294967296], by omega, by go_num, e5, by omega, hown5, by rw [List.length_append, H1.out]; rfl, hok.append (Ok.one (Nat.mod_lt _ (by decide))), ?_, on_row (hon.alloc _) (H3.out.alloc _) (Nat.le_refl _) hgrow5⟩, by simp [intOf]; omega⟩
      rw [val_snoc' _ _ k' H1.out, val_take_succ_any, val_take_succ_any, Nat.pow_succ]
      exact HST.out
    · obtain rfl : k' = m + 1 := by omega
      obtain ⟨A5, c5, ho5⟩ := row_form H3.out
      subst ho5
      have R := rd_of_row hok H3.out
      have hval : val os = val xs + val ys := by
        have e1 := H2.out
        rw [List.take_of_length_le (by rw [h.len]; omega), List.take_of_length_le (by rw [k.len]; omega)] at e1
        have b1 := val_lt h.ok
        have b2 := val_lt k.ok
        rw [h.len] at b1
        rw [k.len] at b2
        exact radd_end m t _ _ _ e1 (Nat.lt_of_lt_of_le b1 (Nat.pow_le_pow_right BB_pos m1)) (Nat.lt_of_lt_of_le b2 (Nat.pow_le_pow_right BB_pos m2))
      have HV := Lib.hid hval
      clear hval
      go_wp2_with fail
      refine (rtrim_any _ _ _ _ (L + 1) _ R (Nat.le_trans (tl_le _) (by rw [H1.out]; omega)) (by omega)).mono ?_
      rintro e w6 ⟨A6, n6, c6, rfl, N6, P6⟩
      rw [HV.out] at N6
      go_wp2
      go_ret
      exact ⟨_, _, _, rfl, N6, hon.trans P6⟩
end Num
end Go.Proofs.Ytkpeliokhmigoaa
