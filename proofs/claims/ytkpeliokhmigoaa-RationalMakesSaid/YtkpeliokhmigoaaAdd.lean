/-
  Sums and differences: Add32, Sub32, Add, Sub.
-/
import Derived.Test.YtkpeliokhmigoaaDivw
namespace Go.Proofs.Ytkpeliokhmigoaa
open Go.RowKit
set_option linter.unusedVariables false
namespace Num
set_option maxHeartbeats 400000 in
theorem add32_any (w : World) (x y z : Nat) (hx : x < 4294967296) (hy : y < 4294967296) (hz : z ≤ 1) :
    Calls Try.prog 114 #[.int .u32 (x : Int), .int .u32 (y : Int), .int .u32 (z : Int)] w fun e w' => e = .returned (.tuple #[.int .u32 (((x + y + z) % 4294967296 : Nat) : Int), .int .u32 (((x + y + z) / 4294967296 : Nat) : Int)]) ∧ w = w' := by
  go_enter Try.func114, Try.ntmps114
  go_wp2
  go_ret2
  exact ⟨rfl, rfl⟩
/-- the borrow -/
def bw (x y z : Nat) : Nat := if x < y + z then 1 else 0
theorem bw_le (x y z : Nat) : bw x y z ≤ 1 := by unfold bw; split <;> omega
theorem bit31 (n : Nat) (h : n < 4294967296) : n / 2147483648 = if n.testBit 31 then 1 else 0 := by
  rw [Nat.testBit_eq_decide_div_mod_eq]
  have : n / 2 ^ 31 = n / 2147483648 := rfl
  rw [this]
  have h2 : n / 2147483648 < 2 := by omega
  by_cases h3 : n / 2147483648 % 2 = 1
  · simp only [h3, decide_true, if_true]; omega
  · simp only [h3, decide_false]; rw [if_neg (by decide)]; omega
theorem ret_two {k k' : IntKind} {a b a' b' : Int} (h : a = a') (h' : b' = b) : Ending.returned (.tuple #[.int k b', .int k' a]) = .returned (.tuple #[.int k b, .int k' a']) := by rw [h, h']
theorem sub32_nat (x y z : Nat) (hx : x < 4294967296) (hy : y < 4294967296) (hz : z ≤ 1) :
    ((4294967295 ^^^ x) &&& y ||| (4294967295 ^^^ (x ^^^ y)) &&& ((x + 8589934592 - y - z) % 4294967296)) / 2147483648 = bw x y z := by
  generalize hd : (x + 8589934592 - y - z) % 4294967296 = d
  have hdl : d < 4294967296 := by omega
  have h1 : (4294967295 ^^^ x) &&& y < 2 ^ 32 := Nat.and_lt_two_pow _ (by omega)
  have h2 : (4294967295 ^^^ (x ^^^ y)) &&& d < 2 ^ 32 := Nat.and_lt_two_pow _ (by omega)
  have h3 : ((4294967295 ^^^ x) &&& y ||| (4294967295 ^^^ (x ^^^ y)) &&& d) < 2 ^ 32 := Nat.or_lt_two_pow h1 h2
  rw [bit31 _ (by omega), Nat.testBit_or, Nat.testBit_and, Nat.testBit_and, Nat.testBit_xor, Nat.testBit_xor, Nat.testBit_xor]
  rw [show Nat.testBit 4294967295 31 = true from by decide]
  have bx := bit31 x hx
  have by' := bit31 y hy
  have bd := bit31 d hdl
  clear h1 h2 h3
  unfold bw
  generalize x.testBit 31 = X at *
  generalize y.testBit 31 = Y at *
  generalize d.testBit 31 = D at *
  cases X <;> cases Y <;> cases D <;> simp at bx by' bd ⊢ <;> omega
theorem sub32_bit (x y z : Nat) (hx : x < 4294967296) (hy : y < 4294967296) (hz : z ≤ 1) :
    bits .or .u32 (bits .and .u32 (bits .xor .u32 IntKind.u32.max (x : Int)) (y : Int)) (bits .and .u32 (bits .xor .u32 IntKind.u32.max (bits .xor .u32 (x : Int) (y : Int))) (((x : Int) - (y : Int) - (z : Int)) % 4294967296)) / 2147483648 = ((bw x y z : Nat) : Int) := by
  rw [← sub32_nat x y z hx hy hz]
  have hm : IntKind.u32.max = ((4294967295 : Nat) : Int) := rfl
  have hd : ((x : Int) - (y : Int) - (z : Int)) % 4294967296 = (((x + 8589934592 - y - z) % 4294967296 : Nat) : Int) := by omega
  rw [hm, hd]
  generalize hdd : (x + 8589934592 - y - z) % 4294967296 = d
  have hdl : d < 4294967296 := by omega
  have c1 : 4294967295 ^^^ x < 2 ^ 32 := Nat.xor_lt_two_pow (by decide) (by omega)
  have c2 : x ^^^ y < 2 ^ 32 := Nat.xor_lt_two_pow (by omega) (by omega)
  have c3 : 4294967295 ^^^ (x ^^^ y) < 2 ^ 32 := Nat.xor_lt_two_pow (by decide) c2
  have h1 : (4294967295 ^^^ x) &&& y < 2 ^ 32 := Nat.and_lt_two_pow _ (by omega)
  have h2 : (4294967295 ^^^ (x ^^^ y)) &&& d < 2 ^ 32 := Nat.and_lt_two_pow _ (by omega)
  rw [u32_xor_nat _ _ (by decide) hx, u32_and_nat _ _ (by omega) hy, u32_xor_nat _ _ hx hy, u32_xor_nat _ _ (by decide) (by omega), u32_and_nat _ _ (by omega) hdl, u32_or_nat _ _ (by omega) (by omega)]
  rw [Int.natCast_ediv]
  rfl
set_option maxHeartbeats 400000 in
theorem sub32_any (w : World) (x y z : Nat) (hx : x < 4294967296) (hy : y < 4294967296) (hz : z ≤ 1) :
    Calls Try.prog 113 #[.int .u32 (x : Int), .int .u32 (y : Int), .int .u32 (z : Int)] w fun e w' => e = .returned (.tuple #[.int .u32 (((x + 8589934592 - y - z) % 4294967296 : Nat) : Int), .int .u32 ((bw x y z : Nat) : Int)]) ∧ w = w' := by
  have hb := Lib.hid (sub32_bit x y z hx hy hz)
  have hd : ((x : Int) - (y : Int) - (z : Int)) % 4294967296 = (((x + 8589934592 - y - z) % 4294967296 : Nat) : Int) := by omega
  have HD := Lib.hid hd
  clear hd
  go_enter Try.func113, Try.ntmps113
  go_wp2
  go_ret2
  exact ⟨ret_two hb.out HD.out, rfl⟩
theorem add_step (P a b x y t v : Nat) (h : v + P * t = a + b) : v + P * ((x + y + t) % 4294967296) + P * BB * ((x + y + t) / 4294967296) = a + P * x + (b + P * y) := by
  have h1 := Nat.div_add_mod (x + y + t) 4294967296
  have h2 : P * ((x + y + t) % 4294967296) + P * BB * ((x + y + t) / 4294967296) = P * (x + y + t) := by
    rw [Nat.mul_assoc, ← Nat.mul_add]; congr 1; simp only [BB]; omega
  rw [Nat.mul_add, Nat.mul_add] at h2
  omega
set_option maxHeartbeats 1000000 in
/-- Add, the first number at least as long -/
theorem add_ge (w : World) (A A' : Option Addr) (n c n' c' L : Nat) (xs ys : List Nat) (h : Rd w A n c xs) (k : Rd w A' n' c' ys) (hm : tl ys ≤ tl xs) (h1 : tl xs ≤ L) (h2 : tl ys ≤ L) (hL : L ≤ 100000000) :
    Calls Try.prog 90 #[.slice A n c, .slice A' n' c'] w (Gives w (val xs + val ys) (L + 1)) := by
  have T := h.take (k := tl xs) (by rw [← h.len]; exact tl_le xs)
  have T' := k.take (k := tl ys) (by rw [← k.len]; exact tl_le ys)
  rw [← val_take_tl xs, ← val_take_tl ys]
  generalize xs.take (tl xs) = zs at *
  generalize ys.take (tl ys) = us at *
  go_enter Try.func90, Try.ntmps90
  go_wp2_with fail
  refine (trim_any _ _ _ _ _ h).mono ?_
  rintro e w' ⟨rfl, rfl⟩
  go_wp2_with fail
  refine (trim_any _ _ _ _ _ k).mono ?_
  rintro e w' ⟨rfl, rfl⟩
  clear h k
  generalize tl xs = m at *
  generalize tl ys = m' at *
  clear xs ys
  have hdec : decide (m < m') = false := decide_eq_false (by omega)
  have hmk := run_mk (m + 1) (by omega) w
  rw [show ((m + 1 : Nat) : Int) = (m : Int) + 1 from rfl] at hmk
  have HMK := Lib.hid hmk
  clear hmk
  have hmk := HMK.out
  go_wp2
  go_loopw [6, 26] (fun cy i wr => ∃ (k t : Nat) (cur : Array Value) (ss : List Nat), k ≤ m ∧ i = .int .i64 (k : Int) ∧ cy = .int .u32 (t : Int) ∧ t ≤ 1 ∧ Own wr w.heap.size 53 cur ∧ Has cur 0 ss ∧ ss.length = m + 1 ∧ val (ss.take k) + BB ^ k * t = val (zs.take k) + val (us.take k) ∧ On w wr) (fun _ i _ => m - (intOf i).toNat)
  case atStart => exact ⟨0, 0, _, _, by omega, rfl, rfl, by omega, Own.new _ _ _, has_made _, by simp, by simp [val], (On.refl w).alloc _⟩
  case round =>
    obtain ⟨k, t, cur, ss, hk, rfl, rfl, ht, hown, hh, hl, hv, hon⟩ := hrel
    have H1 := Lib.hid hl
    have H2 := Lib.hid hv
    have H3 := Lib.hid hown
    clear hl hv hown
    by_cases hlt : k < m
    · obtain ⟨ad, rfl, hb, hc⟩ := (T.on hon).at_ k hlt
      have T2 := T'.on hon
      have hz := T.ok.get k
      have hu := T'.ok.get k
      have hcell : wr.cell? ⟨w.heap.size, k, none⟩ = some (.int .u32 ((gw ss k : Nat) : Int)) := (H3.out.cell _).trans (by have := hh.get k (by rw [H1.out]; omega); rwa [Nat.zero_add] at this)
      have hfroz : wr.frozen? ⟨w.heap.size, k, none⟩ = false := H3.out.frozen _
      go_wp2_with fail
      refine (at_any _ _ _ _ _ T2 _ (by omega) (by omega)).mono ?_
      rintro e w' ⟨rfl, rfl⟩
      rw [Int.toNat_natCast]
      go_wp2_with fail
      refine (add32_any _ (gw zs k) (gw us k) t hz hu ht).mono ?_
      rintro e w' ⟨rfl, rfl⟩
      go_wp2
      go_roundw
      case measure => simp [intOf]; omega
      case rel =>
      refine ⟨k + 1, (gw zs k + gw us k + t) / 4294967296, _, _, by omega, by go_num, rfl, by omega, H3.out.set_ _ _, by have := hh.set_ (j := k) (x := (gw zs k + gw us k + t) % 4294967296) (by rw [H1.out]; omega) (by omega); rwa [Nat.zero_add] at this, by rw [List.length_set, H1.out], ?_, hon.setCell (Nat.le_refl _) _⟩
      rw [set_take_succ _ _ _ (by rw [H1.out]; omega), val_take_succ_any, val_take_succ_any, Nat.pow_succ]
      exact add_step _ _ _ _ _ _ _ H2.out
    · obtain rfl : k = m := by omega
      have hcell : wr.cell? ⟨w.heap.size, k, none⟩ = some (.int .u32 ((gw ss k : Nat) : Int)) := (H3.out.cell _).trans (by have := hh.get k (by rw [H1.out]; omega); rwa [Nat.zero_add] at this)
      have hfroz : wr.frozen? ⟨w.heap.size, k, none⟩ = false := H3.out.frozen _
      go_wp2_with fail
      have hh2 := hh.set_ (j := k) (x := t) (by rw [H1.out]; omega) (by omega)
      rw [Nat.zero_add] at hh2
      have R := Rd.own (n := k + 1) (c := k + 1) (H3.out.set_ k (.int .u32 (t : Int))) hh2 (by rw [List.length_set, H1.out]) (Nat.le_refl _) (by omega)
      refine (trim_any _ _ _ _ _ R).mono ?_
      rintro e w' ⟨rfl, rfl⟩
      go_wp2
      go_ret
      have hN := nm_trim R (L := L + 1) (Nat.le_trans (tl_le _) (by rw [List.length_set, H1.out]; omega))
      have hval : val (ss.set k t) = val zs + val us := by
        have e1 := set_take_succ ss k t (by rw [H1.out]; omega)
        rw [List.take_of_length_le (by rw [List.length_set, H1.out]; omega)] at e1
        rw [e1, H2.out, List.take_of_length_le (Nat.le_of_eq T.len), List.take_of_length_le (by rw [T'.len]; omega)]
      rw [hval] at hN
      exact ⟨_, _, _, rfl, hN, hon.setCell (Nat.le_refl _) _⟩
set_option maxHeartbeats 1000000 in
/-- Add, the first number at least as long -/
theorem add_lt (w : World) (A A' : Option Addr) (n c n' c' L : Nat) (xs ys : List Nat) (h : Rd w A n c xs) (k : Rd w A' n' c' ys) (hm : tl xs < tl ys) (h1 : tl xs ≤ L) (h2 : tl ys ≤ L) (hL : L ≤ 100000000) :
    Calls Try.prog 90 #[.slice A n c, .slice A' n' c'] w (Gives w (val xs + val ys) (L + 1)) := by
  have T := h.take (k := tl xs) (by rw [← h.len]; exact tl_le xs)
  have T' := k.take (k := tl ys) (by rw [← k.len]; exact tl_le ys)
  rw [← val_take_tl xs, ← val_take_tl ys]
  generalize xs.take (tl xs) = zs at *
  generalize ys.take (tl ys) = us at *
  go_enter Try.func90, Try.ntmps90
  go_wp2_with fail
  refine (trim_any _ _ _ _ _ h).mono ?_
  rintro e w' ⟨rfl, rfl⟩
  go_wp2_with fail
  refine (trim_any _ _ _ _ _ k).mono ?_
  rintro e w' ⟨rfl, rfl⟩
  clear h k
  generalize tl xs = m at *
  generalize tl ys = m' at *
  clear xs ys
  have hdec : decide (m < m') = true := decide_eq_true (by omega)
  have hmk := run_mk (m' + 1) (by omega) w
  rw [show ((m' + 1 : Nat) : Int) = (m' : Int) + 1 from rfl] at hmk
  have HMK := Lib.hid hmk
  clear hmk
  have hmk := HMK.out
  go_wp2
  go_loopw [6, 26] (fun cy i wr => ∃ (k t : Nat) (cur : Array Value) (ss : List Nat), k ≤ m' ∧ i = .int .i64 (k : Int) ∧ cy = .int .u32 (t : Int) ∧ t ≤ 1 ∧ Own wr w.heap.size 53 cur ∧ Has cur 0 ss ∧ ss.length = m' + 1 ∧ val (ss.take k) + BB ^ k * t = val (us.take k) + val (zs.take k) ∧ On w wr) (fun _ i _ => m' - (intOf i).toNat)
  case atStart => exact ⟨0, 0, _, _, by omega, rfl, rfl, by omega, Own.new _ _ _, has_made _, by simp, by simp [val], (On.refl w).alloc _⟩
  case round =>
    obtain ⟨k, t, cur, ss, hk, rfl, rfl, ht, hown, hh, hl, hv, hon⟩ := hrel
    have H1 := Lib.hid hl
    have H2 := Lib.hid hv
    have H3 := Lib.hid hown
    clear hl hv hown
    by_cases hlt : k < m'
    · obtain ⟨ad, rfl, hb, hc⟩ := (T'.on hon).at_ k hlt
      have T2 := T.on hon
      have hz :=  T'.ok.get k
      have hu := T.ok.get k
      have hcell : wr.cell? ⟨w.heap.size, k, none⟩ = some (.int .u32 ((gw ss k : Nat) : Int)) := (H3.out.cell _).trans (by have := hh.get k (by rw [H1.out]; omega); rwa [Nat.zero_add] at this)
      have hfroz : wr.frozen? ⟨w.heap.size, k, none⟩ = false := H3.out.frozen _
      go_wp2_with fail
      refine (at_any _ _ _ _ _ T2 _ (by omega) (by omega)).mono ?_
      rintro e w' ⟨rfl, rfl⟩
      rw [Int.toNat_natCast]
      go_wp2_with fail
      refine (add32_any _ (gw us k) (gw zs k) t hz hu ht).mono ?_
      rintro e w' ⟨rfl, rfl⟩
      go_wp2
      go_roundw
      case measure => simp [intOf]; omega
      case rel =>
      refine ⟨k + 1, (gw us k + gw zs k + t) / 4294967296, _, _, by omega, by go_num, rfl, by omega, H3.out.set_ _ _, by have := hh.set_ (j := k) (x := (gw us k + gw zs k + t) % 4294967296) (by rw [H1.out]; omega) (by omega); rwa [Nat.zero_add] at this, by rw [List.length_set, H1.out], ?_, hon.setCell (Nat.le_refl _) _⟩
      rw [set_take_succ _ _ _ (by rw [H1.out]; omega), val_take_succ_any, val_take_succ_any, Nat.pow_succ]
      exact add_step _ _ _ _ _ _ _ H2.out
    · obtain rfl : k = m' := by omega
      have hcell : wr.cell? ⟨w.heap.size, k, none⟩ = some (.int .u32 ((gw ss k : Nat) : Int)) := (H3.out.cell _).trans (by have := hh.get k (by rw [H1.out]; omega); rwa [Nat.zero_add] at this)
      have hfroz : wr.frozen? ⟨w.heap.size, k, none⟩ = false := H3.out.frozen _
      go_wp2_with fail
      have hh2 := hh.set_ (j := k) (x := t) (by rw [H1.out]; omega) (by omega)
      rw [Nat.zero_add] at hh2
      have R := Rd.own (n := k + 1) (c := k + 1) (H3.out.set_ k (.int .u32 (t : Int))) hh2 (by rw [List.length_set, H1.out]) (Nat.le_refl _) (by omega)
      refine (trim_any _ _ _ _ _ R).mono ?_
      rintro e w' ⟨rfl, rfl⟩
      go_wp2
      go_ret
      have hN := nm_trim R (L := L + 1) (Nat.le_trans (tl_le _) (by rw [List.length_set, H1.out]; omega))
      have hval : val (ss.set k t) = val us + val zs := by
        have e1 := set_take_succ ss k t (by rw [H1.out]; omega)
        rw [List.take_of_length_le (by rw [List.length_set, H1.out]; omega)] at e1
        rw [e1, H2.out, List.take_of_length_le (Nat.le_of_eq  T'.len), List.take_of_length_le (by rw [T.len]; omega)]
      rw [hval] at hN
      exact ⟨_, _, _, rfl, (Nat.add_comm (val us) (val zs) ▸ hN), hon.setCell (Nat.le_refl _) _⟩
/-- Add -/
theorem add_any (w : World) (A A' : Option Addr) (n c n' c' L : Nat) (xs ys : List Nat) (h : Rd w A n c xs) (k : Rd w A' n' c' ys) (h1 : tl xs ≤ L) (h2 : tl ys ≤ L) (hL : L ≤ 100000000) :
    Calls Try.prog 90 #[.slice A n c, .slice A' n' c'] w (Gives w (val xs + val ys) (L + 1)) := by
  rcases Nat.lt_or_ge (tl xs) (tl ys) with hm | hm
  · exact add_lt w A A' n c n' c' L xs ys h k hm h1 h2 hL
  · exact add_ge w A A' n c n' c' L xs ys h k hm h1 h2 hL
end Num
end Go.Proofs.Ytkpeliokhmigoaa
