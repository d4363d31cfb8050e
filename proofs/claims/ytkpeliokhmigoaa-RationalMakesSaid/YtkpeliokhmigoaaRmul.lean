/-
  The specification's Mul.
-/
import Derived.Test.YtkpeliokhmigoaaRbits
namespace Go.Proofs.Ytkpeliokhmigoaa
open Go.RowKit
set_option linter.unusedVariables false
namespace Num
theorem val_set (l : List Nat) (k x : Nat) (h : k < l.length) : val (l.set k x) + BB ^ k * gw l k = val l + BB ^ k * x := by
  have h1 := val_split_any l k
  have h2 := val_split_any (l.set k x) k
  rw [take_set_same, val_drop_any, gw_set _ _ _ _ h, if_pos rfl, drop_set_same] at h2
  rw [val_drop_any] at h1
  rw [h1, h2, Nat.mul_add, Nat.mul_add]
  omega
theorem rmul_step (P Q R S S' V x y T old c s hi lo : Nat) (hR : P * Q = R) (hs : x * y + old + c = s) (hlo : s % 4294967296 = lo) (hhi : s / 4294967296 = hi) (h : S + R * c = V + P * (x * T)) (hS : S' + R * old = S + R * lo) :
    S' + R * BB * hi = V + P * (x * (T + Q * y)) := by
  have h1 : x * y + old + c = 4294967296 * hi + lo := by rw [hs, ← hlo, ← hhi, Nat.div_add_mod]
  have h2 : R * (x * y) + R * old + R * c = R * (4294967296 * hi) + R * lo := by
    rw [← Nat.mul_add, ← Nat.mul_add, ← Nat.mul_add, h1]
  have e1 : P * (x * (T + Q * y)) = P * (x * T) + R * (x * y) := by
    rw [Nat.mul_add, Nat.mul_add, Nat.mul_left_comm x Q y, ← Nat.mul_assoc P Q, hR]
  have e2 : R * BB * hi = R * (4294967296 * hi) := by rw [Nat.mul_assoc]; rfl
  rw [e1, e2]
  omega
theorem rmul_end (P Q c S V : Nat) (h : S + P * Q * c = V) (hV : V < P * Q) : S = V := by
  rcases c with _ | c
  · simpa using h
  · have : P * Q * 1 ≤ P * Q * (c + 1) := Nat.mul_le_mul_left _ (by omega)
    omega
set_option maxRecDepth 100000 in
set_option maxHeartbeats 1000000 in
theorem rmul_any (w : World) (A A' : Option Addr) (n c n' c' L : Nat) (xs ys : List Nat) (h : Rd w A n c xs) (k : Rd w A' n' c' ys) (hn : n ≤ 100000) (hn' : n' ≤ 100000) (hL : n + n' ≤ L) :
    Calls Try.prog 73 #[.slice A n c, .slice A' n' c'] w (Gives w (val xs * val ys) L) := by
  obtain ⟨N, hN1, hN2⟩ : ∃ N, N ≤ n + n' + 1 ∧ n + n' + 1 ≤ N := ⟨n + n' + 1, by omega, by omega⟩
  have hmk := run_mk N (by omega) w
  rw [show ((N : Nat) : Int) = (n : Int) + (n' : Int) + 1 from by omega] at hmk
  go_enter Try.func73, Try.ntmps73
  go_wp2
  go_loopw [20] (fun s wr => ∃ (i : Nat) (cur : Array Value) (os : List Nat), i ≤ n ∧ s = .int .i64 (i : Int) ∧ Own wr w.heap.size 53 cur ∧ Has cur 0 os ∧ os.length = N ∧ val os = val (xs.take i) * val ys ∧ On w wr) (fun s _ => n - (intOf s).toNat)
  case atStart => exact ⟨0, _, _, by omega, rfl, Own.new _ _ _, has_made _, by simp, by rw [val_replicate]; simp [val], (On.refl w).alloc _⟩
  case round =>
    obtain ⟨i, cur, os, hi, rfl, hown, hh, hl, hv, hon⟩ := hrel
    have H1 := Lib.hid hl
    have H2 := Lib.hid hv
    have H3 := Lib.hid hown
    clear hl hv hown
    by_cases hlt : i < n
    · obtain ⟨ad, rfl, hb, hc⟩ := (h.on hon).at_ i hlt
      have hx := h.ok.get i
      obtain ⟨wo, hwo⟩ : ∃ wo, wo = wr := ⟨_, rfl⟩
      subst hwo
      go_wp2
      go_loopw [8, 28] (fun cy s wr => ∃ (j t : Nat) (cur' : Array Value) (rs : List Nat), j ≤ n' + 1 ∧ s = .int .i64 (j : Int) ∧ cy = .int .u64 (t : Int) ∧ t < 4294967296 ∧ Own wr w.heap.size 53 cur' ∧ Has cur' 0 rs ∧ rs.length = N ∧ val rs + BB ^ i * BB ^ j * t = val os + BB ^ i * (gw xs i * val (ys.take j)) ∧ On w wr) (fun _ s _ => n' + 1 - (intOf s).toNat)
      case atStart => exact ⟨0, 0, cur, os, by omega, rfl, rfl, by decide, H3.out, hh, H1.out, by simp [val], hon⟩
      case round =>
        obtain ⟨j, t, cur', rs, hj, rfl, rfl, ht, hown', hh', hl', hvv, hon'⟩ := hrel
        have E1 := Lib.hid hl'
        have E2 := Lib.hid hvv
        have E3 := Lib.hid hown'
        clear hl' hvv hown'
        by_cases hjl : j < n' + 1
        · have hy := k.ok.get j
          have ho := hh'.ok.get (i + j)
          have RY := k.on hon'
          have hcell : wr.cell? ⟨w.heap.size, i + j, none⟩ = some (.int .u32 ((gw rs (i + j) : Nat) : Int)) := (E3.out.cell _).trans (by have := hh'.get (i + j) (by rw [E1.out]; omega); rwa [Nat.zero_add] at this)
          have hfroz : wr.frozen? ⟨w.heap.size, i + j, none⟩ = false := E3.out.frozen _
          have s1 : IntKind.i64.wrap ((i : Int) + (j : Int)) = (i : Int) + (j : Int) := IntWalk.i64_in _ (by omega)
          have s2 : 0 ≤ (i : Int) + (j : Int) := by omega
          have s3 : ((i : Int) + (j : Int)).toNat = i + j := by omega
          have s4 : (i : Int) + (j : Int) < (N : Int) := by omega
          have s5 : i + j < N := by omega
          obtain ⟨pq, hpq⟩ : ∃ x, gw xs i * gw ys j = x := ⟨_, rfl⟩
          have hmb := mul_bound (gw xs i) (gw ys j) hx hy
          have HM := mul_wrap (gw xs i) (gw ys j) hx hy
          rw [hpq] at hmb HM
          have t1 : IntKind.u64.wrap ((pq : Int) + ((gw rs (i + j) : Nat) : Int)) = (pq : Int) + ((gw rs (i + j) : Nat) : Int) := IntWalk.u64_in _ (by omega)
          have t2 : IntKind.u64.wrap ((pq : Int) + ((gw rs (i + j) : Nat) : Int) + (t : Int)) = (pq : Int) + ((gw rs (i + j) : Nat) : Int) + (t : Int) := IntWalk.u64_in _ (by omega)
          have HPQ := Lib.hid hpq
          clear hpq
          go_wp2
          go_quiet ((go_at_call 72; go_must (exact Calls.quiet_of_same ((word_is _ _ _ _ _ (RY.drewN _) _ j rfl (by omega)).mono fun _ _ hh => ⟨hh.1, hh.2.symm⟩))))
          go_wp2
          have e5 : ((pq : Int) + ((gw rs (i + j) : Nat) : Int) + (t : Int)) / 4294967296 = (((pq + gw rs (i + j) + t) / 4294967296 : Nat) : Int) := by
            rw [Int.natCast_ediv, Int.natCast_add, Int.natCast_add]; rfl
          have e6 : ((pq : Int) + ((gw rs (i + j) : Nat) : Int) + (t : Int)) % 4294967296 = (((pq + gw rs (i + j) + t) % 4294967296 : Nat) : Int) := by
            rw [Int.natCast_emod, Int.natCast_add, Int.natCast_add]; rfl
          rw [e5, e6]
          have hA := hh'.set_ (j := i + j) (x := (pq + gw rs (i + j) + t) % 4294967296) (by rw [E1.out]; omega) (Nat.mod_lt _ (by decide))
          rw [Nat.zero_add] at hA
          have hst := rmul_step (BB ^ i) (BB ^ j) (BB ^ i * BB ^ j) (val rs) (val (rs.set (i + j) ((pq + gw rs (i + j) + t) % 4294967296))) (val os) (gw xs i) (gw ys j) (val (ys.take j)) (gw rs (i + j)) t _ _ _ rfl (by rw [HPQ.out]) rfl rfl E2.out (by rw [← Nat.pow_add]; exact val_set rs (i + j) _ (by rw [E1.out]; omega))
          refine ⟨⟨j + 1, _, _, _, by omega, by go_num, rfl, by omega, (E3.out.drewN nq).set_ _ _, hA, by rw [List.length_set, E1.out], ?_, (hon'.drewN nq).setCell (Nat.le_refl _) _⟩, by simp [intOf]; omega⟩
          rw [val_take_succ_any, Nat.pow_succ, ← Nat.mul_assoc (BB ^ i)]
          exact hst
        · obtain rfl : j = n' + 1 := by omega
          have hfin : val rs = val (xs.take (i + 1)) * val ys := by
            have e1 := E2.out
            rw [List.take_of_length_le (l := ys) (by rw [k.len]; omega), H2.out] at e1
            have e2 : val (xs.take i) * val ys + BB ^ i * (gw xs i * val ys) = val (xs.take (i + 1)) * val ys := by
              rw [val_take_succ_any, Nat.add_mul, Nat.mul_assoc]
            rw [e2] at e1
            refine rmul_end (BB ^ i) (BB ^ (n' + 1)) t _ _ e1 ?_
            have b1 := val_take_lt h.ok (i + 1)
            have b2 := val_lt k.ok
            rw [k.len] at b2
            have b3 : val (xs.take (i + 1)) * val ys < BB ^ (i + 1) * BB ^ n' := Nat.mul_lt_mul'' b1 b2
            rwa [← Nat.pow_add, show i + 1 + n' = i + (n' + 1) from by omega, Nat.pow_add] at b3
          have HF := Lib.hid hfin
          clear hfin
          go_wp2
          exact ⟨⟨i + 1, cur', rs, by omega, by go_num, E3.out, hh', E1.out, HF.out, hon'⟩, by simp [intOf]; omega⟩
    · obtain rfl : i = n := by omega
      have R := Rd.own (n := N) (c := N) H3.out hh H1.out (Nat.le_refl _) (by omega)
      have hval : val os = val xs * val ys := by
        have e1 := H2.out
        rwa [List.take_of_length_le (Nat.le_of_eq h.len)] at e1
      have htl : tl os ≤ L := by
        refine Nat.le_trans (tl_len_of_lt (i + n') ?_) hL
        rw [hval, Nat.pow_add]
        have b1 := val_lt h.ok
        have b2 := val_lt k.ok
        rw [h.len] at b1
        rw [k.len] at b2
        exact Nat.mul_lt_mul'' b1 b2
      have HV := Lib.hid hval
      have HT := Lib.hid htl
      clear hval htl
      go_wp2_with fail
      refine (rtrim_any _ _ _ _ L _ R HT.out (by omega)).mono ?_
      rintro e w6 ⟨A6, n6, c6, rfl, N6, P6⟩
      rw [HV.out] at N6
      go_wp2
      go_ret
      exact ⟨_, _, _, rfl, N6, hon.trans P6⟩
end Num
end Go.Proofs.Ytkpeliokhmigoaa
