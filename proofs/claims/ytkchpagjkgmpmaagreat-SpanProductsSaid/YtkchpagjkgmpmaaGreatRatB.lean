/-
  Texts of the lower functions, joined: Rat5, Rat6, Rmul, Rdiv0, Rdiv, Rgcd, Ratq, Rsgn.
-/
import Derived.Test.YtkchpagjkgmpmaaGreatRatA
import Derived.Deep.RegionHeld3
import Derived.Laws.BitsAllLaws
import Derived.Test.YtkchpagjkgmpmaaGreatNatB
import Derived.Deep.DeepCutAuto
import Derived.Deep.LoopGhost
import Derived.Test.YtkchpagjkgmpmaaGreatShelf
namespace Go.Proofs.YtkchpagjkgmpmaaGreat
open Go.RowKit
set_option linter.unusedVariables false
namespace Num
section
theorem fr_sgn (s : Bool) (x : Nat) : fr s x 1 = ((sgn s x : Int) : Rat) := by
  apply Rat.ext
  · rw [fr_num s x 1 (by decide)]; simp
  · rw [fr_den s x 1 (by decide)]; simp
/-- the greatest whole number that is at most r -/
def flr (r : Rat) : Int := r.num / (r.den : Int)
theorem flr_zero : flr 0 = 0 := rfl
theorem flr_pos (x y : Nat) : ((x : Int)) / (y : Int) = sgn false (x / y) := by unfold sgn; simp
theorem flr_neg (x y : Nat) (hy : 0 < y) : (-(x : Int)) / (y : Int) = sgn true (x / y + if x % y = 0 then 0 else 1) := by
  unfold sgn
  rw [if_pos rfl]
  have h := Nat.div_add_mod x y
  by_cases h0 : x % y = 0
  · rw [if_pos h0, Int.neg_ediv_of_dvd (Int.natCast_dvd_natCast.2 (Nat.dvd_of_mod_eq_zero h0))]
    simp
  · rw [if_neg h0]
    have hnd : ¬ ((y : Int) ∣ (x : Int)) := fun e => h0 (Nat.mod_eq_zero_of_dvd (Int.natCast_dvd_natCast.1 e))
    rw [Int.neg_ediv, if_neg hnd, Int.sign_eq_one_of_pos (by omega), Int.natCast_add, Int.natCast_ediv]
    omega
theorem flr_of (r : Rat) (x y : Nat) (hx : x = r.num.natAbs) (hy : y = r.den) : flr r = sgn (decide (r < 0)) (x / y + if decide (r < 0) = true ∧ x % y ≠ 0 then 1 else 0) := by
  subst hx; subst hy
  have hd : decide (r < 0) = decide (r.num < 0) := by simp only [rat_neg_iff]
  unfold flr
  rw [hd]
  by_cases h : r.num < 0
  · have e : r.num = -((r.num.natAbs : Nat) : Int) := by omega
    rw [decide_eq_true h]
    conv => lhs; rw [e]
    rw [flr_neg _ _ r.den_pos]
    congr 1
    by_cases h0 : r.num.natAbs % r.den = 0
    · rw [if_pos h0, if_neg (fun c => c.2 h0)]
    · rw [if_neg h0, if_pos ⟨rfl, h0⟩]
  · have e : r.num = ((r.num.natAbs : Nat) : Int) := by omega
    rw [decide_eq_false h, if_neg (fun c => by cases c.1), Nat.add_zero]
    conv => lhs; rw [e]
    exact flr_pos _ _
end
section
end
section
theorem val_set (l : List Nat) (k x : Nat) (h : k < l.length) : val (l.set k x) + BB ^ k * gw l k = val l + BB ^ k * x := by
  have h1 := val_split_any l k
  have h2 := val_split_any (l.set k x) k
  rw [take_set_same, val_drop_any, gw_set _ _ _ _ h, if_pos rfl, drop_set_same] at h2
  rw [val_drop_any] at h1
  rw [h1, h2, Nat.mul_add, Nat.mul_add]
  omega
theorem rmul_step (P Q R S S' V x y T old c s hi lo : Nat) (hR : P * Q = R) (hs : x * y + old + c = s) (hlo : s % 4294967296 = lo) (hhi : s / 4294967296 = hi) (h : S + R * c = V + P * (x * T)) (hS : S' + R * old = S + R * lo) :
    S' + R * BB * hi = V + P * (x * (T + Q * y)) := by
  have h1 : x * y + old + c = 4294967296 * hi + lo := by rw [hs, ← hlo, ← hhi, Nat.div_add_mod]
  have h2 : R * (x * y) + R * old + R * c = R * (4294967296 * hi) + R * lo := by
    rw [← Nat.mul_add, ← Nat.mul_add, ← Nat.mul_add, h1]
  have e1 : P * (x * (T + Q * y)) = P * (x * T) + R * (x * y) := by
    rw [Nat.mul_add, Nat.mul_add, Nat.mul_left_comm x Q y, ← Nat.mul_assoc P Q, hR]
  have e2 : R * BB * hi = R * (4294967296 * hi) := by rw [Nat.mul_assoc]; rfl
  rw [e1, e2]
  omega
theorem rmul_end (P Q c S V : Nat) (h : S + P * Q * c = V) (hV : V < P * Q) : S = V := by
  rcases c with _ | c
  · simpa using h
  · have : P * Q * 1 ≤ P * Q * (c + 1) := Nat.mul_le_mul_left _ (by omega)
    omega
set_option maxRecDepth 100000 in
set_option maxHeartbeats 1000000 in
theorem rmul_any (w : World) (A A' : Option Addr) (n c n' c' L : Nat) (xs ys : List Nat) (h : Rd w A n c xs) (k : Rd w A' n' c' ys) (hn : n ≤ 100000) (hn' : n' ≤ 100000) (hL : n + n' ≤ L) :
    Calls Tryz.prog 82 #[.slice A n c, .slice A' n' c'] w (Gives w (val xs * val ys) L) := by
  obtain ⟨N, hN1, hN2⟩ : ∃ N, N ≤ n + n' + 1 ∧ n + n' + 1 ≤ N := ⟨n + n' + 1, by omega, by omega⟩
  have hmk := run_mk N (by omega) w
  rw [show ((N : Nat) : Int) = (n : Int) + (n' : Int) + 1 from by omega] at hmk
  go_enter Tryz.func82, Tryz.ntmps82
  go_wp2
  go_loopw [20] (fun s wr => ∃ (i : Nat) (cur : Array Value) (os : List Nat), i ≤ n ∧ s = .int .i64 (i : Int) ∧ Own wr w.heap.size 66 cur ∧ Has cur 0 os ∧ os.length = N ∧ val os = val (xs.take i) * val ys ∧ On w wr) (fun s _ => n - (intOf s).toNat)
  case atStart => exact ⟨0, _, _, by omega, rfl, Own.new _ _ _, has_made _, by simp, by rw [val_replicate]; simp [val], (On.refl w).alloc _⟩
  case round =>
    obtain ⟨i, cur, os, hi, rfl, hown, hh, hl, hv, hon⟩ := hrel
    have H1 := Lib.hid hl
    have H2 := Lib.hid hv
    have H3 := Lib.hid hown
    clear hl hv hown
    by_cases hlt : i < n
    · obtain ⟨ad, rfl, hb, hc⟩ := (h.on hon).at_ i hlt
      have hx := h.ok.get i
      obtain ⟨wo, hwo⟩ : ∃ wo, wo = wr := ⟨_, rfl⟩
      subst hwo
      go_wp2
      go_loopw [8, 28] (fun cy s wr => ∃ (j t : Nat) (cur' : Array Value) (rs : List Nat), j ≤ n' + 1 ∧ s = .int .i64 (j : Int) ∧ cy = .int .u64 (t : Int) ∧ t < 4294967296 ∧ Own wr w.heap.size 66 cur' ∧ Has cur' 0 rs ∧ rs.length = N ∧ val rs + BB ^ i * BB ^ j * t = val os + BB ^ i * (gw xs i * val (ys.take j)) ∧ On w wr) (fun _ s _ => n' + 1 - (intOf s).toNat)
      case atStart => exact ⟨0, 0, cur, os, by omega, rfl, rfl, by decide, H3.out, hh, H1.out, by simp [val], hon⟩
      case round =>
        obtain ⟨j, t, cur', rs, hj, rfl, rfl, ht, hown', hh', hl', hvv, hon'⟩ := hrel
        have E1 := Lib.hid hl'
        have E2 := Lib.hid hvv
        have E3 := Lib.hid hown'
        clear hl' hvv hown'
        by_cases hjl : j < n' + 1
        · have hy := k.ok.get j
          have ho := hh'.ok.get (i + j)
          have RY := k.on hon'
          have hcell : wr.cell? ⟨w.heap.size, i + j, none⟩ = some (.int .u32 ((gw rs (i + j) : Nat) : Int)) := (E3.out.cell _).trans (by have := hh'.get (i + j) (by rw [E1.out]; omega); rwa [Nat.zero_add] at this)
          have hfroz : wr.frozen? ⟨w.heap.size, i + j, none⟩ = false := E3.out.frozen _
          have s1 : IntKind.i64.wrap ((i : Int) + (j : Int)) = (i : Int) + (j : Int) := IntWalk.i64_in _ (by omega)
          have s2 : 0 ≤ (i : Int) + (j : Int) := by omega
          have s3 : ((i : Int) + (j : Int)).toNat = i + j := by omega
          have s4 : (i : Int) + (j : Int) < (N : Int) := by omega
          have s5 : i + j < N := by omega
          obtain ⟨pq, hpq⟩ : ∃ x, gw xs i * gw ys j = x := ⟨_, rfl⟩
          have hmb := mul_bound (gw xs i) (gw ys j) hx hy
          have HM := mul_wrap (gw xs i) (gw ys j) hx hy
          rw [hpq] at hmb HM
          have t1 : IntKind.u64.wrap ((pq : Int) + ((gw rs (i + j) : Nat) : Int)) = (pq : Int) + ((gw rs (i + j) : Nat) : Int) := IntWalk.u64_in _ (by omega)
          have t2 : IntKind.u64.wrap ((pq : Int) + ((gw rs (i + j) : Nat) : Int) + (t : Int)) = (pq : Int) + ((gw rs (i + j) : Nat) : Int) + (t : Int) := IntWalk.u64_in _ (by omega)
          have HPQ := Lib.hid hpq
          clear hpq
          go_wp2
          go_quiet ((go_at_call 116; go_must (exact Calls.quiet_of_same ((word_is _ _ _ _ _ (RY.drewN _) _ j rfl (by omega)).mono fun _ _ hh => ⟨hh.1, hh.2.symm⟩))))
          go_wp2
          have e5 : ((pq : Int) + ((gw rs (i + j) : Nat) : Int) + (t : Int)) / 4294967296 = (((pq + gw rs (i + j) + t) / 4294967296 : Nat) : Int) := by
            rw [Int.natCast_ediv, Int.natCast_add, Int.natCast_add]; rfl
          have e6 : ((pq : Int) + ((gw rs (i + j) : Nat) : Int) + (t : Int)) % 4294967296 = (((pq + gw rs (i + j) + t) % 4294967296 : Nat) : Int) := by
            rw [Int.natCast_emod, Int.natCast_add, Int.natCast_add]; rfl
          rw [e5, e6]
          have hA := hh'.set_ (j := i + j) (x := (pq + gw rs (i + j) + t) % 4294967296) (by rw [E1.out]; omega) (Nat.mod_lt _ (by decide))
          rw [Nat.zero_add] at hA
          have hst := rmul_step (BB ^ i) (BB ^ j) (BB ^ i * BB ^ j) (val rs) (val (rs.set (i + j) ((pq + gw rs (i + j) + t) % 4294967296))) (val os) (gw xs i) (gw ys j) (val (ys.take j)) (gw rs (i + j)) t _ _ _ rfl (by rw [HPQ.out]) rfl rfl E2.out (by rw [← Nat.pow_add]; exact val_set rs (i + j) _ (by rw [E1.out]; omega))
          refine ⟨⟨j + 1, _, _, _, by omega, by go_num, rfl, by omega, (E3.out.drewN nq).set_ _ _, hA, by rw [List.length_set, E1.out], ?_, (hon'.drewN nq).setCell (Nat.le_refl _) _⟩, by simp [intOf]; omega⟩
          rw [val_take_succ_any, Nat.pow_succ, ← Nat.mul_assoc (BB ^ i)]
          exact hst
        · obtain rfl : j = n' + 1 := by omega
          have hfin : val rs = val (xs.take (i + 1)) * val ys := by
            have e1 := E2.out
            rw [List.take_of_length_le (l := ys) (by rw [k.len]; omega), H2.out] at e1
            have e2 : val (xs.take i) * val ys + BB ^ i * (gw xs i * val ys) = val (xs.take (i + 1)) * val ys := by
              rw [val_take_succ_any, Nat.add_mul, Nat.mul_assoc]
            rw [e2] at e1
            refine rmul_end (BB ^ i) (BB ^ (n' + 1)) t _ _ e1 ?_
            have b1 := val_take_lt h.ok (i + 1)
            have b2 := val_lt k.ok
            rw [k.len] at b2
            have b3 : val (xs.take (i + 1)) * val ys < BB ^ (i + 1) * BB ^ n' := Nat.mul_lt_mul'' b1 b2
            rwa [← Nat.pow_add, show i + 1 + n' = i + (n' + 1) from by omega, Nat.pow_add] at b3
          have HF := Lib.hid hfin
          clear hfin
          go_wp2
          exact ⟨⟨i + 1, cur', rs, by omega, by go_num, E3.out, hh', E1.out, HF.out, hon'⟩, by simp [intOf]; omega⟩
    · obtain rfl : i = n := by omega
      have R := Rd.own (n := N) (c := N) H3.out hh H1.out (Nat.le_refl _) (by omega)
      have hval : val os = val xs * val ys := by
        have e1 := H2.out
        rwa [List.take_of_length_le (Nat.le_of_eq h.len)] at e1
      have htl : tl os ≤ L := by
        refine Nat.le_trans (tl_len_of_lt (i + n') ?_) hL
        rw [hval, Nat.pow_add]
        have b1 := val_lt h.ok
        have b2 := val_lt k.ok
        rw [h.len] at b1
        rw [k.len] at b2
        exact Nat.mul_lt_mul'' b1 b2
      have HV := Lib.hid hval
      have HT := Lib.hid htl
      clear hval htl
      go_wp2_with fail
      refine (rtrim_any _ _ _ _ L _ R HT.out (by omega)).mono ?_
      rintro e w6 ⟨A6, n6, c6, rfl, N6, P6⟩
      rw [HV.out] at N6
      go_wp2
      go_ret
      exact ⟨_, _, _, rfl, N6, hon.trans P6⟩
end
section
section
variable {P : Program}
theorem step_app {w : World} {ops : Array Oper} {o : Oper} {a : Act} {K : Act → World → Prop} {Q : Exit → Act → World → Prop} {E : Prop} (hgd : o.guard = none) (s x : Operand) (t : TypeId)
    (ho : o.op = .call { callee := .builtin .append, args := #[s, x], argTypes := #[t, t] })
    (base : Nat) (e : TypeId) (z : Value) (bytes : Nat) (ht : P.underlying t = some (.slice e)) (hinfo : (P.info? e).map (fun i => (i.zero, i.size, i.bytes)) = some (some z, 1, bytes)) (hzs : z.cells.size = 1) (hb8 : bytes ≤ 8)
    (k : IntKind) (v : Value) (n : Nat) (xs : List Nat) (hs : a.eval s = v) (hown : w.ownsRow base e 1 v n (VW k xs))
    (A : Option Addr) (m c : Nat) (news : List Nat) (hx : a.eval x = .slice A m c) (hl : news.length = m) (hA : A = none → m = 0 ∧ c = 0) (hn : ∀ ad, A = some ad → ∀ j, j < m → w.cell? (ad.add j) = some (.int k (gw news j : Int)))
    (hsm : n + m ≤ 1000000000) (hbase : base ≤ w.heap.size)
    (h : ∀ v' w', w'.ownsRow base e 1 v' (n + m) (VW k (xs ++ news)) → w.grownBy w' v.ownBlock → (v'.ownBlock = v.ownBlock ∨ v'.ownBlock = some w.heap.size) → K (a.put o.dst v') w') :
    if Region.wanted o (yielded ops a.tmps) = true then Oper.wp P o a w K Q else E := by
  have hw : Region.wanted o (yielded ops a.tmps) = true := by simp [Region.wanted, hgd]
  rw [if_pos hw]
  obtain ⟨v', w', hrun, h2, h3, h4⟩ := run_app (P := P) w base t o.type e z bytes ht hinfo hzs hb8 k v n xs hown A m c news hl hA hn hsm hbase
  unfold Oper.wp
  simp [execOp, ho, resolve, invoke, builtin, hs, hx, hrun, Result.andThen]
  exact h _ _ h2 h3 h4
end
theorem rdl_step (us qs : List Nat) (k V R d R' A : Nat) (hk : k < qs.length) (h : A = val (us.take (k + 1)) + BB ^ (k + 1) * (R + V * val (qs.drop (k + 1)))) (hd : gw us k + BB * R = R' + V * d) :
    A = val (us.take k) + BB ^ k * (R' + V * val ((qs.set k d).drop k)) := by
  have e4 : val ((qs.set k d).drop k) = d + BB * val (qs.drop (k + 1)) := by
    rw [val_drop_any, gw_set _ _ _ _ hk, if_pos rfl]
    congr 2
    have : (qs.set k d).drop (k + 1) = qs.drop (k + 1) := by
      apply List.ext_getElem?
      intro j
      rw [List.getElem?_drop, List.getElem?_drop, List.getElem?_set, if_neg (by omega)]
    rw [this]
  rw [e4, h, val_take_succ_any]
  have e5 : R' + V * (d + BB * val (qs.drop (k + 1))) = gw us k + BB * (R + V * val (qs.drop (k + 1))) := by
    rw [Nat.mul_add V, Nat.mul_add BB, ← Nat.mul_assoc BB V, Nat.mul_comm BB V, Nat.mul_assoc V BB, ← Nat.mul_assoc V BB] at *
    omega
  rw [e5, Nat.mul_add (BB ^ k), Nat.pow_succ, ← Nat.mul_assoc, Nat.add_assoc]
/-- the two leading words -/
theorem two_top (l : List Nat) (ok : Ok l) (m : Nat) (hl : l.length ≤ m + 2) : gw l (m + 1) * 4294967296 + gw l m = val l / BB ^ m := by
  rw [val_div_pow l ok m, val_drop_any l m, val_drop_any l (m + 1), List.drop_of_length_le (show l.length ≤ m + 1 + 1 by omega)]
  simp only [val, Nat.mul_zero, Nat.add_zero, BB]
  omega
/-- the estimate by the leading words is not too small -/
theorem guess_ge (U V P t f : Nat) (hP : 0 < P) (hV : 0 < V) (ht : t = U / P) (hf : f * P ≤ V) (hf0 : 0 < f) : U / V ≤ t / f := by
  rw [Nat.le_div_iff_mul_le hf0, ht, Nat.le_div_iff_mul_le hP, Nat.mul_assoc]
  exact Nat.le_trans (Nat.mul_le_mul_left _ hf) (Nat.div_mul_le_self U V)
/-- the guess as the program computes it -/
theorem guess_val (T f q : Nat) (h : q ≤ T / f) (hq : q < 4294967296) : ∃ G : Nat, min ((T : Int) / (f : Int)) 4294967295 = (G : Int) ∧ q ≤ G ∧ G < 4294967296 := by
  refine ⟨min (T / f) 4294967295, ?_, by omega, by omega⟩
  have e : (T : Int) / (f : Int) = ((T / f : Nat) : Int) := by rw [Int.natCast_ediv]
  rw [e]
  omega
/-- where a[k:] begins -/
def cutA (A : Option Addr) (c k : Nat) : Option Addr := if c = k then A else A.map (·.add k)
theorem Rd.cutA {w : World} {A : Option Addr} {n c : Nat} {xs : List Nat} (h : Rd w A n c xs) {k : Nat} (hk : k ≤ n) : Rd w (cutA A c k) (n - k) (c - k) (xs.drop k) := h.cut hk
theorem run_cut (w : World) (A : Option Addr) (n c k : Nat) (h1 : k ≤ n) (h2 : n ≤ c) (h3 : c ≤ 9223372036854775807) :
    (Instr.slice 22 (.slice A n c) (some (.int .i64 (k : Int))) none none).run Tryz.prog w = .ok (.slice (cutA A c k) (n - k) (c - k)) w := by
  unfold cutA
  go_simp

end
section
set_option maxHeartbeats 400000 in
theorem rdiv_zero (w : World) (A A' : Option Addr) (n c n' c' : Nat) (xs ys : List Nat) (h : Rd w A n c xs) (k : Rd w A' n' c' ys) (hn' : n' ≤ 100000) (hz : val ys = 0) :
    Calls Tryz.prog 115 #[.slice A n c, .slice A' n' c'] w fun e w' => e = .returned (.tuple #[.slice none 0 0, .slice none 0 0, .int .i64 8]) ∧ On w w' := by
  have HZ := Lib.hid hz
  clear hz
  go_enter Tryz.func115, Tryz.ntmps115
  go_wp2_with fail
  refine (rtrim_any _ _ _ _ n' _ k (by have := tl_le ys; rw [k.len] at this; exact this) (by omega)).mono ?_
  rintro e w1 ⟨A1, n1, c1, rfl, ⟨zs, R1, C1, V1, L1⟩, P1⟩
  obtain rfl : n1 = 0 := by
    rcases Nat.eq_zero_or_pos n1 with h0 | h0
    · exact h0
    · have := val_pos C1 (by rw [R1.len]; exact h0)
      rw [V1, HZ.out] at this; omega
  clear V1
  go_wp2
  go_ret3
  exact ⟨rfl, P1⟩
theorem and_p31 (x : Nat) : x &&& 2147483648 = if x.testBit 31 then 2147483648 else 0 := by
  have e : ∀ i, Nat.testBit 2147483648 i = decide (31 = i) := fun i => by
    have := @Nat.testBit_two_pow 31 i
    exact this
  apply Nat.eq_of_testBit_eq
  intro i
  rw [Nat.testBit_and, e]
  by_cases h : 31 = i
  · subst h
    cases hx : x.testBit 31 <;> simp [e]
  · cases hx : x.testBit 31 <;> simp [h, e]
/-- the test of the highest bit -/
theorem and31 (x : Nat) (h : x < 2147483648) : bits .and .u32 (x : Int) 2147483648 = 0 := by
  have h1 := u32_and_nat x 2147483648 (by omega) (by decide)
  rw [show ((2147483648 : Nat) : Int) = 2147483648 from rfl] at h1
  rw [h1]
  have h2 : x &&& 2147483648 = 0 := by
    rw [and_p31, Nat.testBit_lt_two_pow (by omega)]
    rfl
  rw [h2]; rfl
theorem and31' (x : Nat) (h : 2147483648 ≤ x) (h2 : x < 4294967296) : bits .and .u32 (x : Int) 2147483648 = 2147483648 := by
  have h1 := u32_and_nat x 2147483648 (by omega) (by decide)
  rw [show ((2147483648 : Nat) : Int) = 2147483648 from rfl] at h1
  rw [h1]
  have h2 : x &&& 2147483648 = 2147483648 := by
    rw [and_p31]
    have hb : x.testBit 31 = true := by
      rw [Nat.testBit_eq_decide_div_mod_eq, show (2 : Nat) ^ 31 = 2147483648 from rfl]
      simp; omega
    rw [hb]; rfl
  rw [h2]; rfl
/-- a word shifted left, nothing lost -/
theorem shl32 (x s : Nat) (h : x * 2 ^ s < 4294967296) : IntKind.u32.wrap ((x : Int) * 2 ^ s) = ((x * 2 ^ s : Nat) : Int) := by
  rw [cast_shl, IntKind.wrap_u32]; omega
theorem own_nextb (w : World) (o : Obj) (t : TypeId) (cur : Array Value) : Own ((w.alloc o).alloc (.cells cur t)) (w.heap.size + 1) t cur := by
  have h := Own.new (w.alloc o) t cur
  rwa [show (w.alloc o).heap.size = w.heap.size + 1 from by simp] at h
theorem on_grown {w0 w w' : World} {row : Option Nat} (h : On w0 w) (hg : w.grownBy w' row) (hb : ∀ k, row = some k → w0.heap.size ≤ k) : On w0 w' := Below.grown h hg h.size hb
theorem own_grown {w w' : World} {row : Option Nat} {g : Nat} {t : TypeId} {cur : Array Value} (h : Own w g t cur) (hg : w.grownBy w' row) (hne : some g ≠ row) : Own w' g t cur := (hg.block g h.lt hne).trans h
theorem own_row0 {w : World} {g base : Nat} {t : TypeId} {k : IntKind} (h : Own w g t #[]) (hb : base ≤ g) : w.ownsRow base t 1 (.slice (some ⟨g, 0, none⟩) 0 0) 0 (VW k []) :=
  ⟨rfl, .inr ⟨g, 0, #[], rfl, hb, h, Nat.le_refl _, by decide, rfl, rfl⟩⟩
theorem own_row1 {w : World} {g base : Nat} {t : TypeId} {k : IntKind} {x : Nat} (h : Own w g t #[.int k (x : Int)]) (hb : base ≤ g) : w.ownsRow base t 1 (.slice (some ⟨g, 0, none⟩) 1 1) 1 (VW k [x]) :=
  ⟨rfl, .inr ⟨g, 1, #[.int k (x : Int)], rfl, hb, h, Nat.le_refl _, by decide, rfl, rfl⟩⟩
set_option maxRecDepth 100000 in
set_option maxHeartbeats 2000000 in
theorem rdiv_pos (w : World) (A A' : Option Addr) (n c n' c' : Nat) (xs ys : List Nat) (h : Rd w A n c xs) (k : Rd w A' n' c' ys) (hn : n ≤ 10000) (hn' : n' ≤ 10000) (hp : 0 < val ys) :
    Calls Tryz.prog 115 #[.slice A n c, .slice A' n' c'] w fun e w' => ∃ A1 n1 c1 A2 n2 c2, e = .returned (.tuple #[.slice A1 n1 c1, .slice A2 n2 c2, .int .i64 0]) ∧ Nm w' A1 n1 c1 (val xs / val ys) n ∧ Nm w' A2 n2 c2 (val xs % val ys) n' ∧ On w w' := by
  have HP := Lib.hid hp
  clear hp
  go_enter Tryz.func115, Tryz.ntmps115
  go_wp2_with fail
  refine (rtrim_any _ _ _ _ n' _ k (by have := tl_le ys; rw [k.len] at this; exact this) (by omega)).mono ?_
  rintro e w1 ⟨A1, n1, c1, rfl, ⟨zs, R1, C1, V1, L1⟩, P1⟩
  obtain ⟨m, hm⟩ : ∃ m, n1 = m + 1 := by
    rcases Nat.eq_zero_or_pos n1 with h0 | h0
    · subst h0
      rw [List.eq_nil_of_length_eq_zero R1.len] at V1
      have := HP.out
      simp [val] at V1; omega
    · exact ⟨n1 - 1, by omega⟩
  have htop := clean_last C1 m (by rw [R1.len]; exact hm)
  obtain ⟨ab, rfl, hbb, hcb⟩ := R1.at_ m (by omega)
  have gx := R1.ok.get m
  have hnb : nb (gw zs m) ≤ 32 := (nb_le_iff _ _).2 (by omega)
  have hnp : 0 < nb (gw zs m) := by unfold nb; rw [if_neg htop]; omega
  obtain ⟨s, hs⟩ : ∃ s, nb (gw zs m) + s = 32 := ⟨32 - nb (gw zs m), by omega⟩
  have HN := Lib.hid (norm_div zs R1.ok m s (by rw [R1.len]; exact hm) htop hs)
  have hlo : ∀ j, j < s → gw zs m * 2 ^ j < 2147483648 := fun j hj => by
    have h1 := nb_lt (gw zs m)
    have h2 : gw zs m * 2 ^ (j + 1) < 2 ^ nb (gw zs m) * 2 ^ (j + 1) := Nat.mul_lt_mul_of_pos_right h1 (Nat.pow_pos (by decide))
    rw [← Nat.pow_add] at h2
    have h3 : 2 ^ (nb (gw zs m) + (j + 1)) ≤ 2 ^ 32 := Nat.pow_le_pow_right (by decide) (by omega)
    rw [Nat.pow_succ, ← Nat.mul_assoc] at h2
    omega
  have hhi : 2147483648 ≤ gw zs m * 2 ^ s ∧ gw zs m * 2 ^ s < 4294967296 := by
    have h1 := nb_lt (gw zs m)
    have h2 : gw zs m * 2 ^ s < 2 ^ nb (gw zs m) * 2 ^ s := Nat.mul_lt_mul_of_pos_right h1 (Nat.pow_pos (by decide))
    rw [← Nat.pow_add, hs] at h2
    have h3 : 2 ^ (nb (gw zs m) - 1) ≤ gw zs m := nb_ge (gw zs m) (by omega)
    have h4 : 2 ^ (nb (gw zs m) - 1) * 2 ^ s ≤ gw zs m * 2 ^ s := Nat.mul_le_mul_right _ h3
    rw [← Nat.pow_add, show nb (gw zs m) - 1 + s = 31 from by omega] at h4
    exact ⟨h4, h2⟩
  have HLO := Lib.hid hlo
  have HHI := Lib.hid hhi
  have HM := Lib.hid hm
  have HZL : Hid (val zs < BB ^ n1) := Lib.hid (by have := val_lt R1.ok; rw [R1.len] at this; exact this)
  have HV1 := Lib.hid V1
  have w0 : IntKind.i64.wrap ((n1 : Int) - 1) = (m : Int) := by rw [IntWalk.i64_in _ (by omega)]; omega
  have i1 : m < n1 := by omega
  have hs31 : s ≤ 31 := by omega
  have hd1 : ((n1 : Int) == 0) = false := by simp; omega
  clear hlo hhi hm hs hnb hnp htop V1
  go_wp2
  go_loop [8] (fun sv => ∃ j : Nat, j ≤ s ∧ sv = .int .i64 (j : Int)) (fun sv => s - (intOf sv).toNat)
  case atStart => exact ⟨0, by omega, rfl⟩
  case round =>
    obtain ⟨j, hj, rfl⟩ := hrel
    by_cases hlt : j < s
    · have hx := HLO.out j hlt
      have e1 := shl32 (gw zs m) j (by omega)
      obtain ⟨X, hX⟩ : ∃ X, gw zs m * 2 ^ j = X := ⟨_, rfl⟩
      rw [hX] at e1 hx
      have e2 := and31 X hx
      clear hX
      go_wp2
      go_round
      case rel => exact ⟨j + 1, by omega, by go_num⟩
      case measure => first | (simp [intOf]; done) | (simp [intOf]; omega)
    · obtain rfl : j = s := by omega
      have e1 := shl32 (gw zs m) j HHI.out.2
      have hh := HHI.out
      obtain ⟨X, hX⟩ : ∃ X, gw zs m * 2 ^ j = X := ⟨_, rfl⟩
      rw [hX] at e1 hh
      have e2 := and31' X hh.1 hh.2
      clear hX hh
      go_wp2_with fail
      refine (rup_any _ _ _ _ j _ (h.on P1) (by omega) hs31).mono ?_
      rintro e w2 ⟨A2, n2, c2, rfl, ⟨ua, R2, C2, V2, L2⟩, P2⟩
      go_wp2_with fail
      refine (rup_any _ _ _ _ j _ (R1.on P2) (by omega) hs31).mono ?_
      rintro e w3 ⟨A3, n3, c3, rfl, ⟨ub, R3, C3, V3, L3⟩, P3⟩
      have RA := R2.on P3
      have hon := (P1.trans P2).trans P3
      have V3' := V3
      rw [HV1.out] at V3'
      obtain rfl : n1 = n3 := by
        have h1 := norm_tl ub R3.ok m (by rw [V3]; exact HN.out.1) (by rw [V3]; exact HN.out.2)
        rw [C3, R3.len] at h1
        rw [h1]; exact HM.out
      have htop3 := norm_top ub R3.ok m (by rw [R3.len]; exact HM.out) (by rw [V3]; exact HN.out.1)
      have HT3 := Lib.hid htop3
      have HVA := Lib.hid V2
      have HVB := Lib.hid V3'
      clear V2 V3 V3' htop3 R1 P1 P2 P3 hcb hbb C1
      go_wp2
      obtain ⟨k0, hk0, hk1⟩ : ∃ k0, n2 + 1 - n1 = k0 ∧ k0 ≤ n2 := ⟨_, rfl, by omega⟩
      have hmx : max (0 : Int) ((n2 : Int) - (n1 : Int) + 1) = (k0 : Int) := by omega
      have HK0 := Lib.hid hk0
      have hmk := fun W => run_mk n2 (by omega) W
      have hca := RA.cap
      have hma := RA.max
      clear hk0
      go_upto_region 9 with (fail)
      go_cut [9, 10] (fun s9 s10 wx => ∃ (g : Nat) (cur : Array Value) (A9 : Option Addr) (c9 : Nat), s9 = .slice (some ⟨g, 0, none⟩) n2 n2 ∧ Own wx g 66 cur ∧ Has cur 0 (List.replicate n2 0) ∧ w3.heap.size ≤ g ∧ s10 = .slice A9 (n2 - k0) c9 ∧ Rd wx A9 (n2 - k0) c9 (ua.drop k0) ∧ On w3 wx)
      case first =>
        have RK := RA.cutA hk1
        have hsl : ∀ W, (Instr.slice 22 (.slice A2 n2 c2) (some (.int .i64 (k0 : Int))) none none).run Tryz.prog W = .ok (.slice (cutA A2 c2 k0) (n2 - k0) (c2 - k0)) W := fun W => run_cut W A2 n2 c2 k0 hk1 hca hma
        obtain ⟨AK, hAK⟩ : ∃ AK, cutA A2 c2 k0 = AK := ⟨_, rfl⟩
        rw [hAK] at RK hsl
        clear hAK
        have hk2 : (0 : Int) ≤ (k0 : Int) := by omega
        have hw1 : IntKind.i64.wrap ((n2 : Int) - (n1 : Int)) = (n2 : Int) - (n1 : Int) := IntWalk.i64_in _ (by omega)
        have hw2 : IntKind.i64.wrap ((n2 : Int) - (n1 : Int) + 1) = (n2 : Int) - (n1 : Int) + 1 := IntWalk.i64_in _ (by omega)
        have hk3 : (k0 : Int) ≤ (n2 : Int) := by omega
        go_region_held3 (fun W => On w3 W) (first | (refine on_grown ?_ hgrow5 ?_; assumption; (intro kk ek; simp [Value.ownBlock] at ek; omega)) | (repeat' (first | assumption | exact On.refl w3 | apply On.drew | apply On.alloc)))
          (first | (refine step_app rfl (.tmp 40) (.tmp 48) 22 ?_ w3.heap.size 66 (.int .u32 0) 4 Tryz.underlying22 info32 rfl (by decide) .u32 (.slice (some ⟨w3.heap.size + 1, 0, none⟩) 0 0) 0 [] ?_ ?_ AK (n2 - k0) (c2 - k0) (ua.drop k0) ?_ ?_ ?_ ?_ ?_ ?_ ?_; rfl; rfl; (refine own_row0 ?_ ?_; (first | exact Own.new _ _ _ | exact (Own.new _ _ _).alloc _ | exact own_nextb _ _ _ _ | exact (Own.new _ _ _).drew | exact ((Own.new _ _ _).alloc _).drew | exact (own_nextb _ _ _ _).drew); omega); rfl; (exact RK.len); (exact RK.nil_app); (refine (RK.on ?_).cells_app; assumption); (omega); (simp <;> omega); intro v' w5 hown5 hgrow5 hor) | (refine step_app rfl (.tmp 40) (.tmp 48) 22 ?_ w3.heap.size 66 (.int .u32 0) 4 Tryz.underlying22 info32 rfl (by decide) .u32 (.slice (some ⟨w3.heap.size, 0, none⟩) 0 0) 0 [] ?_ ?_ AK (n2 - k0) (c2 - k0) (ua.drop k0) ?_ ?_ ?_ ?_ ?_ ?_ ?_; rfl; rfl; (refine own_row0 ?_ ?_; (first | exact Own.new _ _ _ | exact (Own.new _ _ _).alloc _ | exact own_nextb _ _ _ _ | exact (Own.new _ _ _).drew | exact ((Own.new _ _ _).alloc _).drew | exact (own_nextb _ _ _ _).drew); omega); rfl; (exact RK.len); (exact RK.nil_app); (refine (RK.on ?_).cells_app; assumption); (omega); (simp <;> omega); intro v' w5 hown5 hgrow5 hor))
        all_goals
          go_wp2
          go_meet
          rw [Nat.zero_add, List.nil_append] at hown5
          obtain ⟨A9, c9, rfl⟩ := row_form hown5
          have R9 := rd_of_row (R2.ok.drop k0) hown5
          first
            | exact ⟨w3.heap.size, _, A9, c9, rfl, own_grown ((Own.new w3 _ _).alloc _).drew hgrow5 (by simp [Value.ownBlock]), has_made _, by omega, rfl, R9, by assumption⟩
            | exact ⟨w3.heap.size + 1, _, A9, c9, rfl, own_grown (own_nextb w3 _ _ _).drew hgrow5 (by simp [Value.ownBlock]), has_made _, by omega, rfl, R9, by assumption⟩
            | (have hs5 : On w3 w5 := on_grown ((On.refl w3).alloc _).drew hgrow5 (fun kk ek => by simp [Value.ownBlock] at ek; omega)
               exact ⟨w5.heap.size, _, A9, c9, rfl, Own.new w5 _ _, has_made _, hs5.size, rfl, R9.alloc _, hs5.alloc _⟩)
      case rest =>
        obtain ⟨g, cur0, A9, c9, rfl, hown, hhas, hg, rfl, R9, hon9⟩ := hcut
        have RA9 := RA.on hon9
        have RB9 := R3.on hon9
        have hon4 := hon.trans hon9
        obtain ⟨V, hV⟩ : ∃ V, val ub = V := ⟨_, rfl⟩
        have HVV := Lib.hid hV
        have hVge : BB ^ m ≤ V := by rw [← hV]; exact clean_ge C3 m (by rw [R3.len]; exact HM.out)
        have hVlt : V < BB ^ n1 := by rw [← hV, ← R3.len]; exact val_lt R3.ok
        have hVp : 0 < V := Nat.lt_of_lt_of_le (Nat.pow_pos BB_pos) hVge
        have hr0 : val (ua.drop k0) < V := by
          have h1 := val_lt (R2.ok.drop k0)
          rw [List.length_drop, R2.len] at h1
          have hmo := HM.out
          have hko := HK0.out
          have h2 : BB ^ (n2 - k0) ≤ BB ^ m := Nat.pow_le_pow_right BB_pos (by omega)
          omega
        have HR0 := Lib.hid hr0
        have HVG := Lib.hid hVge
        have HVL := Lib.hid hVlt
        have HVP := Lib.hid hVp
        have hua := R2.len
        have HUA := Lib.hid hua
        have f0 := RB9.ok.get m
        have hft := HT3.out
        clear hV hVge hVlt hVp hr0 hua R2 hmk e1 e2 hmx RA9 RB9 hon4
        go_wp2
        go_loopw [10, 11] (fun s10 s11 wr => ∃ (k : Nat) (iv : Int) (Ar : Option Addr) (nr cr : Nat) (rs : List Nat) (cur : Array Value) (qs : List Nat), s10 = .slice Ar nr cr ∧ s11 = .int .i64 iv ∧ k ≤ k0 ∧ (iv = (k : Int) - 1 ∨ (iv < 0 ∧ k = 0)) ∧ -100000 ≤ iv ∧ Rd wr Ar nr cr rs ∧ nr ≤ n1 + 1 ∧ Own wr g 66 cur ∧ Has cur 0 qs ∧ qs.length = n2 ∧ val ua = val (ua.take k) + BB ^ k * (val rs + V * val (qs.drop k)) ∧ val rs < V ∧ On w3 wr) (fun _ s11 _ => (intOf s11 + 1).toNat)
        case atStart => exact ⟨k0, _, A9, n2 - k0, c9, ua.drop k0, cur0, List.replicate n2 0, rfl, rfl, Nat.le_refl _, by have := HK0.out; omega, by omega, R9, by have := HK0.out; omega, hown, hhas, by simp, by rw [List.drop_replicate, val_replicate, Nat.mul_zero, Nat.add_zero, ← val_split_any], HR0.out, hon9⟩
        case round =>
          obtain ⟨k, iv, Ar, nr, cr, rs, cur, qs, rfl, rfl, hk, hiv, hiv2, Rr, hnr, ho, hh, hql, heq, hlt2, honr⟩ := hrel
          have H1 := Lib.hid hql
          have H2 := Lib.hid heq
          have H3 := Lib.hid hlt2
          have H4 := Lib.hid ho
          clear hql heq hlt2 ho
          rcases k with _ | k
          · have hneg : iv < 0 := by omega
            clear hiv
            have h2 := H2.out
            simp only [List.take_zero, List.drop_zero, Nat.pow_zero, Nat.one_mul, show val ([] : List Nat) = 0 from rfl, Nat.zero_add] at h2
            rw [HVA.out] at h2
            have hend := dl_end (val rs) V (val qs) (val xs) (val ys) (2 ^ j) (Nat.pow_pos (by decide)) HP.out (by rw [← HVV.out, HVB.out]) h2 H3.out
            have HE := Lib.hid hend
            have Rq := Rd.own (n := n2) (c := n2) H4.out hh H1.out (Nat.le_refl _) (by omega)
            have HQL : Hid (tl qs ≤ n) := Lib.hid (by
              apply tl_len_of_lt
              rw [HE.out.1]
              have := val_lt h.ok
              rw [h.len] at this
              exact Nat.lt_of_le_of_lt (Nat.div_le_self _ _) this)
            clear h2 hend
            go_wp2_with fail
            refine (rtrim_any _ _ _ _ n _ Rq HQL.out (by omega)).mono ?_
            rintro e w6 ⟨A6, n6, c6, rfl, N6, P6⟩
            rw [HE.out.1] at N6
            go_wp2_with fail
            refine (rdown_any _ _ _ _ j _ (Rr.on P6) (by omega) hs31).mono ?_
            rintro e w7 ⟨A7, n7, c7, rfl, ⟨ws, R7, C7, V7, L7⟩, P7⟩
            rw [HE.out.2, Nat.mul_div_cancel _ (Nat.pow_pos (by decide))] at V7
            have HV7 := Lib.hid V7
            clear V7
            go_wp2
            go_ret3
            refine ⟨_, _, _, _, _, _, rfl, N6.on P7, ⟨ws, R7, C7, HV7.out, ?_⟩, ((hon.trans honr).trans P6).trans P7⟩
            have h5 := clean_len C7 n1 (by
              rw [HV7.out]
              exact Nat.lt_trans (Nat.mod_lt _ HP.out) (by rw [← HV1.out]; exact HZL.out))
            rw [R7.len] at h5
            omega
          · obtain rfl : iv = (k : Int) := by omega
            clear hiv hiv2
            obtain ⟨ad, rfl, hba, hca2⟩ := (RA.on honr).at_ k (by omega)
            have ga := RA.ok.get k
            have RBr := R3.on honr
            have hgr : g < wr.heap.size := H4.out.lt
            have HS1 : Hid ((wr.alloc (.cells #[.int .u32 ((gw ua k : Nat) : Int)] 66)).ownsRow wr.heap.size 66 1 (.slice (some ⟨wr.heap.size, 0, none⟩) 1 1) 1 (VW .u32 [gw ua k])) := Lib.hid (own_row1 (Own.new wr _ _) (Nat.le_refl _))
            have RrA := Rr.alloc (.cells #[.int .u32 ((gw ua k : Nat) : Int)] 66)
            have HN1 := Lib.hid RrA.nil_app
            have HC1 := Lib.hid RrA.cells_app
            have HL1 := Lib.hid Rr.len
            have HA1 : Hid (val ([gw ua k] ++ rs) = gw ua k + BB * val rs) := Lib.hid rfl
            have HO1 : Hid (Ok ([gw ua k] ++ rs)) := Lib.hid ((Ok.one ga).append Rr.ok)
            clear RrA
            go_wp2_with (at_builtin; refine wpList_app rfl (.tmp 62) (.tmp 63) 22 rfl wr.heap.size 66 (.int .u32 0) 4 Tryz.underlying22 info32 rfl (by decide) .u32 (.slice (some ⟨wr.heap.size, 0, none⟩) 1 1) 1 [gw ua k] rfl HS1.out Ar nr cr rs rfl HL1.out HN1.out HC1.out (by omega) (by simp) ?_; intro v' w5 hown5 hgrow5 _)
            obtain ⟨A5, c5, ho5⟩ := row_form hown5
            subst ho5
            have R5 := rd_of_row HO1.out hown5
            have hon5 : On wr w5 := on_row ((On.refl wr).alloc _) HS1.out (Nat.le_refl _) hgrow5
            go_wp2_with fail
            refine (rtrim_any _ _ _ _ (nr + 1) _ R5 (Nat.le_trans (tl_le _) (by rw [R5.len]; omega)) (by omega)).mono ?_
            rintro e w6 ⟨A6, n6, c6, rfl, ⟨us, R6, C6, V6, L6⟩, P6⟩
            rw [HA1.out] at V6
            have hon6 : On wr w6 := hon5.trans P6
            have hn6 : n6 ≤ n1 + 1 := by
              have h5 := clean_len C6 (n1 + 1) (by
                rw [V6, Nat.pow_succ]
                have h1 := H3.out
                have h2 := HVL.out
                have h3 : (val rs + 1) * BB ≤ V * BB := Nat.mul_le_mul_right _ h1
                have h4 : V * BB ≤ BB ^ n1 * BB := Nat.mul_le_mul_right _ (Nat.le_of_lt h2)
                rw [Nat.add_mul, Nat.mul_comm (val rs)] at h3
                have h5 : gw ua k < BB := ga
                omega)
              rwa [R6.len] at h5
            have HV6 := Lib.hid V6
            clear V6 R5 hown5 hgrow5 P6 hon5 Rr
            have g1 := R6.ok.get n1
            have g2 := R6.ok.get m
            go_wp2_with fail
            refine (word_is _ _ _ _ _ R6 _ n1 rfl (by omega)).mono ?_
            rintro e w' ⟨rfl, rfl⟩
            go_wp2_with fail
            refine (word_is _ _ _ _ _ R6 _ m rfl (by omega)).mono ?_
            rintro e w' ⟨rfl, rfl⟩
            go_wp2_with fail
            refine (word_is _ _ _ _ _ (RBr.on hon6) _ m rfl (by omega)).mono ?_
            rintro e w' ⟨rfl, rfl⟩
            have o1 := or64' (gw us n1) (gw us m) g1 g2
            have ht2 : gw us n1 * 4294967296 + gw us m = val us / BB ^ m := by
              have := two_top us R6.ok m (by rw [R6.len]; have := HM.out; omega)
              rwa [← HM.out] at this
            have hfv : gw ub m * BB ^ m ≤ V := by
              have e : gw ub m = V / BB ^ m := by
                rw [← HVV.out, val_div_pow ub R3.ok m, val_drop_any, List.drop_of_length_le (by rw [R3.len]; have := HM.out; omega)]
                simp [val]
              rw [e]; exact Nat.div_mul_le_self _ _
            have hult : val us < V * BB := by
              rw [HV6.out]
              have h3 : (val rs + 1) * BB ≤ V * BB := Nat.mul_le_mul_right _ H3.out
              rw [Nat.add_mul, Nat.mul_comm (val rs)] at h3
              have h5 : gw ua k < BB := ga
              omega
            obtain ⟨q, hq⟩ : ∃ q, val us / V = q := ⟨_, rfl⟩
            have hqB : q < 4294967296 := by rw [← hq]; exact Nat.div_lt_of_lt_mul hult
            obtain ⟨T, hT⟩ : ∃ T, gw us n1 * 4294967296 + gw us m = T := ⟨_, rfl⟩
            have hTw : IntKind.u64.wrap ((T : Int) / ((gw ub m : Nat) : Int)) = (T : Int) / ((gw ub m : Nat) : Int) := by
              have h1 : (T : Int) / ((gw ub m : Nat) : Int) = ((T / gw ub m : Nat) : Int) := by rw [Int.natCast_ediv]
              have h2 := Nat.div_le_self T (gw ub m)
              rw [h1]
              have h3 : T ≤ 18446744073709551615 := by omega
              generalize T / gw ub m = Y at *
              exact IntWalk.u64_in _ (by omega)
            rw [hT] at o1 ht2
            have hge := guess_ge (val us) V (BB ^ m) T (gw ub m) (Nat.pow_pos BB_pos) HVP.out ht2 hfv (by omega)
            rw [hq] at hge
            obtain ⟨G, hmin, hqG, hG⟩ := guess_val T (gw ub m) q hge hqB
            have hGm : (G : Int) % 4294967296 = (G : Int) := by omega
            have HQ := Lib.hid hq
            have HULT := Lib.hid hult
            have hf1 : (((gw ub m : Nat) : Int) == 0) = false := by simp; omega
            clear ht2 hfv hT hq hge hult
            go_wp2_with fail
            have R8 : Rd (w6.alloc (.cells #[.int .u32 (G : Int)] 66)) (some ⟨w6.heap.size, 0, none⟩) 1 1 [G] := rd_one w6 66 G hG
            refine (rmul_any _ _ _ _ _ _ _ (n1 + 1) _ _ ((RBr.on hon6).alloc _) R8 (by omega) (by omega) (by omega)).mono ?_
            rintro e w8 ⟨A8, n8, c8, rfl, ⟨ps, R9p, C9p, V9p, L9p⟩, P8⟩
            have hvp : val ps = V * G := by rw [V9p, HVV.out]; simp [val]
            have HVPs := Lib.hid hvp
            have hon8 : On wr w8 := (hon6.alloc _).trans P8
            have R6' := (R6.alloc (.cells #[.int .u32 (G : Int)] 66)).on P8
            have RB8 := RBr.on hon8
            clear V9p hvp R8 hmin hGm o1
            have HG8 := H4.out.on hon8
            have HOG := Lib.hid HG8
            have hone : On w w8 := (hon.trans honr).trans hon8
            have hon38 : On w3 w8 := honr.trans hon8
            clear HG8 R6 RBr P8
            go_wp2
            obtain ⟨wo, hwo⟩ : ∃ wo : World, wr = wo := ⟨_, rfl⟩
            rw [hwo] at hon6 hon8 honr hgr H4
            clear hwo
            go_loopw [12, 13] (fun s12 s13 wi => ∃ (g' : Nat) (Ap : Option Addr) (np cp : Nat) (ps : List Nat), s12 = .int .u64 (g' : Int) ∧ s13 = .slice Ap np cp ∧ Rd wi Ap np cp ps ∧ np ≤ n1 + 1 ∧ val ps = V * g' ∧ q ≤ g' ∧ g' < 4294967296 ∧ On w8 wi) (fun s12 _ _ => (intOf s12).toNat)
            case atStart => exact ⟨G, A8, n8, c8, ps, rfl, rfl, R9p, L9p, HVPs.out, hqG, hG, On.refl _⟩
            case round =>
              obtain ⟨g', Ap, np, cp, ps', rfl, rfl, Rp, hnp, hvp, hqg, hgl, honi⟩ := hrel
              have HV9 := Lib.hid hvp
              clear hvp
              by_cases hcmp : V * g' ≤ val us
              · have hgq : g' = q := by
                  have h1 : g' ≤ val us / V := (Nat.le_div_iff_mul_le HVP.out).2 (by rw [Nat.mul_comm]; exact hcmp)
                  rw [HQ.out] at h1
                  omega
                subst hgq
                have hcn : cmpI (val ps') (val us) ≤ 0 := by
                  rw [HV9.out]
                  rcases Nat.lt_or_eq_of_le hcmp with h | h
                  · rw [cmpI_lt h]; decide
                  · rw [cmpI_eq h]; decide
                have hcd : decide (0 < cmpI (val ps') (val us)) = false := decide_eq_false (by omega)
                have HCMP := Lib.hid hcmp
                clear hcmp
                go_wp2_with fail
                refine (rcmp_any _ _ _ _ _ _ _ _ _ Rp (R6'.on honi) (by omega) (by omega)).mono ?_
                rintro e w' ⟨rfl, rfl⟩
                go_wp2_with fail
                refine (rsub_new _ _ _ _ _ _ _ _ _ (R6'.on honi) Rp (by omega) (by omega) (by rw [HV9.out]; exact HCMP.out)).mono ?_
                rintro e w10 ⟨A10, n10, c10, rfl, ⟨vs, R10, C10, V10, L10⟩, P10, F10⟩
                rw [HV9.out] at V10
                have HVT := Lib.hid V10
                have hon10 := honi.trans P10
                have HO10 := Lib.hid (HOG.out.on hon10)
                have hcell : w10.cell? ⟨g, k, none⟩ = some (.int .u32 ((gw qs k : Nat) : Int)) := (HO10.out.cell _).trans (by have := hh.get k (by rw [H1.out]; omega); rwa [Nat.zero_add] at this)
                have hfroz : w10.frozen? ⟨g, k, none⟩ = false := HO10.out.frozen _
                have hA := hh.set_ (j := k) (x := g') (by rw [H1.out]; omega) hgl
                rw [Nat.zero_add] at hA
                have hmod := Nat.div_add_mod (val us) V
                rw [HQ.out] at hmod
                have hmlt := Nat.mod_lt (val us) HVP.out
                have HFIN : Hid (val ua = val (ua.take k) + BB ^ k * (val vs + V * val ((qs.set k g').drop k)) ∧ val vs < V) := Lib.hid (by
                  refine ⟨rdl_step ua qs k V (val rs) g' (val vs) _ (by rw [H1.out]; omega) H2.out ?_, ?_⟩
                  · rw [← HV6.out, HVT.out]; omega
                  · rw [HVT.out]; omega)
                have hnv : n10 ≤ n1 + 1 := by omega
                have hOn : On w3 w10 := hon38.trans hon10
                have hwg : w3.heap.size ≤ g := hg
                clear V10 hmod hmlt hcn hcd
                have h8 : g < w8.heap.size := HOG.out.lt
                have hfar : ∀ ad, A10 = some ad → ad.block ≠ g := fun ad e => by
                  have h1 := F10 ad e
                  have h2 := honi.size
                  omega
                have HFAR := Lib.hid hfar
                clear hfar F10
                go_wp2
                refine ⟨⟨k, (k : Int) - 1, A10, n10, c10, vs, _, qs.set k g', rfl, rfl, by omega, .inl rfl, by omega, R10.only ((Only.refl g w10).set_ k _) HFAR.out, hnv, HO10.out.set_ _ _, hA, by rw [List.length_set, H1.out], HFIN.out.1, HFIN.out.2, hOn.setCell hwg _⟩, by simp [intOf]⟩
              · have hlt3 : val us < V * g' := by omega
                have hcd : decide (0 < cmpI (val ps') (val us)) = true := by rw [HV9.out, cmpI_gt hlt3]; rfl
                have hg1 : q < g' := by
                  have h1 : val us / V < g' := Nat.div_lt_of_lt_mul hlt3
                  rwa [HQ.out] at h1
                have hle3 : val ub ≤ val ps' := by
                  rw [HV9.out, HVV.out]
                  have : V * 1 ≤ V * g' := Nat.mul_le_mul_left _ (by omega)
                  omega
                have HLE := Lib.hid hle3
                clear hcmp hlt3 hle3
                go_wp2_with fail
                refine (rcmp_any _ _ _ _ _ _ _ _ _ Rp (R6'.on honi) (by omega) (by omega)).mono ?_
                rintro e w' ⟨rfl, rfl⟩
                go_wp2_with fail
                refine (rsub_good _ _ _ _ _ _ _ _ _ Rp (RB8.on honi) (by omega) (by omega) HLE.out).mono ?_
                rintro e w10 ⟨A10, n10, c10, rfl, ⟨vs, R10, C10, V10, L10⟩, P10⟩
                rw [HV9.out, HVV.out] at V10
                have HVT := Lib.hid V10
                clear V10 hcd
                go_wp2
                go_roundw
                case rel =>
                  exact ⟨g' - 1, A10, n10, c10, vs, by congr 1; omega, rfl, R10, by omega, by rw [HVT.out, Nat.mul_sub, Nat.mul_one], by omega, by omega, honi.trans P10⟩
                case measure => simp [intOf]; omega
end
section
set_option maxRecDepth 100000 in
set_option maxHeartbeats 1000000 in
theorem rgcd_any (w : World) (A A' : Option Addr) (n c n' c' L : Nat) (xs ys : List Nat) (h : Rd w A n c xs) (k : Rd w A' n' c' ys) (hn : n ≤ L) (hn' : n' ≤ L) (hL : L ≤ 10000) :
    Calls Tryz.prog 80 #[.slice A n c, .slice A' n' c'] w (Gives w (Nat.gcd (val xs) (val ys)) L) := by
  obtain ⟨gg, hg⟩ : ∃ gg, Nat.gcd (val xs) (val ys) = gg := ⟨_, rfl⟩
  rw [hg]
  have HG0 := Lib.hid hg
  clear hg
  go_enter Tryz.func80, Tryz.ntmps80
  go_wp2_with fail
  refine (rtrim_any _ _ _ _ L _ h (by have := tl_le xs; rw [h.len] at this; omega) (by omega)).mono ?_
  rintro e w1 ⟨A1, n1, c1, rfl, ⟨as1, R1, C1, V1, L1⟩, P1⟩
  go_wp2_with fail
  refine (rtrim_any _ _ _ _ L _ (k.on P1) (by have := tl_le ys; rw [k.len] at this; omega) (by omega)).mono ?_
  rintro e w2 ⟨A2, n2, c2, rfl, ⟨bs1, R2, C2, V2, L2⟩, P2⟩
  have R1' := R1.on P2
  have hon := P1.trans P2
  have HG : Hid (Nat.gcd (val as1) (val bs1) = gg) := Lib.hid (by rw [V1, V2]; exact HG0.out)
  clear h k R1 P1 P2 V1 V2 HG0
  go_wp2
  go_loopg [0, 1] (val bs1) (fun gh s0 s1 wr => ∃ (A1 : Option Addr) (n1 c1 : Nat) (l1 : List Nat) (A2 : Option Addr) (n2 c2 : Nat) (l2 : List Nat), s0 = .slice A1 n1 c1 ∧ s1 = .slice A2 n2 c2 ∧ Rd wr A1 n1 c1 l1 ∧ Rd wr A2 n2 c2 l2 ∧ Clean l1 ∧ Clean l2 ∧ n1 ≤ L ∧ n2 ≤ L ∧ val l2 ≤ gh ∧ Nat.gcd (val l1) (val l2) = gg ∧ On w wr)
  case atStart => exact ⟨A1, n1, c1, as1, A2, n2, c2, bs1, rfl, rfl, R1', R2, C1, C2, L1, L2, Nat.le_refl _, HG.out, hon⟩
  case round =>
    clear R1' R2 C1 C2 L1 L2 hon HG
    obtain ⟨A1, n1, c1, l1, A2, n2, c2, l2, rfl, rfl, R1, R2, C1, C2, h1, h2, hgh, hg, hon⟩ := hrel
    have HG := Lib.hid hg
    clear hg
    by_cases h0 : 0 < n2
    · have hp2 : 0 < val l2 := val_pos C2 (by rw [R2.len]; omega)
      go_wp2_with fail
      refine (rdiv_pos _ _ _ _ _ _ _ _ _ R1 R2 (by omega) (by omega) hp2).mono ?_
      rintro e w3 ⟨A5, n5, c5, A6, n6, c6, rfl, _, ⟨rs, RR, CR, VR, LR⟩, hon3⟩
      have hlt : val rs < val l2 := by rw [VR]; exact Nat.mod_lt _ hp2
      have HG2 : Hid (Nat.gcd (val l2) (val rs) = gg) := Lib.hid (by rw [VR, Nat.gcd_comm, ← Nat.gcd_rec, Nat.gcd_comm, HG.out])
      clear VR
      go_wp2
      go_roundg (val rs)
      case measure => omega
      case rel => exact ⟨_, _, _, l2, _, _, _, rs, rfl, rfl, R2.on hon3, RR, C2, CR, h2, by omega, Nat.le_refl _, HG2.out, hon.trans hon3⟩
    · obtain rfl : n2 = 0 := by omega
      obtain rfl := List.eq_nil_of_length_eq_zero R2.len
      have hgz : gg = val l1 := by rw [← HG.out]; simp [val]
      have HGZ := Lib.hid hgz
      clear hgz
      go_wp2
      go_ret
      exact ⟨_, _, _, rfl, ⟨l1, R1, C1, HGZ.out.symm, h1⟩, hon⟩
end
section
theorem r_ofInt_i64 (a : Nat) (ha : a < 9223372036854775808) : (BitVec.ofInt 64 (a : Int)).toNat = a := by
  rw [BitVec.ofInt_natCast, BitVec.toNat_ofNat]; exact Nat.mod_eq_of_lt (by omega)
theorem r_i64_and_one (a : Nat) (ha : a < 9223372036854775808) : bits .and .i64 (a : Int) 1 = ((a % 2 : Nat) : Int) := by
  have e1 := r_ofInt_i64 a ha
  show IntKind.i64.wrap ((BitVec.ofInt 64 (a : Int) &&& BitVec.ofInt 64 ((1 : Nat) : Int)).toNat : Int) = _
  rw [BitVec.toNat_and, e1, r_ofInt_i64 1 (by decide), nat_mask1, IntKind.wrap_i64]
  omega
theorem r_pow_half (v n k : Nat) : v ^ (n / 2 ^ k) = (if n / 2 ^ k % 2 = 1 then v ^ (n / 2 ^ (k + 1)) * v ^ (n / 2 ^ (k + 1)) * v else v ^ (n / 2 ^ (k + 1)) * v ^ (n / 2 ^ (k + 1))) := by
  have h1 : n / 2 ^ (k + 1) = n / 2 ^ k / 2 := by rw [Nat.pow_succ, Nat.div_div_eq_div_mul]
  rw [h1]
  generalize n / 2 ^ k = x
  split
  · rename_i hx
    rw [← Nat.pow_add, ← Nat.pow_succ]; congr 1; omega
  · rename_i hx
    rw [← Nat.pow_add]; congr 1; omega
theorem powl_lt (v e q L M : Nat) (hv : v < BB ^ L) (he : e ≤ q) (hM : L * q < M) : v ^ e < BB ^ M := by
  have h1 : v ^ e ≤ (BB ^ L) ^ e := Nat.pow_le_pow_left (Nat.le_of_lt hv) e
  rw [← Nat.pow_mul] at h1
  have h2 : BB ^ (L * e) ≤ BB ^ (L * q) := Nat.pow_le_pow_right (by decide) (Nat.mul_le_mul_left _ he)
  have h3 : BB ^ (L * q) < BB ^ M := Nat.pow_lt_pow_right (by decide) hM
  exact Nat.lt_of_le_of_lt (Nat.le_trans h1 h2) h3
theorem clean_ten {xs : List Nat} (C : Clean xs) {l : List Nat} (h : IsDig l) (hl : l.length ≤ 64) (V : val xs = dv l) : xs.length ≤ 8 := by
  have h1 := dv_lt h
  have h2 := ten_le hl
  exact clean_len C 8 (by rw [V]; exact Nat.lt_of_lt_of_le h1 (Nat.le_trans h2 (by decide)))
/-- zero and an error -/
def RatNo (w : World) (x : Int) (e : Ending) (w' : World) : Prop := e = .returned (.tuple #[.agg #[.bool false, .slice none 0 0, .slice none 0 0], .iface 51 (.int .i64 x)]) ∧ On w w'
/-- strings.Index's own variable holds some number -/
def MX (w : World) : Prop := 0 < w.heap.size ∧ ∃ m : Int, w.cell? ⟨0, 0, none⟩ = some (.int .i64 m)
theorem MX.on {w w' : World} (h : MX w) (k : On w w') : MX w' := by
  obtain ⟨h1, m, h2⟩ := h
  exact ⟨Nat.lt_of_lt_of_le h1 k.size, m, by rw [Below.cell k (p := ⟨0, 0, none⟩) h1]; exact h2⟩
theorem isR_raw {w : World} {s : Bool} {A A' : Option Addr} {n c n' c' L : Nat} {r : Rat} (h : IsR w (.agg #[.bool s, .slice A n c, .slice A' n' c']) r L) : ∃ xs ys, Rd w A n c xs ∧ Rd w A' n' c' ys ∧ n ≤ L ∧ n' ≤ L ∧ raw s xs ys = r := by
  obtain ⟨B, m, d, xs, B', m', d', ys, e, R, R', C, C', h1, h2, V, V'⟩ := h
  simp only [Value.agg.injEq, Array.mk.injEq, List.cons.injEq, Value.bool.injEq, Value.slice.injEq, and_true] at e
  obtain ⟨rfl, ⟨rfl, rfl, rfl⟩, rfl, rfl, rfl⟩ := e
  refine ⟨xs, ys, R, R', h1, h2, ?_⟩
  by_cases h0 : r = 0
  · subst h0
    have : xs = [] := List.eq_nil_of_length_eq_zero (Nat.le_zero.1 (clean_len C 0 (by rw [V]; decide)))
    subst this
    rw [raw_nil]
  · have hn := num_pos_of_ne h0
    rw [dn_ne h0] at V'
    have hx : 0 < xs.length := by
      rcases Nat.eq_zero_or_pos xs.length with e | e
      · rw [List.eq_nil_of_length_eq_zero e] at V; simp [val] at V; omega
      · exact e
    have hy : 0 < ys.length := by
      rcases Nat.eq_zero_or_pos ys.length with e | e
      · rw [List.eq_nil_of_length_eq_zero e] at V'; simp [val] at V'; exact absurd V'.symm r.den_nz
      · exact e
    rw [raw_fit (fitB_yes _ ⟨hx, C⟩ ⟨hy, C'⟩ (by rw [V, V']; exact r.reduced)) hx, V, V', fr_self]
def q1 : Rat := ⟨-3, 2, by decide, by decide⟩
def q2 : Rat := ⟨-2, 1, by decide, by decide⟩
def q3 : Rat := ⟨1, 4, by decide, by decide⟩
theorem q1_eq : fr (decide ((6 : Int) < 0) != decide ((-4 : Int) < 0)) (6 : Int).natAbs (-4 : Int).natAbs = q1 := by decide
theorem q2_eq : ((flr q1 : Int) : Rat) = q2 := by decide
theorem q3_eq : fr false (dv (bl (ByteArray.mk #[48])) * 10 ^ (ByteArray.mk #[50, 53]).size + 25) (10 ^ (ByteArray.mk #[50, 53]).size) = q3 := by decide
theorem one_digit (d : Nat) (h : 1 ≤ d) (h2 : d ≤ 9) : IsText d [48 + d] := .inr ⟨[48 + d], rfl, by intro b hb; simp at hb; omega, by simp [dvb], by simp, by simp [gw]; omega⟩
theorem text_q1 {bs : List Nat} (h : RTx q1 bs) : str bs = { data := #[45, 51, 47, 50] } := by
  have e : bs = [45, 51, 47, 50] := h.unique ⟨[51], [50], one_digit 3 (by decide) (by decide), one_digit 2 (by decide) (by decide), by decide⟩
  subst e; rfl
theorem text_q2 {bs : List Nat} (h : RTx q2 bs) : str bs = { data := #[45, 50] } := by
  have e : bs = [45, 50] := h.unique ⟨[50], [49], one_digit 2 (by decide) (by decide), one_digit 1 (by decide) (by decide), by decide⟩
  subst e; rfl
theorem text_q3 {bs : List Nat} (h : RTx q3 bs) : str bs = { data := #[49, 47, 52] } := by
  have e : bs = [49, 47, 52] := h.unique ⟨[49], [52], one_digit 1 (by decide) (by decide), one_digit 4 (by decide) (by decide), by decide⟩
  subst e; rfl
set_option maxHeartbeats 800000 in
theorem rat_same (w : World) (v v' : Value) (r : Rat) (L L' : Nat) (h : IsR w v r L) (k : IsR w v' r L') :
    Calls Tryz.prog 17 #[v, v'] w fun e w' => e = .returned (.bool true) ∧ On w w' := by
  obtain ⟨A, n, c, xs, A', n', c', ys, rfl, R, R', C, C', h1, h2, h3, h4⟩ := h
  obtain ⟨B, m, d, us, B', m', d', zs, rfl, S, S', D, D', k1, k2, k3, k4⟩ := k
  have B1 := (On.refl w).alloc (.cells #[.bool (decide (r < 0)), .slice A n c, .slice A' n' c'] 24)
  have B2 := B1.alloc (.cells #[.bool (decide (r < 0)), .slice B m d, .slice B' m' d'] 24)
  have HU := Lib.hid (h3.trans k3.symm)
  have HZ := Lib.hid (h4.trans k4.symm)
  have OA := Lib.hid (((Own.new w 24 #[.bool (decide (r < 0)), .slice A n c, .slice A' n' c'])).on ((On.refl _).alloc (.cells #[.bool (decide (r < 0)), .slice B m d, .slice B' m' d'] 24)))
  have OB := Lib.hid (own_nextr w (.cells #[.bool (decide (r < 0)), .slice A n c, .slice A' n' c'] 24) 24 #[.bool (decide (r < 0)), .slice B m d, .slice B' m' d'])
  clear h3 h4 k3 k4
  go_enter Tryz.func17, Tryz.ntmps17
  go_wp2_with fail
  refine (words_rd _ _ _ _ _ _ _ _ _ (R.on B2) (S.on B2) C D HU.out).mono ?_
  rintro e w2 ⟨rfl, P2⟩
  have a2 : w2.cell? ⟨w.heap.size, 2, none⟩ = some (.slice A' n' c') := (OA.out.on P2).cell 2
  have b2 : w2.cell? ⟨w.heap.size + 1, 2, none⟩ = some (.slice B' m' d') := (OB.out.on P2).cell 2
  go_wp2_with fail
  refine (words_rd _ _ _ _ _ _ _ _ _ ((R'.on B2).on P2) ((S'.on B2).on P2) C' D' HZ.out).mono ?_
  rintro e w3 ⟨rfl, P3⟩
  go_wp2
  go_ret
  exact ⟨rfl, (B2.trans P2).trans P3⟩
theorem nb_one (v : Nat) : (((nb v : Nat) : Int) == 1) = decide (v = 1) := by
  rw [Bool.eq_iff_iff, decide_eq_true_iff, beq_iff_eq]
  constructor
  · intro h
    have h1 : nb v ≤ 1 := by omega
    have h2 := (nb_le_iff v 1).1 h1
    have h3 : v ≠ 0 := fun e => by have := (nb_zero_iff v).2 e; omega
    omega
  · rintro rfl; rfl
theorem len_or (n : Nat) : (((n : Nat) : Int) == 0) = decide (n = 0) := by
  rw [Bool.eq_iff_iff, decide_eq_true_iff, beq_iff_eq]; omega
set_option maxHeartbeats 800000 in
theorem rvalid_any (w : World) (s : Bool) (A A' : Option Addr) (n c n' c' : Nat) (xs ys : List Nat) (h : Rd w A n c xs) (k : Rd w A' n' c' ys) (hn : n ≤ 5000) (hn' : n' ≤ 5000) :
    Calls Tryz.prog 50 #[.agg #[.bool s, .slice A n c, .slice A' n' c']] w fun e w' => e = .returned (.bool (fitB s xs ys)) ∧ On w w' := by
  have B := (On.refl w).alloc (.cells #[.bool s, .slice A n c, .slice A' n' c'] 24)
  have h1 := h.on B
  have k1 := k.on B
  by_cases h0 : n = 0 ∨ n' = 0
  · have hf : fitB s xs ys = (decide (n = 0) && decide (n' = 0) && !s) := by
      by_cases e1 : n = 0
      · subst e1
        obtain rfl := List.eq_nil_of_length_eq_zero h.len
        by_cases e2 : n' = 0
        · subst e2
          obtain rfl := List.eq_nil_of_length_eq_zero k.len
          rw [fitB_nil]; simp
        · rw [fitB_no s (fun e => by simp at e) (fun e => by have := k.len; rw [e.2] at this; simp at this; omega)]
          simp [e2]
      · have e2 : n' = 0 := by omega
        subst e2
        obtain rfl := List.eq_nil_of_length_eq_zero k.len
        rw [fitB_no s (fun e => by simp at e) (fun e => by have := h.len; rw [e.1] at this; simp at this; omega)]
        simp [e1]
    have HF := Lib.hid hf
    clear hf
    rcases Nat.eq_zero_or_pos n with e1 | e1
    · subst e1
      rcases Nat.eq_zero_or_pos n' with e2 | e2
      · subst e2
        go_enter Tryz.func50, Tryz.ntmps50
        clear h0
        go_wp2
        go_quiet (fail)
        go_wp2
        go_ret
        exact ⟨by rw [HF.out]; first | rfl | simp, B.drewN nq⟩
      · have hb : ((n' : Int) == 0) = false := by simp; omega
        have HF2 := Lib.hid (show fitB s xs ys = false by rw [HF.out]; simp; omega)
        clear h0
        go_enter Tryz.func50, Tryz.ntmps50
        go_wp2
        go_quiet (fail)
        go_wp2
        go_ret
        exact ⟨by rw [HF2.out]; rfl, B.drewN nq⟩
    · have e2 : n' = 0 := by omega
      subst e2
      have hb : ((n : Int) == 0) = false := by simp; omega
      have HF2 := Lib.hid (show fitB s xs ys = false by rw [HF.out]; simp; omega)
      clear h0
      go_enter Tryz.func50, Tryz.ntmps50
      go_wp2
      go_quiet (fail)
      go_wp2
      go_ret
      exact ⟨by rw [HF2.out]; rfl, B.drewN nq⟩
  · have hx0 : 0 < n := by omega
    have hy0 : 0 < n' := by omega
    have hb0 : ((n : Int) == 0) = false := by simp; omega
    have hb1 : ((n' : Int) == 0) = false := by simp; omega
    clear h0
    have hne : ¬ (xs = [] ∧ ys = []) := fun e => by have := h.len; rw [e.1] at this; simp at this; omega
    obtain ⟨m, rfl⟩ : ∃ m, n = m + 1 := ⟨n - 1, by omega⟩
    obtain ⟨m', rfl⟩ : ∃ m', n' = m' + 1 := ⟨n' - 1, by omega⟩
    obtain ⟨ad, rfl, hb, hc⟩ := h.at_ m (by omega)
    obtain ⟨ad', rfl, hb', hc'⟩ := k.at_ m' (by omega)
    obtain ⟨_, e1, _, hd⟩ := h1.at_ m (by omega)
    obtain rfl := Option.some.inj e1
    obtain ⟨_, e2, _, hd'⟩ := k1.at_ m' (by omega)
    obtain rfl := Option.some.inj e2
    clear hc hc' e1 e2 hb0 hb1
    have hb2 : (((m : Nat) : Int) + 1 == 0) = false := by rw [beq_eq_false_iff_ne]; omega
    have hb3 : (((m' : Nat) : Int) + 1 == 0) = false := by rw [beq_eq_false_iff_ne]; omega
    have i1 : ((m + 1 : Nat) : Int) - 1 = (m : Int) := by omega
    have i2 : ((m' + 1 : Nat) : Int) - 1 = (m' : Int) := by omega
    have hcap := h.cap
    have hmax := h.max
    have hcap' := k.cap
    have hmax' := k.max
    by_cases gx : gw xs m = 0
    · have HF := Lib.hid (fitB_no s (xs := xs) (ys := ys) (fun e => (clean_iff_last xs m h.len).1 e.1.2 gx) hne)
      rw [gx] at hd
      clear hne gx
      go_enter Tryz.func50, Tryz.ntmps50
      go_wp2
      go_quiet (fail)
      go_wp2
      go_ret
      exact ⟨by rw [HF.out]; rfl, B.drewN nq⟩
    · have bx : (((gw xs m : Nat) : Int) != 0) = true := by rw [bne_iff_ne]; omega
      by_cases gy : gw ys m' = 0
      · have HF := Lib.hid (fitB_no s (xs := xs) (ys := ys) (fun e => (clean_iff_last ys m' k.len).1 e.2.1.2 gy) hne)
        rw [gy] at hd'
        clear hne gx gy
        go_enter Tryz.func50, Tryz.ntmps50
        go_wp2
        go_quiet (fail)
        go_wp2
        go_ret
        exact ⟨by rw [HF.out]; rfl, B.drewN nq⟩
      · have by_ : (((gw ys m' : Nat) : Int) != 0) = true := by rw [bne_iff_ne]; omega
        have hx : 0 < xs.length ∧ Clean xs := ⟨by rw [h.len]; omega, (clean_iff_last xs m h.len).2 gx⟩
        have hy : 0 < ys.length ∧ Clean ys := ⟨by rw [k.len]; omega, (clean_iff_last ys m' k.len).2 gy⟩
        have hfit : fitB s xs ys = decide (Nat.gcd (val xs) (val ys) = 1) := by
          by_cases hg : Nat.gcd (val xs) (val ys) = 1
          · rw [fitB_yes s hx hy hg, decide_eq_true hg]
          · rw [fitB_no s (fun e => hg e.2.2) hne, decide_eq_false hg]
        have HF := Lib.hid hfit
        clear hfit hne hx hy gx gy
        go_enter Tryz.func50, Tryz.ntmps50
        go_wp2
        go_quiet (fail)
        go_wp2_with fail
        refine (rgcd_any _ _ _ _ _ _ _ 5000 _ _ (h1.drewN nq) (k1.drewN nq) hn hn' (by decide)).mono ?_
        rintro e w2 ⟨A2, n2, c2, rfl, ⟨gs, RG, CG, VG, LG⟩, P2⟩
        have HG := Lib.hid VG
        clear VG
        go_wp2_with fail
        refine (rbits_any _ _ _ _ _ RG (by omega)).mono ?_
        rintro e w3 ⟨rfl, rfl⟩
        rw [HG.out]
        go_wp2
        go_ret
        exact ⟨by rw [HF.out, ← nb_one]; rfl, (B.drewN nq).trans P2⟩
theorem Nm.wide {w : World} {A : Option Addr} {n c v L M : Nat} (h : Nm w A n c v L) (k : L ≤ M) : Nm w A n c v M := by
  obtain ⟨xs, h1, h2, h3, h4⟩ := h
  exact ⟨xs, h1, h2, h3, Nat.le_trans h4 k⟩
theorem rfrom_zero (w : World) (s : Bool) (A A' : Option Addr) (n c n' c' : Nat) (xs ys : List Nat) (h : Rd w A n c xs) (k : Rd w A' n' c' ys) (hy : val ys = 0) (hn' : n' ≤ 10000) :
    Calls Tryz.prog 83 #[.bool s, .slice A n c, .slice A' n' c'] w fun e w' => e = .returned (.tuple #[.agg #[.bool false, .slice none 0 0, .slice none 0 0], .int .i64 8]) ∧ On w w' := by
  have B := (On.refl w).alloc (.cells #[.bool false, .slice none 0 0, .slice none 0 0] 24)
  have k1 := k.on B
  have HB := Lib.hid ((nb_zero_iff (val ys)).2 hy)
  clear hy
  go_enter Tryz.func83, Tryz.ntmps83
  go_wp2_with fail
  refine (rbits_any _ _ _ _ _ k1 (by omega)).mono ?_
  rintro e w' ⟨rfl, rfl⟩
  rw [HB.out]
  go_wp2
  exact bodyPost_ret (v := .tuple #[.agg #[.bool false, .slice none 0 0, .slice none 0 0], .int .i64 8]) (by simp [results, Tryz.results83, go_sem]) rfl ⟨rfl, B⟩
set_option maxHeartbeats 800000 in
theorem rfrom_any (w : World) (s : Bool) (A A' : Option Addr) (n c n' c' L : Nat) (xs ys : List Nat) (h : Rd w A n c xs) (k : Rd w A' n' c' ys) (hy : 0 < val ys) (hn : n ≤ L) (hn' : n' ≤ L) (hL2 : 2 ≤ L) (hL : L ≤ 5000) :
    Calls Tryz.prog 83 #[.bool s, .slice A n c, .slice A' n' c'] w (RatPost2 w (fr s (val xs) (val ys)) L (.int .i64 0)) := by
  have B := (On.refl w).alloc (.cells #[.bool false, .slice none 0 0, .slice none 0 0] 24)
  have O2 := Own.new w 24 #[.bool false, .slice none 0 0, .slice none 0 0]
  have h1 := h.on B
  have k1 := k.on B
  have HO2 := Lib.hid O2
  have hnz : nb (val ys) ≠ 0 := fun e => by have := (nb_zero_iff _).1 e; omega
  have hb1 : (((nb (val ys) : Nat) : Int) == 0) = false := by simp; omega
  have HQ := Lib.hid hy
  clear O2 hnz hy
  rcases Nat.eq_zero_or_pos (val xs) with h0 | h0
  · have HR : Hid (fr s (val xs) (val ys) = 0) := Lib.hid (by rw [h0]; exact fr_zero s _)
    have HB := Lib.hid ((nb_zero_iff (val xs)).2 h0)
    clear h0
    go_enter Tryz.func83, Tryz.ntmps83
    go_wp2_with fail
    refine (rbits_any _ _ _ _ _ k1 (by omega)).mono ?_
    rintro e w' ⟨rfl, rfl⟩
    go_wp2_with fail
    refine (rbits_any _ _ _ _ _ h1 (by omega)).mono ?_
    rintro e w' ⟨rfl, rfl⟩
    rw [HB.out]
    go_wp2
    exact bodyPost_ret (v := .tuple #[.agg #[.bool false, .slice none 0 0, .slice none 0 0], .int .i64 0]) (by simp [results, Tryz.results83, go_sem]) rfl ⟨_, rfl, by rw [HR.out]; exact isR_zero _ _, B⟩
  · have hnz : nb (val xs) ≠ 0 := fun e => by have := (nb_zero_iff _).1 e; omega
    have hb0 : (((nb (val xs) : Nat) : Int) == 0) = false := by simp; omega
    have HP := Lib.hid h0
    clear h0 hnz
    go_enter Tryz.func83, Tryz.ntmps83
    go_wp2_with fail
    refine (rbits_any _ _ _ _ _ k1 (by omega)).mono ?_
    rintro e w' ⟨rfl, rfl⟩
    go_wp2_with fail
    refine (rbits_any _ _ _ _ _ h1 (by omega)).mono ?_
    rintro e w' ⟨rfl, rfl⟩
    go_wp2_with fail
    refine (rgcd_any _ _ _ _ _ _ _ L _ _ h1 k1 hn hn' (by omega)).mono ?_
    rintro e w2 ⟨A2, n2, c2, rfl, ⟨gs, RG, CG, VG, LG⟩, P2⟩
    have hgp : 0 < val gs := by rw [VG]; exact Nat.gcd_pos_of_pos_left _ HP.out
    have HG := Lib.hid VG
    have HGP := Lib.hid hgp
    clear VG hgp
    go_wp2_with fail
    refine (rdiv_pos _ _ _ _ _ _ _ _ _ (h1.on P2) RG (by omega) (by omega) HGP.out).mono ?_
    rintro e w3 ⟨A3, n3, c3, A5, n5, c5, rfl, N3, N5, P3⟩
    go_wp2_with fail
    refine (rdiv_pos _ _ _ _ _ _ _ _ _ ((k1.on P2).on P3) (RG.on P3) (by omega) (by omega) HGP.out).mono ?_
    rintro e w4 ⟨A4, n4, c4, A6, n6, c6, rfl, N4, N6, P4⟩
    have P := (B.trans P2).trans (P3.trans P4)
    have O2 := ((HO2.out.on P2).on P3).on P4
    have N3' := Nm.wide (N3.on P4) hn
    have N4' := Nm.wide N4 hn'
    rw [HG.out] at N3' N4'
    clear N3 RG CG N4 N5 N6
    have r0 : w4.cell? ⟨w.heap.size, 0, none⟩ = some (.bool false) := O2.cell 0
    have rf0 := O2.frozen 0
    have r1 : w4.cell? ⟨w.heap.size, 1, none⟩ = some (.slice none 0 0) := O2.cell 1
    have rf1 := O2.frozen 1
    have r2 : w4.cell? ⟨w.heap.size, 2, none⟩ = some (.slice none 0 0) := O2.cell 2
    have rf2 := O2.frozen 2
    go_wp2
    have hon := on3 (g := w.heap.size) P (by omega) (.bool s) (.slice A3 n3 c3) (.slice A4 n4 c4)
    exact bodyPost_ret (v := .tuple #[.agg #[.bool s, .slice A3 n3 c3, .slice A4 n4 c4], .int .i64 0]) (by simp [results, Tryz.results83, go_sem, r0, r1, r2]) rfl ⟨_, rfl, isR_fr HP.out HQ.out (nm_put N3' O2 _ _ _) (nm_put N4' O2 _ _ _), hon⟩
set_option maxHeartbeats 800000 in
theorem rsize_any (w : World) (x : Int) (h0 : -9223372036854775808 ≤ x) (h1 : x ≤ 9223372036854775807) :
    Calls Tryz.prog 100 #[.int .i64 x] w (MagPost w x) := by
  by_cases hx : x < 0
  · have e1 : IntKind.u64.wrap x = x + 18446744073709551616 := by rw [IntKind.wrap_u64]; omega
    have e2 : IntKind.u64.wrap (-(x + 18446744073709551616)) = -x := by rw [IntKind.wrap_u64]; omega
    go_enter Tryz.func100, Tryz.ntmps100
    obtain ⟨ms, RM, VM⟩ := mag_fin w 66 (-x) (by omega) (by omega)
    have HV := Lib.hid VM
    clear VM
    go_wp2
    go_ret
    exact ⟨_, ms, rfl, RM, by rw [HV.out]; omega, (On.refl w).alloc _⟩
  · go_enter Tryz.func100, Tryz.ntmps100
    obtain ⟨ms, RM, VM⟩ := mag_fin w 66 x (by omega) (by omega)
    have HV := Lib.hid VM
    clear VM
    go_wp2
    go_ret
    exact ⟨_, ms, rfl, RM, by rw [HV.out], (On.refl w).alloc _⟩
set_option maxHeartbeats 800000 in
theorem rmake_zero (w : World) (x : Int) (h0 : -9223372036854775808 ≤ x) (h1 : x ≤ 9223372036854775807) :
    Calls Tryz.prog 72 #[.int .i64 x, .int .i64 0] w fun e w' => e = .returned (.tuple #[.agg #[.bool false, .slice none 0 0, .slice none 0 0], .int .i64 8]) ∧ On w w' := by
  have B := (On.refl w).alloc (.cells #[.bool false, .slice none 0 0, .slice none 0 0] 24)
  have O2 := Own.new w 24 #[.bool false, .slice none 0 0, .slice none 0 0]
  have HO2 := Lib.hid O2
  clear O2
  go_enter Tryz.func72, Tryz.ntmps72
  go_wp2_with fail
  refine (rsize_any _ _ h0 h1).mono ?_
  rintro e w2 ⟨A2, xs, rfl, R2, V2, P2⟩
  clear V2
  go_wp2_with fail
  refine (rsize_any _ _ (by decide) (by decide)).mono ?_
  rintro e w3 ⟨A3, ys, rfl, R3, V3, P3⟩
  have HV3 : Hid (val ys = 0) := Lib.hid V3
  clear V3
  go_wp2_with fail
  refine (rfrom_zero _ _ _ _ _ _ _ _ _ _ (R2.on P3) R3 HV3.out (by decide)).mono ?_
  rintro e w4 ⟨rfl, P4⟩
  have O2 := ((HO2.out.on P2).on P3).on P4
  have r0 : w4.cell? ⟨w.heap.size, 0, none⟩ = some (.bool false) := O2.cell 0
  have rf0 := O2.frozen 0
  have r1 : w4.cell? ⟨w.heap.size, 1, none⟩ = some (.slice none 0 0) := O2.cell 1
  have rf1 := O2.frozen 1
  have r2 : w4.cell? ⟨w.heap.size, 2, none⟩ = some (.slice none 0 0) := O2.cell 2
  have rf2 := O2.frozen 2
  clear R2 R3
  go_wp2
  have hon := on3 (g := w.heap.size) (((B.trans P2).trans P3).trans P4) (by omega) (.bool false) (.slice none 0 0) (.slice none 0 0)
  exact bodyPost_ret (v := .tuple #[.agg #[.bool false, .slice none 0 0, .slice none 0 0], .int .i64 8]) (by simp [results, Tryz.results72, go_sem, r0, r1, r2]) rfl ⟨rfl, hon⟩
set_option maxHeartbeats 800000 in
theorem rmake_any (w : World) (x y : Int) (h0 : -9223372036854775808 ≤ x) (h1 : x ≤ 9223372036854775807) (k0 : -9223372036854775808 ≤ y) (k1 : y ≤ 9223372036854775807) (hy : y ≠ 0) :
    Calls Tryz.prog 72 #[.int .i64 x, .int .i64 y] w (RatPost2 w (fr (decide (x < 0) != decide (y < 0)) x.natAbs y.natAbs) 2 (.int .i64 0)) := by
  have B := (On.refl w).alloc (.cells #[.bool false, .slice none 0 0, .slice none 0 0] 24)
  have O2 := Own.new w 24 #[.bool false, .slice none 0 0, .slice none 0 0]
  have HO2 := Lib.hid O2
  have HY := Lib.hid hy
  obtain ⟨q, hq⟩ : ∃ q, fr (decide (x < 0) != decide (y < 0)) x.natAbs y.natAbs = q := ⟨_, rfl⟩
  rw [hq]
  have HQ := Lib.hid hq
  clear O2 hy hq
  go_enter Tryz.func72, Tryz.ntmps72
  go_wp2_with fail
  refine (rsize_any _ _ h0 h1).mono ?_
  rintro e w2 ⟨A2, xs, rfl, R2, V2, P2⟩
  have HV2 := Lib.hid V2
  clear V2
  go_wp2_with fail
  refine (rsize_any _ _ k0 k1).mono ?_
  rintro e w3 ⟨A3, ys, rfl, R3, V3, P3⟩
  have HV3 := Lib.hid V3
  clear V3
  go_wp2_with fail
  have hy0 : 0 < val ys := by rw [HV3.out]; have := HY.out; omega
  refine (rfrom_any _ _ _ _ _ _ _ _ 2 _ _ (R2.on P3) R3 hy0 (by decide) (by decide) (by decide) (by decide)).mono ?_
  rintro e w4 ⟨v, rfl, I, P4⟩
  rw [HV2.out, HV3.out, not_beq, HQ.out] at I
  have I2 := I
  obtain ⟨A1, n1, c1, xs1, A4, n4, c4, ys1, rfl, _⟩ := I2
  have O2 := ((HO2.out.on P2).on P3).on P4
  have r0 : w4.cell? ⟨w.heap.size, 0, none⟩ = some (.bool false) := O2.cell 0
  have rf0 := O2.frozen 0
  have r1 : w4.cell? ⟨w.heap.size, 1, none⟩ = some (.slice none 0 0) := O2.cell 1
  have rf1 := O2.frozen 1
  have r2 : w4.cell? ⟨w.heap.size, 2, none⟩ = some (.slice none 0 0) := O2.cell 2
  have rf2 := O2.frozen 2
  clear R2 R3
  go_wp2
  have hon := on3 (g := w.heap.size) (((B.trans P2).trans P3).trans P4) (by omega) (.bool (decide (q < 0))) (.slice A1 n1 c1) (.slice A4 n4 c4)
  exact bodyPost_ret (v := .tuple #[.agg #[.bool (decide (q < 0)), .slice A1 n1 c1, .slice A4 n4 c4], .int .i64 0]) (by simp [results, Tryz.results72, go_sem, r0, r1, r2]) rfl ⟨_, rfl, isR_put I O2 _ _ _, hon⟩
set_option maxHeartbeats 800000 in
theorem rofr_any (w : World) (x : Int) (h0 : -9223372036854775808 ≤ x) (h1 : x ≤ 9223372036854775807) :
    Calls Tryz.prog 44 #[.int .i64 x] w (RatPost w (x : Rat) 2) := by
  have B := (On.refl w).alloc (.cells #[.bool false, .slice none 0 0, .slice none 0 0] 24)
  have HO2 := Lib.hid (Own.new w 24 #[.bool false, .slice none 0 0, .slice none 0 0])
  obtain ⟨q, hq⟩ : ∃ q, (x : Rat) = q := ⟨_, rfl⟩
  rw [hq]
  have HQ : Hid (fr (decide (x < 0) != decide ((1 : Int) < 0)) x.natAbs (1 : Int).natAbs = q) := Lib.hid (by rw [← hq, ← fr_int x]; simp)
  clear hq
  go_enter Tryz.func44, Tryz.ntmps44
  go_wp2_with fail
  refine (rmake_any _ x 1 h0 h1 (by decide) (by decide) (by decide)).mono ?_
  rintro e w4 ⟨v, rfl, I, P4⟩
  rw [HQ.out] at I
  obtain ⟨A1, n1, c1, xs1, A4, n4, c4, ys1, rfl, _⟩ := id I
  have BB4 := (On.refl w4).alloc (.cells #[.bool (decide (q < 0)), .slice A1 n1 c1, .slice A4 n4 c4] 24)
  have O2 := (HO2.out.on P4).on BB4
  have r0 : (w4.alloc (.cells #[.bool (decide (q < 0)), .slice A1 n1 c1, .slice A4 n4 c4] 24)).cell? ⟨w.heap.size, 0, none⟩ = some (.bool false) := O2.cell 0
  have rf0 := O2.frozen 0
  have r1 : (w4.alloc (.cells #[.bool (decide (q < 0)), .slice A1 n1 c1, .slice A4 n4 c4] 24)).cell? ⟨w.heap.size, 1, none⟩ = some (.slice none 0 0) := O2.cell 1
  have rf1 := O2.frozen 1
  have r2 : (w4.alloc (.cells #[.bool (decide (q < 0)), .slice A1 n1 c1, .slice A4 n4 c4] 24)).cell? ⟨w.heap.size, 2, none⟩ = some (.slice none 0 0) := O2.cell 2
  have rf2 := O2.frozen 2
  go_wp2
  have hon := on3 (g := w.heap.size) ((B.trans P4).trans BB4) (by omega) (.bool (decide (q < 0))) (.slice A1 n1 c1) (.slice A4 n4 c4)
  exact bodyPost_ret (v := .agg #[.bool (decide (q < 0)), .slice A1 n1 c1, .slice A4 n4 c4]) (by simp [results, Tryz.results44, go_sem, r0, r1, r2]) rfl ⟨_, rfl, isR_put (I.on BB4) O2 _ _ _, hon⟩
/-- a block of fractions: the lengths of their lists -/
def RLens (w : World) (g : Nat) (ls : List (Nat × Nat)) : Prop := g < w.heap.size ∧ ∀ i p, ls[i]? = some p → ∃ s A c A' c', w.cell? ⟨g, i * 3, none⟩ = some (.bool s) ∧ w.cell? ⟨g, i * 3 + 1, none⟩ = some (.slice A p.1 c) ∧ w.cell? ⟨g, i * 3 + 2, none⟩ = some (.slice A' p.2 c') ∧ c ≤ 9223372036854775807 ∧ p.1 ≤ c ∧ c' ≤ 9223372036854775807 ∧ p.2 ≤ c'
theorem RLens.on {w w' : World} {g : Nat} {ls : List (Nat × Nat)} (h : RLens w g ls) (k : On w w') : RLens w' g ls := by
  refine ⟨Nat.lt_of_lt_of_le h.1 k.size, fun i p hp => ?_⟩
  obtain ⟨s, A, c, A', c', h1, h2, h3, h4⟩ := h.2 i p hp
  exact ⟨s, A, c, A', c', by rw [Below.cell k (p := ⟨g, i * 3, none⟩) h.1]; exact h1, by rw [Below.cell k (p := ⟨g, i * 3 + 1, none⟩) h.1]; exact h2, by rw [Below.cell k (p := ⟨g, i * 3 + 2, none⟩) h.1]; exact h3, h4⟩
theorem rlens_one (w : World) (g : Nat) (s : Bool) (A A' : Option Addr) (n c n' c' : Nat) (xs ys : List Nat) (h : Rd w A n c xs) (k : Rd w A' n' c' ys) (hg : g < w.heap.size) (h0 : w.cell? ⟨g, 0, none⟩ = some (.bool s)) (h1 : w.cell? ⟨g, 1, none⟩ = some (.slice A n c)) (h2 : w.cell? ⟨g, 2, none⟩ = some (.slice A' n' c')) : RLens w g [(n, n')] := by
  refine ⟨hg, fun i p hp => ?_⟩
  rcases i with _ | i
  · simp at hp; subst hp
    exact ⟨s, A, c, A', c', h0, h1, h2, h.max, h.cap, k.max, k.cap⟩
  · simp at hp
end
section
/-- the sign of a fraction -/
def rsg (r : Rat) : Int := if r = 0 then 0 else if r < 0 then -1 else 1
set_option maxHeartbeats 800000 in
theorem sign_any (w : World) (v : Value) (r : Rat) (L : Nat) (h : IsR w v r L) :
    Calls Tryz.prog 101 #[v] w fun e w' => e = .returned (.int .i64 (rsg r)) ∧ On w w' := by
  have hv := h
  obtain ⟨A, n, c, xs, A', n', c', ys, rfl, _⟩ := id h
  have B := (On.refl w).alloc (.cells #[.bool (decide (r < 0)), .slice A n c, .slice A' n' c'] 24)
  have HO := Lib.hid (Own.new w 24 #[.bool (decide (r < 0)), .slice A n c, .slice A' n' c'])
  obtain ⟨b, hb⟩ : ∃ b, decide (r < 0) = b := ⟨_, rfl⟩
  obtain ⟨z, hz⟩ : ∃ z, decide (r = 0) = z := ⟨_, rfl⟩
  have HS : Hid (rsg r = if z then 0 else if b then -1 else 1) := Lib.hid (by subst hb hz; unfold rsg; by_cases h0 : r = 0 <;> by_cases h1 : r < 0 <;> simp [h0, h1])
  have HZ := Lib.hid hz
  rw [hb] at hv B HO ⊢
  clear hb hz h
  cases z <;> cases b
  all_goals
    go_enter Tryz.func101, Tryz.ntmps101
    go_wp2_with fail
    refine (iszero_any _ _ _ _ (hv.on B)).mono ?_
    rintro e w2 ⟨rfl, P2⟩
    rw [HZ.out]
    have a0 := (HO.out.on P2).cell 0
    go_wp2
    go_ret
    exact ⟨by rw [HS.out]; rfl, B.trans P2⟩
theorem neg_zero_iff (r : Rat) : -r = 0 ↔ r = 0 := by
  constructor
  · intro h
    have h1 := congrArg (fun x : Rat => x.num) h
    have h2 : (-r).num = -r.num := Rat.neg_num r
    simp only [h2] at h1
    exact Rat.num_eq_zero.1 (by have : (0 : Rat).num = 0 := rfl; rw [this] at h1; omega)
  · rintro rfl; rfl
theorem dn_neg (r : Rat) : dn (-r) = dn r := by
  by_cases h : r = 0
  · subst h; rfl
  · rw [dn_ne h, dn_ne (fun e => h ((neg_zero_iff r).1 e)), Rat.neg_den]
theorem neg_flag (r : Rat) : decide (-r < 0) = (!decide (r < 0) && !decide (r = 0)) := by
  have h1 : (-r < 0) ↔ 0 < r.num := by rw [rat_neg_iff, Rat.neg_num]; omega
  have h2 : r = 0 ↔ r.num = 0 := Rat.num_eq_zero.symm
  rw [Bool.eq_iff_iff]
  simp only [decide_eq_true_iff, Bool.and_eq_true, Bool.not_eq_true', decide_eq_false_iff_not, h1, h2, rat_neg_iff]
  omega
set_option maxHeartbeats 1600000 in
theorem negative_any (w : World) (v : Value) (r : Rat) (L : Nat) (h : IsR w v r L) :
    Calls Tryz.prog 88 #[v] w (RatPost w (-r) L) := by
  obtain ⟨A, n, c, xs, A', n', c', ys, rfl, R, R', C, C', h1, h2, h3, h4⟩ := id h
  have hv := h
  have B := ((On.refl w).alloc (.cells #[.bool (decide (r < 0)), .slice A n c, .slice A' n' c'] 24)).alloc (.cells #[.bool false, .slice none 0 0, .slice none 0 0] 24)
  have HN : Hid (∀ W, On w W → IsR W (.agg #[.bool (decide (-r < 0)), .slice A n c, .slice A' n' c']) (-r) L) := Lib.hid (fun W hW => ⟨A, n, c, xs, A', n', c', ys, rfl, R.on hW, R'.on hW, C, C', h1, h2, by rw [h3, Rat.neg_num, Int.natAbs_neg], by rw [h4, dn_neg]⟩)
  have HO1 := Lib.hid ((Own.new w 24 #[.bool (decide (r < 0)), .slice A n c, .slice A' n' c']).on ((On.refl _).alloc (.cells #[.bool false, .slice none 0 0, .slice none 0 0] 24)))
  have HO2 := Lib.hid (own_nextr w (.cells #[.bool (decide (r < 0)), .slice A n c, .slice A' n' c'] 24) 24 #[.bool false, .slice none 0 0, .slice none 0 0])
  rw [neg_flag] at HN
  obtain ⟨b, hb⟩ : ∃ b, decide (r < 0) = b := ⟨_, rfl⟩
  obtain ⟨z, hz⟩ : ∃ z, decide (r = 0) = z := ⟨_, rfl⟩
  have HZ := Lib.hid hz
  rw [hb, hz] at HN
  rw [hb] at hv B HO1 HO2 ⊢
  clear hb hz h h1 h2 h3 h4 C C' R R'
  cases b
  case true =>
    have HN2 : Hid (∀ W, On w W → IsR W (.agg #[.bool false, .slice A n c, .slice A' n' c']) (-r) L) := HN
    clear HN
    have O1 := HO1.out
    have O2 := HO2.out
    have a0 := O1.cell 0
    have f0 := O1.frozen 0
    have r0 := O2.cell 0
    have r1 := O2.cell 1
    have r2 := O2.cell 2
    go_enter Tryz.func88, Tryz.ntmps88
    go_wp2
    exact bodyPost_ret (v := .agg #[.bool false, .slice A n c, .slice A' n' c']) (by simp [results, Tryz.results88, go_sem]) rfl ⟨_, rfl, HN2.out _ (((On.refl w).alloc _).alloc _), ((On.refl w).alloc _).alloc _⟩
  cases z
  all_goals
    go_enter Tryz.func88, Tryz.ntmps88
    go_wp2_with fail
    refine (iszero_any _ _ _ _ (hv.on B)).mono ?_
    rintro e w2 ⟨rfl, P2⟩
    rw [HZ.out]
    have O1 := HO1.out.on P2
    have O2 := HO2.out.on P2
    have a0 := O1.cell 0
    have f0 := O1.frozen 0
    have a1 := O1.cell 1
    have a2 := O1.cell 2
    have r0 : w2.cell? ⟨w.heap.size + 1, 0, none⟩ = some (.bool false) := O2.cell 0
    have rf0 := O2.frozen 0
    have r1 : w2.cell? ⟨w.heap.size + 1, 1, none⟩ = some (.slice none 0 0) := O2.cell 1
    have rf1 := O2.frozen 1
    have r2 : w2.cell? ⟨w.heap.size + 1, 2, none⟩ = some (.slice none 0 0) := O2.cell 2
    have rf2 := O2.frozen 2
    go_wp2
  · have hon := on3 (g := w.heap.size + 1) ((B.trans P2).setCell (p := ⟨w.heap.size, 0, none⟩) (Nat.le_refl _) (.bool true)) (by omega) (.bool true) (.slice A n c) (.slice A' n' c')
    exact bodyPost_ret (v := .agg #[.bool true, .slice A n c, .slice A' n' c']) (by simp [results, Tryz.results88, go_sem, r0, r1, r2]) rfl ⟨_, rfl, HN.out _ hon, hon⟩
  · have hon := on3 (g := w.heap.size + 1) ((B.trans P2).setCell (p := ⟨w.heap.size, 0, none⟩) (Nat.le_refl _) (.bool false)) (by omega) (.bool false) (.slice A n c) (.slice A' n' c')
    exact bodyPost_ret (v := .agg #[.bool false, .slice A n c, .slice A' n' c']) (by simp [results, Tryz.results88, go_sem, r0, r1, r2]) rfl ⟨_, rfl, HN.out _ hon, hon⟩
end
end Num
end Go.Proofs.YtkchpagjkgmpmaaGreat
