/-
  What the statements about hitting sets share: the document's examples, the lists that they look at, the cost of a set.
-/
import Derived.Test.YtakkbemldccekaaDoorHsc
import Derived.Test.YtakkbemldccekaaDoorHsb
import Derived.Test.YtakkbemldccekaaDoorHp
namespace Go.Proofs.YtakkbemldccekaaDoor.Sb
open Go.RowKit
set_option linter.unusedVariables false
set_option maxRecDepth 100000
theorem ex_all : allR (ints [3, 6]) = ([2, 5], 0) := by decide +kernel
theorem ex_pack : packR (ints [3, 6, 12]) = ([3, 12], 0) := by decide +kernel
theorem nats36 : natsOf (ints [3, 6]) = [3, 6] := by decide
theorem w5 : sumR (wt (cof [1, 5, 2])) 5 24 = 1644167173 := by decide +kernel
theorem ex_bst : Bst [3, 6] (cof [1, 5, 2]) 5 := by
  refine ⟨by decide, by decide, fun K hK hm => ?_⟩
  rw [w5]
  have h1 := (meets_iff _ K).1 hm 3 (by simp)
  have h2 := (meets_iff _ K).1 hm 6 (by simp)
  obtain ⟨i, hi, hb1, hb2⟩ := (and_some K 3 (by decide)).1 h1
  obtain ⟨j, hj, hb3, hb4⟩ := (and_some K 6 (by decide)).1 h2
  have one : K.testBit 1 = true → 1644167173 ≤ sumR (wt (cof [1, 5, 2])) K 24 := fun hb => by
    have := sumR_mono (f := wt (cof [1, 5, 2])) (g := wt (cof [1, 5, 2])) (a := 2 ^ 1) (b := K) 24 (fun k _ hk => ⟨by rw [tb_two] at hk; have e : 1 = k := of_decide_eq_true hk; subst e; exact hb, Nat.le_refl _⟩)
    rw [sumR_two, if_pos (by decide)] at this
    have e : wt (cof [1, 5, 2]) 1 = 2701131778 := by decide +kernel
    omega
  have hi2 : i = 0 ∨ i = 1 := by
    have : ∀ i, i < 24 → (3 : Nat).testBit i = true → i = 0 ∨ i = 1 := by decide
    exact this i hi hb2
  have hj2 : j = 1 ∨ j = 2 := by
    have : ∀ i, i < 24 → (6 : Nat).testBit i = true → i = 1 ∨ i = 2 := by decide
    exact this j hj hb4
  rcases hi2 with rfl | rfl
  · rcases hj2 with rfl | rfl
    · exact one hb3
    · have := sumR_mono (f := wt (cof [1, 5, 2])) (g := wt (cof [1, 5, 2])) (a := 5) (b := K) 24 (fun k hk24 hk => ⟨by
        have h5 : ∀ i, i < 24 → (5 : Nat).testBit i = true → i = 0 ∨ i = 2 := by decide
        rcases h5 k hk24 hk with rfl | rfl
        · exact hb1
        · exact hb3, Nat.le_refl _⟩)
      rw [w5] at this
      exact this
  · exact one hb1
theorem ex_ch : Ch (ints [3, 6]) [1, 5, 2] 5 3 0 := by
  refine .inr (.inr (.inr ⟨by decide, by decide +kernel, by decide, .inr (.inr ⟨by decide, by decide, by rw [nats36]; exact ex_bst, rfl⟩), by decide +kernel⟩))
set_option maxHeartbeats 8000000 in
theorem hawake_any (w : World) (hT : Tab w) :
    Calls Tryd.prog 10 #[] w fun e w' => e = .returned (.bool true) ∧ On w w' := by
  have R1 := rd_lit w 3 #[.int .i64 3, .int .i64 6] (VI (ints [3, 6])) 2 rfl rfl (by omega)
  have hA := All_all _ _ _ _ _ R1
  rw [ex_all] at hA
  have P1 := (On.refl w).alloc (.cells #[.int .i64 3, .int .i64 6] 3)
  go_enter Tryd.func10, Tryd.ntmps10
  go_wp2_with fail
  refine hA.mono ?_
  rintro e w1 ⟨A1, n1, c1, rfl, Ra, P2⟩
  have R2 := (rd_lit w1 3 #[.int .i64 3, .int .i64 6] (VI (ints [3, 6])) 2 rfl rfl (by omega)).alloc (.cells #[.int .i64 1, .int .i64 5, .int .i64 2] 3)
  have R3 := rd_lit (w1.alloc (.cells #[.int .i64 3, .int .i64 6] 3)) 3 #[.int .i64 1, .int .i64 5, .int .i64 2] (VI [1, 5, 2]) 3 rfl rfl (by omega)
  have e3 : (w1.alloc (.cells #[.int .i64 3, .int .i64 6] 3)).heap.size = w1.heap.size + 1 := by simp
  rw [e3] at R3
  have P3 := ((On.refl w1).alloc (.cells #[.int .i64 3, .int .i64 6] 3)).alloc (.cells #[.int .i64 1, .int .i64 5, .int .i64 2] 3)
  have hC := Cheapest_all _ _ _ _ _ R2 _ _ _ _ R3 (hT.on ((P1.trans P2).trans P3))
  clear hA R1 R2 R3 e3
  rw [errV_zero]
  go_wp2_with fail
  refine hC.mono ?_
  rintro e w2 ⟨s, t, er, hch, rfl, P4⟩
  obtain ⟨rfl, rfl, rfl⟩ := hch.uniq ex_ch
  have R4 := rd_lit w2 3 #[.int .i64 3, .int .i64 6, .int .i64 12] (VI (ints [3, 6, 12])) 3 rfl rfl (by omega)
  have hP := Packing_all _ _ _ _ _ R4
  rw [ex_pack] at hP
  have P5 := (On.refl w2).alloc (.cells #[.int .i64 3, .int .i64 6, .int .i64 12] 3)
  clear hC R4 hch
  rw [errV_zero]
  go_wp2_with fail
  refine hP.mono ?_
  rintro e w3 ⟨A3, n3, c3, rfl, Rc, P6⟩
  have P36 : On w w3 := ((((P1.trans P2).trans P3).trans P4).trans P5).trans P6
  have Ra3 := Ra.on (((P3.trans P4).trans P5).trans P6)
  clear hP Ra P1 P2 P3 P4 P5 P6 hT
  have I1 := ints_any _ _ _ _ _ _ _ _ _ (Ra3.alloc (.cells #[.int .i64 2, .int .i64 5] 3)) (rd_lit w3 3 #[.int .i64 2, .int .i64 5] (VI (ints [2, 5])) 2 rfl rfl (by omega))
  rw [decide_eq_true rfl] at I1
  rw [errV_zero]
  go_wp2_with fail
  refine I1.mono ?_
  rintro e w4 ⟨rfl, P7⟩
  have P8 := ((On.refl w3).alloc _).trans P7
  have Rc4 := Rc.on P8
  have I2 := ints_any _ _ _ _ _ _ _ _ _ (Rc4.alloc (.cells #[.int .i64 3, .int .i64 12] 3)) (rd_lit w4 3 #[.int .i64 3, .int .i64 12] (VI (ints [3, 12])) 2 rfl rfl (by omega))
  rw [decide_eq_true rfl] at I2
  clear I1
  go_wp2_with fail
  refine I2.mono ?_
  rintro e w5 ⟨rfl, P9⟩
  clear I2
  have P10 := ((On.refl w4).alloc _).trans P9
  go_wp2
  go_ret
  exact ⟨rfl, (P36.trans P8).trans P10⟩
def fewH (l : List Int) : Bool := decide (l.length ≤ 10) || (decide (1024 < l.length) && decide (l.length < 1200))
set_option maxHeartbeats 2000000 in
theorem hfew_any (w : World) (A : Option Addr) (n c : Nat) (l : List Int) (h : Rd w A n c (VI l)) :
    Calls Tryd.prog 9 #[.slice A n c] w fun e w' => e = .returned (.bool (fewH l)) ∧ w = w' := by
  have hn : l.length = n := by have := h.len; rw [VI_length] at this; exact this
  have hcap := h.cap
  have hmax := h.max
  unfold fewH
  rw [hn]
  clear h hn
  by_cases h1 : n ≤ 10
  · have d1 : decide ((n : Int) ≤ 10) = true := decide_eq_true (by omega)
    rw [decide_eq_true h1, Bool.true_or]
    go_enter Tryd.func9, Tryd.ntmps9
    go_wp2
    go_ret
    exact ⟨rfl, rfl⟩
  · have d1 : decide ((n : Int) ≤ 10) = false := decide_eq_false (by omega)
    rw [decide_eq_false h1, Bool.false_or]
    by_cases h2 : 1024 < n
    · have d2 : decide ((1024 : Int) < (n : Int)) = true := decide_eq_true (by omega)
      rw [decide_eq_true h2, Bool.true_and]
      have d3 : decide ((n : Int) < 1200) = decide (n < 1200) := decide_eq_decide.2 (by omega)
      go_enter Tryd.func9, Tryd.ntmps9
      go_wp2
      go_ret
      exact ⟨by first | rfl | exact ret_b d3, rfl⟩
    · have d2 : decide ((1024 : Int) < (n : Int)) = false := decide_eq_false (by omega)
      rw [decide_eq_false h2, Bool.false_and]
      go_enter Tryd.func9, Tryd.ntmps9
      go_wp2
      go_ret
      exact ⟨rfl, rfl⟩
def validH (l : List Int) : Bool := decide (l.length ≤ 10) && decide (lerr l = 0)
set_option maxHeartbeats 2000000 in
theorem hvalid_any (w : World) (A : Option Addr) (n c : Nat) (l : List Int) (h : Rd w A n c (VI l)) :
    Calls Tryd.prog 25 #[.slice A n c] w fun e w' => e = .returned (.bool (validH l)) ∧ w = w' := by
  have hn : l.length = n := by have := h.len; rw [VI_length] at this; exact this
  have hcap := h.cap
  have hmax := h.max
  have hE := Error_any w A n c l h
  unfold validH
  rw [hn]
  generalize lerr l = E at hE ⊢
  clear h hn
  by_cases h1 : n ≤ 10
  · have d1 : decide ((n : Int) ≤ 10) = true := decide_eq_true (by omega)
    rw [decide_eq_true h1, Bool.true_and]
    have d2 : ((E : Int) == 0) = decide (E = 0) := by rw [Bool.eq_iff_iff]; simp
    go_enter Tryd.func25, Tryd.ntmps25
    go_wp2_with fail
    refine hE.mono ?_
    rintro e w' ⟨rfl, rfl⟩
    go_wp2
    go_ret
    exact ⟨by first | rfl | exact ret_b d2, rfl⟩
  · have d1 : decide ((n : Int) ≤ 10) = false := decide_eq_false (by omega)
    rw [decide_eq_false h1, Bool.false_and]
    go_enter Tryd.func25, Tryd.ntmps25
    go_wp2
    go_ret
    exact ⟨rfl, rfl⟩
theorem sumR_small {f : Nat → Nat} (hf : ∀ i, f i ≤ 1048576) (s j : Nat) (hj : j ≤ 24) : sumR f s j ≤ 25165824 := by
  have := sumR_le f s 1048576 hf j
  have : j * 1048576 ≤ 24 * 1048576 := Nat.mul_le_mul_right _ hj
  omega
set_option maxHeartbeats 4000000 in
theorem htotal_any (w : World) (s : Nat) (hs : s < 16777216) (B : Option Addr) (m d : Nat) (cost : List Int) (h2 : Rd w B m d (VI cost)) (hc : okC cost = true) (hm24 : 24 ≤ m) :
    Calls Tryd.prog 33 #[.int .i64 (s : Int), .slice B m d] w fun e w' => e = .returned (.int .i64 ((sumR (cof cost) s 24 : Nat) : Int)) ∧ w = w' := by
  have hm : cost.length = m := by have := h2.len; rw [VI_length] at this; exact this
  have hcap := h2.cap
  have hmax := h2.max
  have hH := fun W i hi => has_in W (s : Int) i hi
  rw [cut_nat s hs] at hH
  have HM := Lib.hid hm
  have HR := Lib.hid h2
  have HAT := Lib.hid (okC_at hc)
  have HSM := Lib.hid (fun j hj => sumR_small (cof_le hc) s j hj)
  clear hm h2 hc
  go_enter Tryd.func33, Tryd.ntmps33
  go_wp2
  go_loop [5, 7] (fun t i => ∃ j : Nat, j ≤ 24 ∧ i = .int .i64 (j : Int) ∧ t = .int .i64 ((sumR (cof cost) s j : Nat) : Int)) (fun _ i => 24 - (intOf i).toNat)
  case atStart => exact ⟨0, by omega, rfl, rfl⟩
  case round =>
    obtain ⟨j, hj, rfl, rfl⟩ := hrel
    by_cases hlt : j < 24
    · have hh := hH w j hlt
      have hstep : sumR (cof cost) s (j + 1) = sumR (cof cost) s j + if s.testBit j then cof cost j else 0 := rfl
      obtain ⟨ad2, e2, _, hc2⟩ := HR.out.at_ j _ (VI_get (by rw [HM.out]; omega))
      cases e2
      have hx := HAT.out j
      have hxx : cost.getD j 0 = ((cof cost j : Nat) : Int) := by unfold cof; omega
      rw [hxx] at hc2
      have hx20 : cof cost j ≤ 1048576 := by omega
      have hs1 := HSM.out j hj
      obtain ⟨x, hxe⟩ : ∃ x, cof cost j = x := ⟨_, rfl⟩
      obtain ⟨tn, htn⟩ : ∃ tn, sumR (cof cost) s j = tn := ⟨_, rfl⟩
      obtain ⟨tb, htb⟩ : ∃ tb, s.testBit j = tb := ⟨_, rfl⟩
      rw [hxe] at hc2 hx20 hstep
      rw [htn] at hs1 hstep ⊢
      rw [htb] at hh hstep
      have HST := Lib.hid hstep
      have ejm : (j : Int) < (m : Int) := by omega
      clear hH hx hxx hxe htn htb hstep
      cases tb with
      | false =>
        go_wp2_with (refine hh.mono ?_; rintro e w' ⟨rfl, rfl⟩)
        exact ⟨⟨j + 1, by omega, by go_num, by rw [HST.out]; rfl⟩, by simp [intOf]; omega⟩
      | true =>
        go_wp2_with (refine hh.mono ?_; rintro e w' ⟨rfl, rfl⟩)
        exact ⟨⟨j + 1, by omega, by go_num, by rw [HST.out]; go_num⟩, by simp [intOf]; omega⟩
    · obtain rfl : j = 24 := by omega
      clear hH
      go_wp2
      go_ret
      exact ⟨rfl, rfl⟩
end Go.Proofs.YtakkbemldccekaaDoor.Sb
