/-
  The program's tables: changes, Monotone, Relevant.
-/
import Derived.Test.YtpllgpjplliadaaTsb
import Derived.Test.YtpllgpjplliadaaTd
namespace Go.Proofs.Ytpllgpjplliadaa.Fm
open Go.RowKit Go.Proofs.Ytpllgpjplliadaa.Sb
set_option linter.unusedVariables false
set_option maxRecDepth 100000
/-- with event b, set s turns the formula from x to the other value -/
def turnB (f : Fn) (x : Bool) (s b : Nat) : Bool := (val f s == x) && (val f (s ||| 2 ^ b) == !x)
def turnTo (f : Fn) (x : Bool) (k b : Nat) : Bool := (List.range k).any fun s => turnB f x s b
theorem turnTo_succ (f : Fn) (x : Bool) (k b : Nat) : turnTo f x (k + 1) b = (turnTo f x k b || turnB f x k b) := by
  unfold turnTo; rw [List.range_succ, List.any_append]; simp
/-- what the loops have found -/
def Bits (f : Fn) (x : Bool) (k t y : Nat) : Prop := ∀ b, y.testBit b = (decide (b < f.vars) && (turnTo f x k b || (decide (b < t) && turnB f x k b)))
theorem Bits.zero (f : Fn) (x : Bool) : Bits f x 0 0 0 := fun b => by simp [turnTo]
theorem Bits.next {f : Fn} {x : Bool} {k y : Nat} (h : Bits f x k f.vars y) : Bits f x (k + 1) 0 y := fun b => by
  rw [h b, turnTo_succ]
  by_cases hb : b < f.vars
  · simp [hb]
  · simp [hb]
theorem Bits.lt {f : Fn} {x : Bool} {k t y m : Nat} (h : Bits f x k t y) (hm : 2 ^ f.vars = m) : y < m := by
  have := rel_lt h
  rwa [hm] at this
theorem Bits.no {f : Fn} {x : Bool} {k t y : Nat} (h : Bits f x k t y) (e : turnB f x k t = false) : Bits f x k (t + 1) y := fun b => by
  rw [h b]
  by_cases hb : b = t
  · subst hb; rw [e]; simp
  · have : decide (b < t + 1) = decide (b < t) := by
      by_cases h2 : b < t
      · rw [decide_eq_true h2, decide_eq_true (by omega)]
      · rw [decide_eq_false h2, decide_eq_false (by omega)]
    rw [this]
theorem Bits.yes {f : Fn} {x : Bool} {k t y : Nat} (h : Bits f x k t y) (ht : t < f.vars) (e : turnB f x k t = true) : Bits f x k (t + 1) (y ||| 2 ^ t) := fun b => by
  rw [Nat.testBit_or, Nat.testBit_two_pow, h b]
  by_cases hb : b = t
  · subst hb; rw [e]; simp [ht]
  · have : decide (b < t + 1) = decide (b < t) := by
      by_cases h2 : b < t
      · rw [decide_eq_true h2, decide_eq_true (by omega)]
      · rw [decide_eq_false h2, decide_eq_false (by omega)]
    rw [this]
    have h3 : ¬ t = b := fun e => hb e.symm
    simp [h3]
theorem turn_rel (f : Fn) (k b : Nat) : (turnTo f false k b || turnTo f true k b) = relTo f k b := by
  induction k with
  | zero => rfl
  | succ k ih =>
    rw [turnTo_succ, turnTo_succ, relTo_succ, ← ih]
    unfold turnB difB
    cases val f k <;> cases val f (k ||| 2 ^ b) <;> cases turnTo f false k b <;> cases turnTo f true k b <;> rfl
theorem Bits.rel {f : Fn} {m y z : Nat} (hm : 2 ^ f.vars = m) (h1 : Bits f false m 0 y) (h2 : Bits f true m 0 z) : y ||| z = relv f := by
  subst hm
  refine rel_end fun b => ?_
  rw [Nat.testBit_or, h1 b, h2 b, ← turn_rel]
  by_cases hb : b < f.vars
  · simp [hb]
  · simp [hb]
theorem turn_mono {f : Fn} {x k b : Nat} (h : turnTo f true k b = true) (hk : k ≤ 2 ^ f.vars) (hb : b < f.vars) : mono f = false := by
  unfold turnTo at h
  rw [List.any_eq_true] at h
  obtain ⟨s, hs, ht⟩ := h
  rw [List.mem_range] at hs
  unfold turnB at ht
  refine mono_false (s := s) (i := b) (by omega) hb ?_
  unfold monS
  cases h1 : val f s <;> cases h2 : val f (s ||| 2 ^ b) <;> simp [h1, h2] at ht ⊢
theorem Bits.mono {f : Fn} {m z : Nat} (hm : 2 ^ f.vars = m) (h : Bits f true m 0 z) : mono f = decide (z = 0) := by
  by_cases hz : z = 0
  · rw [decide_eq_true hz, mono_iff]
    intro s hs i hi
    have h0 := h i
    rw [hz, Nat.zero_testBit, decide_eq_true hi] at h0
    simp at h0
    unfold turnTo at h0
    unfold monS
    have h1 := List.any_eq_false.1 h0 s (by rw [List.mem_range, ← hm]; exact hs)
    unfold turnB at h1
    cases h2 : val f s <;> cases h3 : val f (s ||| 2 ^ i) <;> simp [h2, h3] at h1 ⊢
  · rw [decide_eq_false hz]
    obtain ⟨b, hb⟩ := Nat.exists_testBit_of_ne_zero hz
    have h0 := h b
    rw [hb] at h0
    by_cases hbv : b < f.vars
    · simp [hbv] at h0
      exact turn_mono (x := 0) h0 (by omega) hbv
    · simp [hbv] at h0
set_option maxHeartbeats 8000000 in
theorem changes_bad (w : World) (vars top : Int) (A : Option Addr) (n c : Nat) (xs : List Nd) (h : RdN w A n c xs) (hv : I64 vars) (ht : I64 top) (hbad : chkT vars xs top ≠ 0) :
    Calls Try.prog 34 #[.agg #[.int .i64 vars, .slice A n c, .int .i64 top]] w fun e w' => e = .returned (.tuple #[.int .i64 0, .int .i64 0, errV (chkT vars xs top)]) ∧ On w w' := by
  have P0 := (On.refl w).alloc (.cells #[.int .i64 vars, .slice A n c, .int .i64 top] 24)
  have hT := ttab_bad _ vars top A n c xs (h.on P0) hv ht hbad
  obtain ⟨er, her⟩ : ∃ er, chkT vars xs top = er := ⟨_, rfl⟩
  rw [her] at hT hbad ⊢
  rw [errV_pos er hbad] at hT ⊢
  clear h hv ht her
  go_enter Try.func34, Try.ntmps34
  go_wp2_with fail
  refine hT.mono ?_
  rintro e w1 ⟨B, d, rfl, P1⟩
  clear hT
  go_wp2
  go_ret3
  exact ⟨rfl, P0.trans P1⟩
set_option maxHeartbeats 16000000 in
theorem changes_ok (w : World) (f : Fn) (hf : WF f) (hv12 : f.vars ≤ 12) (A : Option Addr) (n c : Nat) (h : RdN w A n c (rawL f.nodes)) (m : Nat) (hm : 2 ^ f.vars = m) :
    Calls Try.prog 34 #[.agg #[.int .i64 (f.vars : Int), .slice A n c, .int .i64 (f.top : Int)]] w fun e w' => ∃ y z : Nat, e = .returned (.tuple #[.int .i64 (y : Int), .int .i64 (z : Int), .nilIface]) ∧ Bits f false m 0 y ∧ Bits f true m 0 z ∧ On w w' := by
  have hm12 := pow12 hv12
  rw [hm] at hm12
  have P0 := (On.refl w).alloc (.cells #[.int .i64 (f.vars : Int), .slice A n c, .int .i64 (f.top : Int)] 24)
  have hT := ttab_ok _ f hf hv12 A n c (h.on P0) m hm
  have HO := Lib.hid (And.intro P0 hm)
  clear h hf P0 hm
  go_enter Try.func34, Try.ntmps34
  go_wp2_with fail
  refine hT.mono ?_
  rintro e w1 ⟨B, d, rfl, hR, P1⟩
  clear hT
  have hcap := hR.cap
  have hmax := hR.max
  have HR := Lib.hid (And.intro hR (HO.out.1.trans P1))
  clear hR P1
  go_wp2
  go_loopw [20, 2, 3] (fun i a b wr => ∃ k y z : Nat, k ≤ m ∧ i = .int .i64 (k : Int) ∧ a = .int .i64 (y : Int) ∧ b = .int .i64 (z : Int) ∧ Bits f false k 0 y ∧ Bits f true k 0 z ∧ ∃ r, wr = w1.drewN r) (fun i _ _ _ => m - (intOf i).toNat)
  case atStart => exact ⟨0, 0, 0, by omega, rfl, rfl, rfl, Bits.zero f false, Bits.zero f true, 0, rfl⟩
  case round =>
    obtain ⟨k, y, z, hk, rfl, rfl, rfl, hy, hz, r, rfl⟩ := hrel
    have HB := Lib.hid (And.intro hy hz)
    clear hy hz
    by_cases hlt : k < m
    · obtain ⟨ad, rfl, hbb, hc⟩ := VB_at2 HR.out.1 HO.out.2 hlt
      obtain ⟨b, hb⟩ : ∃ b, val f k = b := ⟨_, rfl⟩
      rw [hb] at hc
      have HV := Lib.hid hb
      clear hb hbb
      go_wp2
      clear hc
      go_loopw [8, 2, 3] (fun i a b wr => ∃ t y z : Nat, t ≤ f.vars ∧ i = .int .i64 ((2 ^ t : Nat) : Int) ∧ a = .int .i64 (y : Int) ∧ b = .int .i64 (z : Int) ∧ Bits f false k t y ∧ Bits f true k t z ∧ ∃ r, wr = w1.drewN r) (fun i _ _ _ => m - (intOf i).toNat)
      case atStart => exact ⟨0, y, z, by omega, rfl, rfl, rfl, HB.out.1, HB.out.2, r, rfl⟩
      case round =>
        obtain ⟨t, y, z, ht, rfl, rfl, rfl, hy, hz, r, rfl⟩ := hrel
        have hy2 := hy.lt HO.out.2
        have hz2 := hz.lt HO.out.2
        by_cases ht2 : t < f.vars
        · obtain ⟨h1, h2, h3⟩ := or_run hlt HO.out.2 ht2 hm12
          obtain ⟨y1, _, y3⟩ := or_run hy2 HO.out.2 ht2 hm12
          obtain ⟨z1, _, z3⟩ := or_run hz2 HO.out.2 ht2 hm12
          have e2 : 2 ^ (t + 1) = 2 ^ t * 2 := Nat.pow_succ _ _
          obtain ⟨ad2, had2, _, hc2⟩ := VB_at2 HR.out.1 HO.out.2 h1
          injection had2 with had2
          subst had2
          obtain ⟨b2, hb2⟩ : ∃ b2, val f (k ||| 2 ^ t) = b2 := ⟨_, rfl⟩
          rw [hb2] at hc2
          have HT := Lib.hid (show ∀ x, turnB f x k t = ((b == x) && (b2 == !x)) from fun x => by unfold turnB; rw [HV.out, hb2])
          have HST := Lib.hid (And.intro hy (And.intro hz (And.intro (hy.yes ht2) (hz.yes ht2))))
          have hp0 : 0 < 2 ^ t := Nat.two_pow_pos _
          obtain ⟨x2, hx⟩ : ∃ x2, k ||| 2 ^ t = x2 := ⟨_, rfl⟩
          obtain ⟨yy, hyy⟩ : ∃ yy, y ||| 2 ^ t = yy := ⟨_, rfl⟩
          obtain ⟨zz, hzz⟩ : ∃ zz, z ||| 2 ^ t = zz := ⟨_, rfl⟩
          rw [hyy] at HST y1 y3
          rw [hzz] at HST z1 z3
          rw [hx] at h1 hc2 h3
          have HE2 := Lib.hid e2
          obtain ⟨p, hp⟩ : ∃ p, 2 ^ t = p := ⟨_, rfl⟩
          rw [hp] at h2 h3 y3 z3 hp0 HE2
          rw [hp]
          clear hx hp hb2 hy hz hyy hzz e2
          cases b with
          | false =>
            cases b2 with
            | false =>
              go_wp2
              go_roundw
              case rel => exact ⟨t + 1, y, z, by omega, by rw [HE2.out, Int.natCast_mul]; rfl, rfl, rfl, HST.out.1.no (by rw [HT.out]; rfl), HST.out.2.1.no (by rw [HT.out]; rfl), _, rfl⟩
              case measure => simp [intOf] <;> omega
            | true =>
              go_wp2
              go_roundw
              case rel => exact ⟨t + 1, yy, z, by omega, by rw [HE2.out, Int.natCast_mul]; rfl, by go_num, rfl, HST.out.2.2.1 (by rw [HT.out]; rfl), HST.out.2.1.no (by rw [HT.out]; rfl), _, rfl⟩
              case measure => simp [intOf] <;> omega
          | true =>
            cases b2 with
            | false =>
              go_wp2
              go_roundw
              case rel => exact ⟨t + 1, y, zz, by omega, by rw [HE2.out, Int.natCast_mul]; rfl, rfl, by go_num, HST.out.1.no (by rw [HT.out]; rfl), HST.out.2.2.2 (by rw [HT.out]; rfl), _, rfl⟩
              case measure => simp [intOf] <;> omega
            | true =>
              go_wp2
              go_roundw
              case rel => exact ⟨t + 1, y, z, by omega, by rw [HE2.out, Int.natCast_mul]; rfl, rfl, rfl, HST.out.1.no (by rw [HT.out]; rfl), HST.out.2.1.no (by rw [HT.out]; rfl), _, rfl⟩
              case measure => simp [intOf] <;> omega
        · have htv : t = f.vars := by omega
          subst htv
          rw [HO.out.2]
          go_wp2
          go_roundw
          case rel => exact ⟨k + 1, y, z, by omega, by go_num, rfl, rfl, hy.next, hz.next, _, rfl⟩
          case measure => simp [intOf] <;> omega
    · obtain rfl : k = m := by omega
      go_wp2
      go_ret3
      exact ⟨y, z, rfl, HB.out.1, HB.out.2, HR.out.2.drewN _⟩
set_option maxHeartbeats 8000000 in
theorem tmon_bad (w : World) (vars top : Int) (A : Option Addr) (n c : Nat) (xs : List Nd) (h : RdN w A n c xs) (hv : I64 vars) (ht : I64 top) (hbad : chkT vars xs top ≠ 0) :
    Calls Try.prog 14 #[.agg #[.int .i64 vars, .slice A n c, .int .i64 top]] w fun e w' => e = .returned (.tuple #[.bool false, errV (chkT vars xs top)]) ∧ On w w' := by
  have P0 := (On.refl w).alloc (.cells #[.int .i64 vars, .slice A n c, .int .i64 top] 24)
  have hT := changes_bad _ vars top A n c xs (h.on P0) hv ht hbad
  obtain ⟨er, her⟩ : ∃ er, chkT vars xs top = er := ⟨_, rfl⟩
  rw [her] at hT hbad ⊢
  rw [errV_pos er hbad] at hT ⊢
  clear h hv ht her
  go_enter Try.func14, Try.ntmps14
  go_wp2_with fail
  refine hT.mono ?_
  rintro e w1 ⟨rfl, P1⟩
  clear hT
  go_wp2
  go_ret2
  exact ⟨rfl, P0.trans P1⟩
set_option maxHeartbeats 8000000 in
theorem tmon_ok (w : World) (f : Fn) (hf : WF f) (hv12 : f.vars ≤ 12) (A : Option Addr) (n c : Nat) (h : RdN w A n c (rawL f.nodes)) :
    Calls Try.prog 14 #[.agg #[.int .i64 (f.vars : Int), .slice A n c, .int .i64 (f.top : Int)]] w fun e w' => e = .returned (.tuple #[.bool (mono f), .nilIface]) ∧ On w w' := by
  have P0 := (On.refl w).alloc (.cells #[.int .i64 (f.vars : Int), .slice A n c, .int .i64 (f.top : Int)] 24)
  have hT := changes_ok _ f hf hv12 A n c (h.on P0) _ rfl
  obtain ⟨res, hres⟩ : ∃ res, mono f = res := ⟨_, rfl⟩
  rw [hres]
  have HR := Lib.hid hres
  clear h hf hres
  go_enter Try.func14, Try.ntmps14
  go_wp2_with fail
  refine hT.mono ?_
  rintro e w1 ⟨y, z, rfl, hy, hz, P1⟩
  clear hT
  have hm := hz.mono rfl
  rw [HR.out] at hm
  by_cases h0 : z = 0
  · subst h0
    obtain rfl : res = true := by rw [hm]; rfl
    clear hy hz hm
    go_wp2
    go_ret2
    exact ⟨rfl, P0.trans P1⟩
  · have h1 : ¬ (z : Int) = 0 := by omega
    obtain rfl : res = false := by rw [hm, decide_eq_false h0]
    clear hy hz hm
    go_wp2
    go_ret2
    have hb : ((z : Int) == 0) = false := by simpa using h0
    exact ⟨by show Ending.returned (.tuple #[.bool ((z : Int) == 0), .nilIface]) = _; rw [hb], P0.trans P1⟩
set_option maxHeartbeats 8000000 in
theorem trel_bad (w : World) (vars top : Int) (A : Option Addr) (n c : Nat) (xs : List Nd) (h : RdN w A n c xs) (hv : I64 vars) (ht : I64 top) (hbad : chkT vars xs top ≠ 0) :
    Calls Try.prog 15 #[.agg #[.int .i64 vars, .slice A n c, .int .i64 top]] w fun e w' => e = .returned (.tuple #[.int .i64 0, errV (chkT vars xs top)]) ∧ On w w' := by
  have P0 := (On.refl w).alloc (.cells #[.int .i64 vars, .slice A n c, .int .i64 top] 24)
  have hT := changes_bad _ vars top A n c xs (h.on P0) hv ht hbad
  obtain ⟨er, her⟩ : ∃ er, chkT vars xs top = er := ⟨_, rfl⟩
  rw [her] at hT hbad ⊢
  rw [errV_pos er hbad] at hT ⊢
  clear h hv ht her
  go_enter Try.func15, Try.ntmps15
  go_wp2_with fail
  refine hT.mono ?_
  rintro e w1 ⟨rfl, P1⟩
  clear hT
  go_wp2
  go_ret2
  exact ⟨by simp; decide, P0.trans P1⟩
set_option maxHeartbeats 8000000 in
theorem trel_ok (w : World) (f : Fn) (hf : WF f) (hv12 : f.vars ≤ 12) (A : Option Addr) (n c : Nat) (h : RdN w A n c (rawL f.nodes)) :
    Calls Try.prog 15 #[.agg #[.int .i64 (f.vars : Int), .slice A n c, .int .i64 (f.top : Int)]] w fun e w' => e = .returned (.tuple #[.int .i64 (relv f : Nat), .nilIface]) ∧ On w w' := by
  have P0 := (On.refl w).alloc (.cells #[.int .i64 (f.vars : Int), .slice A n c, .int .i64 (f.top : Int)] 24)
  have hT := changes_ok _ f hf hv12 A n c (h.on P0) _ rfl
  have hm12 := pow12 hv12
  obtain ⟨r, hr⟩ : ∃ r, relv f = r := ⟨_, rfl⟩
  rw [hr]
  have HR := Lib.hid hr
  clear h hf hr
  go_enter Try.func15, Try.ntmps15
  go_wp2_with fail
  refine hT.mono ?_
  rintro e w1 ⟨y, z, rfl, hy, hz, P1⟩
  clear hT
  have hy2 := hy.lt rfl
  have hz2 := hz.lt rfl
  have e1 := or_nat y z (by omega) (by omega)
  rw [Bits.rel rfl hy hz] at e1
  rw [HR.out] at e1
  clear hy hz hy2 hz2 hm12
  go_wp2
  go_ret2
  exact ⟨rfl, P0.trans P1⟩
end Go.Proofs.Ytpllgpjplliadaa.Fm
