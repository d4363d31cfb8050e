/-
  The program's check of a formula and a cube.
-/
import Derived.Test.YtcnelmklfdfilaaKs1
namespace Go.Proofs.Ytcnelmklfdfilaa.Fm
open Go.RowKit Go.Proofs.Ytcnelmklfdfilaa.Sb
set_option linter.unusedVariables false
set_option maxRecDepth 100000
/-- the error of a formula and a cube -/
def tchk (vars : Int) (xs : List Nd) (top y n : Int) : Nat := if chk vars xs top = 0 then cubErr vars.toNat y n else chk vars xs top
theorem rtcheck_any (w : World) (vars top : Int) (A : Option Addr) (n c : Nat) (xs : List Nd) (h : RdN w A n c xs) (hv : I64 vars) (ht : I64 top) (y nn : Int) :
    Calls Try.prog 15 #[.agg #[.int .i64 vars, .slice A n c, .int .i64 top], cubV y nn] w fun e w' => e = .returned (.int .i64 (tchk vars xs top y nn : Nat)) ∧ On w w' := by
  by_cases hz : chk vars xs top = 0
  · obtain ⟨f, hf, rfl, rfl, rfl⟩ := chk_zero hz
    have e : tchk (f.vars : Int) (rawL f.nodes) (f.top : Int) y nn = cubErr f.vars y nn := by unfold tchk; rw [if_pos hz]; rfl
    rw [e]
    exact rtcheck_ok w f hf A n c h y nn
  · have e : tchk vars xs top y nn = chk vars xs top := by unfold tchk; rw [if_neg hz]
    rw [e]
    exact rtcheck_bad w vars top A n c xs h hv ht y nn hz
set_option maxHeartbeats 4000000 in
theorem tcheck_bad (w : World) (vars top : Int) (A : Option Addr) (n c : Nat) (xs : List Nd) (h : RdN w A n c xs) (hv : I64 vars) (ht : I64 top) (y nn : Int) (hbad : chk vars xs top ≠ 0) :
    Calls Try.prog 30 #[.agg #[.int .i64 vars, .slice A n c, .int .i64 top], cubV y nn] w fun e w' => e = .returned (errV (chk vars xs top)) ∧ On w w' := by
  have P0 := ((On.refl w).alloc (.cells #[.int .i64 vars, .slice A n c, .int .i64 top] 24)).alloc (.cells #[.int .i64 y, .int .i64 nn] 26)
  have hC := check_any _ vars top A n c xs (h.on P0) hv ht
  obtain ⟨er, her⟩ : ∃ er, chk vars xs top = er := ⟨_, rfl⟩
  rw [her] at hC hbad ⊢
  rw [errV_pos er hbad] at hC ⊢
  clear her h hv ht hbad
  go_enter Try.func30, Try.ntmps30
  go_wp2_with fail
  refine hC.mono ?_
  rintro e w1 ⟨rfl, P1⟩
  clear hC
  go_wp2
  go_ret
  exact ⟨rfl, P0.trans P1⟩
set_option maxHeartbeats 8000000 in
theorem tcheck_ok (w : World) (f : Fn) (hf : WF f) (A : Option Addr) (n c : Nat) (h : RdN w A n c (rawL f.nodes)) (y nn : Int) :
    Calls Try.prog 30 #[.agg #[.int .i64 (f.vars : Int), .slice A n c, .int .i64 (f.top : Int)], cubV y nn] w fun e w' => e = .returned (errV (cubErr f.vars y nn)) ∧ On w w' := by
  have htop := hf.2.2.2
  have hv24 := hf.1
  have hn128 := hf.2.1
  obtain ⟨q, hq⟩ : ∃ q, w.heap.size = q := ⟨_, rfl⟩
  obtain ⟨w0, hw0⟩ : ∃ w0, (w.alloc (.cells #[.int .i64 (f.vars : Int), .slice A n c, .int .i64 (f.top : Int)] 24)).alloc (.cells #[.int .i64 y, .int .i64 nn] 26) = w0 := ⟨_, rfl⟩
  have O0 : Own w0 q 24 #[.int .i64 (f.vars : Int), .slice A n c, .int .i64 (f.top : Int)] := by rw [← hw0, ← hq]; exact (Own.new _ _ _).alloc _
  have C0 : Own w0 (q + 1) 26 #[.int .i64 y, .int .i64 nn] := by
    rw [← hw0, ← hq]
    have := Own.new (w.alloc (.cells #[.int .i64 (f.vars : Int), .slice A n c, .int .i64 (f.top : Int)] 24)) 26 #[.int .i64 y, .int .i64 nn]
    simpa using this
  have P0 : On w w0 := by rw [← hw0]; exact ((On.refl w).alloc _).alloc _
  have hC := check_any w0 (f.vars : Int) (f.top : Int) A n c _ (h.on P0) (by unfold I64; omega) (by unfold I64; omega)
  rw [chk_ok hf, errV_zero, ← hw0] at hC
  have HO := Lib.hid (And.intro O0 (And.intro C0 (And.intro P0 hw0)))
  have e1 := shl_step f.vars hv24
  have hv64 : f.vars < 64 := by omega
  obtain ⟨res, hres⟩ : ∃ res, cubErr f.vars y nn = res := ⟨_, rfl⟩
  rw [hres]
  unfold cubErr setB at hres
  obtain ⟨p2, hp2⟩ : ∃ p2, 2 ^ f.vars = p2 := ⟨_, rfl⟩
  rw [hp2] at e1 hres
  have HRES := Lib.hid hres
  clear h hf O0 C0 P0 hw0 hp2 hres
  go_enter Try.func30, Try.ntmps30
  go_wp2_with fail
  refine hC.mono ?_
  rintro e w1 ⟨rfl, P1⟩
  rw [HO.out.2.2.2] at P1
  clear hC
  obtain ⟨r0, r1, r2⟩ := own3 (HO.out.1.on P1)
  obtain ⟨k0, k1⟩ := own2 (HO.out.2.1.on P1)
  obtain ⟨g, hg⟩ : ∃ g, w1.heap.size = g := ⟨_, rfl⟩
  obtain ⟨w2, hw2⟩ : ∃ w2, w1.alloc (.cells #[.int .i64 y, .int .i64 nn] 3) = w2 := ⟨_, rfl⟩
  have OG : Own w2 g 3 #[.int .i64 y, .int .i64 nn] := by rw [← hw2, ← hg]; exact Own.new _ _ _
  have P2 : On w1 w2 := by rw [← hw2]; exact (On.refl w1).alloc _
  have H2 := Lib.hid (And.intro OG (And.intro ((HO.out.1.on P1).on P2) (And.intro ((HO.out.2.1.on P1).on P2) ((HO.out.2.2.1.trans P1).trans P2))))
  have HW2 := Lib.hid hw2
  clear OG P1 P2 hw2
  go_wp2
  rw [HW2.out]
  clear r0 r1 r2 k0 k1 HW2
  go_loopw [19] (fun i wr => ∃ k : Nat, k ≤ 2 ∧ i = .int .i64 (k : Int) ∧ (1 ≤ k → 0 ≤ y ∧ y < (p2 : Int)) ∧ (2 ≤ k → 0 ≤ nn ∧ nn < (p2 : Int)) ∧ On w wr ∧ Own wr g 3 #[.int .i64 y, .int .i64 nn] ∧ Own wr q 24 #[.int .i64 (f.vars : Int), .slice A n c, .int .i64 (f.top : Int)] ∧ Own wr (q + 1) 26 #[.int .i64 y, .int .i64 nn]) (fun i _ => 2 - (intOf i).toNat)
  case atStart => exact ⟨0, by omega, rfl, fun h => absurd h (by omega), fun h => absurd h (by omega), H2.out.2.2.2, H2.out.1, H2.out.2.1, H2.out.2.2.1⟩
  case round =>
    obtain ⟨k, hk, rfl, hy, hn, hon, hG, hQ, hC⟩ := hrel
    obtain ⟨r0, r1, r2⟩ := own3 hQ
    obtain ⟨k0, k1⟩ := own2 hC
    obtain ⟨g0, g1⟩ := own2 hG
    have HC := Lib.hid (And.intro hon (And.intro hG (And.intro hQ hC)))
    clear hon hG hQ hC
    have hk3 : k = 0 ∨ k = 1 ∨ k = 2 := by omega
    rcases hk3 with rfl | rfl | rfl
    · clear hy hn
      by_cases h1 : y < 0
      · have hr : res = 3 := by rw [← HRES.out, if_pos (.inl (by rw [decide_eq_false (by omega)]; rfl))]
        subst hr
        go_wp2
        go_ret
        exact ⟨by first | rfl | (rw [errV_pos _ (by decide)]; rfl), HC.out.1⟩
      · by_cases h2 : (p2 : Int) ≤ y
        · have hr : res = 3 := by rw [← HRES.out, if_pos (.inl (by rw [decide_eq_true (by omega : 0 ≤ y), decide_eq_false (by omega)]; rfl))]
          subst hr
          go_wp2
          go_ret
          exact ⟨by first | rfl | (rw [errV_pos _ (by decide)]; rfl), HC.out.1⟩
        · go_wp2
          go_roundw
          case rel => exact ⟨1, by omega, by go_num, fun _ => ⟨by omega, by omega⟩, fun h => absurd h (by omega), HC.out.1, HC.out.2.1, HC.out.2.2.1, HC.out.2.2.2⟩
          case measure => simp [intOf]
    · have hy1 := hy (by omega)
      clear hy hn
      by_cases h1 : nn < 0
      · have hr : res = 3 := by rw [← HRES.out, if_pos (.inr (by rw [decide_eq_false (by omega)]; rfl))]
        subst hr
        go_wp2
        go_ret
        exact ⟨by first | rfl | (rw [errV_pos _ (by decide)]; rfl), HC.out.1⟩
      · by_cases h2 : (p2 : Int) ≤ nn
        · have hr : res = 3 := by rw [← HRES.out, if_pos (.inr (by rw [decide_eq_true (by omega : 0 ≤ nn), decide_eq_false (by omega)]; rfl))]
          subst hr
          go_wp2
          go_ret
          exact ⟨by first | rfl | (rw [errV_pos _ (by decide)]; rfl), HC.out.1⟩
        · go_wp2
          go_roundw
          case rel => exact ⟨2, by omega, by go_num, fun _ => hy1, fun _ => ⟨by omega, by omega⟩, HC.out.1, HC.out.2.1, HC.out.2.2.1, HC.out.2.2.2⟩
          case measure => simp [intOf]
    · have hy1 := hy (by omega)
      have hn1 := hn (by omega)
      clear hy hn
      have hs : ¬ ((decide (0 ≤ y) && decide (y < (p2 : Int))) = false ∨ (decide (0 ≤ nn) && decide (nn < (p2 : Int))) = false) := by
        rw [decide_eq_true hy1.1, decide_eq_true hy1.2, decide_eq_true hn1.1, decide_eq_true hn1.2]; decide
      have hr := HRES.out
      rw [if_neg hs] at hr
      clear hs hy1 hn1
      by_cases h0 : bits .and .i64 y nn = 0
      · rw [if_pos h0] at hr
        subst hr
        go_wp2
        go_ret
        exact ⟨by first | rfl | (rw [errV_pos _ (by decide)]; rfl), HC.out.1⟩
      · rw [if_neg h0] at hr
        subst hr
        go_wp2
        go_ret
        exact ⟨by first | rfl | (rw [errV_pos _ (by decide)]; rfl), HC.out.1⟩
theorem tcheck_any (w : World) (vars top : Int) (A : Option Addr) (n c : Nat) (xs : List Nd) (h : RdN w A n c xs) (hv : I64 vars) (ht : I64 top) (y nn : Int) :
    Calls Try.prog 30 #[.agg #[.int .i64 vars, .slice A n c, .int .i64 top], cubV y nn] w fun e w' => e = .returned (errV (tchk vars xs top y nn)) ∧ On w w' := by
  by_cases hz : chk vars xs top = 0
  · obtain ⟨f, hf, rfl, rfl, rfl⟩ := chk_zero hz
    have e : tchk (f.vars : Int) (rawL f.nodes) (f.top : Int) y nn = cubErr f.vars y nn := by unfold tchk; rw [if_pos hz]; rfl
    rw [e]
    exact tcheck_ok w f hf A n c h y nn
  · have e : tchk vars xs top y nn = chk vars xs top := by unfold tchk; rw [if_neg hz]
    rw [e]
    exact tcheck_bad w vars top A n c xs h hv ht y nn hz
/-- an accepted cube of an accepted formula -/
theorem cub_ok {vars : Nat} (hv : vars ≤ 24) {y n : Nat} (hy : y < 2 ^ vars) (hn : n < 2 ^ vars) (hd : Dis y n) : cubErr vars (y : Int) (n : Int) = 0 := by
  unfold cubErr
  have h24 := pow24 hv
  have h1 : setB vars (y : Int) = true := by unfold setB; simp; exact_mod_cast hy
  have h2 : setB vars (n : Int) = true := by unfold setB; simp; exact_mod_cast hn
  rw [if_neg (by rw [h1, h2]; decide), and_nat y n (by omega) (by omega), if_pos]
  have : y &&& n = 0 := by
    apply Nat.eq_of_testBit_eq
    intro i
    rw [Nat.testBit_and, Nat.zero_testBit]
    cases h3 : y.testBit i with
    | false => rfl
    | true =>
      cases h4 : n.testBit i with
      | false => rfl
      | true => exact absurd ⟨h3, h4⟩ (hd i)
  rw [this]; rfl
theorem tchk_ok {f : Fn} (hf : WF f) {y n : Nat} (hy : y < 2 ^ f.vars) (hn : n < 2 ^ f.vars) (hd : Dis y n) : tchk (f.vars : Int) (rawL f.nodes) (f.top : Int) (y : Int) (n : Int) = 0 := by
  unfold tchk
  rw [if_pos (chk_ok hf)]
  exact cub_ok hf.1 hy hn hd
end Go.Proofs.Ytcnelmklfdfilaa.Fm
