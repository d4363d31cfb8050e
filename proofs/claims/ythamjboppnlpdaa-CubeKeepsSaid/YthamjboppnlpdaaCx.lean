/-
  Package cube: checkList, Covers, Count.
-/
import Derived.Test.YthamjboppnlpdaaCw
namespace Go.Proofs.Ythamjboppnlpdaa.Cu
open Go.RowKit Go.Proofs.Ythamjboppnlpdaa.Sb
set_option linter.unusedVariables false
set_option maxRecDepth 100000
/-- the number of a list's error -/
def chkB (n : Nat) (xs : List Cz) : Nat := if 1024 < n then 4 else chkL xs
theorem chkB_zero {n : Nat} {xs : List Cz} (h : chkB n xs = 0) : n ≤ 1024 ∧ ∃ l : List Cb, xs = zl l ∧ ∀ c ∈ l, OkC c := by
  unfold chkB at h
  by_cases k : 1024 < n
  · rw [if_pos k] at h; omega
  · rw [if_neg k] at h
    exact ⟨by omega, chkL_zero h⟩
theorem chkB_ok {l : List Cb} {n : Nat} (hn : n ≤ 1024) (h : ∀ c ∈ l, OkC c) : chkB n (zl l) = 0 := by
  unfold chkB
  rw [if_neg (by omega)]
  exact chkL_ok h
set_option maxHeartbeats 4000000 in
theorem checkList_any (w : World) (A : Option Addr) (n c : Nat) (xs : List Cz) (h : RdC w A n c xs) :
    Calls Try.prog 52 #[.slice A n c] w fun e w' => e = .returned (errV (chkB n xs)) ∧ On w w' := by
  have hcap := h.cap
  have hmax := h.max
  have hC := check_any w A n c xs h
  unfold chkB
  clear h
  by_cases hn : 1024 < n
  · rw [if_pos hn]
    go_enter Try.func52, Try.ntmps52
    go_wp2
    go_ret
    exact ⟨rfl, On.refl _⟩
  · rw [if_neg hn]
    obtain ⟨x, hx⟩ : ∃ x, chkL xs = x := ⟨_, rfl⟩
    rw [hx] at hC ⊢
    clear hx
    go_enter Try.func52, Try.ntmps52
    go_wp2_with fail
    refine hC.mono ?_
    rintro e w1 ⟨rfl, P1⟩
    go_wp2
    go_ret
    exact ⟨rfl, P1⟩
set_option maxHeartbeats 4000000 in
theorem covers1_any (w : World) (c : Cb) :
    Calls Try.prog 59 #[cbV c] w fun e w' => e = .returned (.bool false) ∧ On w w' := by
  unfold cbV
  go_enter Try.func59, Try.ntmps59
  go_wp2
  go_ret
  first | exact ⟨rfl, (On.refl w).alloc _⟩ | exact ⟨rfl, On.refl w⟩
theorem enter_covers1 (args : Array Value) (W : World) : (callFunc 59 args).run Try.prog W = .ok (.enter 59 args) W := by kernel_rfl
theorem enter_count1 (args : Array Value) (W : World) : (callFunc 61 args).run Try.prog W = .ok (.enter 61 args) W := by kernel_rfl
/-- no state of c is outside -/
theorem gaps_covers (w : World) (A : Option Addr) (n cc : Nat) (l : List Cb) (h : RdC w A n cc (zl l)) (hl : ∀ x ∈ l, OkC x) (hn : n ≤ 2000) (c : Cb) (hc : OkC c) :
    Calls Try.prog 58 #[.slice A n cc, cbV c, .func (.func 59) #[] #[]] w fun e w' => e = .returned (.bool (decide (U 24 l c = 0))) ∧ On w w' := by
  have := gaps_gen 24 (Nat.le_refl _) 59 #[] none false (fun _ _ => True) (fun _ _ _ _ _ => trivial) enter_covers1
    (fun W c k _ _ _ _ => (covers1_any W c).mono fun e w' ⟨h1, h2⟩ => ⟨h1, gr_on h2, trivial⟩) (24 - pc (evs c) + 1) c (by omega) hc (evs_lt hc) l (fun x hx => ⟨hl x hx, evs_lt (hl x hx)⟩) w A n cc 0 h hn (fun g e => by cases e) trivial
  obtain ⟨u, hu⟩ : ∃ u, U 24 l c = u := ⟨_, rfl⟩
  rw [hu] at this ⊢
  clear hu
  refine this.mono ?_
  rintro e w' ⟨h1, h2, _⟩
  rw [Bool.false_or] at h1
  exact ⟨h1, ⟨h2.os, h2.tape, h2.output, h2.size, fun i hi => h2.block i hi (by simp)⟩⟩
set_option maxHeartbeats 8000000 in
theorem covers_ok (w : World) (A : Option Addr) (n cc : Nat) (l : List Cb) (h : RdC w A n cc (zl l)) (hl : ∀ x ∈ l, OkC x) (hn : n ≤ 1024) (c : Cb) (hc : OkC c) :
    Calls Try.prog 35 #[.slice A n cc, cbV c] w fun e w' => e = .returned (.tuple #[.bool (decide (U 24 l c = 0)), .nilIface]) ∧ On w w' := by
  have hcap := h.cap
  have hmax := h.max
  obtain ⟨c1, c2⟩ := c
  obtain ⟨q, hq⟩ : ∃ q, w.heap.size = q := ⟨_, rfl⟩
  obtain ⟨w0, hw0⟩ : ∃ w0, w.alloc (.cells #[.int .i64 (c1 : Int), .int .i64 (c2 : Int)] 23) = w0 := ⟨_, rfl⟩
  obtain ⟨O0, P0⟩ := box1 hq hw0
  have hCL := checkList_any w0 A n cc (zl l) (h.on P0)
  rw [chkB_ok hn hl, errV_zero] at hCL
  have hG := fun W (k : On w W) => gaps_covers W A n cc l (h.on k) hl (by omega) (c1, c2) hc
  have hK := fun W (O : RdC W (some ⟨W.heap.size, 0, none⟩) 1 1 [((c1 : Int), (c2 : Int))]) => check_any W _ 1 1 _ O
  obtain ⟨u, hu⟩ : ∃ u, U 24 l (c1, c2) = u := ⟨_, rfl⟩
  rw [hu] at hG ⊢
  have e0 : chkL [((c1 : Int), (c2 : Int))] = 0 := chkL_ok (l := [(c1, c2)]) fun x hx => by rw [List.mem_singleton] at hx; subst hx; exact hc
  have HG := Lib.hid (And.intro hG (And.intro P0 (And.intro O0 e0)))
  unfold cbV at *
  simp only
  clear hu hG hK P0 O0 e0 h hl hc
  go_enter Try.func35, Try.ntmps35
  subst hq
  go_wp2_with fail
  refine hCL.mono ?_
  rintro e w1 ⟨rfl, P1⟩
  clear hCL
  have O1 := HG.out.2.2.1.on P1
  obtain ⟨r0, r1⟩ := own2 O1
  obtain ⟨w2, hw2⟩ : ∃ w2, w1.alloc (.cells #[.int .i64 (c1 : Int), .int .i64 (c2 : Int)] 23) = w2 := ⟨_, rfl⟩
  obtain ⟨O2, P2⟩ := box1 rfl hw2
  have hC := check_any w2 _ 1 1 _ (rdc_one O2)
  rw [HG.out.2.2.2, errV_zero] at hC
  have H2 := Lib.hid (And.intro ((HG.out.2.1.trans P1).trans P2) (O1.on P2))
  clear O1 O2 P1 P2
  go_wp2_with fail
  refine hC.mono ?_
  rintro e w3 ⟨rfl, P3⟩
  clear hC r0 r1
  obtain ⟨r0, r1⟩ := own2 (H2.out.2.on P3)
  have PW := H2.out.1.trans P3
  have hG3 := HG.out.1 w3 PW
  have HPW := Lib.hid PW
  clear P3 PW
  go_wp2_with fail
  refine hG3.mono ?_
  rintro e w4 ⟨rfl, P4⟩
  go_wp2
  go_ret2
  exact ⟨rfl, HPW.out.trans P4⟩
end Go.Proofs.Ythamjboppnlpdaa.Cu
