/-
  What the statements of tables begin with: the vote of the document.
-/
import Derived.Test.YtpllgpjplliadaaTs
import Derived.Deep.DeepCutAuto
namespace Go.Proofs.Ytpllgpjplliadaa.Fm
open Go.RowKit Go.Proofs.Ytpllgpjplliadaa.Sb
set_option linter.unusedVariables false
set_option maxRecDepth 100000
theorem numT_any (w : World) (c : Nat) :
    Calls Try.prog 17 #[errV c] w fun e w' => e = .returned (.int .i64 (c : Int)) ∧ w = w' := by
  by_cases h : c = 0
  · subst h
    rw [errV_zero]
    go_enter Try.func17, Try.ntmps17
    go_wp2
    go_ret
    exact ⟨rfl, rfl⟩
  · rw [errV_pos c h]
    have hta : ∀ W, (Instr.typeAssert (.iface 50 (.int .i64 (c : Int))) 29 50 true).run Try.prog W = .ok (.tuple #[.int .i64 (c : Int), .bool true]) W := fun _ => by kernel_rfl
    go_enter Try.func17, Try.ntmps17
    go_wp2
    go_ret
    exact ⟨rfl, rfl⟩
theorem clipT_any (w : World) (v : Nat) (hv : v ≤ 12) : Calls Try.prog 29 #[.int .i64 (v : Int), .int .i64 0, .int .i64 12] w fun e w' => e = .returned (.int .i64 (v : Int)) ∧ w = w' := by
  by_cases h0 : v = 0
  · subst h0
    go_enter Try.func29, Try.ntmps29
    go_wp2
    go_ret
    exact ⟨rfl, rfl⟩
  · have h1 : min (v : Int) 12 = (v : Int) := by omega
    have h2 : max (0 : Int) (v : Int) = (v : Int) := by omega
    have h3 : 0 < v := by omega
    go_enter Try.func29, Try.ntmps29
    go_wp2
    go_ret
    exact ⟨rfl, rfl⟩
theorem light_len {xs : List Nd} (h : lightB xs = true) : xs.length ≤ 200 := by
  unfold lightB at h
  simp only [Bool.and_eq_true, decide_eq_true_iff] at h
  exact h.1
theorem rd_ownT {w : World} {g : Nat} {t : TypeId} {cur : Array Value} {vs : List Value} {n : Nat} (h : Own w g t cur) (hv : cur.toList = vs) (hn : vs.length = n) (hs : n ≤ 1000000) : Rd w (some ⟨g, 0, none⟩) n n vs := by
  refine ⟨hn, by omega, by omega, fun e => (by cases e), fun _ => ⟨_, rfl, h.lt, fun j u hj => ?_⟩⟩
  rw [add_plain, h.cell, Nat.zero_add, ← Array.getElem?_toList, hv]
  exact hj
theorem rdN_oneT {w : World} {g : Nat} {a : Nn} {P : Option Addr} {m k : Nat} (h : Own w g 57 #[.int .i64 (a.kind : Int), .int .i64 (a.k : Int), .slice P m k]) (h1 : Rd w P m k (VI (ints a.args))) : RdN w (some ⟨g, 0, none⟩) 1 1 (rawL [a]) := by
  refine ⟨rfl, by omega, by omega, fun e => (by cases e), fun _ => ⟨_, rfl, h.lt, fun j hj => ?_⟩⟩
  rw [add_plain]
  obtain rfl : j = 0 := by omega
  exact ⟨P, m, k, by rw [h.cell]; rfl, by rw [h.cell]; rfl, by rw [h.cell]; rfl, h1⟩
def exV : Fn := ⟨3, [⟨4, 2, [0, 1, 2]⟩], 3⟩
theorem exV_wf : WF exV := by
  refine ⟨by decide, by decide, fun i hi => ?_, by decide⟩
  obtain rfl : i = 0 := by have : i < 1 := hi; omega
  exact ⟨by decide, by decide, by decide, by decide, by decide, by decide, by decide⟩
theorem exV_tab : tab exV = [false, false, false, true, false, true, true, true] := by decide +kernel
theorem exV_wts : wts exV = [0, 0, 3, 1] := by decide +kernel
set_option maxHeartbeats 8000000 in
theorem awakeT_any (w : World) : Calls Try.prog 9 #[] w fun e w' => e = .returned (.bool true) ∧ On w w' := by
  obtain ⟨q, hq⟩ : ∃ q, w.heap.size = q := ⟨_, rfl⟩
  go_enter Try.func9, Try.ntmps9
  go_upto_region 2 with fail
  obtain ⟨w1, hw1⟩ : ∃ w1, ((w.alloc (.cells #[.int .i64 0, .int .i64 1, .int .i64 2] 3)).alloc (.cells #[.int .i64 4, .int .i64 2, .slice (some ⟨q, 0, none⟩) 3 3] 57)).alloc (.cells #[.int .i64 3, .slice (some ⟨q + 1, 0, none⟩) 1 1, .int .i64 3] 24) = w1 := ⟨_, rfl⟩
  have z1 : ∀ o : Obj, (w.alloc o).heap.size = q + 1 := fun o => by simp [hq]
  have z2 : ∀ o o' : Obj, ((w.alloc o).alloc o').heap.size = q + 1 + 1 := fun o o' => by simp [hq]
  have O1 : Own w1 q 3 #[.int .i64 0, .int .i64 1, .int .i64 2] := by rw [← hw1, ← hq]; exact ((Own.new _ _ _).alloc _).alloc _
  have N1 : Own w1 (q + 1) 57 #[.int .i64 4, .int .i64 2, .slice (some ⟨q, 0, none⟩) 3 3] := by
    rw [← hw1, ← z1 (.cells #[.int .i64 0, .int .i64 1, .int .i64 2] 3)]
    exact (Own.new _ _ _).alloc _
  have F1 : Own w1 (q + 1 + 1) 24 #[.int .i64 3, .slice (some ⟨q + 1, 0, none⟩) 1 1, .int .i64 3] := by
    rw [← hw1, ← z2 (.cells #[.int .i64 0, .int .i64 1, .int .i64 2] 3) (.cells #[.int .i64 4, .int .i64 2, .slice (some ⟨q, 0, none⟩) 3 3] 57)]
    exact Own.new _ _ _
  have P1 : On w w1 := by rw [← hw1]; exact (((On.refl w).alloc _).alloc _).alloc _
  have R1 : RdN w1 (some ⟨q + 1, 0, none⟩) 1 1 (rawL exV.nodes) := rdN_oneT (a := ⟨4, 2, [0, 1, 2]⟩) N1 (rd_ownT O1 rfl rfl (by omega))
  rw [hw1]
  clear hw1 z1 z2 O1 N1
  have hT := ttab_ok w1 exV exV_wf (by decide) _ 1 1 R1 8 rfl
  have v3 : (exV.vars : Int) = 3 := rfl
  have t3 : (exV.top : Int) = 3 := rfl
  rw [v3, t3] at hT
  obtain ⟨r0, r1, r2⟩ := own3 F1
  go_wp2_with fail
  refine hT.mono ?_
  rintro e w2 ⟨B, d, rfl, RB, P2⟩
  clear hT r0 r1 r2
  have hW := twts_ok w2 exV exV_wf (by decide) _ 1 1 (R1.on P2)
  have v4 : exV.vars + 1 = 4 := rfl
  rw [v3, t3, v4] at hW
  obtain ⟨r0, r1, r2⟩ := own3 (F1.on P2)
  go_wp2_with fail
  refine hW.mono ?_
  rintro e w3 ⟨B2, d2, rfl, RB2, P3⟩
  clear hW r0 r1 r2 v3 t3 v4 F1 R1
  rw [exV_tab] at RB
  rw [exV_wts] at RB2
  have hB := fun W (k : On w3 W) D (RD : Rd W D 8 8 (VB [false, false, false, true, false, true, true, true])) => bools_eq W B 8 d D 8 8 _ ((RB.on P3).on k) RD
  have hI := fun W (k : On w3 W) D (RD : Rd W D 4 4 (VI (ints [0, 0, 3, 1]))) => ints_eq W B2 4 d2 D 4 4 _ (RB2.on k) RD
  have HP := Lib.hid ((P1.trans P2).trans P3)
  have HBI := Lib.hid (And.intro hB hI)
  clear RB RB2 hB hI P1 P2 P3
  go_wp2_with fail
  refine (HBI.out.1 _ ((On.refl _).alloc _) _ (rd_ownT (Own.new _ _ _) rfl rfl (by omega))).mono ?_
  rintro e w4 ⟨rfl, P4⟩
  have Q4 := ((On.refl w3).alloc _).trans P4
  clear P4
  go_wp2_with fail
  refine (HBI.out.2 _ (Q4.alloc _) _ (rd_ownT (Own.new _ _ _) rfl rfl (by omega))).mono ?_
  rintro e w5 ⟨rfl, P5⟩
  go_wp2
  go_ret
  exact ⟨rfl, HP.out.trans ((Q4.alloc _).trans P5)⟩
end Go.Proofs.Ytpllgpjplliadaa.Fm
