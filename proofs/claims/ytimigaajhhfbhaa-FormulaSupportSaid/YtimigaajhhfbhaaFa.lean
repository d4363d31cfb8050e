/-
  What the statements about formulas begin with: the document's example.
-/
import Derived.Test.YtimigaajhhfbhaaFi
namespace Go.Proofs.Ytimigaajhhfbhaa.Fm
open Go.RowKit Go.Proofs.Ytimigaajhhfbhaa.Sb
set_option linter.unusedVariables false
set_option maxRecDepth 100000
def ex : Fn := ⟨3, [⟨2, 0, [0, 1]⟩, ⟨4, 2, [0, 2, 3]⟩], 4⟩
theorem ex_wf : WF ex := by
  refine ⟨by decide, by decide, fun i hi => ?_, by decide⟩
  have : i = 0 ∨ i = 1 := by
    have : ex.nodes.length = 2 := rfl
    omega
  rcases this with rfl | rfl
  · refine ⟨by decide, by decide, by decide, by decide, by decide, by decide, by decide⟩
  · refine ⟨by decide, by decide, by decide, by decide, by decide, by decide, by decide⟩
theorem ex_3 : val ex 3 = true := by decide +kernel
theorem ex_1 : val ex 1 = false := by decide +kernel
theorem ex_s : sup ex = 7 := by decide +kernel
theorem own_alloc1 {w : World} {b : Nat} {t : TypeId} {cur : Array Value} (hb : w.heap.size = b) : Own (w.alloc (.cells cur t)) b t cur := by rw [← hb]; exact Own.new _ _ _
theorem size_alloc {w : World} {b : Nat} {o : Obj} (hb : w.heap.size = b) : (w.alloc o).heap.size = b + 1 := by simp [hb]
theorem rd_own {w : World} {g : Nat} {t : TypeId} {cur : Array Value} {vs : List Value} {n : Nat} (h : Own w g t cur) (hv : cur.toList = vs) (hn : vs.length = n) (hs : n ≤ 1000000) : Rd w (some ⟨g, 0, none⟩) n n vs := by
  refine ⟨hn, by omega, by omega, fun e => (by cases e), fun _ => ⟨_, rfl, h.lt, fun j u hj => ?_⟩⟩
  rw [add_plain, h.cell, Nat.zero_add, ← Array.getElem?_toList, hv]
  exact hj
theorem rdN_two {w : World} {g : Nat} {a b : Nn} {P P' : Option Addr} {m k m' k' : Nat} (h : Own w g 53 #[.int .i64 (a.kind : Int), .int .i64 (a.k : Int), .slice P m k, .int .i64 (b.kind : Int), .int .i64 (b.k : Int), .slice P' m' k']) (h1 : Rd w P m k (VI (ints a.args))) (h2 : Rd w P' m' k' (VI (ints b.args))) : RdN w (some ⟨g, 0, none⟩) 2 2 (rawL [a, b]) := by
  refine ⟨rfl, by omega, by omega, fun e => (by cases e), fun _ => ⟨_, rfl, h.lt, fun j hj => ?_⟩⟩
  rw [add_plain]
  have : j = 0 ∨ j = 1 := by omega
  rcases this with rfl | rfl
  · exact ⟨P, m, k, by rw [h.cell]; rfl, by rw [h.cell]; rfl, by rw [h.cell]; rfl, h1⟩
  · exact ⟨P', m', k', by rw [h.cell]; rfl, by rw [h.cell]; rfl, by rw [h.cell]; rfl, h2⟩
set_option maxHeartbeats 4000000 in
theorem example_any (w : World) : Calls Try.prog 31 #[] w fun e w' => ∃ A c, e = .returned (.agg #[.int .i64 3, .slice A 2 c, .int .i64 4]) ∧ RdN w' A 2 c (rawL ex.nodes) ∧ On w w' := by
  obtain ⟨q, hq⟩ : ∃ q, w.heap.size = q := ⟨_, rfl⟩
  obtain ⟨o0, ho0⟩ : ∃ o0, o0 = Obj.cells #[.int .i64 3, .slice (some ⟨q + 1 + 1 + 1, 0, none⟩) 2 2, .int .i64 4] 24 := ⟨_, rfl⟩
  obtain ⟨o1, ho1⟩ : ∃ o1, o1 = Obj.cells #[.int .i64 0, .int .i64 1] 3 := ⟨_, rfl⟩
  obtain ⟨o2, ho2⟩ : ∃ o2, o2 = Obj.cells #[.int .i64 0, .int .i64 2, .int .i64 3] 3 := ⟨_, rfl⟩
  obtain ⟨o3, ho3⟩ : ∃ o3, o3 = Obj.cells #[.int .i64 2, .int .i64 0, .slice (some ⟨q + 1, 0, none⟩) 2 2, .int .i64 4, .int .i64 2, .slice (some ⟨q + 1 + 1, 0, none⟩) 3 3] 53 := ⟨_, rfl⟩
  have O0 : Own ((((w.alloc o0).alloc o1).alloc o2).alloc o3) q 24 #[.int .i64 3, .slice (some ⟨q + 1 + 1 + 1, 0, none⟩) 2 2, .int .i64 4] := by
    rw [ho0]; exact (((own_alloc1 hq).alloc _).alloc _).alloc _
  have O1 : Own ((((w.alloc o0).alloc o1).alloc o2).alloc o3) (q + 1) 3 #[.int .i64 0, .int .i64 1] := by
    rw [ho1]; exact ((own_alloc1 (size_alloc hq)).alloc _).alloc _
  have O2 : Own ((((w.alloc o0).alloc o1).alloc o2).alloc o3) (q + 1 + 1) 3 #[.int .i64 0, .int .i64 2, .int .i64 3] := by
    rw [ho2]; exact (own_alloc1 (size_alloc (size_alloc hq))).alloc _
  have O3 : Own ((((w.alloc o0).alloc o1).alloc o2).alloc o3) (q + 1 + 1 + 1) 53 #[.int .i64 2, .int .i64 0, .slice (some ⟨q + 1, 0, none⟩) 2 2, .int .i64 4, .int .i64 2, .slice (some ⟨q + 1 + 1, 0, none⟩) 3 3] := by
    rw [ho3]; exact own_alloc1 (size_alloc (size_alloc (size_alloc hq)))
  have RN : RdN ((((w.alloc o0).alloc o1).alloc o2).alloc o3) (some ⟨q + 1 + 1 + 1, 0, none⟩) 2 2 (rawL ex.nodes) :=
    rdN_two (a := ⟨2, 0, [0, 1]⟩) (b := ⟨4, 2, [0, 2, 3]⟩) O3 (rd_own O1 rfl rfl (by omega)) (rd_own O2 rfl rfl (by omega))
  have PN : On w ((((w.alloc o0).alloc o1).alloc o2).alloc o3) := ((((On.refl w).alloc _).alloc _).alloc _).alloc _
  obtain ⟨r0, r1, r2⟩ := own3 O0
  rw [ho0, ho1, ho2, ho3] at RN PN r0 r1 r2
  have HN := Lib.hid (And.intro RN PN)
  clear RN PN O0 O1 O2 O3 ho0 ho1 ho2 ho3
  go_enter Try.func31, Try.ntmps31
  go_wp2
  exact bodyPost_ret (v := .agg #[.int .i64 3, .slice (some ⟨q + 1 + 1 + 1, 0, none⟩) 2 2, .int .i64 4]) (by simp [results, Try.results31, go_sem, r0, r1, r2]) rfl ⟨_, _, rfl, HN.out.1, HN.out.2⟩
set_option maxHeartbeats 8000000 in
theorem awake_any (w : World) : Calls Try.prog 9 #[] w fun e w' => e = .returned (.bool true) ∧ On w w' := by
  have hE := fun W => example_any W
  have hV3 := fun W A c (h : RdN W A 2 c (rawL ex.nodes)) => value_ok W ex ex_wf A 2 c h 3 (by decide)
  have hV1 := fun W A c (h : RdN W A 2 c (rawL ex.nodes)) => value_ok W ex ex_wf A 2 c h 1 (by decide)
  have hS := fun W A c (h : RdN W A 2 c (rawL ex.nodes)) => support_ok W ex ex_wf A 2 c h
  rw [ex_3] at hV3
  rw [ex_1] at hV1
  rw [ex_s] at hS
  have v3 : (ex.vars : Int) = 3 := rfl
  have t4 : (ex.top : Int) = 4 := rfl
  rw [v3, t4] at hV3 hV1 hS
  clear v3 t4
  go_enter Try.func9, Try.ntmps9
  go_wp2_with fail
  refine (hE _).mono ?_
  rintro e w1 ⟨A1, c1, rfl, R1, P1⟩
  go_wp2_with fail
  refine (hV3 _ _ _ R1).mono ?_
  rintro e w2 ⟨rfl, P2⟩
  go_wp2_with fail
  refine (hE _).mono ?_
  rintro e w3 ⟨A3, c3, rfl, R3, P3⟩
  go_wp2_with fail
  refine (hV1 _ _ _ R3).mono ?_
  rintro e w4 ⟨rfl, P4⟩
  go_wp2_with fail
  refine (hE _).mono ?_
  rintro e w5 ⟨A5, c5, rfl, R5, P5⟩
  go_wp2_with fail
  refine (hS _ _ _ R5).mono ?_
  rintro e w6 ⟨rfl, P6⟩
  have PF := ((((P1.trans P2).trans P3).trans P4).trans P5).trans P6
  clear hE hV3 hV1 hS R1 R3 R5 P1 P2 P3 P4 P5 P6
  go_wp2
  go_ret
  exact ⟨rfl, PF⟩
end Go.Proofs.Ytimigaajhhfbhaa.Fm
