/-
  What the statements of three values begin with: the example, a formula of one node, numbers of errors.
-/
import Derived.Test.YtcnelmklfdfilaaKw
namespace Go.Proofs.Ytcnelmklfdfilaa.Fm
open Go.RowKit Go.Proofs.Ytcnelmklfdfilaa.Sb
set_option linter.unusedVariables false
set_option maxRecDepth 100000
theorem numE_any (w : World) (c : Nat) :
    Calls Try.prog 16 #[errV c] w fun e w' => e = .returned (.int .i64 (c : Int)) ∧ w = w' := by
  by_cases h : c = 0
  · subst h
    rw [errV_zero]
    go_enter Try.func16, Try.ntmps16
    go_wp2
    go_ret
    exact ⟨rfl, rfl⟩
  · rw [errV_pos c h]
    have hta : ∀ W, (Instr.typeAssert (.iface 68 (.int .i64 (c : Int))) 30 68 true).run Try.prog W = .ok (.tuple #[.int .i64 (c : Int), .bool true]) W := fun _ => by kernel_rfl
    go_enter Try.func16, Try.ntmps16
    go_wp2
    go_ret
    exact ⟨rfl, rfl⟩
def ex9 : Fn := ⟨3, [⟨2, 0, [1, 2]⟩, ⟨3, 0, [0, 3]⟩], 4⟩
theorem wf_two {v t : Nat} {a b : Nn} (hv : v ≤ 24) (ha : okN v a) (hb : okN (v + 1) b) (ht : t < v + 2) : WF ⟨v, [a, b], t⟩ := by
  refine ⟨hv, by show 2 ≤ 128; omega, ?_, ht⟩
  intro i hi
  have : i = 0 ∨ i = 1 := by have : i < 2 := hi; omega
  rcases this with rfl | rfl
  · exact ha
  · exact hb
theorem ex9_wf : WF ex9 := wf_two (by omega) ⟨by decide, by decide, by decide, by decide, by decide, by decide, by decide⟩ ⟨by decide, by decide, by decide, by decide, by decide, by decide, by decide⟩ (by omega)
theorem ex9_10 : tval ex9 1 0 = 1 := by decide +kernel
theorem ex9_01 : tval ex9 0 1 = 2 := by decide +kernel
theorem ex9_n : nextZ ex9 0 1 = 1 := by decide +kernel
theorem own_alloc9 {w : World} {b : Nat} {t : TypeId} {cur : Array Value} (hb : w.heap.size = b) : Own (w.alloc (.cells cur t)) b t cur := by rw [← hb]; exact Own.new _ _ _
theorem size_alloc9 {w : World} {b : Nat} {o : Obj} (hb : w.heap.size = b) : (w.alloc o).heap.size = b + 1 := by simp [hb]
theorem rd_own9 {w : World} {g : Nat} {t : TypeId} {cur : Array Value} {vs : List Value} {n : Nat} (h : Own w g t cur) (hv : cur.toList = vs) (hn : vs.length = n) (hs : n ≤ 1000000) : Rd w (some ⟨g, 0, none⟩) n n vs := by
  refine ⟨hn, by omega, by omega, fun e => (by cases e), fun _ => ⟨_, rfl, h.lt, fun j u hj => ?_⟩⟩
  rw [add_plain, h.cell, Nat.zero_add, ← Array.getElem?_toList, hv]
  exact hj
theorem rdN_two9 {w : World} {g : Nat} {a b : Nn} {P P' : Option Addr} {m k m' k' : Nat} (h : Own w g 57 #[.int .i64 (a.kind : Int), .int .i64 (a.k : Int), .slice P m k, .int .i64 (b.kind : Int), .int .i64 (b.k : Int), .slice P' m' k']) (h1 : Rd w P m k (VI (ints a.args))) (h2 : Rd w P' m' k' (VI (ints b.args))) : RdN w (some ⟨g, 0, none⟩) 2 2 (rawL [a, b]) := by
  refine ⟨rfl, by omega, by omega, fun e => (by cases e), fun _ => ⟨_, rfl, h.lt, fun j hj => ?_⟩⟩
  rw [add_plain]
  have : j = 0 ∨ j = 1 := by omega
  rcases this with rfl | rfl
  · exact ⟨P, m, k, by rw [h.cell]; rfl, by rw [h.cell]; rfl, by rw [h.cell]; rfl, h1⟩
  · exact ⟨P', m', k', by rw [h.cell]; rfl, by rw [h.cell]; rfl, by rw [h.cell]; rfl, h2⟩
theorem rdN_one9 {w : World} {g : Nat} {a : Nn} {P : Option Addr} {m k : Nat} (h : Own w g 57 #[.int .i64 (a.kind : Int), .int .i64 (a.k : Int), .slice P m k]) (h1 : Rd w P m k (VI (ints a.args))) : RdN w (some ⟨g, 0, none⟩) 1 1 (rawL [a]) := by
  refine ⟨rfl, by omega, by omega, fun e => (by cases e), fun _ => ⟨_, rfl, h.lt, fun j hj => ?_⟩⟩
  rw [add_plain]
  obtain rfl : j = 0 := by omega
  exact ⟨P, m, k, by rw [h.cell]; rfl, by rw [h.cell]; rfl, by rw [h.cell]; rfl, h1⟩
set_option maxHeartbeats 4000000 in
theorem example9_any (w : World) : Calls Try.prog 28 #[] w fun e w' => ∃ A c, e = .returned (.agg #[.int .i64 3, .slice A 2 c, .int .i64 4]) ∧ RdN w' A 2 c (rawL ex9.nodes) ∧ On w w' := by
  obtain ⟨q, hq⟩ : ∃ q, w.heap.size = q := ⟨_, rfl⟩
  obtain ⟨o0, ho0⟩ : ∃ o0, o0 = Obj.cells #[.int .i64 3, .slice (some ⟨q + 1 + 1 + 1, 0, none⟩) 2 2, .int .i64 4] 24 := ⟨_, rfl⟩
  obtain ⟨o1, ho1⟩ : ∃ o1, o1 = Obj.cells #[.int .i64 1, .int .i64 2] 3 := ⟨_, rfl⟩
  obtain ⟨o2, ho2⟩ : ∃ o2, o2 = Obj.cells #[.int .i64 0, .int .i64 3] 3 := ⟨_, rfl⟩
  obtain ⟨o3, ho3⟩ : ∃ o3, o3 = Obj.cells #[.int .i64 2, .int .i64 0, .slice (some ⟨q + 1, 0, none⟩) 2 2, .int .i64 3, .int .i64 0, .slice (some ⟨q + 1 + 1, 0, none⟩) 2 2] 57 := ⟨_, rfl⟩
  have O0 : Own ((((w.alloc o0).alloc o1).alloc o2).alloc o3) q 24 #[.int .i64 3, .slice (some ⟨q + 1 + 1 + 1, 0, none⟩) 2 2, .int .i64 4] := by
    rw [ho0]; exact (((own_alloc9 hq).alloc _).alloc _).alloc _
  have O1 : Own ((((w.alloc o0).alloc o1).alloc o2).alloc o3) (q + 1) 3 #[.int .i64 1, .int .i64 2] := by
    rw [ho1]; exact ((own_alloc9 (size_alloc9 hq)).alloc _).alloc _
  have O2 : Own ((((w.alloc o0).alloc o1).alloc o2).alloc o3) (q + 1 + 1) 3 #[.int .i64 0, .int .i64 3] := by
    rw [ho2]; exact (own_alloc9 (size_alloc9 (size_alloc9 hq))).alloc _
  have O3 : Own ((((w.alloc o0).alloc o1).alloc o2).alloc o3) (q + 1 + 1 + 1) 57 #[.int .i64 2, .int .i64 0, .slice (some ⟨q + 1, 0, none⟩) 2 2, .int .i64 3, .int .i64 0, .slice (some ⟨q + 1 + 1, 0, none⟩) 2 2] := by
    rw [ho3]; exact own_alloc9 (size_alloc9 (size_alloc9 (size_alloc9 hq)))
  have RN : RdN ((((w.alloc o0).alloc o1).alloc o2).alloc o3) (some ⟨q + 1 + 1 + 1, 0, none⟩) 2 2 (rawL ex9.nodes) :=
    rdN_two9 (a := ⟨2, 0, [1, 2]⟩) (b := ⟨3, 0, [0, 3]⟩) O3 (rd_own9 O1 rfl rfl (by omega)) (rd_own9 O2 rfl rfl (by omega))
  have PN : On w ((((w.alloc o0).alloc o1).alloc o2).alloc o3) := ((((On.refl w).alloc _).alloc _).alloc _).alloc _
  obtain ⟨r0, r1, r2⟩ := own3 O0
  rw [ho0, ho1, ho2, ho3] at RN PN r0 r1 r2
  have HN := Lib.hid (And.intro RN PN)
  clear RN PN O0 O1 O2 O3 ho0 ho1 ho2 ho3
  go_enter Try.func28, Try.ntmps28
  go_wp2
  exact bodyPost_ret (v := .agg #[.int .i64 3, .slice (some ⟨q + 1 + 1 + 1, 0, none⟩) 2 2, .int .i64 4]) (by simp [results, Try.results28, go_sem, r0, r1, r2]) rfl ⟨_, _, rfl, HN.out.1, HN.out.2⟩
set_option maxHeartbeats 4000000 in
theorem one_any (w : World) (A : Option Addr) (n c : Nat) (args : List Nat) (h : Rd w A n c (VI (ints args))) (kind k : Nat) :
    Calls Try.prog 26 #[.slice A n c, .int .i64 (kind : Int), .int .i64 (k : Int)] w fun e w' => ∃ B d, e = .returned (.agg #[.int .i64 (n : Int), .slice B 1 d, .int .i64 (n : Int)]) ∧ RdN w' B 1 d (rawL (oneF args kind k).nodes) ∧ On w w' := by
  have hcap := h.cap
  have hmax := h.max
  obtain ⟨q, hq⟩ : ∃ q, w.heap.size = q := ⟨_, rfl⟩
  obtain ⟨o0, ho0⟩ : ∃ o0, o0 = Obj.cells #[.int .i64 (n : Int), .slice (some ⟨q + 1, 0, none⟩) 1 1, .int .i64 (n : Int)] 24 := ⟨_, rfl⟩
  obtain ⟨o1, ho1⟩ : ∃ o1, o1 = Obj.cells #[.int .i64 (kind : Int), .int .i64 (k : Int), .slice A n c] 57 := ⟨_, rfl⟩
  have O0 : Own ((w.alloc o0).alloc o1) q 24 #[.int .i64 (n : Int), .slice (some ⟨q + 1, 0, none⟩) 1 1, .int .i64 (n : Int)] := by
    rw [ho0]; exact (own_alloc9 hq).alloc _
  have O1 : Own ((w.alloc o0).alloc o1) (q + 1) 57 #[.int .i64 (kind : Int), .int .i64 (k : Int), .slice A n c] := by
    rw [ho1]; exact own_alloc9 (size_alloc9 hq)
  have PN : On w ((w.alloc o0).alloc o1) := ((On.refl w).alloc _).alloc _
  have RN : RdN ((w.alloc o0).alloc o1) (some ⟨q + 1, 0, none⟩) 1 1 (rawL (oneF args kind k).nodes) := rdN_one9 (a := ⟨kind, k, args⟩) O1 (h.on PN)
  obtain ⟨r0, r1, r2⟩ := own3 O0
  rw [ho0, ho1] at RN PN r0 r1 r2
  have HN := Lib.hid (And.intro RN PN)
  clear RN PN O0 O1 ho0 ho1 h
  go_enter Try.func26, Try.ntmps26
  go_wp2
  exact bodyPost_ret (v := .agg #[.int .i64 (n : Int), .slice (some ⟨q + 1, 0, none⟩) 1 1, .int .i64 (n : Int)]) (by simp [results, Try.results26, go_sem, r0, r1, r2]) rfl ⟨_, _, rfl, HN.out.1, HN.out.2⟩
end Go.Proofs.Ytcnelmklfdfilaa.Fm
