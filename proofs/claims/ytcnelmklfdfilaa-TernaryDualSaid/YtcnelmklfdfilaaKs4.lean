/-
  The program's three values: Value, Decided, and what all functions refuse.
-/
import Derived.Test.YtcnelmklfdfilaaKs3
namespace Go.Proofs.Ytcnelmklfdfilaa.Fm
open Go.RowKit Go.Proofs.Ytcnelmklfdfilaa.Sb
set_option linter.unusedVariables false
set_option maxRecDepth 100000
set_option maxHeartbeats 4000000 in
theorem tvalue_any (w : World) (vars top : Int) (A : Option Addr) (n c : Nat) (xs : List Nd) (h : RdN w A n c xs) (hv : I64 vars) (ht : I64 top) (y nn : Int) (hbad : tchk vars xs top y nn ≠ 0) :
    Calls Try.prog 11 #[.agg #[.int .i64 vars, .slice A n c, .int .i64 top], cubV y nn] w fun e w' => e = .returned (.tuple #[.int .i64 0, errV (tchk vars xs top y nn)]) ∧ On w w' := by
  have P0 := ((On.refl w).alloc (.cells #[.int .i64 vars, .slice A n c, .int .i64 top] 24)).alloc (.cells #[.int .i64 y, .int .i64 nn] 26)
  have hC := tvalues_bad _ vars top A n c xs (h.on P0) hv ht y nn hbad
  obtain ⟨er, her⟩ : ∃ er, tchk vars xs top y nn = er := ⟨_, rfl⟩
  rw [her] at hC hbad ⊢
  rw [errV_pos er hbad] at hC ⊢
  clear her h hv ht hbad
  go_enter Try.func11, Try.ntmps11
  go_wp2_with fail
  refine hC.mono ?_
  rintro e w1 ⟨rfl, P1⟩
  clear hC
  go_wp2
  go_ret2
  exact ⟨rfl, P0.trans P1⟩
set_option maxHeartbeats 4000000 in
theorem tdecided_any (w : World) (vars top : Int) (A : Option Addr) (n c : Nat) (xs : List Nd) (h : RdN w A n c xs) (hv : I64 vars) (ht : I64 top) (y nn : Int) (hbad : tchk vars xs top y nn ≠ 0) :
    Calls Try.prog 13 #[.agg #[.int .i64 vars, .slice A n c, .int .i64 top], cubV y nn] w fun e w' => e = .returned (.tuple #[.bool false, errV (tchk vars xs top y nn)]) ∧ On w w' := by
  have P0 := ((On.refl w).alloc (.cells #[.int .i64 vars, .slice A n c, .int .i64 top] 24)).alloc (.cells #[.int .i64 y, .int .i64 nn] 26)
  have hC := tvalue_any _ vars top A n c xs (h.on P0) hv ht y nn hbad
  obtain ⟨er, her⟩ : ∃ er, tchk vars xs top y nn = er := ⟨_, rfl⟩
  rw [her] at hC hbad ⊢
  rw [errV_pos er hbad] at hC ⊢
  clear her h hv ht hbad
  go_enter Try.func13, Try.ntmps13
  go_wp2_with fail
  refine hC.mono ?_
  rintro e w1 ⟨rfl, P1⟩
  clear hC
  go_wp2
  go_ret2
  exact ⟨rfl, P0.trans P1⟩
set_option maxHeartbeats 4000000 in
theorem tnext_any (w : World) (vars top : Int) (A : Option Addr) (n c : Nat) (xs : List Nd) (h : RdN w A n c xs) (hv : I64 vars) (ht : I64 top) (y nn : Int) (hbad : tchk vars xs top y nn ≠ 0) :
    Calls Try.prog 14 #[.agg #[.int .i64 vars, .slice A n c, .int .i64 top], cubV y nn] w fun e w' => e = .returned (.tuple #[.int .i64 0, errV (tchk vars xs top y nn)]) ∧ On w w' := by
  have P0 := ((On.refl w).alloc (.cells #[.int .i64 vars, .slice A n c, .int .i64 top] 24)).alloc (.cells #[.int .i64 y, .int .i64 nn] 26)
  have hC := tvalues_bad _ vars top A n c xs (h.on P0) hv ht y nn hbad
  obtain ⟨er, her⟩ : ∃ er, tchk vars xs top y nn = er := ⟨_, rfl⟩
  rw [her] at hC hbad ⊢
  rw [errV_pos er hbad] at hC ⊢
  clear her h hv ht hbad
  go_enter Try.func14, Try.ntmps14
  go_wp2_with fail
  refine hC.mono ?_
  rintro e w1 ⟨rfl, P1⟩
  clear hC
  go_wp2
  go_ret2
  exact ⟨rfl, (P0.trans P1).alloc _⟩
set_option maxHeartbeats 8000000 in
theorem tvalue_ok (w : World) (f : Fn) (hf : WF f) (A : Option Addr) (n c : Nat) (h : RdN w A n c (rawL f.nodes)) (y nn : Nat) (hy : y < 2 ^ f.vars) (hnn : nn < 2 ^ f.vars) (hd : Dis y nn) :
    Calls Try.prog 11 #[.agg #[.int .i64 (f.vars : Int), .slice A n c, .int .i64 (f.top : Int)], cubV (y : Int) (nn : Int)] w fun e w' => e = .returned (.tuple #[.int .i64 (tval f y nn : Nat), .nilIface]) ∧ On w w' := by
  have hn : f.nodes.length = n := by have := h.len; rwa [raw_len] at this
  have hp24 := pow24 hf.1
  have htop := hf.2.2.2
  have hn128 := hf.2.1
  obtain ⟨q, hq⟩ : ∃ q, w.heap.size = q := ⟨_, rfl⟩
  obtain ⟨w0, hw0⟩ : ∃ w0, (w.alloc (.cells #[.int .i64 (f.vars : Int), .slice A n c, .int .i64 (f.top : Int)] 24)).alloc (.cells #[.int .i64 (y : Int), .int .i64 (nn : Int)] 26) = w0 := ⟨_, rfl⟩
  have O0 : Own w0 q 24 #[.int .i64 (f.vars : Int), .slice A n c, .int .i64 (f.top : Int)] := by rw [← hw0, ← hq]; exact (Own.new _ _ _).alloc _
  have C0 : Own w0 (q + 1) 26 #[.int .i64 (y : Int), .int .i64 (nn : Int)] := by
    rw [← hw0, ← hq]
    have := Own.new (w.alloc (.cells #[.int .i64 (f.vars : Int), .slice A n c, .int .i64 (f.top : Int)] 24)) 26 #[.int .i64 (y : Int), .int .i64 (nn : Int)]
    simpa using this
  have P0 : On w w0 := by rw [← hw0]; exact ((On.refl w).alloc _).alloc _
  have hC := tvalues_ok w0 f hf A n c (h.on P0) y nn hy hnn hd
  rw [← hw0] at hC
  have HO := Lib.hid (And.intro O0 (And.intro C0 (And.intro P0 hw0)))
  have HF := Lib.hid (And.intro hf hn)
  clear h O0 C0 P0 hw0
  go_enter Try.func11, Try.ntmps11
  go_wp2_with fail
  refine hC.mono ?_
  rintro e w1 ⟨g, rfl, OG, hg, P1⟩
  rw [HO.out.2.2.2] at P1
  clear hC
  obtain ⟨r0, r1, r2⟩ := own3 (HO.out.1.on P1)
  obtain ⟨k0, k1⟩ := own2 (HO.out.2.1.on P1)
  have hV := tof_any w1 f.vars (f.top : Int) A n c (some ⟨g, 0, none⟩) n n (tvals f y nn) y nn f.top (own_rdI OG (by rw [tvals_len]; exact hn) (by omega)) (by omega) (by omega) hf.1 (by omega)
  have HE : tval f y nn = argT f.vars (tvals f y nn) y nn f.top := rfl
  rw [← HE] at hV
  clear OG HE hg hy hnn hf hd hp24 hn
  go_wp2_with fail
  refine hV.mono ?_
  rintro e w2 ⟨rfl, P2⟩
  go_wp2
  go_ret2
  exact ⟨rfl, (HO.out.2.2.1.trans P1).trans P2⟩
set_option maxHeartbeats 8000000 in
theorem tdecided_ok (w : World) (f : Fn) (hf : WF f) (A : Option Addr) (n c : Nat) (h : RdN w A n c (rawL f.nodes)) (y nn : Nat) (hy : y < 2 ^ f.vars) (hnn : nn < 2 ^ f.vars) (hd : Dis y nn) :
    Calls Try.prog 13 #[.agg #[.int .i64 (f.vars : Int), .slice A n c, .int .i64 (f.top : Int)], cubV (y : Int) (nn : Int)] w fun e w' => e = .returned (.tuple #[.bool (tval f y nn != 2), .nilIface]) ∧ On w w' := by
  have P0 := ((On.refl w).alloc (.cells #[.int .i64 (f.vars : Int), .slice A n c, .int .i64 (f.top : Int)] 24)).alloc (.cells #[.int .i64 (y : Int), .int .i64 (nn : Int)] 26)
  have hC := tvalue_ok _ f hf A n c (h.on P0) y nn hy hnn hd
  have hle := tval_le f y nn
  obtain ⟨v, hv⟩ : ∃ v, tval f y nn = v := ⟨_, rfl⟩
  rw [hv] at hC hle ⊢
  have hv3 : v = 0 ∨ v = 1 ∨ v = 2 := by omega
  clear h hf hy hnn hd hv hle
  rcases hv3 with rfl | rfl | rfl
  · go_enter Try.func13, Try.ntmps13
    go_wp2_with fail
    refine hC.mono ?_
    rintro e w1 ⟨rfl, P1⟩
    clear hC
    go_wp2
    go_ret2
    exact ⟨rfl, P0.trans P1⟩
  · go_enter Try.func13, Try.ntmps13
    go_wp2_with fail
    refine hC.mono ?_
    rintro e w1 ⟨rfl, P1⟩
    clear hC
    go_wp2
    go_ret2
    exact ⟨rfl, P0.trans P1⟩
  · go_enter Try.func13, Try.ntmps13
    go_wp2_with fail
    refine hC.mono ?_
    rintro e w1 ⟨rfl, P1⟩
    clear hC
    go_wp2
    go_ret2
    exact ⟨rfl, P0.trans P1⟩
end Go.Proofs.Ytcnelmklfdfilaa.Fm
