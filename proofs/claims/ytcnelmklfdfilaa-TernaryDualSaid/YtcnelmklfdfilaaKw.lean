/-
  What the statements of three values begin with: the cube of two ints, the example.
-/
import Derived.Test.YtcnelmklfdfilaaKv
import Derived.Deep.DeepCutAuto
namespace Go.Proofs.Ytcnelmklfdfilaa.Fm
open Go.RowKit Go.Proofs.Ytcnelmklfdfilaa.Sb
set_option linter.unusedVariables false
set_option maxRecDepth 100000
theorem pow_pos3 (v : Nat) : 1 ≤ 2 ^ v := Nat.one_le_two_pow
/-- x & (2^v - 1) -/
theorem and_all3 (x : Int) (v : Nat) (hv : v ≤ 24) : bits .and .i64 x (((2 ^ v : Nat) : Int) - 1) = ((cut x % 2 ^ v : Nat) : Int) := by
  have h1 := pow_pos3 v
  have h2 := pow24 hv
  have e : (((2 ^ v : Nat) : Int) - 1) = ((2 ^ v - 1 : Nat) : Int) := by omega
  rw [e, and_small x _ (by omega), Nat.and_two_pow_sub_one_eq_mod]
def cuY (v : Nat) (yes : Int) : Nat := cut yes % 2 ^ v
def cuN (v : Nat) (yes no : Int) : Nat := without (cut no % 2 ^ v) (cuY v yes)
theorem cuY_lt (v : Nat) (yes : Int) : cuY v yes < 2 ^ v := Nat.mod_lt _ (Nat.two_pow_pos v)
theorem cuN_lt (v : Nat) (yes no : Int) : cuN v yes no < 2 ^ v := Nat.lt_of_le_of_lt (without_le _ _) (Nat.mod_lt _ (Nat.two_pow_pos v))
theorem cu_dis (v : Nat) (yes no : Int) : Dis (cuY v yes) (cuN v yes no) := by
  intro a ⟨h1, h2⟩
  unfold cuN at h2
  rw [without_tb, h1] at h2
  simp at h2
theorem cu24 {v : Nat} (hv : v ≤ 24) (yes no : Int) : cuY v yes < 16777216 ∧ cuN v yes no < 16777216 := by
  have h1 := cuY_lt v yes
  have h2 := cuN_lt v yes no
  have h3 := pow24 hv
  omega
set_option maxHeartbeats 4000000 in
theorem cube_any (w : World) (f : Fn) (hf : WF f) (A : Option Addr) (n c : Nat) (yes no : Int) :
    Calls Try.prog 22 #[.agg #[.int .i64 (f.vars : Int), .slice A n c, .int .i64 (f.top : Int)], .int .i64 yes, .int .i64 no] w fun e w' => e = .returned (.tuple #[cubV (cuY f.vars yes : Nat) (cuN f.vars yes no : Nat), .int .i64 (((2 ^ f.vars : Nat) : Int) - 1)]) ∧ On w w' := by
  have hp24 := pow24 hf.1
  have hp1 := pow_pos3 f.vars
  have hv64 : f.vars < 64 := by have := hf.1; omega
  have e1 := shl_step f.vars hf.1
  have ha1 := and_all3 yes f.vars hf.1
  have ha2 := and_all3 no f.vars hf.1
  have hb1 := cuY_lt f.vars yes
  have hb2 : cut no % 2 ^ f.vars < 2 ^ f.vars := Nat.mod_lt _ (Nat.two_pow_pos _)
  have ha3 := andNot_nat (cut no % 2 ^ f.vars) (cuY f.vars yes) (by omega) (by omega)
  have eY : cut yes % 2 ^ f.vars = cuY f.vars yes := rfl
  have eN : without (cut no % 2 ^ f.vars) (cuY f.vars yes) = cuN f.vars yes no := rfl
  rw [eY] at ha1
  rw [eN] at ha3
  obtain ⟨y, hy⟩ : ∃ y, cuY f.vars yes = y := ⟨_, rfl⟩
  obtain ⟨z, hz⟩ : ∃ z, cuN f.vars yes no = z := ⟨_, rfl⟩
  obtain ⟨b2, hb2e⟩ : ∃ b2, cut no % 2 ^ f.vars = b2 := ⟨_, rfl⟩
  obtain ⟨p2, hp2⟩ : ∃ p2, 2 ^ f.vars = p2 := ⟨_, rfl⟩
  rw [hy] at ha1 ha3
  rw [hb2e] at ha2 ha3
  rw [hz] at ha3
  rw [hp2] at e1 ha1 ha2 hp1 hp24
  rw [hy, hz, hp2]
  have hcp := fun W => clip_any W f.vars hf.1
  obtain ⟨q, hq⟩ : ∃ q, w.heap.size = q := ⟨_, rfl⟩
  obtain ⟨w0, hw0⟩ : ∃ w0, (w.alloc (.cells #[.int .i64 (f.vars : Int), .slice A n c, .int .i64 (f.top : Int)] 24)).alloc (.cells #[.int .i64 0, .int .i64 0] 26) = w0 := ⟨_, rfl⟩
  have O0 : Own w0 q 24 #[.int .i64 (f.vars : Int), .slice A n c, .int .i64 (f.top : Int)] := by rw [← hw0, ← hq]; exact (Own.new _ _ _).alloc _
  have C0 : Own w0 (q + 1) 26 #[.int .i64 0, .int .i64 0] := by
    rw [← hw0, ← hq]
    have := Own.new (w.alloc (.cells #[.int .i64 (f.vars : Int), .slice A n c, .int .i64 (f.top : Int)] 24)) 26 #[.int .i64 0, .int .i64 0]
    simpa using this
  have P0 : On w w0 := by rw [← hw0]; exact ((On.refl w).alloc _).alloc _
  have C1 := (C0.set_ 0 (.int .i64 (y : Int))).set_ 1 (.int .i64 (z : Int))
  obtain ⟨x0, x1⟩ := own2 (show Own _ (q + 1) 26 #[.int .i64 (y : Int), .int .i64 (z : Int)] from C1)
  obtain ⟨k0, k1⟩ := own2 C0
  have f0 := C0.frozen 0
  have f1 := C0.frozen 1
  obtain ⟨r0, r1, r2⟩ := own3 O0
  have PF : On w ((w0.setCell ⟨q + 1, 0, none⟩ (.int .i64 (y : Int))).setCell ⟨q + 1, 1, none⟩ (.int .i64 (z : Int))) := On.setCell (On.setCell P0 (p := ⟨q + 1, 0, none⟩) (by show w.heap.size ≤ q + 1; omega) _) (p := ⟨q + 1, 1, none⟩) (by show w.heap.size ≤ q + 1; omega) _
  have HP := Lib.hid PF
  have HA := Lib.hid (And.intro ha1 (And.intro ha2 ha3))
  clear PF P0 C0 C1 O0 hy hz hb2e hp2 eY eN hb1 hb2 hf ha1 ha2 ha3
  subst hq
  go_enter Try.func22, Try.ntmps22
  go_wp2_with fail
  refine (hcp _).mono ?_
  rintro e w1 ⟨rfl, rfl⟩
  clear hcp
  go_upto_region 2 with fail
  clear hp1 hp24 e1
  have ha1 := HA.out.1
  go_upto_region 3 with fail
  have ha2 := HA.out.2.1
  have ha3 := HA.out.2.2
  clear ha1
  go_wp2
  exact bodyPost_ret (v := .tuple #[cubV (y : Int) (z : Int), .int .i64 ((p2 : Int) - 1)]) (by simp [results, Try.results22, go_sem, x0, x1]) rfl ⟨rfl, HP.out⟩
end Go.Proofs.Ytcnelmklfdfilaa.Fm
