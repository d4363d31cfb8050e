/-
  Value of both; Set; a set of failed events that is none.
-/
import Derived.Test.YtmkogcaafkobaaaFy
import Derived.Deep.RegionHeld3
namespace Go.Proofs.Ytmkogcaafkobaaa.Fm
open Go.RowKit Go.Proofs.Ytmkogcaafkobaaa.Sb
set_option linter.unusedVariables false
set_option maxRecDepth 100000
/-- a set of failed events -/
def setB (vars : Nat) (s : Int) : Bool := decide (0 ≤ s) && decide (s < ((2 ^ vars : Nat) : Int))
theorem setB_nat {vars : Nat} {s : Int} (h : setB vars s = true) : ∃ k : Nat, s = (k : Int) ∧ k < 2 ^ vars := by
  unfold setB at h
  simp at h
  obtain ⟨h1, h2⟩ := h
  refine ⟨s.toNat, by omega, ?_⟩
  have : ((s.toNat : Nat) : Int) < ((2 ^ vars : Nat) : Int) := by rw [Int.toNat_of_nonneg h1]; push_cast; exact h2
  exact_mod_cast this
set_option maxHeartbeats 4000000 in
theorem values_err (w : World) (f : Fn) (hf : WF f) (A : Option Addr) (n c : Nat) (h : RdN w A n c (rawL f.nodes)) (s : Int) (hs : setB f.vars s = false) :
    Calls Try.prog 35 #[.agg #[.int .i64 (f.vars : Int), .slice A n c, .int .i64 (f.top : Int)], .int .i64 s] w fun e w' => e = .returned (.tuple #[.slice none 0 0, errV 3]) ∧ On w w' := by
  have hn : f.nodes.length = n := by have := h.len; rwa [raw_len] at this
  have hcap := h.cap
  have hmax := h.max
  have hv := hf.1
  have hn128 := hf.2.1
  rw [hn] at hn128
  obtain ⟨q, hq⟩ : ∃ q, w.heap.size = q := ⟨_, rfl⟩
  obtain ⟨w0, hw0⟩ : ∃ w0, w.alloc (.cells #[.int .i64 (f.vars : Int), .slice A n c, .int .i64 (f.top : Int)] 24) = w0 := ⟨_, rfl⟩
  have O0 : Own w0 q 24 #[.int .i64 (f.vars : Int), .slice A n c, .int .i64 (f.top : Int)] := by rw [← hw0, ← hq]; exact Own.new _ _ _
  have P0 : On w w0 := by rw [← hw0]; exact (On.refl w).alloc _
  have hC := check_any w0 (f.vars : Int) (f.top : Int) A n c _ (h.on P0) (by unfold I64; omega) (by unfold I64; have := hf.2.2.2; omega)
  rw [chk_ok hf, errV_zero, ← hw0] at hC
  have HO := Lib.hid O0
  have HP := Lib.hid P0
  have HW := Lib.hid hw0
  have e1 := shl_step f.vars hv
  have hv64 : f.vars < 64 := by omega
  unfold setB at hs
  obtain ⟨p2, hp2⟩ : ∃ p2, 2 ^ f.vars = p2 := ⟨_, rfl⟩
  rw [hp2] at e1 hs
  clear h hn hf O0 P0 hw0 hp2
  by_cases h1 : s < 0
  · clear hs
    go_enter Try.func35, Try.ntmps35
    go_wp2_with fail
    refine hC.mono ?_
    rintro e w1 ⟨rfl, P1⟩
    rw [HW.out] at P1
    clear hC
    have r0 := (HO.out.on P1).cell 0
    simp at r0
    go_wp2
    go_ret2
    exact ⟨rfl, HP.out.trans P1⟩
  · have h2 : (p2 : Int) ≤ s := by
      simp at hs
      omega
    clear hs
    go_enter Try.func35, Try.ntmps35
    go_wp2_with fail
    refine hC.mono ?_
    rintro e w1 ⟨rfl, P1⟩
    rw [HW.out] at P1
    clear hC
    have r0 := (HO.out.on P1).cell 0
    simp at r0
    go_wp2
    go_ret2
    exact ⟨rfl, HP.out.trans P1⟩
set_option maxHeartbeats 4000000 in
theorem value_err (w : World) (f : Fn) (hf : WF f) (A : Option Addr) (n c : Nat) (h : RdN w A n c (rawL f.nodes)) (s : Int) (hs : setB f.vars s = false) :
    Calls Try.prog 15 #[.agg #[.int .i64 (f.vars : Int), .slice A n c, .int .i64 (f.top : Int)], .int .i64 s] w fun e w' => e = .returned (.tuple #[.bool false, errV 3]) ∧ On w w' := by
  have P0 := (On.refl w).alloc (.cells #[.int .i64 (f.vars : Int), .slice A n c, .int .i64 (f.top : Int)] 24)
  have hC := values_err _ f hf A n c (h.on P0) s hs
  rw [errV_pos 3 (by decide)] at hC ⊢
  clear h hf hs
  go_enter Try.func15, Try.ntmps15
  go_wp2_with fail
  refine hC.mono ?_
  rintro e w1 ⟨rfl, P1⟩
  clear hC
  go_wp2
  go_ret2
  exact ⟨rfl, P0.trans P1⟩
set_option maxHeartbeats 4000000 in
theorem value_ok (w : World) (f : Fn) (hf : WF f) (A : Option Addr) (n c : Nat) (h : RdN w A n c (rawL f.nodes)) (s : Nat) (hs : s < 2 ^ f.vars) :
    Calls Try.prog 15 #[.agg #[.int .i64 (f.vars : Int), .slice A n c, .int .i64 (f.top : Int)], .int .i64 (s : Int)] w fun e w' => e = .returned (.tuple #[.bool (val f s), .nilIface]) ∧ On w w' := by
  have hn : f.nodes.length = n := by have := h.len; rwa [raw_len] at this
  have hp24 := pow24 hf.1
  have htop := hf.2.2.2
  have hn128 := hf.2.1
  obtain ⟨q, hq⟩ : ∃ q, w.heap.size = q := ⟨_, rfl⟩
  obtain ⟨w0, hw0⟩ : ∃ w0, w.alloc (.cells #[.int .i64 (f.vars : Int), .slice A n c, .int .i64 (f.top : Int)] 24) = w0 := ⟨_, rfl⟩
  have O0 : Own w0 q 24 #[.int .i64 (f.vars : Int), .slice A n c, .int .i64 (f.top : Int)] := by rw [← hw0, ← hq]; exact Own.new _ _ _
  have P0 : On w w0 := by rw [← hw0]; exact (On.refl w).alloc _
  have hC := values_ok w0 f hf A n c (h.on P0) s hs
  rw [← hw0] at hC
  have HO := Lib.hid (And.intro O0 (And.intro P0 hw0))
  have HF := Lib.hid (And.intro hf hn)
  clear h O0 P0 hw0
  go_enter Try.func15, Try.ntmps15
  go_wp2_with fail
  refine hC.mono ?_
  rintro e w1 ⟨g, rfl, OG, hg, P1⟩
  rw [HO.out.2.2] at P1
  clear hC
  have O1 := HO.out.1.on P1
  have r0 := O1.cell 0
  have r1 := O1.cell 1
  have r2 := O1.cell 2
  simp at r0 r1 r2
  have hV := valueOf_any w1 f.vars (f.top : Int) A n c (some ⟨g, 0, none⟩) n n (vals f s) s f.top (own_rdB OG (by rw [vals_len]; exact hn) (by omega)) (by omega) hf.1 (by omega)
  have HE : val f s = argV f.vars (vals f s) s f.top := rfl
  rw [← HE] at hV
  clear OG O1 HE hg hs hf
  go_wp2_with fail
  refine hV.mono ?_
  rintro e w2 ⟨rfl, P2⟩
  go_wp2
  go_ret2
  exact ⟨rfl, (HO.out.2.1.trans P1).trans P2⟩
end Go.Proofs.Ytmkogcaafkobaaa.Fm
