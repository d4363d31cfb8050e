/-
  The value of an argument, of a node: valueOf, decide, Of.
-/
import Derived.Test.YtmkogcaafkobaaaFw
namespace Go.Proofs.Ytmkogcaafkobaaa.Fm
open Go.RowKit Go.Proofs.Ytmkogcaafkobaaa.Sb
set_option linter.unusedVariables false
set_option maxRecDepth 100000
/-- bools in memory -/
def VB (xs : List Bool) : List Value := xs.map Value.bool
theorem VB_length (xs : List Bool) : (VB xs).length = xs.length := by simp [VB]
theorem VB_get {xs : List Bool} {j : Nat} (h : j < xs.length) : (VB xs)[j]? = some (.bool (xs.getD j false)) := by
  simp [VB, h]
theorem VB_len {w : World} {P : Option Addr} {m k : Nat} {l : List Bool} (h : Rd w P m k (VB l)) : l.length = m := by have := h.len; rwa [VB_length] at this
theorem VB_at {w : World} {P : Option Addr} {m k : Nat} {l : List Bool} (h : Rd w P m k (VB l)) {j : Nat} (hj : j < m) : ∃ ad, P = some ad ∧ ad.block < w.heap.size ∧ w.cell? (ad.add j) = some (.bool (l.getD j false)) :=
  h.at_ j _ (VB_get (by have := VB_len h; omega))
theorem bit_step (s a : Nat) (hs : s < 16777216) : bits .and .i64 ((s >>> a : Nat) : Int) 1 = (((s >>> a) % 2 : Nat) : Int) := by
  have h1 : s >>> a < 16777216 := Nat.lt_of_le_of_lt (Nat.shiftRight_le s a) hs
  have := and_nat (s >>> a) 1 h1 (by omega)
  rw [Nat.and_one_is_mod] at this
  exact this
theorem tb_mod (s a : Nat) : s.testBit a = decide ((((s >>> a) % 2 : Nat) : Int) = 1) := by
  rw [Nat.testBit, Nat.one_and_eq_mod_two]
  have : s >>> a % 2 = 0 ∨ s >>> a % 2 = 1 := by omega
  rcases this with h | h <;> rw [h] <;> rfl
theorem tb_val (s a : Nat) (hs : s < 16777216) : (bits .and .i64 ((s : Int) / 2 ^ a) 1 == 1) = s.testBit a := by
  have e : ((s : Int) / 2 ^ a) = ((s >>> a : Nat) : Int) := by
    rw [Nat.shiftRight_eq_div_pow, Int.natCast_ediv, Int.natCast_pow]; rfl
  rw [e, bit_step s a hs, tb_mod]
  rfl
/-- the value of a node of which c arguments are true -/
def decB (kind k n c : Nat) : Bool :=
  if kind = 0 then decide (k = 1) else if kind = 1 then decide (c = 0) else if kind = 2 then decide (c = n)
  else if kind = 3 then decide (0 < c) else if kind = 4 then decide (k ≤ c) else decide (c % 2 = 1)
theorem cmbV_dec (kind k : Nat) (xs : List Bool) : cmbV kind k xs = decB kind k xs.length (xs.count true) := rfl
set_option maxHeartbeats 2000000 in
theorem valueOf_any (w : World) (vars : Nat) (top : Int) (A : Option Addr) (n c : Nat) (B : Option Addr) (m d : Nat) (vs : List Bool) (s a : Nat) (h : Rd w B m d (VB vs)) (hs : s < 16777216) (hv : vars ≤ 24) (ha : a < vars + m) :
    Calls Try.prog 36 #[.agg #[.int .i64 (vars : Int), .slice A n c, .int .i64 top], .slice B m d, .int .i64 (s : Int), .int .i64 (a : Int)] w fun e w' => e = .returned (.bool (argV vars vs s a)) ∧ On w w' := by
  have hcap := h.cap
  have hmax := h.max
  unfold argV argE
  by_cases h1 : a < vars
  · rw [if_pos h1]
    have HT := Lib.hid (tb_val s a hs)
    have h24 : a < 64 := by omega
    clear h
    go_enter Try.func36, Try.ntmps36
    go_wp2
    go_ret
    exact ⟨congrArg (fun b => Ending.returned (Value.bool b)) HT.out, (On.refl w).alloc _⟩
  · rw [if_neg h1]
    obtain ⟨j, hj⟩ : ∃ j, a = vars + j := ⟨a - vars, by omega⟩
    subst hj
    have e1 : ((vars + j : Nat) : Int) - (vars : Int) = (j : Int) := by omega
    rw [show vars + j - vars = j by omega]
    have hp := (On.refl w).alloc (.cells #[.int .i64 (vars : Int), .slice A n c, .int .i64 top] 24)
    obtain ⟨ad, rfl, hb, hc⟩ := VB_at (h.on hp) (j := j) (by omega)
    obtain ⟨b, hbv⟩ : ∃ b, vs.getD j false = b := ⟨_, rfl⟩
    rw [hbv] at hc ⊢
    clear hbv h hp
    have h2 : ¬ (vars : Int) + (j : Int) < (vars : Int) := by omega
    have e2 : (vars : Int) + (j : Int) - (vars : Int) = (j : Int) := by omega
    go_enter Try.func36, Try.ntmps36
    go_wp2
    go_ret
    exact ⟨rfl, (On.refl w).alloc _⟩
set_option maxHeartbeats 4000000 in
theorem decide_any (w : World) (x : Nn) (P : Option Addr) (m k : Nat) (cnt : Nat) (hm : x.args.length = m) (h5 : x.kind ≤ 5) (hc : cnt ≤ 1000) :
    Calls Try.prog 48 #[.agg #[.int .i64 (x.kind : Int), .int .i64 (x.k : Int), .slice P m k], .int .i64 (cnt : Int)] w fun e w' => e = .returned (.bool (decB x.kind x.k m cnt)) ∧ On w w' := by
  obtain ⟨kind, kk, args⟩ := x
  simp only at *
  clear hm
  have : kind = 0 ∨ kind = 1 ∨ kind = 2 ∨ kind = 3 ∨ kind = 4 ∨ kind = 5 := by omega
  rcases this with rfl | rfl | rfl | rfl | rfl | rfl
  · go_enter Try.func48, Try.ntmps48
    go_wp2
    go_ret
    refine ⟨congrArg (fun b => Ending.returned (Value.bool b)) ?_, (On.refl w).alloc _⟩
    show (_ == _) = decide (kk = 1)
    rw [Bool.eq_iff_iff]; simp <;> omega
  · go_enter Try.func48, Try.ntmps48
    go_wp2
    go_ret
    refine ⟨congrArg (fun b => Ending.returned (Value.bool b)) ?_, (On.refl w).alloc _⟩
    show (_ == _) = decide (cnt = 0)
    rw [Bool.eq_iff_iff]; simp
  · go_enter Try.func48, Try.ntmps48
    go_wp2
    go_ret
    refine ⟨congrArg (fun b => Ending.returned (Value.bool b)) ?_, (On.refl w).alloc _⟩
    show (_ == _) = decide (cnt = m)
    rw [Bool.eq_iff_iff]; simp <;> omega
  · go_enter Try.func48, Try.ntmps48
    go_wp2
    go_ret
    refine ⟨congrArg (fun b => Ending.returned (Value.bool b)) ?_, (On.refl w).alloc _⟩
    show decide _ = decide (0 < cnt)
    rw [Bool.eq_iff_iff]
  · go_enter Try.func48, Try.ntmps48
    go_wp2
    go_ret
    refine ⟨congrArg (fun b => Ending.returned (Value.bool b)) ?_, (On.refl w).alloc _⟩
    show decide _ = decide (kk ≤ cnt)
    rw [Bool.eq_iff_iff]
  · go_enter Try.func48, Try.ntmps48
    go_wp2
    go_ret
    refine ⟨congrArg (fun b => Ending.returned (Value.bool b)) ?_, (On.refl w).alloc _⟩
    show (_ == _) = decide (cnt % 2 = 1)
    rw [Bool.eq_iff_iff]; simp <;> omega
end Go.Proofs.Ytmkogcaafkobaaa.Fm
