/-
  The specification's tables: Check, Table.
-/
import Derived.Test.YtpllgpjplliadaaFi
import Derived.Test.YtpllgpjplliadaaTp
namespace Go.Proofs.Ytpllgpjplliadaa.Fm
open Go.RowKit Go.Proofs.Ytpllgpjplliadaa.Sb
set_option linter.unusedVariables false
set_option maxRecDepth 100000
/-- the error of a formula for this layer -/
def chkT (vars : Int) (xs : List Nd) (top : Int) : Nat := if chk vars xs top = 0 then (if 12 < vars then 4 else 0) else chk vars xs top
theorem chkT_le (vars : Int) (xs : List Nd) (top : Int) (h : chkT vars xs top = 0) : ∃ f : Fn, WF f ∧ vars = (f.vars : Int) ∧ xs = rawL f.nodes ∧ top = (f.top : Int) ∧ f.vars ≤ 12 := by
  unfold chkT at h
  by_cases hz : chk vars xs top = 0
  · rw [if_pos hz] at h
    obtain ⟨f, hf, rfl, rfl, rfl⟩ := chk_zero hz
    refine ⟨f, hf, rfl, rfl, rfl, ?_⟩
    by_cases h12 : (12 : Int) < (f.vars : Int)
    · rw [if_pos h12] at h; omega
    · omega
  · rw [if_neg hz] at h; exact absurd h hz
theorem chkT_ok {f : Fn} (hf : WF f) (hv : f.vars ≤ 12) : chkT (f.vars : Int) (rawL f.nodes) (f.top : Int) = 0 := by
  unfold chkT
  rw [if_pos (chk_ok hf), if_neg (by omega)]
theorem pow12 {v : Nat} (h : v ≤ 12) : 2 ^ v ≤ 4096 := by
  have : 2 ^ v ≤ 2 ^ 12 := Nat.pow_le_pow_right (by omega) h
  omega
set_option maxHeartbeats 4000000 in
theorem rchkT_any (w : World) (vars top : Int) (A : Option Addr) (n c : Nat) (xs : List Nd) (h : RdN w A n c xs) (hv : I64 vars) (ht : I64 top) :
    Calls Try.prog 16 #[.agg #[.int .i64 vars, .slice A n c, .int .i64 top]] w fun e w' => e = .returned (.int .i64 (chkT vars xs top : Nat)) ∧ On w w' := by
  obtain ⟨q, hq⟩ : ∃ q, w.heap.size = q := ⟨_, rfl⟩
  obtain ⟨w0, hw0⟩ : ∃ w0, w.alloc (.cells #[.int .i64 vars, .slice A n c, .int .i64 top] 24) = w0 := ⟨_, rfl⟩
  have O0 : Own w0 q 24 #[.int .i64 vars, .slice A n c, .int .i64 top] := by rw [← hw0, ← hq]; exact Own.new _ _ _
  have P0 : On w w0 := by rw [← hw0]; exact (On.refl w).alloc _
  have hC := rcheck_any w0 vars top A n c xs (h.on P0) hv ht
  rw [← hw0] at hC
  have HO := Lib.hid (And.intro O0 (And.intro P0 hw0))
  unfold chkT
  obtain ⟨er, her⟩ : ∃ er, chk vars xs top = er := ⟨_, rfl⟩
  rw [her] at hC ⊢
  clear h O0 P0 hw0 hv ht her
  by_cases hz : er = 0
  · subst hz
    rw [if_pos rfl]
    by_cases h12 : 12 < vars
    · rw [if_pos h12]
      go_enter Try.func16, Try.ntmps16
      go_wp2_with fail
      refine hC.mono ?_
      rintro e w1 ⟨rfl, P1⟩
      rw [HO.out.2.2] at P1
      clear hC
      obtain ⟨r0, r1, r2⟩ := own3 (HO.out.1.on P1)
      go_wp2
      go_ret
      exact ⟨rfl, HO.out.2.1.trans P1⟩
    · rw [if_neg h12]
      go_enter Try.func16, Try.ntmps16
      go_wp2_with fail
      refine hC.mono ?_
      rintro e w1 ⟨rfl, P1⟩
      rw [HO.out.2.2] at P1
      clear hC
      obtain ⟨r0, r1, r2⟩ := own3 (HO.out.1.on P1)
      go_wp2
      go_ret
      exact ⟨rfl, HO.out.2.1.trans P1⟩
  · rw [if_neg hz]
    have h0 : ¬ (er : Int) = 0 := by omega
    go_enter Try.func16, Try.ntmps16
    go_wp2_with fail
    refine hC.mono ?_
    rintro e w1 ⟨rfl, P1⟩
    rw [HO.out.2.2] at P1
    clear hC
    go_wp2
    go_ret
    exact ⟨rfl, HO.out.2.1.trans P1⟩
/-- a list keeps its elements when another block is written -/
theorem rd_far {w : World} {A : Option Addr} {n c : Nat} {xs : List Value} (h : Rd w A n c xs) (p : Addr) (u : Value) (hne : ∀ ad, A = some ad → ad.block ≠ p.block) : Rd (w.setCell p u) A n c xs := by
  refine ⟨h.1, h.2.1, h.2.2.1, h.none_, fun hn => ?_⟩
  obtain ⟨ad, e, hb, hc⟩ := h.2.2.2.2 hn
  refine ⟨ad, e, by simpa [World.setCell] using hb, fun j x hj => ?_⟩
  exact (World.cell?_of_block (by rw [block_of_add]; exact Below.heap_setCell w p u _ (hne ad e))).trans (hc j x hj)
/-- the first t values -/
def tabTo (f : Fn) (t : Nat) : List Bool := (List.range t).map (val f)
theorem tabTo_succ (f : Fn) (t : Nat) : VB (tabTo f (t + 1)) = VB (tabTo f t) ++ [.bool (val f t)] := by
  unfold tabTo VB; rw [List.range_succ]; simp
theorem tabTo_full (f : Fn) : tabTo f (2 ^ f.vars) = tab f := rfl
set_option maxHeartbeats 8000000 in
theorem rtable_ok (w : World) (f : Fn) (hf : WF f) (hv12 : f.vars ≤ 12) (A : Option Addr) (n c : Nat) (h : RdN w A n c (rawL f.nodes)) (m : Nat) (hm : 2 ^ f.vars = m) :
    Calls Try.prog 19 #[.agg #[.int .i64 (f.vars : Int), .slice A n c, .int .i64 (f.top : Int)]] w fun e w' => ∃ B d, e = .returned (.slice B m d) ∧ Rd w' B m d (VB (tab f)) ∧ (∀ ad, B = some ad → w.heap.size ≤ ad.block) ∧ On w w' := by
  have hm12 := pow12 hv12
  rw [hm] at hm12
  have e1 := shl_step f.vars hf.1
  rw [hm] at e1
  have hv64 : f.vars < 64 := by omega
  obtain ⟨q, hq⟩ : ∃ q, w.heap.size = q := ⟨_, rfl⟩
  obtain ⟨w0, hw0⟩ : ∃ w0, w.alloc (.cells #[.int .i64 (f.vars : Int), .slice A n c, .int .i64 (f.top : Int)] 24) = w0 := ⟨_, rfl⟩
  have O0 : Own w0 q 24 #[.int .i64 (f.vars : Int), .slice A n c, .int .i64 (f.top : Int)] := by rw [← hw0, ← hq]; exact Own.new _ _ _
  have P0 : On w w0 := by rw [← hw0]; exact (On.refl w).alloc _
  obtain ⟨r0, r1, r2⟩ := own3 O0
  have HO := Lib.hid (And.intro O0 (And.intro P0 (And.intro h (And.intro hf hm))))
  have HW0 := Lib.hid hw0
  clear h O0 P0 hf hw0 hm
  go_enter Try.func19, Try.ntmps19
  go_wp2
  rw [HW0.out, e1]
  clear r0 r1 r2 e1 HW0
  go_loopw [3, 8] (fun v i wr => ∃ t : Nat, t ≤ m ∧ i = .int .i64 (t : Int) ∧ wr.ownsRow w0.heap.size 4 1 v t (VB (tabTo f t)) ∧ On w0 wr) (fun _ i _ => m - (intOf i).toNat)
  case atStart => exact ⟨0, by omega, rfl, row_nil _ _ _, On.refl _⟩
  case round =>
    obtain ⟨t, ht, rfl, hrow, hon⟩ := hrel
    obtain ⟨A4, c4, rfl⟩ := row_form hrow
    by_cases hlt : t < m
    · have hV := rvalue_ok wr f HO.out.2.2.2.1 A n c (HO.out.2.2.1.on (HO.out.2.1.trans hon)) t (by rw [HO.out.2.2.2.2]; exact hlt)
      obtain ⟨r0, r1, r2⟩ := own3 (HO.out.1.on hon)
      have HROW := Lib.hid (And.intro hrow hon)
      clear hrow hon
      go_wp2_with fail
      refine hV.mono ?_
      rintro e w4 ⟨rfl, P4⟩
      clear hV r0 r1 r2
      have hrow4 := row_on HROW.out.1 P4
      have hsz := P4.size
      have hsz0 := HROW.out.2.size
      have HR4 := Lib.hid hrow4
      clear hrow4
      go_wp2_with (at_builtin; refine wpList_app rfl (.tmp 11) (.tmp 15) 27 rfl w0.heap.size 4 (.bool false) 1 Try.underlying27 infob rfl (by decide) (.slice A4 t c4) _ (VB (tabTo f t)) rfl (row_alloc HR4.out _) (some ⟨w4.heap.size, 0, none⟩) 1 1 [.bool (val f t)] rfl (rd_one _ _ _) (by simp [Value.oneCell']) (by omega) (by simp; omega) ?_; intro v' w5 hown5 hgrow5 _)
      go_roundw
      case rel =>
        refine ⟨t + 1, by omega, by go_num, ?_, on_row ((HROW.out.2.trans P4).alloc _) (row_alloc HR4.out _) (Nat.le_refl _) hgrow5⟩
        rw [tabTo_succ]; exact hown5
      case measure => simp [intOf] <;> omega
    · obtain rfl : t = m := by omega
      have hA := rd_of_row hrow
      have et : tabTo f t = tab f := by rw [← HO.out.2.2.2.2]; rfl
      rw [et] at hA
      have hfr : ∀ ad, A4 = some ad → w.heap.size ≤ ad.block := by
        intro ad e
        subst e
        have h0 := HO.out.2.1.size
        rcases hrow.2 with ⟨hv, _⟩ | ⟨g, cap, cur, hv, hb, _⟩
        · injection hv with h1; cases h1
        · injection hv with h1; injection h1 with h1; subst h1; exact Nat.le_trans h0 hb
      have HA := Lib.hid (And.intro hA (And.intro hfr (HO.out.2.1.trans hon)))
      clear hrow hA hon hfr
      go_wp2
      go_ret
      exact ⟨_, _, rfl, HA.out.1, HA.out.2.1, HA.out.2.2⟩
end Go.Proofs.Ytpllgpjplliadaa.Fm
