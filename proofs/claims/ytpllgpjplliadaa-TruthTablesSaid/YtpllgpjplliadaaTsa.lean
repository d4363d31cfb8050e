/-
  The program's tables: Table.
-/
import Derived.Test.YtpllgpjplliadaaTb
namespace Go.Proofs.Ytpllgpjplliadaa.Fm
open Go.RowKit Go.Proofs.Ytpllgpjplliadaa.Sb
set_option linter.unusedVariables false
set_option maxRecDepth 100000
set_option maxHeartbeats 8000000 in
theorem ttab_bad (w : World) (vars top : Int) (A : Option Addr) (n c : Nat) (xs : List Nd) (h : RdN w A n c xs) (hv : I64 vars) (ht : I64 top) (hbad : chkT vars xs top ≠ 0) :
    Calls Try.prog 11 #[.agg #[.int .i64 vars, .slice A n c, .int .i64 top]] w fun e w' => ∃ B d, e = .returned (.tuple #[.slice B 0 d, errV (chkT vars xs top)]) ∧ On w w' := by
  obtain ⟨q, hq⟩ : ∃ q, w.heap.size = q := ⟨_, rfl⟩
  obtain ⟨w0, hw0⟩ : ∃ w0, w.alloc (.cells #[.int .i64 vars, .slice A n c, .int .i64 top] 24) = w0 := ⟨_, rfl⟩
  have O0 : Own w0 q 24 #[.int .i64 vars, .slice A n c, .int .i64 top] := by rw [← hw0, ← hq]; exact Own.new _ _ _
  have P0 : On w w0 := by rw [← hw0]; exact (On.refl w).alloc _
  have hC := check_any w0 vars top A n c xs (h.on P0) hv ht
  rw [← hw0] at hC
  have HO := Lib.hid (And.intro O0 (And.intro P0 hw0))
  unfold chkT at hbad ⊢
  obtain ⟨er, her⟩ : ∃ er, chk vars xs top = er := ⟨_, rfl⟩
  rw [her] at hC hbad ⊢
  clear h O0 P0 hw0 hv ht her
  by_cases hz : er = 0
  · subst hz
    rw [if_pos rfl] at hbad ⊢
    rw [errV_zero] at hC
    by_cases h12 : 12 < vars
    · rw [if_pos h12, errV_pos 4 (by decide)]
      go_enter Try.func11, Try.ntmps11
      go_wp2_with fail
      refine hC.mono ?_
      rintro e w1 ⟨rfl, P1⟩
      rw [HO.out.2.2] at P1
      clear hC
      obtain ⟨r0, r1, r2⟩ := own3 (HO.out.1.on P1)
      go_wp2
      go_ret2
      exact ⟨none, 0, rfl, HO.out.2.1.trans P1⟩
    · rw [if_neg h12] at hbad; exact absurd rfl hbad
  · rw [if_neg hz, errV_pos er hz]
    rw [errV_pos er hz] at hC
    go_enter Try.func11, Try.ntmps11
    go_wp2_with fail
    refine hC.mono ?_
    rintro e w1 ⟨rfl, P1⟩
    rw [HO.out.2.2] at P1
    clear hC
    go_wp2
    go_ret2
    exact ⟨none, 0, rfl, HO.out.2.1.trans P1⟩
/-- the first t values, the others still false -/
def trow (f : Fn) (m t : Nat) : List Bool := tabTo f t ++ List.replicate (m - t) false
theorem tabTo_len (f : Fn) (t : Nat) : (tabTo f t).length = t := by simp [tabTo]
theorem trow_zero (f : Fn) (m : Nat) : trow f m 0 = List.replicate m false := by simp [trow, tabTo]
theorem trow_full (f : Fn) (m : Nat) (hm : 2 ^ f.vars = m) : trow f m m = tab f := by
  unfold trow
  rw [Nat.sub_self, List.replicate_zero, List.append_nil, ← hm]; rfl
theorem trow_len {f : Fn} {m t : Nat} (h : t ≤ m) : (trow f m t).length = m := by
  unfold trow
  rw [List.length_append, tabTo_len, List.length_replicate]; omega
theorem trow_succ {f : Fn} {m t : Nat} (h : t < m) : (trow f m t).set t (val f t) = trow f m (t + 1) := by
  unfold trow
  obtain ⟨k, hk⟩ : ∃ k, m - t = k + 1 := ⟨m - t - 1, by omega⟩
  have e : m - (t + 1) = k := by omega
  have hl := tabTo_len f t
  have hs : tabTo f (t + 1) = tabTo f t ++ [val f t] := by
    unfold tabTo; rw [List.range_succ]; simp
  rw [hk, e, hs]
  conv => lhs; arg 2; rw [← hl]
  exact set_rep _ _ _ _
set_option maxHeartbeats 8000000 in
theorem ttab_ok (w : World) (f : Fn) (hf : WF f) (hv12 : f.vars ≤ 12) (A : Option Addr) (n c : Nat) (h : RdN w A n c (rawL f.nodes)) (m : Nat) (hm : 2 ^ f.vars = m) :
    Calls Try.prog 11 #[.agg #[.int .i64 (f.vars : Int), .slice A n c, .int .i64 (f.top : Int)]] w fun e w' => ∃ B d, e = .returned (.tuple #[.slice B m d, .nilIface]) ∧ Rd w' B m d (VB (tab f)) ∧ On w w' := by
  have hm12 := pow12 hv12
  rw [hm] at hm12
  have e1 := shl_step f.vars hf.1
  rw [hm] at e1
  have hv64 : f.vars < 64 := by omega
  obtain ⟨q, hq⟩ : ∃ q, w.heap.size = q := ⟨_, rfl⟩
  obtain ⟨w0, hw0⟩ : ∃ w0, w.alloc (.cells #[.int .i64 (f.vars : Int), .slice A n c, .int .i64 (f.top : Int)] 24) = w0 := ⟨_, rfl⟩
  have O0 : Own w0 q 24 #[.int .i64 (f.vars : Int), .slice A n c, .int .i64 (f.top : Int)] := by rw [← hw0, ← hq]; exact Own.new _ _ _
  have P0 : On w w0 := by rw [← hw0]; exact (On.refl w).alloc _
  have htop := hf.2.2.2
  have hn128 := hf.2.1
  have hC := check_any w0 (f.vars : Int) (f.top : Int) A n c _ (h.on P0) (by unfold I64; omega) (by unfold I64; omega)
  rw [chk_ok hf, errV_zero, ← hw0] at hC
  have HO := Lib.hid (And.intro O0 (And.intro P0 (And.intro h (And.intro hf (And.intro hm hw0)))))
  clear h O0 P0 hf hw0 hm htop hn128
  go_enter Try.func11, Try.ntmps11
  go_wp2_with fail
  refine hC.mono ?_
  rintro e w1 ⟨rfl, P1⟩
  rw [HO.out.2.2.2.2.2] at P1
  clear hC
  obtain ⟨r0, r1, r2⟩ := own3 (HO.out.1.on P1)
  have hmk := run_mkB m (by omega) w1
  obtain ⟨g, hg⟩ : ∃ g, w1.heap.size = g := ⟨_, rfl⟩
  obtain ⟨w2, hw2⟩ : ∃ w2, w1.alloc (.cells (VB (List.replicate m false)).toArray 4) = w2 := ⟨_, rfl⟩
  have OG : Own w2 g 4 (VB (List.replicate m false)).toArray := by rw [← hw2, ← hg]; exact Own.new _ _ _
  have P2 : On w1 w2 := by rw [← hw2]; exact (On.refl w1).alloc _
  have hgq : q < g := by have := HO.out.1.lt; have := P1.size; omega
  have hwg : w.heap.size ≤ g := by omega
  rw [hg, hw2] at hmk
  have H2 := Lib.hid (And.intro OG (And.intro ((HO.out.1.on P1).on P2) ((HO.out.2.1.trans P1).trans P2)))
  clear OG P1 P2 hw2
  go_wp2
  clear r0 r1 r2 hmk e1
  go_loopw [22] (fun i wr => ∃ t : Nat, t ≤ m ∧ i = .int .i64 (t : Int) ∧ On w wr ∧ Own wr g 4 (VB (trow f m t)).toArray ∧ Own wr q 24 #[.int .i64 (f.vars : Int), .slice A n c, .int .i64 (f.top : Int)]) (fun i _ => m - (intOf i).toNat)
  case atStart => exact ⟨0, by omega, rfl, H2.out.2.2, by rw [trow_zero]; exact H2.out.1, H2.out.2.1⟩
  case round =>
    obtain ⟨t, ht, rfl, hon, hG, hQ⟩ := hrel
    by_cases hlt : t < m
    · have hV := value_ok wr f HO.out.2.2.2.1 A n c (HO.out.2.2.1.on hon) t (by rw [HO.out.2.2.2.2.1]; exact hlt)
      obtain ⟨r0, r1, r2⟩ := own3 hQ
      have H3 := Lib.hid (And.intro hon (And.intro hG hQ))
      clear hon hG hQ
      go_wp2_with fail
      refine hV.mono ?_
      rintro e w4 ⟨rfl, P4⟩
      clear hV r0 r1 r2
      have hG4 := H3.out.2.1.on P4
      have hQ4 := H3.out.2.2.on P4
      have hfz : w4.frozen? ⟨g, t, none⟩ = false := hG4.frozen t
      have hcz := own_atB hG4 (i := t) (by rw [trow_len (by omega)]; exact hlt)
      have hsucc := trow_succ (f := f) hlt
      have H4 := Lib.hid (And.intro hG4 (And.intro hQ4 (And.intro (H3.out.1.trans P4) hsucc)))
      obtain ⟨b, hb⟩ : ∃ b, val f t = b := ⟨_, rfl⟩
      rw [hb] at H4 ⊢
      clear hG4 hQ4 hsucc hb P4
      go_wp2
      go_roundw
      case rel =>
        exact ⟨t + 1, by omega, by go_num, On.setCell H4.out.2.2.1 (p := ⟨g, t, none⟩) (by show w.heap.size ≤ g; omega) _, by rw [← H4.out.2.2.2]; exact own_setB H4.out.1 t b, H4.out.2.1.far (by show q ≠ g; omega) _⟩
      case measure => simp [intOf] <;> omega
    · obtain rfl : t = m := by omega
      have et := trow_full f t HO.out.2.2.2.2.1
      rw [et] at hG
      have HA := Lib.hid (And.intro (own_rdB (n := t) hG (by rw [tab_len]; exact HO.out.2.2.2.2.1) (by omega)) hon)
      clear hon hG hQ et
      go_wp2
      go_ret2
      exact ⟨_, _, rfl, HA.out.1, HA.out.2⟩
end Go.Proofs.Ytpllgpjplliadaa.Fm
