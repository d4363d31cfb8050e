/-
  The statement NaturalOrder, walked: Of, Cmp, Bits and Int answer as the specification's functions do.
-/
import Derived.Test.YtgbjbffoanofmaaRbits
namespace Go.Proofs.Ytgbjbffoanofmaa
open Go.RowKit
set_option linter.unusedVariables false
namespace Num
theorem wpList_app_g {P : Program} {w : World} {ops : Array Oper} {rest : List Oper} {o : Oper} {a : Act} {Q : Exit → Act → World → Prop} (hgd : Region.wanted o (yielded ops a.tmps) = true) (s x : Operand) (t : TypeId)
    (ho : o.op = .call { callee := .builtin .append, args := #[s, x], argTypes := #[t, t] })
    (base : Nat) (e : TypeId) (z : Value) (bytes : Nat) (ht : P.underlying t = some (.slice e)) (hinfo : (P.info? e).map (fun i => (i.zero, i.size, i.bytes)) = some (some z, 1, bytes)) (hzs : z.cells.size = 1) (hb8 : bytes ≤ 8)
    (k : IntKind) (v : Value) (n : Nat) (xs : List Nat) (hs : a.eval s = v) (hown : w.ownsRow base e 1 v n (VW k xs))
    (A : Option Addr) (m c : Nat) (news : List Nat) (hx : a.eval x = .slice A m c) (hl : news.length = m) (hA : A = none → m = 0 ∧ c = 0) (hn : ∀ ad, A = some ad → ∀ j, j < m → w.cell? (ad.add j) = some (.int k (gw news j : Int)))
    (hsm : n + m ≤ 1000000000) (hbase : base ≤ w.heap.size)
    (h : ∀ v' w', w'.ownsRow base e 1 v' (n + m) (VW k (xs ++ news)) → w.grownBy w' v.ownBlock → (v'.ownBlock = v.ownBlock ∨ v'.ownBlock = some w.heap.size) → wpList P ops Q rest (a.put o.dst v') w') : wpList P ops Q (o :: rest) a w := by
  refine wpList_step fun K hK => ?_
  rw [if_pos hgd]
  obtain ⟨v', w', hrun, h2, h3, h4⟩ := run_app (P := P) w base t o.type e z bytes ht hinfo hzs hb8 k v n xs hown A m c news hl hA hn hsm hbase
  unfold Oper.wp
  simp [execOp, ho, resolve, invoke, builtin, hs, hx, hrun, Result.andThen]
  exact hK _ _ (h v' w' h2 h3 h4)
set_option maxRecDepth 100000 in
set_option maxHeartbeats 4000000 in
theorem order_any (w : World) (Aa : Option Addr) (na ca : Nat) (xa : List Nat) (Ab : Option Addr) (nb cb : Nat) (xb : List Nat) (x : Int) (Ra : Rd w Aa na ca xa) (Rb : Rd w Ab nb cb xb) (hx0 : -9223372036854775808 ≤ x) (hx1 : x ≤ 9223372036854775807) :
    Calls Try.prog 3 #[.slice Aa na ca, .slice Ab nb cb, .int .i64 x] w fun e w' => e = .returned (.bool true) ∧ On w w' := by
  have O := On.refl w
  have hca := Ra.cap
  have hma := Ra.max
  have hcb := Rb.cap
  have hmb := Rb.max
  rcases some_large [na, nb] 2 with hl | ⟨m, hm, hl⟩
  rotate_left
  · have HL := Lib.hid hl
    clear hl
    go_enter Try.func3, Try.ntmps3
    go_wp2_with fail
    refine (awake_any _).mono ?_
    rintro e w1 ⟨rfl, P1⟩
    go_wp2_with fail
    have LE := lens_two w1 22 Aa Ab na ca nb cb hca hma hcb hmb
    have P2 := (On.refl w1).alloc (.cells #[.slice Aa na ca, .slice Ab nb cb] 22)
    refine (large_yes _ _ _ _ _ LE rfl (by simp) m hm HL.out).mono ?_
    rintro e w' ⟨rfl, rfl⟩
    go_wp2_with fail
    refine (awake_any _).mono ?_
    rintro e w3 ⟨rfl, P3⟩
    go_wp2
    go_ret
    exact ⟨rfl, (P1.trans P2).trans P3⟩
  have hna : na ≤ 40 := hl 0 (by decide)
  have hnb : nb ≤ 40 := hl 1 (by decide)
  have HL := Lib.hid hl
  clear hl
  have Ta : tl xa ≤ 40 := Nat.le_trans (tl_le _) (by rw [Ra.len]; omega)
  have Tb : tl xb ≤ 40 := Nat.le_trans (tl_le _) (by rw [Rb.len]; omega)
  go_enter Try.func3, Try.ntmps3
  go_wp2_with fail
  refine (awake_any _).mono ?_
  rintro e w1 ⟨rfl, P1⟩
  replace Ra := Ra.on P1
  replace Rb := Rb.on P1
  replace O := O.trans P1
  clear P1
  go_wp2_with fail
  have LE := lens_two w1 22 Aa Ab na ca nb cb hca hma hcb hmb
  have P2 := (On.refl w1).alloc (.cells #[.slice Aa na ca, .slice Ab nb cb] 22)
  refine (large_no _ _ _ _ _ LE rfl (by simp) HL.out).mono ?_
  rintro e w' ⟨rfl, rfl⟩
  replace Ra := Ra.on P2
  replace Rb := Rb.on P2
  replace O := O.trans P2
  clear P2
  clear HL LE
  go_wp2_with fail
  refine (int_any _ _ _ _ _ Ra (by omega)).mono ?_
  rintro e w' ⟨rfl, rfl⟩
  obtain ⟨iv, ib, hI⟩ : ∃ (i : Int) (b : Bool), intOfV (val xa) = .tuple #[.int .i64 i, .bool b] := by unfold intOfV; split; exact ⟨_, _, rfl⟩; exact ⟨_, _, rfl⟩
  rw [hI]
  have HI := Lib.hid hI
  clear hI
  go_wp2_with fail
  refine (rint_any _ _ _ _ _ Ra (by omega)).mono ?_
  rintro e w' ⟨rfl, rfl⟩
  rw [HI.out]
  go_wp2_with fail
  refine (of_any _ _ hx1).mono ?_
  rintro e v3 ⟨Af, nf, cf, rfl, ⟨xf, Rf, Cf, Vf, Lf⟩, P3⟩
  have Tf : tl xf ≤ 2 := Nat.le_trans (tl_le _) (by rw [Rf.len]; omega)
  have Hf := Lib.hid Vf
  clear Vf
  replace Ra := Ra.on P3
  replace Rb := Rb.on P3
  replace O := O.trans P3
  clear P3
  go_wp2_with fail
  refine (rof_any _ _ hx0 hx1).mono ?_
  rintro e v4 ⟨Ag, ng, cg, rfl, ⟨xg, Rg, Cg, Vg, Lg⟩, P4⟩
  have Tg : tl xg ≤ 2 := Nat.le_trans (tl_le _) (by rw [Rg.len]; omega)
  have Hg := Lib.hid Vg
  clear Vg
  replace Ra := Ra.on P4
  replace Rb := Rb.on P4
  replace Rf := Rf.on P4
  replace O := O.trans P4
  clear P4
  go_wp2_with fail
  refine (words_rd _ _ _ _ _ _ _ _ _ Rf Rg Cf Cg (by rw [Hf.out, Hg.out])).mono ?_
  rintro e v5 ⟨rfl, P5⟩
  replace Ra := Ra.on P5
  replace Rb := Rb.on P5
  replace Rf := Rf.on P5
  replace Rg := Rg.on P5
  replace O := O.trans P5
  clear P5
  clear Rf Tf
  clear Rg Tg
  go_wp2_with fail
  refine (cmp_any _ _ _ _ _ _ _ _ _ Ra Rb).mono ?_
  rintro e v6 ⟨rfl, P6⟩
  replace Ra := Ra.on P6
  replace Rb := Rb.on P6
  replace O := O.trans P6
  clear P6
  go_wp2_with fail
  refine (rcmp_any _ _ _ _ _ _ _ _ _ Ra Rb (by omega) (by omega)).mono ?_
  rintro e w' ⟨rfl, rfl⟩
  generalize cmpI (val xa) (val xb) = ci
  obtain ⟨wz, hwz⟩ : ∃ wz, wz = v6 := ⟨_, rfl⟩
  subst hwz
  have HO := Lib.hid (own_empty wz 30 .u32)
  have HN := Lib.hid (Ra.alloc (.cells #[] 30)).nil_app
  have HC := Lib.hid (Ra.alloc (.cells #[] 30)).cells_app
  have HL := Lib.hid Ra.len
  go_wp2_with (first | (at_builtin; refine wpList_app_g rfl (.tmp 46) (.tmp 47) 22 rfl wz.heap.size 30 (.int .u32 0) 4 Try.underlying22 info32 rfl (by decide) .u32 (.slice (some ⟨wz.heap.size, 0, none⟩) 0 0) 0 [] rfl HO.out Aa na ca xa rfl HL.out HN.out HC.out (by omega) (by simp) ?_; intro v' w5 hown5 hgrow5 _; have hs5 := hgrow5.size) | (at_builtin; refine wpList_app_g rfl (.tmp 48) (.tmp 49) 22 rfl wz.heap.size 30 (.int .u32 0) 4 Try.underlying22 info32 rfl (by decide) .u32 _ (0 + na) ([] ++ xa) rfl (hown5.alloc _) (some ⟨w5.heap.size, 0, none⟩) 1 1 [0] rfl rfl (fun e => by cases e) (cells_one32 w5 30 0) (by omega) (by simp at hs5 ⊢; omega) ?_; intro v'' w6 hown6 hgrow6 _) | fail)
  obtain ⟨A6, c6, rfl⟩ := row_form hown6
  have P5 : On wz w5 := Below.grown ((Below.refl _ _).alloc (Nat.le_refl _) _) hgrow5 (by simp) (fun k e => by cases e; exact Nat.le_refl _)
  have P6 : On wz w6 := on_row (P5.alloc _) (hown5.alloc _) (Nat.le_refl _) hgrow6
  have R6 := rd_of_row (by rw [List.nil_append]; exact Ra.ok.append (Ok.one (by decide))) hown6
  have H6 : Hid (val xa = val (([] ++ xa) ++ [0])) := by rw [List.nil_append, val_snoc, Nat.mul_zero, Nat.add_zero]; exact rfl
  replace Ra := Ra.on P6
  replace Rb := Rb.on P6
  replace O := O.trans P6
  clear P6
  go_wp2_with fail
  refine (cmp_same _ _ _ _ _ _ _ _ _ Ra (R6.on (On.refl _)) H6.out).mono ?_
  rintro e v8 ⟨rfl, P8⟩
  replace Ra := Ra.on P8
  replace Rb := Rb.on P8
  replace O := O.trans P8
  clear P8
  clear R6 H6 hown5 hgrow5 hown6 hgrow6 HO HN HC HL
  go_wp2_with fail
  refine (bits_any _ _ _ _ _ Ra (by omega)).mono ?_
  rintro e w' ⟨rfl, rfl⟩
  go_wp2_with fail
  refine (rbits_any _ _ _ _ _ Ra (by omega)).mono ?_
  rintro e w' ⟨rfl, rfl⟩
  go_wp2
  go_ret
  exact ⟨rfl, O⟩
end Num
end Go.Proofs.Ytgbjbffoanofmaa
