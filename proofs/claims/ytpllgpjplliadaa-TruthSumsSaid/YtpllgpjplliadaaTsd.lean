/-
  The program's tables: Equal.
-/
import Derived.Test.YtpllgpjplliadaaTsa
import Derived.Test.YtpllgpjplliadaaTc
namespace Go.Proofs.Ytpllgpjplliadaa.Fm
open Go.RowKit Go.Proofs.Ytpllgpjplliadaa.Sb
set_option linter.unusedVariables false
set_option maxRecDepth 100000
/-- the error of two formulas -/
def errE (vars : Int) (xs : List Nd) (top vars2 : Int) (xs2 : List Nd) (top2 : Int) : Nat :=
  if chk vars xs top ≠ 0 then chk vars xs top else if chk vars2 xs2 top2 ≠ 0 then chk vars2 xs2 top2 else if vars = vars2 then (if 12 < vars then 4 else 0) else 11
set_option maxHeartbeats 16000000 in
theorem teq_any (w : World) (vars top : Int) (A : Option Addr) (n c : Nat) (xs : List Nd) (h : RdN w A n c xs) (hv : I64 vars) (ht : I64 top) (vars2 top2 : Int) (A2 : Option Addr) (n2 c2 : Nat) (xs2 : List Nd) (h2 : RdN w A2 n2 c2 xs2) (hv2 : I64 vars2) (ht2 : I64 top2)
    (b : Bool) (d : Int) (er : Nat) (her : errE vars xs top vars2 xs2 top2 = er)
    (hbad : er ≠ 0 → b = false ∧ d = 0)
    (hgood : er = 0 → ∀ f f2 : Fn, WF f → WF f2 → vars = (f.vars : Int) → xs = rawL f.nodes → top = (f.top : Int) → vars2 = (f2.vars : Int) → xs2 = rawL f2.nodes → top2 = (f2.top : Int) → d = difZ f f2 ∧ b = (difZ f f2 == -1)) :
    Calls Try.prog 25 #[.agg #[.int .i64 vars, .slice A n c, .int .i64 top], .agg #[.int .i64 vars2, .slice A2 n2 c2, .int .i64 top2]] w fun e w' => e = .returned (.tuple #[.bool b, .int .i64 d, errV er]) ∧ On w w' := by
  obtain ⟨q, hq⟩ : ∃ q, w.heap.size = q := ⟨_, rfl⟩
  obtain ⟨w0, hw0⟩ : ∃ w0, (w.alloc (.cells #[.int .i64 vars, .slice A n c, .int .i64 top] 24)).alloc (.cells #[.int .i64 vars2, .slice A2 n2 c2, .int .i64 top2] 24) = w0 := ⟨_, rfl⟩
  have O0 : Own w0 q 24 #[.int .i64 vars, .slice A n c, .int .i64 top] := by rw [← hw0, ← hq]; exact (Own.new _ _ _).alloc _
  have C0 : Own w0 (q + 1) 24 #[.int .i64 vars2, .slice A2 n2 c2, .int .i64 top2] := by
    rw [← hw0, ← hq]
    have := Own.new (w.alloc (.cells #[.int .i64 vars, .slice A n c, .int .i64 top] 24)) 24 #[.int .i64 vars2, .slice A2 n2 c2, .int .i64 top2]
    simpa using this
  have P0 : On w w0 := by rw [← hw0]; exact ((On.refl w).alloc _).alloc _
  obtain ⟨r0, r1, r2⟩ := own3 O0
  obtain ⟨t0, t1, t2⟩ := own3 C0
  have HO := Lib.hid (And.intro O0 (And.intro C0 P0))
  have HH := Lib.hid (And.intro h (And.intro h2 (And.intro (And.intro hv ht) (And.intro hv2 ht2))))
  have HB := Lib.hid (And.intro her (And.intro hbad hgood))
  have HW := Lib.hid hw0
  clear h h2 hv ht hv2 ht2 O0 C0 P0 her hbad hgood hw0
  go_enter Try.func25, Try.ntmps25
  go_upto_region 1 with fail
  rw [HW.out]
  obtain ⟨g, hg⟩ : ∃ g, w0.heap.size = g := ⟨_, rfl⟩
  obtain ⟨w1, hw1⟩ : ∃ w1, w0.alloc (.cells #[.int .i64 vars, .slice A n c, .int .i64 top, .int .i64 vars2, .slice A2 n2 c2, .int .i64 top2] 24) = w1 := ⟨_, rfl⟩
  have G1 : Own w1 g 24 #[.int .i64 vars, .slice A n c, .int .i64 top, .int .i64 vars2, .slice A2 n2 c2, .int .i64 top2] := by rw [← hw1, ← hg]; exact Own.new _ _ _
  have P1 : On w0 w1 := by rw [← hw1]; exact (On.refl w0).alloc _
  have HG := Lib.hid (And.intro G1 P1)
  clear G1 P1
  go_wp2
  clear r0 r1 r2 t0 t1 t2
  have hC1 := fun W (k : On w1 W) => check_any W vars top A n c xs (HH.out.1.on ((HO.out.2.2.trans HG.out.2).trans k)) HH.out.2.2.1.1 HH.out.2.2.1.2
  have hC2 := fun W (k : On w1 W) => check_any W vars2 top2 A2 n2 c2 xs2 (HH.out.2.1.on ((HO.out.2.2.trans HG.out.2).trans k)) HH.out.2.2.2.1 HH.out.2.2.2.2
  have HC := Lib.hid (And.intro hC1 hC2)
  clear hC1 hC2
  obtain ⟨x1, hx1⟩ : ∃ x1, chk vars xs top = x1 := ⟨_, rfl⟩
  obtain ⟨x2, hx2⟩ : ∃ x2, chk vars2 xs2 top2 = x2 := ⟨_, rfl⟩
  rw [hx1, hx2] at HC
  have HX := Lib.hid (And.intro hx1 hx2)
  clear hx1 hx2
  go_loopw [20] (fun i wr => ∃ k : Nat, k ≤ 2 ∧ i = .int .i64 (k : Int) ∧ On w1 wr ∧ (1 ≤ k → x1 = 0) ∧ (2 ≤ k → x2 = 0)) (fun i _ => 2 - (intOf i).toNat)
  case atStart => exact ⟨0, by omega, rfl, On.refl _, fun h => absurd h (by omega), fun h => absurd h (by omega)⟩
  case round =>
    obtain ⟨k, hk, rfl, hon, hz1, hz2⟩ := hrel
    have hZ := Lib.hid (And.intro hz1 hz2)
    have hG := HG.out.1.on hon
    have e0 := hG.cell 0
    have e1 := hG.cell 1
    have e2 := hG.cell 2
    have e3 := hG.cell 3
    have e4 := hG.cell 4
    have e5 := hG.cell 5
    simp at e0 e1 e2 e3 e4 e5
    clear hz1 hz2
    by_cases h0 : k = 0
    · subst h0
      have HN := Lib.hid hon
      clear hG e3 e4 e5 hon
      go_wp2_with fail
      refine (HC.out.1 _ (HN.out.alloc _)).mono ?_
      rintro e w4 ⟨rfl, P4⟩
      clear e0 e1 e2
      by_cases hz : x1 = 0
      · have HZ2 := Lib.hid hz
        rw [hz, errV_zero]
        go_wp2
        go_roundw
        case rel => exact ⟨1, by omega, by go_num, (HN.out.alloc _).trans P4, fun _ => HZ2.out, fun h => absurd h (by omega)⟩
        case measure => simp [intOf] <;> omega
      · have he : er = x1 := by rw [← HB.out.1]; unfold errE; rw [HX.out.1, if_pos hz]
        obtain ⟨rfl, rfl⟩ := HB.out.2.1 (by rw [he]; exact hz)
        subst he
        have HQ := Lib.hid ((HO.out.2.2.trans HG.out.2).trans ((HN.out.alloc _).trans P4))
        have hev := errV_pos er hz
        rw [hev]
        clear P4
        go_wp2
        go_ret3
        exact ⟨by rw [hev]; rfl, HQ.out⟩
    · by_cases h1 : k = 1
      · subst h1
        have HN := Lib.hid hon
        clear hG e0 e1 e2 hon
        go_wp2_with fail
        refine (HC.out.2 _ (HN.out.alloc _)).mono ?_
        rintro e w4 ⟨rfl, P4⟩
        clear e3 e4 e5
        have HZ1 := Lib.hid (hZ.out.1 (by omega))
        by_cases hz : x2 = 0
        · have HZ2 := Lib.hid hz
          rw [hz, errV_zero]
          go_wp2
          go_roundw
          case rel => exact ⟨2, by omega, by go_num, (HN.out.alloc _).trans P4, fun _ => HZ1.out, fun _ => HZ2.out⟩
          case measure => simp [intOf] <;> omega
        · have he : er = x2 := by
            rw [← HB.out.1]; unfold errE
            rw [HX.out.1, HX.out.2, if_neg (fun h => h HZ1.out), if_pos hz]
          obtain ⟨rfl, rfl⟩ := HB.out.2.1 (by rw [he]; exact hz)
          subst he
          have HQ := Lib.hid ((HO.out.2.2.trans HG.out.2).trans ((HN.out.alloc _).trans P4))
          have hev := errV_pos er hz
          rw [hev]
          clear P4
          go_wp2
          go_ret3
          exact ⟨by rw [hev]; rfl, HQ.out⟩
      · obtain rfl : k = 2 := by omega
        have hz1 := hZ.out.1 (by omega)
        have hz2 := hZ.out.2 (by omega)
        have HN := Lib.hid (And.intro (HG.out.2.trans hon) (And.intro hz1 hz2))
        clear hz1 hz2 hG e0 e1 e2 e3 e4 e5 hon
        obtain ⟨r0, r1, r2⟩ := own3 (HO.out.1.on HN.out.1)
        obtain ⟨t0, t1, t2⟩ := own3 (HO.out.2.1.on HN.out.1)
        obtain ⟨wB, hwB⟩ : ∃ wB, wB = wr := ⟨_, rfl⟩
        subst hwB
        by_cases hvv : vars = vars2
        · subst hvv
          by_cases h12 : 12 < vars
          · have hbadT : chkT vars xs top ≠ 0 := by unfold chkT; rw [HX.out.1, if_pos HN.out.2.1, if_pos h12]; decide
            have hcT : chkT vars xs top = 4 := by unfold chkT; rw [HX.out.1, if_pos HN.out.2.1, if_pos h12]
            have hT := ttab_bad wB vars top A n c xs (HH.out.1.on (HO.out.2.2.trans HN.out.1)) HH.out.2.2.1.1 HH.out.2.2.1.2 hbadT
            have he : er = 4 := by
              rw [← HB.out.1]; unfold errE
              rw [HX.out.1, HX.out.2, if_neg (fun h => h HN.out.2.1), if_neg (fun h => h HN.out.2.2), if_pos rfl, if_pos h12]
            obtain ⟨rfl, rfl⟩ := HB.out.2.1 (by rw [he]; decide)
            subst he
            rw [hcT, errV_pos 4 (by decide)] at hT
            clear hbadT hcT
            go_wp2_with fail
            refine hT.mono ?_
            rintro e w5 ⟨B, d, rfl, P5⟩
            clear hT r0 r1 r2 t0 t1 t2
            go_wp2
            go_ret3
            exact ⟨rfl, (HO.out.2.2.trans HN.out.1).trans P5⟩
          · obtain ⟨f, hf, ef1, rfl, rfl⟩ := chk_zero (HX.out.1.trans HN.out.2.1)
            subst ef1
            obtain ⟨f2, hf2, ef2, rfl, rfl⟩ := chk_zero (HX.out.2.trans HN.out.2.2)
            have hvv : f2.vars = f.vars := by omega
            have he : er = 0 := by
              rw [← HB.out.1]; unfold errE
              rw [HX.out.1, HX.out.2, if_neg (fun h => h HN.out.2.1), if_neg (fun h => h HN.out.2.2), if_pos rfl, if_neg h12]
            obtain ⟨hd, hb⟩ := HB.out.2.2 he f f2 hf hf2 rfl rfl rfl (by omega) rfl rfl
            subst he
            have hv12 : f.vars ≤ 12 := by omega
            obtain ⟨m, hm⟩ : ∃ m, 2 ^ f.vars = m := ⟨_, rfl⟩
            have hm12 := pow12 hv12
            rw [hm] at hm12
            have hm2 : 2 ^ f2.vars = m := by rw [hvv]; exact hm
            have P0 := HO.out.2.2.trans HN.out.1
            have hT1 := ttab_ok wB f hf hv12 A n c (HH.out.1.on P0) m hm
            have hT2 := fun W (k : On wB W) => ttab_ok W f2 hf2 (by omega) A2 n2 c2 (HH.out.2.1.on (P0.trans k)) m hm2
            rw [hvv] at hT2
            have HT2 := Lib.hid hT2
            have HM := Lib.hid (And.intro hm (And.intro hm2 (And.intro hd (And.intro hb P0))))
            clear hd hb hm hm2 hT2 P0 hf hf2 hvv ef2
            go_wp2_with fail
            refine hT1.mono ?_
            rintro e w5 ⟨B1, d1, rfl, hR1, P5⟩
            clear hT1 r0 r1 r2 t0 t1 t2
            obtain ⟨t0, t1, t2⟩ := own3 (HO.out.2.1.on (HN.out.1.trans P5))
            have HR1 := Lib.hid (And.intro hR1 P5)
            clear hR1 P5
            go_wp2_with fail
            refine (HT2.out w5 HR1.out.2).mono ?_
            rintro e w6 ⟨B2, d2, rfl, hR2, P6⟩
            clear t0 t1 t2
            have hcap1 := HR1.out.1.cap
            have hmax1 := HR1.out.1.max
            have hcap2 := hR2.cap
            have hmax2 := hR2.max
            have HRR := Lib.hid (And.intro (HR1.out.1.on P6) (And.intro hR2 (HM.out.2.2.2.2.trans (HR1.out.2.trans P6))))
            clear hR2 P6
            go_wp2
            go_loopw [51] (fun i wr => ∃ k : Nat, k ≤ m ∧ i = .int .i64 (k : Int) ∧ (∀ t, t < k → val f t = val f2 t) ∧ ∃ z, wr = w6.drewN z) (fun i _ => m - (intOf i).toNat)
            case atStart => exact ⟨0, by omega, rfl, fun t ht => absurd ht (by omega), 0, rfl⟩
            case round =>
              obtain ⟨k, hk, rfl, hbef, z, rfl⟩ := hrel
              have HB2 := Lib.hid hbef
              clear hbef
              by_cases hlt : k < m
              · obtain ⟨ad1, rfl, _, hc1⟩ := VB_at2 HRR.out.1 HM.out.1 hlt
                obtain ⟨ad2, rfl, _, hc2⟩ := VB_at2 HRR.out.2.1 HM.out.2.1 hlt
                obtain ⟨b1, hb1⟩ : ∃ b, val f k = b := ⟨_, rfl⟩
                obtain ⟨b2, hb2⟩ : ∃ b, val f2 k = b := ⟨_, rfl⟩
                rw [hb1] at hc1
                rw [hb2] at hc2
                have HV := Lib.hid (And.intro hb1 hb2)
                clear hb1 hb2
                by_cases hbb : b1 = b2
                · subst hbb
                  have eb : (b1 != b1) = false := by cases b1 <;> rfl
                  cases b1 <;> (
                    go_wp2
                    go_roundw
                    case rel => exact ⟨k + 1, by omega, by go_num, fun t ht => by
                      by_cases e : t = k
                      · subst e; rw [HV.out.1, HV.out.2]
                      · exact HB2.out t (by omega), _, rfl⟩
                    case measure => simp [intOf] <;> omega)
                · have hdz : difZ f f2 = (k : Int) := difZ_at (by rw [HM.out.1]; exact hlt) HB2.out (by rw [HV.out.1, HV.out.2]; exact hbb)
                  obtain rfl : d = (k : Int) := by rw [HM.out.2.2.1, hdz]
                  have hbf : b = false := by rw [HM.out.2.2.2.1, hdz]; simp
                  subst hbf
                  cases b1 <;> cases b2 <;> first | exact absurd rfl hbb | (
                    go_wp2
                    go_ret3
                    exact ⟨rfl, HRR.out.2.2.drewN _⟩)
              · obtain rfl : k = m := by omega
                have hdz : difZ f f2 = -1 := difZ_none (by rw [HM.out.1]; exact HB2.out)
                obtain rfl : d = -1 := by rw [HM.out.2.2.1, hdz]
                have hbf : b = true := by rw [HM.out.2.2.2.1, hdz]; rfl
                subst hbf
                go_wp2
                go_ret3
                exact ⟨rfl, HRR.out.2.2.drewN _⟩
        · have he : er = 11 := by
            rw [← HB.out.1]; unfold errE
            rw [HX.out.1, HX.out.2, if_neg (fun h => h HN.out.2.1), if_neg (fun h => h HN.out.2.2), if_neg hvv]
          obtain ⟨rfl, rfl⟩ := HB.out.2.1 (by rw [he]; decide)
          subst he
          go_wp2
          go_ret3
          exact ⟨rfl, HO.out.2.2.trans HN.out.1⟩
theorem teq_bad (w : World) (vars top : Int) (A : Option Addr) (n c : Nat) (xs : List Nd) (h : RdN w A n c xs) (hv : I64 vars) (ht : I64 top) (vars2 top2 : Int) (A2 : Option Addr) (n2 c2 : Nat) (xs2 : List Nd) (h2 : RdN w A2 n2 c2 xs2) (hv2 : I64 vars2) (ht2 : I64 top2) (hbad : errE vars xs top vars2 xs2 top2 ≠ 0) :
    Calls Try.prog 25 #[.agg #[.int .i64 vars, .slice A n c, .int .i64 top], .agg #[.int .i64 vars2, .slice A2 n2 c2, .int .i64 top2]] w fun e w' => e = .returned (.tuple #[.bool false, .int .i64 0, errV (errE vars xs top vars2 xs2 top2)]) ∧ On w w' :=
  teq_any w vars top A n c xs h hv ht vars2 top2 A2 n2 c2 xs2 h2 hv2 ht2 false 0 _ rfl (fun _ => ⟨rfl, rfl⟩) (fun h0 => absurd h0 hbad)
theorem natN_raw (x : Nn) : natN x.raw = x := by
  cases x
  unfold Nn.raw natN ints
  simp [Function.comp_def]
theorem rawL_inj {l l' : List Nn} (h : rawL l = rawL l') : l = l' := by
  have e : ∀ l : List Nn, (rawL l).map natN = l := fun l => by
    unfold rawL
    rw [List.map_map]
    conv => rhs; rw [← List.map_id l]
    exact List.map_congr_left fun x _ => natN_raw x
  rw [← e l, ← e l', h]
theorem fn_eq {f g : Fn} (h1 : (f.vars : Int) = (g.vars : Int)) (h2 : rawL f.nodes = rawL g.nodes) (h3 : (f.top : Int) = (g.top : Int)) : f = g := by
  have e1 : f.vars = g.vars := by omega
  have e3 : f.top = g.top := by omega
  have e2 := rawL_inj h2
  cases f; cases g
  dsimp only at e1 e2 e3
  subst e1; subst e2; subst e3; rfl
theorem teq_ok (w : World) (f f2 : Fn) (hf : WF f) (hf2 : WF f2) (hv12 : f.vars ≤ 12) (hvv : f2.vars = f.vars) (A : Option Addr) (n c : Nat) (h : RdN w A n c (rawL f.nodes)) (A2 : Option Addr) (n2 c2 : Nat) (h2 : RdN w A2 n2 c2 (rawL f2.nodes)) :
    Calls Try.prog 25 #[.agg #[.int .i64 (f.vars : Int), .slice A n c, .int .i64 (f.top : Int)], .agg #[.int .i64 (f2.vars : Int), .slice A2 n2 c2, .int .i64 (f2.top : Int)]] w fun e w' => e = .returned (.tuple #[.bool (difZ f f2 == -1), .int .i64 (difZ f f2), .nilIface]) ∧ On w w' := by
  have i1 := hf.1
  have i2 := hf.2.1
  have i3 := hf.2.2.2
  have j2 := hf2.2.1
  have j3 := hf2.2.2.2
  have he : errE (f.vars : Int) (rawL f.nodes) (f.top : Int) (f2.vars : Int) (rawL f2.nodes) (f2.top : Int) = 0 := by
    unfold errE
    rw [chk_ok hf, chk_ok hf2, if_neg (fun h => h rfl), if_neg (fun h => h rfl), if_pos (by omega), if_neg (by omega)]
  exact teq_any w _ _ A n c _ h (by unfold I64; omega) (by unfold I64; omega) _ _ A2 n2 c2 _ h2 (by unfold I64; omega) (by unfold I64; omega) _ _ 0 he (fun h => absurd rfl h)
    (fun _ g g2 _ _ e1 e2 e3 e4 e5 e6 => by
      have a1 := fn_eq e1 e2 e3
      have a2 := fn_eq e4 e5 e6
      subst a1; subst a2
      exact ⟨rfl, rfl⟩)
end Go.Proofs.Ytpllgpjplliadaa.Fm
