/-
  Constants removed: truth, folded of the specification.
-/
import Derived.Test.YtooeppffacnmaaaJGE
import Derived.Deep.RegionWith
namespace Go.Proofs.Ytooeppffacnmaaa.Fm
open Go.RowKit Go.Proofs.Ytooeppffacnmaaa.Sb
set_option linter.unusedVariables false
set_option maxRecDepth 100000
theorem rtruth_any (w : World) (b : Bool) :
    Calls Try.prog 62 #[.bool b] w fun e w' => e = .returned (.int .i64 (foB b)) ∧ w = w' := by
  cases b with
  | true =>
    go_enter Try.func62, Try.ntmps62
    go_wp2
    go_ret
    exact ⟨rfl, rfl⟩
  | false =>
    go_enter Try.func62, Try.ntmps62
    go_wp2
    go_ret
    exact ⟨rfl, rfl⟩
theorem VI_rd {w : World} {Z : Option Addr} {m d : Nat} {l : List Int} (h : Rd w Z m d (VI l)) {j : Nat} (hj : j < m) : ∃ ad, Z = some ad ∧ ad.block < w.heap.size ∧ w.cell? (ad.add j) = some (.int .i64 (l.getD j 0)) :=
  h.at_ j _ (VI_get (by have := VI_len h; omega))
theorem takeZ {l : List Int} {j : Nat} (h : j < l.length) : l.take (j + 1) = l.take j ++ [l.getD j 0] := by
  rw [List.take_add_one, List.getElem?_eq_getElem h]
  simp [h]
theorem foR_len (l : List Int) : foT l + (foR l).length ≤ l.length := by
  induction l with
  | nil => simp [foT, foR]
  | cons c l ih =>
    unfold foT foR at ih ⊢
    rw [List.count_cons, List.length_cons]
    by_cases hc : 0 ≤ c
    · have hne : (c == -2) = false := by simp; omega
      rw [List.filter_cons_of_pos (by simpa using hc), hne]
      simp at ih ⊢; omega
    · rw [List.filter_cons_of_neg (by simpa using hc)]
      simp at ih ⊢
      split <;> omega
/-- nodes stay when a formula's box turns -/
theorem OutN.ft {w w' : World} {g base : Nat} {cur : Array Value} {v : Value} {xs : List Nn} (h : OutN w base v xs) (ho : Only g w w') (hc : Own w g 24 cur) : OutN w' base v xs :=
  h.kn (p := fun _ t => t = 24) (Rg.Kn.only ho hc rfl) (fun _ => by decide) (fun _ => by decide)
/-- a code: a constant or an argument -/
def isCod (c : Int) : Prop := c = -1 ∨ c = -2 ∨ ∃ a : Nat, c = (a : Int) ∧ a < 100000
end Go.Proofs.Ytooeppffacnmaaa.Fm
/-
  folded of the specification: nodes of kind 0.
-/
namespace Go.Proofs.Ytooeppffacnmaaa.Fm
open Go.RowKit Go.Proofs.Ytooeppffacnmaaa.Sb
set_option linter.unusedVariables false
set_option maxRecDepth 100000
set_option maxHeartbeats 16000000 in
theorem rfolded_0 (w : World) (vars : Nat) (hv : vars ≤ 24) (A : Option Addr) (n c base : Nat) (o : List Nn) (h : OutN w base (.slice A n c) o) (hn : n ≤ 1000) (hbase : base ≤ w.heap.size) (x : Nn) (M : Nat) (hx : okN M x) (hkd : x.kind = 0) (P : Option Addr) (mx dx : Nat) (hxm : mx ≤ dx ∧ dx ≤ 9223372036854775807) (Z : Option Addr) (m d : Nat) (l : List Int) (hZ : Rd w Z m d (VI l)) (hm : x.args.length = m) (hcod : ∀ z ∈ l, isCod z) :
    Calls Try.prog 45 #[.agg #[.int .i64 (vars : Int), .slice A n c, .int .i64 0], .agg #[.int .i64 (x.kind : Int), .int .i64 (x.k : Int), .slice P mx dx], .slice Z m d] w fun e w' => ∃ A' n' c', e = .returned (.tuple #[.agg #[.int .i64 (vars : Int), .slice A' n' c', .int .i64 0], .int .i64 (foN (vars + n) x l).2]) ∧ OutN w' base (.slice A' n' c') (o ++ (foN (vars + n) x l).1) ∧ w.grownBy w' (Value.slice A n c).ownBlock := by
  have HKD := Lib.hid hkd
  clear hkd
  have hnx : o.length = n := h.rd.1.symm
  have hcap := hZ.cap
  have hmax := hZ.max
  have hll : l.length = m := VI_len hZ
  have hcapA := h.rd.2.cap
  have hmaxA := h.rd.2.max
  obtain ⟨q, hq⟩ : ∃ q, w.heap.size = q := ⟨_, rfl⟩
  have hvb : ∀ b, (Value.slice A n c).ownBlock = some b → b < q := fun b hb => by have := (h.blk b hb).2.1; omega
  obtain ⟨w0, hw0⟩ : ∃ w0, ((w.alloc (.cells #[.int .i64 (vars : Int), .slice A n c, .int .i64 0] 24)).alloc (.cells #[.int .i64 (x.kind : Int), .int .i64 (x.k : Int), .slice P mx dx] 49)).alloc (.cells #[.int .i64 0, .slice none 0 0, .int .i64 0] 24) = w0 := ⟨_, rfl⟩
  have O0 : Own w0 q 24 #[.int .i64 (vars : Int), .slice A n c, .int .i64 0] := by rw [← hw0, ← hq]; exact ((Own.new _ _ _).alloc _).alloc _
  have X0 : Own w0 (q + 1) 49 #[.int .i64 (x.kind : Int), .int .i64 (x.k : Int), .slice P mx dx] := by
    rw [← hw0, ← hq]
    have := (Own.new (w.alloc (.cells #[.int .i64 (vars : Int), .slice A n c, .int .i64 0] 24)) 49 #[.int .i64 (x.kind : Int), .int .i64 (x.k : Int), .slice P mx dx]).alloc (.cells #[.int .i64 0, .slice none 0 0, .int .i64 0] 24)
    simpa using this
  have C0 : Own w0 (q + 1 + 1) 24 #[.int .i64 0, .slice none 0 0, .int .i64 0] := by
    rw [← hw0, ← hq]
    have := Own.new ((w.alloc (.cells #[.int .i64 (vars : Int), .slice A n c, .int .i64 0] 24)).alloc (.cells #[.int .i64 (x.kind : Int), .int .i64 (x.k : Int), .slice P mx dx] 49)) 24 #[.int .i64 0, .slice none 0 0, .int .i64 0]
    simpa using this
  have P0 : On w w0 := by rw [← hw0]; exact (((On.refl w).alloc _).alloc _).alloc _
  have hq0 : q + 1 + 1 + 1 ≤ w0.heap.size := by have := C0.lt; omega
  obtain ⟨hm16, hm1⟩ : m ≤ 16 ∧ x.kind ≤ 5 := ⟨by rw [← hm]; exact okN_len hx, hx.1⟩
  have HO := Lib.hid (And.intro O0 (And.intro X0 (And.intro C0 P0)))
  have HW := Lib.hid hw0
  have HI := Lib.hid (And.intro h (And.intro hvb (And.intro hnx (And.intro hx hm))))
  have HZ := Lib.hid (And.intro hZ (And.intro hll hcod))
  clear h hZ hx hm hnx hll hcod O0 X0 C0 P0 hw0
  go_enter Try.func45, Try.ntmps45
  go_upto_region 1 with fail
  rw [HW.out]
  go_wp2
  go_loopw [20, 8, 9] (fun i v u wr => ∃ (j : Nat) (A9 : Option Addr) (r9 c9 : Nat), j ≤ m ∧ i = .int .i64 (j : Int) ∧ v = .slice A9 r9 c9 ∧ r9 = (foR (l.take j)).length ∧ u = .int .i64 (foT (l.take j) : Nat) ∧ wr.ownsRow w0.heap.size 3 1 (.slice A9 r9 c9) r9 (VI (ints (foR (l.take j)))) ∧ On w0 wr) (fun i _ _ _ => m - (intOf i).toNat)
  case atStart => exact ⟨0, none, 0, 0, by omega, rfl, rfl, rfl, rfl, row_nil _ _ _, by first | exact On.refl _ | exact On.drewN (On.refl _) _⟩
  case round =>
    obtain ⟨j, A9, r9, c9, hj, rfl, rfl, hr9, rfl, hrow, hon⟩ := hrel
    by_cases hlt : j < m
    · obtain ⟨ad, rfl, hb, hc⟩ := VI_rd (HZ.out.1.on (HO.out.2.2.2.trans hon)) hlt
      have hjl : j < l.length := by rw [HZ.out.2.1]; exact hlt
      have htk := takeZ hjl
      have hcz : isCod (l.getD j 0) := HZ.out.2.2 _ (by
        have : l.getD j 0 = l[j] := by simp [hjl]
        rw [this]; exact List.getElem_mem hjl)
      have hT := foT_snoc (l.take j) (l.getD j 0)
      have hR := foR_snoc (l.take j) (l.getD j 0)
      rw [← htk] at hT hR
      have hbound := foR_len (l.take j)
      have htl : (l.take j).length ≤ j := by rw [List.length_take]; omega
      obtain ⟨z, hz⟩ : ∃ z, l.getD j 0 = z := ⟨_, rfl⟩
      rw [hz] at hc hcz hT hR
      obtain ⟨tt, htt⟩ : ∃ tt, foT (l.take j) = tt := ⟨_, rfl⟩
      rw [htt] at hT hbound ⊢
      rw [← hr9] at hbound
      have hsz := hon.size
      have HV := Lib.hid (And.intro hrow (And.intro hon (And.intro hT (And.intro hR hr9))))
      clear hrow hon hT hR htk hz htt
      rcases hcz with rfl | rfl | ⟨a, rfl, ha⟩
      · go_wp2
        go_roundw
        case rel => exact ⟨j + 1, A9, r9, c9, by omega, by go_num, rfl, by rw [HV.out.2.2.2.1]; simpa using HV.out.2.2.2.2, by rw [HV.out.2.2.1]; rfl, by rw [HV.out.2.2.2.1]; simpa using HV.out.1, HV.out.2.1⟩
        case measure => simp [intOf] <;> omega
      · go_wp2
        go_roundw
        case rel => exact ⟨j + 1, A9, r9, c9, by omega, by go_num, rfl, by rw [HV.out.2.2.2.1]; simpa using HV.out.2.2.2.2, by rw [HV.out.2.2.1]; go_num, by rw [HV.out.2.2.2.1]; simpa using HV.out.1, HV.out.2.1⟩
        case measure => simp [intOf] <;> omega
      · have en1 : ¬ (a : Int) = -1 := by omega
        have en2 : ¬ (a : Int) = -2 := by omega
        go_wp2_with (at_builtin; refine wpList_app rfl (.tmp 25) (.tmp 27) 47 rfl w0.heap.size 3 (.int .i64 0) 8 Try.underlying47 infoi rfl (by decide) (.slice A9 r9 c9) _ (VI (ints (foR (l.take j)))) rfl (row_alloc HV.out.1 _) (some ⟨wr.heap.size, 0, none⟩) 1 1 [.int .i64 (a : Int)] rfl (rd_one _ _ _) (by simp [Value.oneCell']) (by omega) (by simp; omega) ?_; intro v' w11 hown11 hgrow11 _)
        obtain ⟨A11, c11, rfl⟩ := row_form hown11
        go_roundw
        case rel =>
          refine ⟨j + 1, A11, r9 + 1, c11, by omega, by go_num, rfl, ?_, ?_, ?_, on_row (HV.out.2.1.alloc _) (row_alloc HV.out.1 _) (Nat.le_refl _) hgrow11⟩
          · rw [HV.out.2.2.2.1, List.length_append, ← HV.out.2.2.2.2]; simp
          · rw [HV.out.2.2.1]; simp [en2]
          · rw [HV.out.2.2.2.1]
            simpa [ints_snoc, VI_snocI, VI, ints] using hown11
        case measure => simp [intOf] <;> omega
    · obtain rfl : j = m := by omega
      have etk : l.take j = l := List.take_of_length_le (by rw [HZ.out.2.1]; exact Nat.le_refl _)
      rw [etk] at hr9 hrow ⊢
      have hbound := foR_len l
      rw [HZ.out.2.1, ← hr9] at hbound
      have hNN : ∀ R T L, foR l = R → foT l = T → l.length = L → foN (vars + n) x l = match foC x L R.length T with
        | some b => ([], foB b)
        | none => ((foM (vars + n) x T R).1, ((foM (vars + n) x T R).2 : Int)) := fun R T L e1 e2 e3 => by subst e1; subst e2; subst e3; rfl
      obtain ⟨R, hRe⟩ : ∃ R, foR l = R := ⟨_, rfl⟩
      obtain ⟨T, hTe⟩ : ∃ T, foT l = T := ⟨_, rfl⟩
      have hN := hNN R T j hRe hTe HZ.out.2.1
      have hRb : ∀ b ∈ R, b < 100000 := fun b hb => by
        rw [← hRe] at hb
        unfold foR at hb
        obtain ⟨z, hz, rfl⟩ := List.mem_map.1 hb
        obtain ⟨hz1, hz2⟩ := List.mem_filter.1 hz
        rcases HZ.out.2.2 z hz1 with rfl | rfl | ⟨a, rfl, ha⟩
        · simp at hz2
        · simp at hz2
        · simpa using ha
      rw [hRe] at hr9 hrow
      rw [hTe] at hbound ⊢
      rw [← hr9] at hN
      obtain ⟨hO4, hX4, hC4, hP4⟩ : Own wr q 24 #[.int .i64 (vars : Int), .slice A n c, .int .i64 0] ∧ Own wr (q + 1) 49 #[.int .i64 (x.kind : Int), .int .i64 (x.k : Int), .slice P mx dx] ∧ Own wr (q + 1 + 1) 24 #[.int .i64 0, .slice none 0 0, .int .i64 0] ∧ On w wr := ⟨HO.out.1.on hon, HO.out.2.1.on hon, HO.out.2.2.1.on hon, HO.out.2.2.2.trans hon⟩
      have hsz : q + 1 + 1 + 1 ≤ wr.heap.size := by have := hon.size; omega
      have hform := HI.out.2.2.2.1
      have hxm2 := HI.out.2.2.2.2
      have hnx2 := HI.out.2.2.1
      have hOut4 := HI.out.1.on hP4
      have hrd := rd_of_row hrow
      have hcap9 := hrd.cap
      have hmax9 := hrd.max
      obtain ⟨kd, kk, xa⟩ := x
      obtain rfl : kd = 0 := HKD.out
      have H4 := Lib.hid (And.intro hO4 (And.intro hX4 (And.intro hC4 (And.intro hP4 (And.intro hOut4 (And.intro hrow (And.intro hN (And.intro hRb (And.intro hr9 (And.intro hform (And.intro hxm2 hnx2)))))))))))
      obtain ⟨r0, r1, r2⟩ := own3 hO4
      obtain ⟨k0, k1, k2⟩ := own3 hX4
      obtain ⟨c0, c1, c2⟩ := own3 hC4
      have g0 := hC4.frozen 0
      have g1 := hC4.frozen 1
      have g2 := hC4.frozen 2
      clear hO4 hX4 hC4 hP4 hOut4 hrow hN hNN hRb hr9 hform hxm2 hnx2 hRe hTe hrd hon etk
      obtain ⟨wf, hwf⟩ : ∃ wf, wf = wr := ⟨_, rfl⟩
      subst hwf
      have hadd := fun (W : World) (k : On wf W) (y : Nn) (P : Option Addr) (m d : Nat) (hR : Rd W P m d (VI (ints y.args))) (hm : m ≤ 1000) => radd_new W (vars : Int) 0 A n c base o (H4.out.2.2.2.2.1.on k) y P m d hR hm (by omega) (by have := k.size; omega) (by omega)
      have hpost : ∀ (W W' : World), On wf W → W.grownBy W' (Value.slice A n c).ownBlock → Own W' q 24 #[.int .i64 (vars : Int), .slice A n c, .int .i64 0] ∧ Own W' (q + 1) 49 #[.int .i64 ((0 : Nat) : Int), .int .i64 (kk : Int), .slice P mx dx] ∧ Own W' (q + 1 + 1) 24 #[.int .i64 0, .slice none 0 0, .int .i64 0] ∧ w.grownBy W' (Value.slice A n c).ownBlock := fun W W' k hg => ⟨own_by (H4.out.1.on k) hg (fun b hb => by have := HI.out.2.1 b hb; omega), own_by (H4.out.2.1.on k) hg (fun b hb => by have := HI.out.2.1 b hb; omega), own_by (H4.out.2.2.1.on k) hg (fun b hb => by have := HI.out.2.1 b hb; omega), World.grownBy.trans (gb_on (H4.out.2.2.2.1.trans k) _) hg⟩
      have HADD := Lib.hid hadd
      have HPO := Lib.hid hpost
      clear hadd hpost
      go_upto_region 17 with fail
      have hF : foC ⟨0, kk, xa⟩ j r9 T = some (decide (kk = 1)) := rfl
      have eN := H4.out.2.2.2.2.2.2.1
      rw [hF] at eN
      have HEN := Lib.hid eN
      clear hF eN
      have OF := (((H4.out.2.2.1).set_ 0 (.int .i64 (vars : Int))).set_ 1 (.slice A (n) c)).set_ 2 (.int .i64 0)
      obtain ⟨x0, x1, x2⟩ := own3 (show Own _ (q + 1 + 1) 24 #[.int .i64 (vars : Int), .slice A (n) c, .int .i64 0] from OF)
      have ho3 : Only (q + 1 + 1) wf (((wf.setCell ⟨q + 1 + 1, 0, none⟩ (.int .i64 (vars : Int))).setCell ⟨q + 1 + 1, 1, none⟩ (.slice A (n) c)).setCell ⟨q + 1 + 1, 2, none⟩ (.int .i64 0)) := (((Only.refl (q + 1 + 1) wf).set_ 0 _).set_ 1 _).set_ 2 _
      have HFI := Lib.hid (And.intro (OutN.ft H4.out.2.2.2.2.1 ho3 (H4.out.2.2.1)) (gb_past (gb_on H4.out.2.2.2.1 (Value.slice A n c).ownBlock) ho3 (fun g e => by injection e with e; omega)))
      have HXX := Lib.hid (And.intro x0 (And.intro x1 x2))
      clear OF ho3 x0 x1 x2
      go_region_with ((first | (go_at_call 62; refine (rtruth_any _ _).mono ?_; rintro e w4 ⟨rfl, rfl⟩)))
      all_goals go_wp2
      all_goals
        refine bodyPost_ret (v := .tuple #[.agg #[.int .i64 (vars : Int), .slice A (n) c, .int .i64 0], .int .i64 (foB ((kk : Int) == 1))]) (by simp [results, Try.results45, go_sem, HXX.out.1, HXX.out.2.1, HXX.out.2.2]) rfl ⟨A, n, c, ?_, ?_, ?_⟩
        · first | (rw [HEN.out]; done) | (rw [HEN.out]; have eb : ((kk : Int) == 1) = decide (kk = 1) := (by by_cases e : kk = 1 <;> simp [e] <;> omega); rw [eb])
        · rw [HEN.out]
          first
          | exact (by simpa using HFI.out.1)
          | exact (by simpa using (HFI.out.1.on (On.refl _).drew))
        · first
          | exact HFI.out.2
          | exact gb_past HFI.out.2 (gb_on (On.refl _).drew none) (fun g e => by cases e)
end Go.Proofs.Ytooeppffacnmaaa.Fm
/-
  folded of the specification: nodes of kind 1.
-/
namespace Go.Proofs.Ytooeppffacnmaaa.Fm
open Go.RowKit Go.Proofs.Ytooeppffacnmaaa.Sb
set_option linter.unusedVariables false
set_option maxRecDepth 100000
set_option maxHeartbeats 16000000 in
theorem rfolded_1 (w : World) (vars : Nat) (hv : vars ≤ 24) (A : Option Addr) (n c base : Nat) (o : List Nn) (h : OutN w base (.slice A n c) o) (hn : n ≤ 1000) (hbase : base ≤ w.heap.size) (x : Nn) (M : Nat) (hx : okN M x) (hkd : x.kind = 1) (P : Option Addr) (mx dx : Nat) (hxm : mx ≤ dx ∧ dx ≤ 9223372036854775807) (Z : Option Addr) (m d : Nat) (l : List Int) (hZ : Rd w Z m d (VI l)) (hm : x.args.length = m) (hcod : ∀ z ∈ l, isCod z) :
    Calls Try.prog 45 #[.agg #[.int .i64 (vars : Int), .slice A n c, .int .i64 0], .agg #[.int .i64 (x.kind : Int), .int .i64 (x.k : Int), .slice P mx dx], .slice Z m d] w fun e w' => ∃ A' n' c', e = .returned (.tuple #[.agg #[.int .i64 (vars : Int), .slice A' n' c', .int .i64 0], .int .i64 (foN (vars + n) x l).2]) ∧ OutN w' base (.slice A' n' c') (o ++ (foN (vars + n) x l).1) ∧ w.grownBy w' (Value.slice A n c).ownBlock := by
  have HKD := Lib.hid hkd
  clear hkd
  have hnx : o.length = n := h.rd.1.symm
  have hcap := hZ.cap
  have hmax := hZ.max
  have hll : l.length = m := VI_len hZ
  have hcapA := h.rd.2.cap
  have hmaxA := h.rd.2.max
  obtain ⟨q, hq⟩ : ∃ q, w.heap.size = q := ⟨_, rfl⟩
  have hvb : ∀ b, (Value.slice A n c).ownBlock = some b → b < q := fun b hb => by have := (h.blk b hb).2.1; omega
  obtain ⟨w0, hw0⟩ : ∃ w0, ((w.alloc (.cells #[.int .i64 (vars : Int), .slice A n c, .int .i64 0] 24)).alloc (.cells #[.int .i64 (x.kind : Int), .int .i64 (x.k : Int), .slice P mx dx] 49)).alloc (.cells #[.int .i64 0, .slice none 0 0, .int .i64 0] 24) = w0 := ⟨_, rfl⟩
  have O0 : Own w0 q 24 #[.int .i64 (vars : Int), .slice A n c, .int .i64 0] := by rw [← hw0, ← hq]; exact ((Own.new _ _ _).alloc _).alloc _
  have X0 : Own w0 (q + 1) 49 #[.int .i64 (x.kind : Int), .int .i64 (x.k : Int), .slice P mx dx] := by
    rw [← hw0, ← hq]
    have := (Own.new (w.alloc (.cells #[.int .i64 (vars : Int), .slice A n c, .int .i64 0] 24)) 49 #[.int .i64 (x.kind : Int), .int .i64 (x.k : Int), .slice P mx dx]).alloc (.cells #[.int .i64 0, .slice none 0 0, .int .i64 0] 24)
    simpa using this
  have C0 : Own w0 (q + 1 + 1) 24 #[.int .i64 0, .slice none 0 0, .int .i64 0] := by
    rw [← hw0, ← hq]
    have := Own.new ((w.alloc (.cells #[.int .i64 (vars : Int), .slice A n c, .int .i64 0] 24)).alloc (.cells #[.int .i64 (x.kind : Int), .int .i64 (x.k : Int), .slice P mx dx] 49)) 24 #[.int .i64 0, .slice none 0 0, .int .i64 0]
    simpa using this
  have P0 : On w w0 := by rw [← hw0]; exact (((On.refl w).alloc _).alloc _).alloc _
  have hq0 : q + 1 + 1 + 1 ≤ w0.heap.size := by have := C0.lt; omega
  obtain ⟨hm16, hm1⟩ : m ≤ 16 ∧ x.kind ≤ 5 := ⟨by rw [← hm]; exact okN_len hx, hx.1⟩
  have HO := Lib.hid (And.intro O0 (And.intro X0 (And.intro C0 P0)))
  have HW := Lib.hid hw0
  have HI := Lib.hid (And.intro h (And.intro hvb (And.intro hnx (And.intro hx hm))))
  have HZ := Lib.hid (And.intro hZ (And.intro hll hcod))
  clear h hZ hx hm hnx hll hcod O0 X0 C0 P0 hw0
  go_enter Try.func45, Try.ntmps45
  go_upto_region 1 with fail
  rw [HW.out]
  go_wp2
  go_loopw [20, 8, 9] (fun i v u wr => ∃ (j : Nat) (A9 : Option Addr) (r9 c9 : Nat), j ≤ m ∧ i = .int .i64 (j : Int) ∧ v = .slice A9 r9 c9 ∧ r9 = (foR (l.take j)).length ∧ u = .int .i64 (foT (l.take j) : Nat) ∧ wr.ownsRow w0.heap.size 3 1 (.slice A9 r9 c9) r9 (VI (ints (foR (l.take j)))) ∧ On w0 wr) (fun i _ _ _ => m - (intOf i).toNat)
  case atStart => exact ⟨0, none, 0, 0, by omega, rfl, rfl, rfl, rfl, row_nil _ _ _, by first | exact On.refl _ | exact On.drewN (On.refl _) _⟩
  case round =>
    obtain ⟨j, A9, r9, c9, hj, rfl, rfl, hr9, rfl, hrow, hon⟩ := hrel
    by_cases hlt : j < m
    · obtain ⟨ad, rfl, hb, hc⟩ := VI_rd (HZ.out.1.on (HO.out.2.2.2.trans hon)) hlt
      have hjl : j < l.length := by rw [HZ.out.2.1]; exact hlt
      have htk := takeZ hjl
      have hcz : isCod (l.getD j 0) := HZ.out.2.2 _ (by
        have : l.getD j 0 = l[j] := by simp [hjl]
        rw [this]; exact List.getElem_mem hjl)
      have hT := foT_snoc (l.take j) (l.getD j 0)
      have hR := foR_snoc (l.take j) (l.getD j 0)
      rw [← htk] at hT hR
      have hbound := foR_len (l.take j)
      have htl : (l.take j).length ≤ j := by rw [List.length_take]; omega
      obtain ⟨z, hz⟩ : ∃ z, l.getD j 0 = z := ⟨_, rfl⟩
      rw [hz] at hc hcz hT hR
      obtain ⟨tt, htt⟩ : ∃ tt, foT (l.take j) = tt := ⟨_, rfl⟩
      rw [htt] at hT hbound ⊢
      rw [← hr9] at hbound
      have hsz := hon.size
      have HV := Lib.hid (And.intro hrow (And.intro hon (And.intro hT (And.intro hR hr9))))
      clear hrow hon hT hR htk hz htt
      rcases hcz with rfl | rfl | ⟨a, rfl, ha⟩
      · go_wp2
        go_roundw
        case rel => exact ⟨j + 1, A9, r9, c9, by omega, by go_num, rfl, by rw [HV.out.2.2.2.1]; simpa using HV.out.2.2.2.2, by rw [HV.out.2.2.1]; rfl, by rw [HV.out.2.2.2.1]; simpa using HV.out.1, HV.out.2.1⟩
        case measure => simp [intOf] <;> omega
      · go_wp2
        go_roundw
        case rel => exact ⟨j + 1, A9, r9, c9, by omega, by go_num, rfl, by rw [HV.out.2.2.2.1]; simpa using HV.out.2.2.2.2, by rw [HV.out.2.2.1]; go_num, by rw [HV.out.2.2.2.1]; simpa using HV.out.1, HV.out.2.1⟩
        case measure => simp [intOf] <;> omega
      · have en1 : ¬ (a : Int) = -1 := by omega
        have en2 : ¬ (a : Int) = -2 := by omega
        go_wp2_with (at_builtin; refine wpList_app rfl (.tmp 25) (.tmp 27) 47 rfl w0.heap.size 3 (.int .i64 0) 8 Try.underlying47 infoi rfl (by decide) (.slice A9 r9 c9) _ (VI (ints (foR (l.take j)))) rfl (row_alloc HV.out.1 _) (some ⟨wr.heap.size, 0, none⟩) 1 1 [.int .i64 (a : Int)] rfl (rd_one _ _ _) (by simp [Value.oneCell']) (by omega) (by simp; omega) ?_; intro v' w11 hown11 hgrow11 _)
        obtain ⟨A11, c11, rfl⟩ := row_form hown11
        go_roundw
        case rel =>
          refine ⟨j + 1, A11, r9 + 1, c11, by omega, by go_num, rfl, ?_, ?_, ?_, on_row (HV.out.2.1.alloc _) (row_alloc HV.out.1 _) (Nat.le_refl _) hgrow11⟩
          · rw [HV.out.2.2.2.1, List.length_append, ← HV.out.2.2.2.2]; simp
          · rw [HV.out.2.2.1]; simp [en2]
          · rw [HV.out.2.2.2.1]
            simpa [ints_snoc, VI_snocI, VI, ints] using hown11
        case measure => simp [intOf] <;> omega
    · obtain rfl : j = m := by omega
      have etk : l.take j = l := List.take_of_length_le (by rw [HZ.out.2.1]; exact Nat.le_refl _)
      rw [etk] at hr9 hrow ⊢
      have hbound := foR_len l
      rw [HZ.out.2.1, ← hr9] at hbound
      have hNN : ∀ R T L, foR l = R → foT l = T → l.length = L → foN (vars + n) x l = match foC x L R.length T with
        | some b => ([], foB b)
        | none => ((foM (vars + n) x T R).1, ((foM (vars + n) x T R).2 : Int)) := fun R T L e1 e2 e3 => by subst e1; subst e2; subst e3; rfl
      obtain ⟨R, hRe⟩ : ∃ R, foR l = R := ⟨_, rfl⟩
      obtain ⟨T, hTe⟩ : ∃ T, foT l = T := ⟨_, rfl⟩
      have hN := hNN R T j hRe hTe HZ.out.2.1
      have hRb : ∀ b ∈ R, b < 100000 := fun b hb => by
        rw [← hRe] at hb
        unfold foR at hb
        obtain ⟨z, hz, rfl⟩ := List.mem_map.1 hb
        obtain ⟨hz1, hz2⟩ := List.mem_filter.1 hz
        rcases HZ.out.2.2 z hz1 with rfl | rfl | ⟨a, rfl, ha⟩
        · simp at hz2
        · simp at hz2
        · simpa using ha
      rw [hRe] at hr9 hrow
      rw [hTe] at hbound ⊢
      rw [← hr9] at hN
      obtain ⟨hO4, hX4, hC4, hP4⟩ : Own wr q 24 #[.int .i64 (vars : Int), .slice A n c, .int .i64 0] ∧ Own wr (q + 1) 49 #[.int .i64 (x.kind : Int), .int .i64 (x.k : Int), .slice P mx dx] ∧ Own wr (q + 1 + 1) 24 #[.int .i64 0, .slice none 0 0, .int .i64 0] ∧ On w wr := ⟨HO.out.1.on hon, HO.out.2.1.on hon, HO.out.2.2.1.on hon, HO.out.2.2.2.trans hon⟩
      have hsz : q + 1 + 1 + 1 ≤ wr.heap.size := by have := hon.size; omega
      have hform := HI.out.2.2.2.1
      have hxm2 := HI.out.2.2.2.2
      have hnx2 := HI.out.2.2.1
      have hOut4 := HI.out.1.on hP4
      have hrd := rd_of_row hrow
      have hcap9 := hrd.cap
      have hmax9 := hrd.max
      obtain ⟨kd, kk, xa⟩ := x
      obtain rfl : kd = 1 := HKD.out
      have H4 := Lib.hid (And.intro hO4 (And.intro hX4 (And.intro hC4 (And.intro hP4 (And.intro hOut4 (And.intro hrow (And.intro hN (And.intro hRb (And.intro hr9 (And.intro hform (And.intro hxm2 hnx2)))))))))))
      obtain ⟨r0, r1, r2⟩ := own3 hO4
      obtain ⟨k0, k1, k2⟩ := own3 hX4
      obtain ⟨c0, c1, c2⟩ := own3 hC4
      have g0 := hC4.frozen 0
      have g1 := hC4.frozen 1
      have g2 := hC4.frozen 2
      clear hO4 hX4 hC4 hP4 hOut4 hrow hN hNN hRb hr9 hform hxm2 hnx2 hRe hTe hrd hon etk
      obtain ⟨wf, hwf⟩ : ∃ wf, wf = wr := ⟨_, rfl⟩
      subst hwf
      have hadd := fun (W : World) (k : On wf W) (y : Nn) (P : Option Addr) (m d : Nat) (hR : Rd W P m d (VI (ints y.args))) (hm : m ≤ 1000) => radd_new W (vars : Int) 0 A n c base o (H4.out.2.2.2.2.1.on k) y P m d hR hm (by omega) (by have := k.size; omega) (by omega)
      have hpost : ∀ (W W' : World), On wf W → W.grownBy W' (Value.slice A n c).ownBlock → Own W' q 24 #[.int .i64 (vars : Int), .slice A n c, .int .i64 0] ∧ Own W' (q + 1) 49 #[.int .i64 ((1 : Nat) : Int), .int .i64 (kk : Int), .slice P mx dx] ∧ Own W' (q + 1 + 1) 24 #[.int .i64 0, .slice none 0 0, .int .i64 0] ∧ w.grownBy W' (Value.slice A n c).ownBlock := fun W W' k hg => ⟨own_by (H4.out.1.on k) hg (fun b hb => by have := HI.out.2.1 b hb; omega), own_by (H4.out.2.1.on k) hg (fun b hb => by have := HI.out.2.1 b hb; omega), own_by (H4.out.2.2.1.on k) hg (fun b hb => by have := HI.out.2.1 b hb; omega), World.grownBy.trans (gb_on (H4.out.2.2.2.1.trans k) _) hg⟩
      have HADD := Lib.hid hadd
      have HPO := Lib.hid hpost
      clear hadd hpost
      by_cases hr0 : r9 = 0
      · subst hr0
        go_upto_region 20 with fail
        have hF : foC ⟨1, kk, xa⟩ j 0 T = some (decide (T = 0)) := rfl
        have eN := H4.out.2.2.2.2.2.2.1
        rw [hF] at eN
        have HEN := Lib.hid eN
        clear hF eN
        have OF := (((H4.out.2.2.1).set_ 0 (.int .i64 (vars : Int))).set_ 1 (.slice A (n) c)).set_ 2 (.int .i64 0)
        obtain ⟨x0, x1, x2⟩ := own3 (show Own _ (q + 1 + 1) 24 #[.int .i64 (vars : Int), .slice A (n) c, .int .i64 0] from OF)
        have ho3 : Only (q + 1 + 1) wf (((wf.setCell ⟨q + 1 + 1, 0, none⟩ (.int .i64 (vars : Int))).setCell ⟨q + 1 + 1, 1, none⟩ (.slice A (n) c)).setCell ⟨q + 1 + 1, 2, none⟩ (.int .i64 0)) := (((Only.refl (q + 1 + 1) wf).set_ 0 _).set_ 1 _).set_ 2 _
        have HFI := Lib.hid (And.intro (OutN.ft H4.out.2.2.2.2.1 ho3 (H4.out.2.2.1)) (gb_past (gb_on H4.out.2.2.2.1 (Value.slice A n c).ownBlock) ho3 (fun g e => by injection e with e; omega)))
        have HXX := Lib.hid (And.intro x0 (And.intro x1 x2))
        clear OF ho3 x0 x1 x2
        go_region_with ((first | (go_at_call 62; refine (rtruth_any _ _).mono ?_; rintro e w4 ⟨rfl, rfl⟩)))
        all_goals go_wp2
        all_goals
          refine bodyPost_ret (v := .tuple #[.agg #[.int .i64 (vars : Int), .slice A (n) c, .int .i64 0], .int .i64 (foB ((T : Int) == 0))]) (by simp [results, Try.results45, go_sem, HXX.out.1, HXX.out.2.1, HXX.out.2.2]) rfl ⟨A, n, c, ?_, ?_, ?_⟩
          · first | (rw [HEN.out]; done) | (rw [HEN.out]; have eb : ((T : Int) == 0) = decide (T = 0) := (by by_cases e : T = 0 <;> simp [e] <;> omega); rw [eb])
          · rw [HEN.out]
            first
            | exact (by simpa using HFI.out.1)
            | exact (by simpa using (HFI.out.1.on (On.refl _).drew))
          · first
            | exact HFI.out.2
            | exact gb_past HFI.out.2 (gb_on (On.refl _).drew none) (fun g e => by cases e)
      · have hrd := rd_of_row H4.out.2.2.2.2.2.1
        obtain ⟨ad, had, hadb, hac⟩ := VI_at hrd (j := 0) (by omega)
        subst had
        have hrl : R.length = r9 := H4.out.2.2.2.2.2.2.2.2.1.symm
        rw [ints_getD (by omega)] at hac
        have hab : R.getD 0 0 < 100000 := H4.out.2.2.2.2.2.2.2.1 _ (getD_memN (by omega))
        obtain ⟨a, hae⟩ : ∃ a, R.getD 0 0 = a := ⟨_, rfl⟩
        rw [hae] at hac hab
        have hac2 : wf.cell? ad = some (.int .i64 (a : Int)) := by rw [add_nil] at hac; exact hac
        have hF : foC ⟨1, kk, xa⟩ j r9 T = none := by
          show (if r9 = 0 then _ else _) = _
          rw [if_neg hr0]
        have eN := H4.out.2.2.2.2.2.2.1
        rw [hF] at eN
        have eN2 : foN (vars + n) ⟨1, kk, xa⟩ l = ([⟨1, 0, [a]⟩], ((vars + n : Nat) : Int)) := by rw [eN, ← hae]; rfl
        have HEN := Lib.hid eN2
        clear hF eN eN2 hrd hrl hae
        obtain ⟨ra0, ra1, ra2⟩ := own3 (H4.out.1.alloc (.cells #[.int .i64 (a : Int)] 3))
        go_upto_region 21 with fail
        go_region_with ((first | (go_at_call 39; refine (HADD.out _ (by first | exact (On.refl wf).drew.alloc _ | exact ((On.refl wf).alloc _).drew) ⟨1, 0, [a]⟩ _ 1 1 (by first | exact rd_one wf.drew _ _ | exact rd_one wf _ _ | exact (rd_one wf _ _).drew) (by omega)).mono ?_; rintro e w4 ⟨A', c', rfl, hout, hgrow, hnb⟩; obtain ⟨O5, X5, C5, G5⟩ := HPO.out _ w4 (by first | exact (On.refl wf).drew.alloc _ | exact ((On.refl wf).alloc _).drew) hgrow; obtain ⟨d0, d1, d2⟩ := own3 C5; have e0 := C5.frozen 0; have e1 := C5.frozen 1; have e2 := C5.frozen 2)))
        all_goals
          have OF := (((C5).set_ 0 (.int .i64 (vars : Int))).set_ 1 (.slice A' (n + 1) c')).set_ 2 (.int .i64 0)
          obtain ⟨x0, x1, x2⟩ := own3 (show Own _ (q + 1 + 1) 24 #[.int .i64 (vars : Int), .slice A' (n + 1) c', .int .i64 0] from OF)
          have ho3 : Only (q + 1 + 1) w4 (((w4.setCell ⟨q + 1 + 1, 0, none⟩ (.int .i64 (vars : Int))).setCell ⟨q + 1 + 1, 1, none⟩ (.slice A' (n + 1) c')).setCell ⟨q + 1 + 1, 2, none⟩ (.int .i64 0)) := (((Only.refl (q + 1 + 1) w4).set_ 0 _).set_ 1 _).set_ 2 _
          have HFI := Lib.hid (And.intro (OutN.ft hout ho3 (C5)) (gb_past G5 ho3 (fun g e => by injection e with e; omega)))
          have HXX := Lib.hid (And.intro x0 (And.intro x1 x2))
          clear OF ho3 x0 x1 x2
          go_wp2
          refine bodyPost_ret (v := .tuple #[.agg #[.int .i64 (vars : Int), .slice A' (n + 1) c', .int .i64 0], .int .i64 ((vars : Int) + (n : Int))]) (by simp [results, Try.results45, go_sem, HXX.out.1, HXX.out.2.1, HXX.out.2.2]) rfl ⟨A', n + 1, c', ?_, ?_, ?_⟩
          · first | (rw [HEN.out]; done) | (rw [HEN.out]; push_cast; rfl)
          · rw [HEN.out]
            first
            | exact (by simpa using HFI.out.1)
            | exact (by simpa using (HFI.out.1.on (On.refl _).drew))
          · first
            | exact HFI.out.2
            | exact gb_past HFI.out.2 (gb_on (On.refl _).drew none) (fun g e => by cases e)
end Go.Proofs.Ytooeppffacnmaaa.Fm
/-
  folded of the specification: nodes of kind 2.
-/
namespace Go.Proofs.Ytooeppffacnmaaa.Fm
open Go.RowKit Go.Proofs.Ytooeppffacnmaaa.Sb
set_option linter.unusedVariables false
set_option maxRecDepth 100000
set_option maxHeartbeats 16000000 in
theorem rfolded_2 (w : World) (vars : Nat) (hv : vars ≤ 24) (A : Option Addr) (n c base : Nat) (o : List Nn) (h : OutN w base (.slice A n c) o) (hn : n ≤ 1000) (hbase : base ≤ w.heap.size) (x : Nn) (M : Nat) (hx : okN M x) (hkd : x.kind = 2) (P : Option Addr) (mx dx : Nat) (hxm : mx ≤ dx ∧ dx ≤ 9223372036854775807) (Z : Option Addr) (m d : Nat) (l : List Int) (hZ : Rd w Z m d (VI l)) (hm : x.args.length = m) (hcod : ∀ z ∈ l, isCod z) :
    Calls Try.prog 45 #[.agg #[.int .i64 (vars : Int), .slice A n c, .int .i64 0], .agg #[.int .i64 (x.kind : Int), .int .i64 (x.k : Int), .slice P mx dx], .slice Z m d] w fun e w' => ∃ A' n' c', e = .returned (.tuple #[.agg #[.int .i64 (vars : Int), .slice A' n' c', .int .i64 0], .int .i64 (foN (vars + n) x l).2]) ∧ OutN w' base (.slice A' n' c') (o ++ (foN (vars + n) x l).1) ∧ w.grownBy w' (Value.slice A n c).ownBlock := by
  have HKD := Lib.hid hkd
  clear hkd
  have hnx : o.length = n := h.rd.1.symm
  have hcap := hZ.cap
  have hmax := hZ.max
  have hll : l.length = m := VI_len hZ
  have hcapA := h.rd.2.cap
  have hmaxA := h.rd.2.max
  obtain ⟨q, hq⟩ : ∃ q, w.heap.size = q := ⟨_, rfl⟩
  have hvb : ∀ b, (Value.slice A n c).ownBlock = some b → b < q := fun b hb => by have := (h.blk b hb).2.1; omega
  obtain ⟨w0, hw0⟩ : ∃ w0, ((w.alloc (.cells #[.int .i64 (vars : Int), .slice A n c, .int .i64 0] 24)).alloc (.cells #[.int .i64 (x.kind : Int), .int .i64 (x.k : Int), .slice P mx dx] 49)).alloc (.cells #[.int .i64 0, .slice none 0 0, .int .i64 0] 24) = w0 := ⟨_, rfl⟩
  have O0 : Own w0 q 24 #[.int .i64 (vars : Int), .slice A n c, .int .i64 0] := by rw [← hw0, ← hq]; exact ((Own.new _ _ _).alloc _).alloc _
  have X0 : Own w0 (q + 1) 49 #[.int .i64 (x.kind : Int), .int .i64 (x.k : Int), .slice P mx dx] := by
    rw [← hw0, ← hq]
    have := (Own.new (w.alloc (.cells #[.int .i64 (vars : Int), .slice A n c, .int .i64 0] 24)) 49 #[.int .i64 (x.kind : Int), .int .i64 (x.k : Int), .slice P mx dx]).alloc (.cells #[.int .i64 0, .slice none 0 0, .int .i64 0] 24)
    simpa using this
  have C0 : Own w0 (q + 1 + 1) 24 #[.int .i64 0, .slice none 0 0, .int .i64 0] := by
    rw [← hw0, ← hq]
    have := Own.new ((w.alloc (.cells #[.int .i64 (vars : Int), .slice A n c, .int .i64 0] 24)).alloc (.cells #[.int .i64 (x.kind : Int), .int .i64 (x.k : Int), .slice P mx dx] 49)) 24 #[.int .i64 0, .slice none 0 0, .int .i64 0]
    simpa using this
  have P0 : On w w0 := by rw [← hw0]; exact (((On.refl w).alloc _).alloc _).alloc _
  have hq0 : q + 1 + 1 + 1 ≤ w0.heap.size := by have := C0.lt; omega
  obtain ⟨hm16, hm1⟩ : m ≤ 16 ∧ x.kind ≤ 5 := ⟨by rw [← hm]; exact okN_len hx, hx.1⟩
  have HO := Lib.hid (And.intro O0 (And.intro X0 (And.intro C0 P0)))
  have HW := Lib.hid hw0
  have HI := Lib.hid (And.intro h (And.intro hvb (And.intro hnx (And.intro hx hm))))
  have HZ := Lib.hid (And.intro hZ (And.intro hll hcod))
  clear h hZ hx hm hnx hll hcod O0 X0 C0 P0 hw0
  go_enter Try.func45, Try.ntmps45
  go_upto_region 1 with fail
  rw [HW.out]
  go_wp2
  go_loopw [20, 8, 9] (fun i v u wr => ∃ (j : Nat) (A9 : Option Addr) (r9 c9 : Nat), j ≤ m ∧ i = .int .i64 (j : Int) ∧ v = .slice A9 r9 c9 ∧ r9 = (foR (l.take j)).length ∧ u = .int .i64 (foT (l.take j) : Nat) ∧ wr.ownsRow w0.heap.size 3 1 (.slice A9 r9 c9) r9 (VI (ints (foR (l.take j)))) ∧ On w0 wr) (fun i _ _ _ => m - (intOf i).toNat)
  case atStart => exact ⟨0, none, 0, 0, by omega, rfl, rfl, rfl, rfl, row_nil _ _ _, by first | exact On.refl _ | exact On.drewN (On.refl _) _⟩
  case round =>
    obtain ⟨j, A9, r9, c9, hj, rfl, rfl, hr9, rfl, hrow, hon⟩ := hrel
    by_cases hlt : j < m
    · obtain ⟨ad, rfl, hb, hc⟩ := VI_rd (HZ.out.1.on (HO.out.2.2.2.trans hon)) hlt
      have hjl : j < l.length := by rw [HZ.out.2.1]; exact hlt
      have htk := takeZ hjl
      have hcz : isCod (l.getD j 0) := HZ.out.2.2 _ (by
        have : l.getD j 0 = l[j] := by simp [hjl]
        rw [this]; exact List.getElem_mem hjl)
      have hT := foT_snoc (l.take j) (l.getD j 0)
      have hR := foR_snoc (l.take j) (l.getD j 0)
      rw [← htk] at hT hR
      have hbound := foR_len (l.take j)
      have htl : (l.take j).length ≤ j := by rw [List.length_take]; omega
      obtain ⟨z, hz⟩ : ∃ z, l.getD j 0 = z := ⟨_, rfl⟩
      rw [hz] at hc hcz hT hR
      obtain ⟨tt, htt⟩ : ∃ tt, foT (l.take j) = tt := ⟨_, rfl⟩
      rw [htt] at hT hbound ⊢
      rw [← hr9] at hbound
      have hsz := hon.size
      have HV := Lib.hid (And.intro hrow (And.intro hon (And.intro hT (And.intro hR hr9))))
      clear hrow hon hT hR htk hz htt
      rcases hcz with rfl | rfl | ⟨a, rfl, ha⟩
      · go_wp2
        go_roundw
        case rel => exact ⟨j + 1, A9, r9, c9, by omega, by go_num, rfl, by rw [HV.out.2.2.2.1]; simpa using HV.out.2.2.2.2, by rw [HV.out.2.2.1]; rfl, by rw [HV.out.2.2.2.1]; simpa using HV.out.1, HV.out.2.1⟩
        case measure => simp [intOf] <;> omega
      · go_wp2
        go_roundw
        case rel => exact ⟨j + 1, A9, r9, c9, by omega, by go_num, rfl, by rw [HV.out.2.2.2.1]; simpa using HV.out.2.2.2.2, by rw [HV.out.2.2.1]; go_num, by rw [HV.out.2.2.2.1]; simpa using HV.out.1, HV.out.2.1⟩
        case measure => simp [intOf] <;> omega
      · have en1 : ¬ (a : Int) = -1 := by omega
        have en2 : ¬ (a : Int) = -2 := by omega
        go_wp2_with (at_builtin; refine wpList_app rfl (.tmp 25) (.tmp 27) 47 rfl w0.heap.size 3 (.int .i64 0) 8 Try.underlying47 infoi rfl (by decide) (.slice A9 r9 c9) _ (VI (ints (foR (l.take j)))) rfl (row_alloc HV.out.1 _) (some ⟨wr.heap.size, 0, none⟩) 1 1 [.int .i64 (a : Int)] rfl (rd_one _ _ _) (by simp [Value.oneCell']) (by omega) (by simp; omega) ?_; intro v' w11 hown11 hgrow11 _)
        obtain ⟨A11, c11, rfl⟩ := row_form hown11
        go_roundw
        case rel =>
          refine ⟨j + 1, A11, r9 + 1, c11, by omega, by go_num, rfl, ?_, ?_, ?_, on_row (HV.out.2.1.alloc _) (row_alloc HV.out.1 _) (Nat.le_refl _) hgrow11⟩
          · rw [HV.out.2.2.2.1, List.length_append, ← HV.out.2.2.2.2]; simp
          · rw [HV.out.2.2.1]; simp [en2]
          · rw [HV.out.2.2.2.1]
            simpa [ints_snoc, VI_snocI, VI, ints] using hown11
        case measure => simp [intOf] <;> omega
    · obtain rfl : j = m := by omega
      have etk : l.take j = l := List.take_of_length_le (by rw [HZ.out.2.1]; exact Nat.le_refl _)
      rw [etk] at hr9 hrow ⊢
      have hbound := foR_len l
      rw [HZ.out.2.1, ← hr9] at hbound
      have hNN : ∀ R T L, foR l = R → foT l = T → l.length = L → foN (vars + n) x l = match foC x L R.length T with
        | some b => ([], foB b)
        | none => ((foM (vars + n) x T R).1, ((foM (vars + n) x T R).2 : Int)) := fun R T L e1 e2 e3 => by subst e1; subst e2; subst e3; rfl
      obtain ⟨R, hRe⟩ : ∃ R, foR l = R := ⟨_, rfl⟩
      obtain ⟨T, hTe⟩ : ∃ T, foT l = T := ⟨_, rfl⟩
      have hN := hNN R T j hRe hTe HZ.out.2.1
      have hRb : ∀ b ∈ R, b < 100000 := fun b hb => by
        rw [← hRe] at hb
        unfold foR at hb
        obtain ⟨z, hz, rfl⟩ := List.mem_map.1 hb
        obtain ⟨hz1, hz2⟩ := List.mem_filter.1 hz
        rcases HZ.out.2.2 z hz1 with rfl | rfl | ⟨a, rfl, ha⟩
        · simp at hz2
        · simp at hz2
        · simpa using ha
      rw [hRe] at hr9 hrow
      rw [hTe] at hbound ⊢
      rw [← hr9] at hN
      obtain ⟨hO4, hX4, hC4, hP4⟩ : Own wr q 24 #[.int .i64 (vars : Int), .slice A n c, .int .i64 0] ∧ Own wr (q + 1) 49 #[.int .i64 (x.kind : Int), .int .i64 (x.k : Int), .slice P mx dx] ∧ Own wr (q + 1 + 1) 24 #[.int .i64 0, .slice none 0 0, .int .i64 0] ∧ On w wr := ⟨HO.out.1.on hon, HO.out.2.1.on hon, HO.out.2.2.1.on hon, HO.out.2.2.2.trans hon⟩
      have hsz : q + 1 + 1 + 1 ≤ wr.heap.size := by have := hon.size; omega
      have hform := HI.out.2.2.2.1
      have hxm2 := HI.out.2.2.2.2
      have hnx2 := HI.out.2.2.1
      have hOut4 := HI.out.1.on hP4
      have hrd := rd_of_row hrow
      have hcap9 := hrd.cap
      have hmax9 := hrd.max
      obtain ⟨kd, kk, xa⟩ := x
      obtain rfl : kd = 2 := HKD.out
      have H4 := Lib.hid (And.intro hO4 (And.intro hX4 (And.intro hC4 (And.intro hP4 (And.intro hOut4 (And.intro hrow (And.intro hN (And.intro hRb (And.intro hr9 (And.intro hform (And.intro hxm2 hnx2)))))))))))
      obtain ⟨r0, r1, r2⟩ := own3 hO4
      obtain ⟨k0, k1, k2⟩ := own3 hX4
      obtain ⟨c0, c1, c2⟩ := own3 hC4
      have g0 := hC4.frozen 0
      have g1 := hC4.frozen 1
      have g2 := hC4.frozen 2
      clear hO4 hX4 hC4 hP4 hOut4 hrow hN hNN hRb hr9 hform hxm2 hnx2 hRe hTe hrd hon etk
      obtain ⟨wf, hwf⟩ : ∃ wf, wf = wr := ⟨_, rfl⟩
      subst hwf
      have hadd := fun (W : World) (k : On wf W) (y : Nn) (P : Option Addr) (m d : Nat) (hR : Rd W P m d (VI (ints y.args))) (hm : m ≤ 1000) => radd_new W (vars : Int) 0 A n c base o (H4.out.2.2.2.2.1.on k) y P m d hR hm (by omega) (by have := k.size; omega) (by omega)
      have hpost : ∀ (W W' : World), On wf W → W.grownBy W' (Value.slice A n c).ownBlock → Own W' q 24 #[.int .i64 (vars : Int), .slice A n c, .int .i64 0] ∧ Own W' (q + 1) 49 #[.int .i64 ((2 : Nat) : Int), .int .i64 (kk : Int), .slice P mx dx] ∧ Own W' (q + 1 + 1) 24 #[.int .i64 0, .slice none 0 0, .int .i64 0] ∧ w.grownBy W' (Value.slice A n c).ownBlock := fun W W' k hg => ⟨own_by (H4.out.1.on k) hg (fun b hb => by have := HI.out.2.1 b hb; omega), own_by (H4.out.2.1.on k) hg (fun b hb => by have := HI.out.2.1 b hb; omega), own_by (H4.out.2.2.1.on k) hg (fun b hb => by have := HI.out.2.1 b hb; omega), World.grownBy.trans (gb_on (H4.out.2.2.2.1.trans k) _) hg⟩
      have HADD := Lib.hid hadd
      have HPO := Lib.hid hpost
      clear hadd hpost
      by_cases hfl : T + r9 < j
      · have hfl2 : (0 : Int) < (j : Int) - (r9 : Int) - (T : Int) := by omega
        go_upto_region 24 with fail
        have hF : foC ⟨2, kk, xa⟩ j r9 T = some (decide (j - r9 - T = 0)) := by show (if 0 < j - r9 - T ∨ r9 = 0 then _ else _) = _; rw [if_pos (by omega)]
        have eN := H4.out.2.2.2.2.2.2.1
        rw [hF] at eN
        have HEN := Lib.hid eN
        clear hF eN
        have OF := (((H4.out.2.2.1).set_ 0 (.int .i64 (vars : Int))).set_ 1 (.slice A (n) c)).set_ 2 (.int .i64 0)
        obtain ⟨x0, x1, x2⟩ := own3 (show Own _ (q + 1 + 1) 24 #[.int .i64 (vars : Int), .slice A (n) c, .int .i64 0] from OF)
        have ho3 : Only (q + 1 + 1) wf (((wf.setCell ⟨q + 1 + 1, 0, none⟩ (.int .i64 (vars : Int))).setCell ⟨q + 1 + 1, 1, none⟩ (.slice A (n) c)).setCell ⟨q + 1 + 1, 2, none⟩ (.int .i64 0)) := (((Only.refl (q + 1 + 1) wf).set_ 0 _).set_ 1 _).set_ 2 _
        have HFI := Lib.hid (And.intro (OutN.ft H4.out.2.2.2.2.1 ho3 (H4.out.2.2.1)) (gb_past (gb_on H4.out.2.2.2.1 (Value.slice A n c).ownBlock) ho3 (fun g e => by injection e with e; omega)))
        have HXX := Lib.hid (And.intro x0 (And.intro x1 x2))
        clear OF ho3 x0 x1 x2
        go_region_with ((first | (go_at_call 62; refine (rtruth_any _ _).mono ?_; rintro e w4 ⟨rfl, rfl⟩)))
        all_goals go_wp2
        all_goals
          refine bodyPost_ret (v := .tuple #[.agg #[.int .i64 (vars : Int), .slice A (n) c, .int .i64 0], .int .i64 (foB (((j : Int) - (r9 : Int) - (T : Int)) == 0))]) (by simp [results, Try.results45, go_sem, HXX.out.1, HXX.out.2.1, HXX.out.2.2]) rfl ⟨A, n, c, ?_, ?_, ?_⟩
          · first | (rw [HEN.out]; done) | (rw [HEN.out]; have eb : (((j : Int) - (r9 : Int) - (T : Int)) == 0) = decide (j - r9 - T = 0) := (by by_cases e : j - r9 - T = 0 <;> simp [e] <;> omega); rw [eb])
          · rw [HEN.out]
            first
            | exact (by simpa using HFI.out.1)
            | exact (by simpa using (HFI.out.1.on (On.refl _).drew))
          · first
            | exact HFI.out.2
            | exact gb_past HFI.out.2 (gb_on (On.refl _).drew none) (fun g e => by cases e)
      · have hfl2 : ¬ (0 : Int) < (j : Int) - (r9 : Int) - (T : Int) := by omega
        have hfl3 : ¬ (T : Int) < (j : Int) - (r9 : Int) := by omega
        by_cases hr0 : r9 = 0
        · go_upto_region 24 with fail
          have hF : foC ⟨2, kk, xa⟩ j r9 T = some (decide (j - r9 - T = 0)) := by show (if 0 < j - r9 - T ∨ r9 = 0 then _ else _) = _; rw [if_pos (by omega)]
          have eN := H4.out.2.2.2.2.2.2.1
          rw [hF] at eN
          have HEN := Lib.hid eN
          clear hF eN
          have OF := (((H4.out.2.2.1).set_ 0 (.int .i64 (vars : Int))).set_ 1 (.slice A (n) c)).set_ 2 (.int .i64 0)
          obtain ⟨x0, x1, x2⟩ := own3 (show Own _ (q + 1 + 1) 24 #[.int .i64 (vars : Int), .slice A (n) c, .int .i64 0] from OF)
          have ho3 : Only (q + 1 + 1) wf (((wf.setCell ⟨q + 1 + 1, 0, none⟩ (.int .i64 (vars : Int))).setCell ⟨q + 1 + 1, 1, none⟩ (.slice A (n) c)).setCell ⟨q + 1 + 1, 2, none⟩ (.int .i64 0)) := (((Only.refl (q + 1 + 1) wf).set_ 0 _).set_ 1 _).set_ 2 _
          have HFI := Lib.hid (And.intro (OutN.ft H4.out.2.2.2.2.1 ho3 (H4.out.2.2.1)) (gb_past (gb_on H4.out.2.2.2.1 (Value.slice A n c).ownBlock) ho3 (fun g e => by injection e with e; omega)))
          have HXX := Lib.hid (And.intro x0 (And.intro x1 x2))
          clear OF ho3 x0 x1 x2
          go_region_with ((first | (go_at_call 62; refine (rtruth_any _ _).mono ?_; rintro e w4 ⟨rfl, rfl⟩)))
          all_goals go_wp2
          all_goals
            refine bodyPost_ret (v := .tuple #[.agg #[.int .i64 (vars : Int), .slice A (n) c, .int .i64 0], .int .i64 (foB (((j : Int) - (T : Int)) == 0))]) (by simp [results, Try.results45, go_sem, HXX.out.1, HXX.out.2.1, HXX.out.2.2]) rfl ⟨A, n, c, ?_, ?_, ?_⟩
            · first | (rw [HEN.out]; done) | (rw [HEN.out]; have eb : (((j : Int) - (T : Int)) == 0) = decide (j - r9 - T = 0) := (by by_cases e : j - r9 - T = 0 <;> simp [e] <;> omega); rw [eb])
            · rw [HEN.out]
              first
              | exact (by simpa using HFI.out.1)
              | exact (by simpa using (HFI.out.1.on (On.refl _).drew))
            · first
              | exact HFI.out.2
              | exact gb_past HFI.out.2 (gb_on (On.refl _).drew none) (fun g e => by cases e)
        · have hrd := rd_of_row H4.out.2.2.2.2.2.1
          obtain ⟨ad, had, hadb, hac⟩ := VI_at hrd (j := 0) (by omega)
          subst had
          have hrl : R.length = r9 := H4.out.2.2.2.2.2.2.2.2.1.symm
          rw [ints_getD (by omega)] at hac
          have hab : R.getD 0 0 < 100000 := H4.out.2.2.2.2.2.2.2.1 _ (getD_memN (by omega))
          obtain ⟨a, hae⟩ : ∃ a, R.getD 0 0 = a := ⟨_, rfl⟩
          rw [hae] at hac hab
          have hac2 : wf.cell? ad = some (.int .i64 (a : Int)) := by rw [add_nil] at hac; exact hac
          by_cases hr2 : 1 < r9
          · have hF : foC ⟨2, kk, xa⟩ j r9 T = none := by
              show (if 0 < j - r9 - T ∨ r9 = 0 then _ else _) = _
              rw [if_neg (by omega)]
            have eN := H4.out.2.2.2.2.2.2.1
            rw [hF] at eN
            have eN2 : foN (vars + n) ⟨2, kk, xa⟩ l = ([⟨2, 0, R⟩], ((vars + n : Nat) : Int)) := by
              rw [eN]; simp [foM, foM1, foA1, hrl, hr2]
            have HEN := Lib.hid eN2
            clear hF eN eN2
            have hC := HADD.out wf (On.refl _) ⟨2, 0, R⟩ (some ad) r9 c9 hrd (by omega)
            go_wp2_with fail
            refine hC.mono ?_
            rintro e w7 ⟨A', c', rfl, hout, hgrow, hnb⟩
            clear hC
            obtain ⟨O5, X5, C5, G5⟩ := HPO.out _ w7 (On.refl _) hgrow
            obtain ⟨z0, z1, z2⟩ := own3 O5
            have zf0 := O5.frozen 0
            have zf1 := O5.frozen 1
            have zf2 := O5.frozen 2
            obtain ⟨n0, n1, n2⟩ := own3 X5
            obtain ⟨w8, hw8⟩ : ∃ w8, ((w7.setCell ⟨q, 0, none⟩ (.int .i64 (vars : Int))).setCell ⟨q, 1, none⟩ (.slice A' (n + 1) c')).setCell ⟨q, 2, none⟩ (.int .i64 0) = w8 := ⟨_, rfl⟩
            have ho7 : Only q w7 w8 := by rw [← hw8]; exact (((Only.refl q w7).set_ 0 _).set_ 1 _).set_ 2 _
            have O8 : Own w8 q 24 #[.int .i64 (vars : Int), .slice A' (n + 1) c', .int .i64 0] := by rw [← hw8]; exact ((O5.set_ 0 _).set_ 1 _).set_ 2 _
            have X8 := X5.only ho7 (by omega)
            have C8 := C5.only ho7 (by omega)
            have U8 := OutN.ft hout ho7 O5
            have G8 := gb_past G5 ho7 (fun g e => by injection e with e; omega)
            obtain ⟨y0, y1, y2⟩ := own3 O8
            obtain ⟨m0, m1, m2⟩ := own3 X8
            obtain ⟨d0, d1, d2⟩ := own3 C8
            have e0 := C8.frozen 0
            have e1 := C8.frozen 1
            have e2 := C8.frozen 2
            have hcp := hout.rd.2.cap
            have hmp := hout.rd.2.max
            have OF := (((C8).set_ 0 (.int .i64 (vars : Int))).set_ 1 (.slice A' (n + 1) c')).set_ 2 (.int .i64 0)
            obtain ⟨x0, x1, x2⟩ := own3 (show Own _ (q + 1 + 1) 24 #[.int .i64 (vars : Int), .slice A' (n + 1) c', .int .i64 0] from OF)
            have ho3 : Only (q + 1 + 1) w8 (((w8.setCell ⟨q + 1 + 1, 0, none⟩ (.int .i64 (vars : Int))).setCell ⟨q + 1 + 1, 1, none⟩ (.slice A' (n + 1) c')).setCell ⟨q + 1 + 1, 2, none⟩ (.int .i64 0)) := (((Only.refl (q + 1 + 1) w8).set_ 0 _).set_ 1 _).set_ 2 _
            have HFI := Lib.hid (And.intro (OutN.ft U8 ho3 (C8)) (gb_past G8 ho3 (fun g e => by injection e with e; omega)))
            have HXX := Lib.hid (And.intro x0 (And.intro x1 x2))
            clear OF ho3 x0 x1 x2
            go_wp2
            refine bodyPost_ret (v := .tuple #[.agg #[.int .i64 (vars : Int), .slice A' (n + 1) c', .int .i64 0], .int .i64 ((vars : Int) + (n : Int))]) (by simp [results, Try.results45, go_sem, HXX.out.1, HXX.out.2.1, HXX.out.2.2]) rfl ⟨A', n + 1, c', ?_, ?_, ?_⟩
            · first | (rw [HEN.out]; done) | (rw [HEN.out]; push_cast; rfl)
            · rw [HEN.out]
              first
              | exact (by simpa using HFI.out.1)
              | exact (by simpa using (HFI.out.1.on (On.refl _).drew))
            · first
              | exact HFI.out.2
              | exact gb_past HFI.out.2 (gb_on (On.refl _).drew none) (fun g e => by cases e)
          · have hr3 : r9 = 1 := by omega
            have hF : foC ⟨2, kk, xa⟩ j r9 T = none := by
              show (if 0 < j - r9 - T ∨ r9 = 0 then _ else _) = _
              rw [if_neg (by omega)]
            have eN := H4.out.2.2.2.2.2.2.1
            rw [hF] at eN
            have eN2 : foN (vars + n) ⟨2, kk, xa⟩ l = ([], (a : Int)) := by
              rw [eN, ← hae]; simp [foM, foM1, foA1, hrl, hr3]
            have HEN := Lib.hid eN2
            clear hF eN eN2
            have OF := (((H4.out.2.2.1).set_ 0 (.int .i64 (vars : Int))).set_ 1 (.slice A (n) c)).set_ 2 (.int .i64 0)
            obtain ⟨x0, x1, x2⟩ := own3 (show Own _ (q + 1 + 1) 24 #[.int .i64 (vars : Int), .slice A (n) c, .int .i64 0] from OF)
            have ho3 : Only (q + 1 + 1) wf (((wf.setCell ⟨q + 1 + 1, 0, none⟩ (.int .i64 (vars : Int))).setCell ⟨q + 1 + 1, 1, none⟩ (.slice A (n) c)).setCell ⟨q + 1 + 1, 2, none⟩ (.int .i64 0)) := (((Only.refl (q + 1 + 1) wf).set_ 0 _).set_ 1 _).set_ 2 _
            have HFI := Lib.hid (And.intro (OutN.ft H4.out.2.2.2.2.1 ho3 (H4.out.2.2.1)) (gb_past (gb_on H4.out.2.2.2.1 (Value.slice A n c).ownBlock) ho3 (fun g e => by injection e with e; omega)))
            have HXX := Lib.hid (And.intro x0 (And.intro x1 x2))
            clear OF ho3 x0 x1 x2
            go_wp2
            refine bodyPost_ret (v := .tuple #[.agg #[.int .i64 (vars : Int), .slice A (n) c, .int .i64 0], .int .i64 ((a : Int))]) (by simp [results, Try.results45, go_sem, HXX.out.1, HXX.out.2.1, HXX.out.2.2]) rfl ⟨A, n, c, ?_, ?_, ?_⟩
            · first | (rw [HEN.out]; done) | (rw [HEN.out]; rfl)
            · rw [HEN.out]
              first
              | exact (by simpa using HFI.out.1)
              | exact (by simpa using (HFI.out.1.on (On.refl _).drew))
            · first
              | exact HFI.out.2
              | exact gb_past HFI.out.2 (gb_on (On.refl _).drew none) (fun g e => by cases e)
end Go.Proofs.Ytooeppffacnmaaa.Fm
/-
  folded of the specification: nodes of kind 3.
-/
namespace Go.Proofs.Ytooeppffacnmaaa.Fm
open Go.RowKit Go.Proofs.Ytooeppffacnmaaa.Sb
set_option linter.unusedVariables false
set_option maxRecDepth 100000
set_option maxHeartbeats 16000000 in
theorem rfolded_3 (w : World) (vars : Nat) (hv : vars ≤ 24) (A : Option Addr) (n c base : Nat) (o : List Nn) (h : OutN w base (.slice A n c) o) (hn : n ≤ 1000) (hbase : base ≤ w.heap.size) (x : Nn) (M : Nat) (hx : okN M x) (hkd : x.kind = 3) (P : Option Addr) (mx dx : Nat) (hxm : mx ≤ dx ∧ dx ≤ 9223372036854775807) (Z : Option Addr) (m d : Nat) (l : List Int) (hZ : Rd w Z m d (VI l)) (hm : x.args.length = m) (hcod : ∀ z ∈ l, isCod z) :
    Calls Try.prog 45 #[.agg #[.int .i64 (vars : Int), .slice A n c, .int .i64 0], .agg #[.int .i64 (x.kind : Int), .int .i64 (x.k : Int), .slice P mx dx], .slice Z m d] w fun e w' => ∃ A' n' c', e = .returned (.tuple #[.agg #[.int .i64 (vars : Int), .slice A' n' c', .int .i64 0], .int .i64 (foN (vars + n) x l).2]) ∧ OutN w' base (.slice A' n' c') (o ++ (foN (vars + n) x l).1) ∧ w.grownBy w' (Value.slice A n c).ownBlock := by
  have HKD := Lib.hid hkd
  clear hkd
  have hnx : o.length = n := h.rd.1.symm
  have hcap := hZ.cap
  have hmax := hZ.max
  have hll : l.length = m := VI_len hZ
  have hcapA := h.rd.2.cap
  have hmaxA := h.rd.2.max
  obtain ⟨q, hq⟩ : ∃ q, w.heap.size = q := ⟨_, rfl⟩
  have hvb : ∀ b, (Value.slice A n c).ownBlock = some b → b < q := fun b hb => by have := (h.blk b hb).2.1; omega
  obtain ⟨w0, hw0⟩ : ∃ w0, ((w.alloc (.cells #[.int .i64 (vars : Int), .slice A n c, .int .i64 0] 24)).alloc (.cells #[.int .i64 (x.kind : Int), .int .i64 (x.k : Int), .slice P mx dx] 49)).alloc (.cells #[.int .i64 0, .slice none 0 0, .int .i64 0] 24) = w0 := ⟨_, rfl⟩
  have O0 : Own w0 q 24 #[.int .i64 (vars : Int), .slice A n c, .int .i64 0] := by rw [← hw0, ← hq]; exact ((Own.new _ _ _).alloc _).alloc _
  have X0 : Own w0 (q + 1) 49 #[.int .i64 (x.kind : Int), .int .i64 (x.k : Int), .slice P mx dx] := by
    rw [← hw0, ← hq]
    have := (Own.new (w.alloc (.cells #[.int .i64 (vars : Int), .slice A n c, .int .i64 0] 24)) 49 #[.int .i64 (x.kind : Int), .int .i64 (x.k : Int), .slice P mx dx]).alloc (.cells #[.int .i64 0, .slice none 0 0, .int .i64 0] 24)
    simpa using this
  have C0 : Own w0 (q + 1 + 1) 24 #[.int .i64 0, .slice none 0 0, .int .i64 0] := by
    rw [← hw0, ← hq]
    have := Own.new ((w.alloc (.cells #[.int .i64 (vars : Int), .slice A n c, .int .i64 0] 24)).alloc (.cells #[.int .i64 (x.kind : Int), .int .i64 (x.k : Int), .slice P mx dx] 49)) 24 #[.int .i64 0, .slice none 0 0, .int .i64 0]
    simpa using this
  have P0 : On w w0 := by rw [← hw0]; exact (((On.refl w).alloc _).alloc _).alloc _
  have hq0 : q + 1 + 1 + 1 ≤ w0.heap.size := by have := C0.lt; omega
  obtain ⟨hm16, hm1⟩ : m ≤ 16 ∧ x.kind ≤ 5 := ⟨by rw [← hm]; exact okN_len hx, hx.1⟩
  have HO := Lib.hid (And.intro O0 (And.intro X0 (And.intro C0 P0)))
  have HW := Lib.hid hw0
  have HI := Lib.hid (And.intro h (And.intro hvb (And.intro hnx (And.intro hx hm))))
  have HZ := Lib.hid (And.intro hZ (And.intro hll hcod))
  clear h hZ hx hm hnx hll hcod O0 X0 C0 P0 hw0
  go_enter Try.func45, Try.ntmps45
  go_upto_region 1 with fail
  rw [HW.out]
  go_wp2
  go_loopw [20, 8, 9] (fun i v u wr => ∃ (j : Nat) (A9 : Option Addr) (r9 c9 : Nat), j ≤ m ∧ i = .int .i64 (j : Int) ∧ v = .slice A9 r9 c9 ∧ r9 = (foR (l.take j)).length ∧ u = .int .i64 (foT (l.take j) : Nat) ∧ wr.ownsRow w0.heap.size 3 1 (.slice A9 r9 c9) r9 (VI (ints (foR (l.take j)))) ∧ On w0 wr) (fun i _ _ _ => m - (intOf i).toNat)
  case atStart => exact ⟨0, none, 0, 0, by omega, rfl, rfl, rfl, rfl, row_nil _ _ _, by first | exact On.refl _ | exact On.drewN (On.refl _) _⟩
  case round =>
    obtain ⟨j, A9, r9, c9, hj, rfl, rfl, hr9, rfl, hrow, hon⟩ := hrel
    by_cases hlt : j < m
    · obtain ⟨ad, rfl, hb, hc⟩ := VI_rd (HZ.out.1.on (HO.out.2.2.2.trans hon)) hlt
      have hjl : j < l.length := by rw [HZ.out.2.1]; exact hlt
      have htk := takeZ hjl
      have hcz : isCod (l.getD j 0) := HZ.out.2.2 _ (by
        have : l.getD j 0 = l[j] := by simp [hjl]
        rw [this]; exact List.getElem_mem hjl)
      have hT := foT_snoc (l.take j) (l.getD j 0)
      have hR := foR_snoc (l.take j) (l.getD j 0)
      rw [← htk] at hT hR
      have hbound := foR_len (l.take j)
      have htl : (l.take j).length ≤ j := by rw [List.length_take]; omega
      obtain ⟨z, hz⟩ : ∃ z, l.getD j 0 = z := ⟨_, rfl⟩
      rw [hz] at hc hcz hT hR
      obtain ⟨tt, htt⟩ : ∃ tt, foT (l.take j) = tt := ⟨_, rfl⟩
      rw [htt] at hT hbound ⊢
      rw [← hr9] at hbound
      have hsz := hon.size
      have HV := Lib.hid (And.intro hrow (And.intro hon (And.intro hT (And.intro hR hr9))))
      clear hrow hon hT hR htk hz htt
      rcases hcz with rfl | rfl | ⟨a, rfl, ha⟩
      · go_wp2
        go_roundw
        case rel => exact ⟨j + 1, A9, r9, c9, by omega, by go_num, rfl, by rw [HV.out.2.2.2.1]; simpa using HV.out.2.2.2.2, by rw [HV.out.2.2.1]; rfl, by rw [HV.out.2.2.2.1]; simpa using HV.out.1, HV.out.2.1⟩
        case measure => simp [intOf] <;> omega
      · go_wp2
        go_roundw
        case rel => exact ⟨j + 1, A9, r9, c9, by omega, by go_num, rfl, by rw [HV.out.2.2.2.1]; simpa using HV.out.2.2.2.2, by rw [HV.out.2.2.1]; go_num, by rw [HV.out.2.2.2.1]; simpa using HV.out.1, HV.out.2.1⟩
        case measure => simp [intOf] <;> omega
      · have en1 : ¬ (a : Int) = -1 := by omega
        have en2 : ¬ (a : Int) = -2 := by omega
        go_wp2_with (at_builtin; refine wpList_app rfl (.tmp 25) (.tmp 27) 47 rfl w0.heap.size 3 (.int .i64 0) 8 Try.underlying47 infoi rfl (by decide) (.slice A9 r9 c9) _ (VI (ints (foR (l.take j)))) rfl (row_alloc HV.out.1 _) (some ⟨wr.heap.size, 0, none⟩) 1 1 [.int .i64 (a : Int)] rfl (rd_one _ _ _) (by simp [Value.oneCell']) (by omega) (by simp; omega) ?_; intro v' w11 hown11 hgrow11 _)
        obtain ⟨A11, c11, rfl⟩ := row_form hown11
        go_roundw
        case rel =>
          refine ⟨j + 1, A11, r9 + 1, c11, by omega, by go_num, rfl, ?_, ?_, ?_, on_row (HV.out.2.1.alloc _) (row_alloc HV.out.1 _) (Nat.le_refl _) hgrow11⟩
          · rw [HV.out.2.2.2.1, List.length_append, ← HV.out.2.2.2.2]; simp
          · rw [HV.out.2.2.1]; simp [en2]
          · rw [HV.out.2.2.2.1]
            simpa [ints_snoc, VI_snocI, VI, ints] using hown11
        case measure => simp [intOf] <;> omega
    · obtain rfl : j = m := by omega
      have etk : l.take j = l := List.take_of_length_le (by rw [HZ.out.2.1]; exact Nat.le_refl _)
      rw [etk] at hr9 hrow ⊢
      have hbound := foR_len l
      rw [HZ.out.2.1, ← hr9] at hbound
      have hNN : ∀ R T L, foR l = R → foT l = T → l.length = L → foN (vars + n) x l = match foC x L R.length T with
        | some b => ([], foB b)
        | none => ((foM (vars + n) x T R).1, ((foM (vars + n) x T R).2 : Int)) := fun R T L e1 e2 e3 => by subst e1; subst e2; subst e3; rfl
      obtain ⟨R, hRe⟩ : ∃ R, foR l = R := ⟨_, rfl⟩
      obtain ⟨T, hTe⟩ : ∃ T, foT l = T := ⟨_, rfl⟩
      have hN := hNN R T j hRe hTe HZ.out.2.1
      have hRb : ∀ b ∈ R, b < 100000 := fun b hb => by
        rw [← hRe] at hb
        unfold foR at hb
        obtain ⟨z, hz, rfl⟩ := List.mem_map.1 hb
        obtain ⟨hz1, hz2⟩ := List.mem_filter.1 hz
        rcases HZ.out.2.2 z hz1 with rfl | rfl | ⟨a, rfl, ha⟩
        · simp at hz2
        · simp at hz2
        · simpa using ha
      rw [hRe] at hr9 hrow
      rw [hTe] at hbound ⊢
      rw [← hr9] at hN
      obtain ⟨hO4, hX4, hC4, hP4⟩ : Own wr q 24 #[.int .i64 (vars : Int), .slice A n c, .int .i64 0] ∧ Own wr (q + 1) 49 #[.int .i64 (x.kind : Int), .int .i64 (x.k : Int), .slice P mx dx] ∧ Own wr (q + 1 + 1) 24 #[.int .i64 0, .slice none 0 0, .int .i64 0] ∧ On w wr := ⟨HO.out.1.on hon, HO.out.2.1.on hon, HO.out.2.2.1.on hon, HO.out.2.2.2.trans hon⟩
      have hsz : q + 1 + 1 + 1 ≤ wr.heap.size := by have := hon.size; omega
      have hform := HI.out.2.2.2.1
      have hxm2 := HI.out.2.2.2.2
      have hnx2 := HI.out.2.2.1
      have hOut4 := HI.out.1.on hP4
      have hrd := rd_of_row hrow
      have hcap9 := hrd.cap
      have hmax9 := hrd.max
      obtain ⟨kd, kk, xa⟩ := x
      obtain rfl : kd = 3 := HKD.out
      have H4 := Lib.hid (And.intro hO4 (And.intro hX4 (And.intro hC4 (And.intro hP4 (And.intro hOut4 (And.intro hrow (And.intro hN (And.intro hRb (And.intro hr9 (And.intro hform (And.intro hxm2 hnx2)))))))))))
      obtain ⟨r0, r1, r2⟩ := own3 hO4
      obtain ⟨k0, k1, k2⟩ := own3 hX4
      obtain ⟨c0, c1, c2⟩ := own3 hC4
      have g0 := hC4.frozen 0
      have g1 := hC4.frozen 1
      have g2 := hC4.frozen 2
      clear hO4 hX4 hC4 hP4 hOut4 hrow hN hNN hRb hr9 hform hxm2 hnx2 hRe hTe hrd hon etk
      obtain ⟨wf, hwf⟩ : ∃ wf, wf = wr := ⟨_, rfl⟩
      subst hwf
      have hadd := fun (W : World) (k : On wf W) (y : Nn) (P : Option Addr) (m d : Nat) (hR : Rd W P m d (VI (ints y.args))) (hm : m ≤ 1000) => radd_new W (vars : Int) 0 A n c base o (H4.out.2.2.2.2.1.on k) y P m d hR hm (by omega) (by have := k.size; omega) (by omega)
      have hpost : ∀ (W W' : World), On wf W → W.grownBy W' (Value.slice A n c).ownBlock → Own W' q 24 #[.int .i64 (vars : Int), .slice A n c, .int .i64 0] ∧ Own W' (q + 1) 49 #[.int .i64 ((3 : Nat) : Int), .int .i64 (kk : Int), .slice P mx dx] ∧ Own W' (q + 1 + 1) 24 #[.int .i64 0, .slice none 0 0, .int .i64 0] ∧ w.grownBy W' (Value.slice A n c).ownBlock := fun W W' k hg => ⟨own_by (H4.out.1.on k) hg (fun b hb => by have := HI.out.2.1 b hb; omega), own_by (H4.out.2.1.on k) hg (fun b hb => by have := HI.out.2.1 b hb; omega), own_by (H4.out.2.2.1.on k) hg (fun b hb => by have := HI.out.2.1 b hb; omega), World.grownBy.trans (gb_on (H4.out.2.2.2.1.trans k) _) hg⟩
      have HADD := Lib.hid hadd
      have HPO := Lib.hid hpost
      clear hadd hpost
      by_cases hT0 : 0 < T
      · go_upto_region 27 with fail
        have hF : foC ⟨3, kk, xa⟩ j r9 T = some (decide (0 < T)) := by show (if 0 < T ∨ r9 = 0 then _ else _) = _; rw [if_pos (by omega)]
        have eN := H4.out.2.2.2.2.2.2.1
        rw [hF] at eN
        have HEN := Lib.hid eN
        clear hF eN
        have OF := (((H4.out.2.2.1).set_ 0 (.int .i64 (vars : Int))).set_ 1 (.slice A (n) c)).set_ 2 (.int .i64 0)
        obtain ⟨x0, x1, x2⟩ := own3 (show Own _ (q + 1 + 1) 24 #[.int .i64 (vars : Int), .slice A (n) c, .int .i64 0] from OF)
        have ho3 : Only (q + 1 + 1) wf (((wf.setCell ⟨q + 1 + 1, 0, none⟩ (.int .i64 (vars : Int))).setCell ⟨q + 1 + 1, 1, none⟩ (.slice A (n) c)).setCell ⟨q + 1 + 1, 2, none⟩ (.int .i64 0)) := (((Only.refl (q + 1 + 1) wf).set_ 0 _).set_ 1 _).set_ 2 _
        have HFI := Lib.hid (And.intro (OutN.ft H4.out.2.2.2.2.1 ho3 (H4.out.2.2.1)) (gb_past (gb_on H4.out.2.2.2.1 (Value.slice A n c).ownBlock) ho3 (fun g e => by injection e with e; omega)))
        have HXX := Lib.hid (And.intro x0 (And.intro x1 x2))
        clear OF ho3 x0 x1 x2
        go_region_with ((first | (go_at_call 62; refine (rtruth_any _ _).mono ?_; rintro e w4 ⟨rfl, rfl⟩)))
        all_goals go_wp2
        all_goals
          refine bodyPost_ret (v := .tuple #[.agg #[.int .i64 (vars : Int), .slice A (n) c, .int .i64 0], .int .i64 (foB (true))]) (by simp [results, Try.results45, go_sem, HXX.out.1, HXX.out.2.1, HXX.out.2.2]) rfl ⟨A, n, c, ?_, ?_, ?_⟩
          · first | (rw [HEN.out]; done) | (rw [HEN.out]; rw [decide_eq_true hT0])
          · rw [HEN.out]
            first
            | exact (by simpa using HFI.out.1)
            | exact (by simpa using (HFI.out.1.on (On.refl _).drew))
          · first
            | exact HFI.out.2
            | exact gb_past HFI.out.2 (gb_on (On.refl _).drew none) (fun g e => by cases e)
      · have hT1 : T = 0 := by omega
        by_cases hr0 : r9 = 0
        · go_upto_region 27 with fail
          have hF : foC ⟨3, kk, xa⟩ j r9 T = some (decide (0 < T)) := by show (if 0 < T ∨ r9 = 0 then _ else _) = _; rw [if_pos (by omega)]
          have eN := H4.out.2.2.2.2.2.2.1
          rw [hF] at eN
          have HEN := Lib.hid eN
          clear hF eN
          have OF := (((H4.out.2.2.1).set_ 0 (.int .i64 (vars : Int))).set_ 1 (.slice A (n) c)).set_ 2 (.int .i64 0)
          obtain ⟨x0, x1, x2⟩ := own3 (show Own _ (q + 1 + 1) 24 #[.int .i64 (vars : Int), .slice A (n) c, .int .i64 0] from OF)
          have ho3 : Only (q + 1 + 1) wf (((wf.setCell ⟨q + 1 + 1, 0, none⟩ (.int .i64 (vars : Int))).setCell ⟨q + 1 + 1, 1, none⟩ (.slice A (n) c)).setCell ⟨q + 1 + 1, 2, none⟩ (.int .i64 0)) := (((Only.refl (q + 1 + 1) wf).set_ 0 _).set_ 1 _).set_ 2 _
          have HFI := Lib.hid (And.intro (OutN.ft H4.out.2.2.2.2.1 ho3 (H4.out.2.2.1)) (gb_past (gb_on H4.out.2.2.2.1 (Value.slice A n c).ownBlock) ho3 (fun g e => by injection e with e; omega)))
          have HXX := Lib.hid (And.intro x0 (And.intro x1 x2))
          clear OF ho3 x0 x1 x2
          go_region_with ((first | (go_at_call 62; refine (rtruth_any _ _).mono ?_; rintro e w4 ⟨rfl, rfl⟩)))
          all_goals go_wp2
          all_goals
            refine bodyPost_ret (v := .tuple #[.agg #[.int .i64 (vars : Int), .slice A (n) c, .int .i64 0], .int .i64 (foB (false))]) (by simp [results, Try.results45, go_sem, HXX.out.1, HXX.out.2.1, HXX.out.2.2]) rfl ⟨A, n, c, ?_, ?_, ?_⟩
            · first | (rw [HEN.out]; done) | (rw [HEN.out]; rw [decide_eq_false hT0])
            · rw [HEN.out]
              first
              | exact (by simpa using HFI.out.1)
              | exact (by simpa using (HFI.out.1.on (On.refl _).drew))
            · first
              | exact HFI.out.2
              | exact gb_past HFI.out.2 (gb_on (On.refl _).drew none) (fun g e => by cases e)
        · have hrd := rd_of_row H4.out.2.2.2.2.2.1
          obtain ⟨ad, had, hadb, hac⟩ := VI_at hrd (j := 0) (by omega)
          subst had
          have hrl : R.length = r9 := H4.out.2.2.2.2.2.2.2.2.1.symm
          rw [ints_getD (by omega)] at hac
          have hab : R.getD 0 0 < 100000 := H4.out.2.2.2.2.2.2.2.1 _ (getD_memN (by omega))
          obtain ⟨a, hae⟩ : ∃ a, R.getD 0 0 = a := ⟨_, rfl⟩
          rw [hae] at hac hab
          have hac2 : wf.cell? ad = some (.int .i64 (a : Int)) := by rw [add_nil] at hac; exact hac
          by_cases hr2 : 1 < r9
          · have hF : foC ⟨3, kk, xa⟩ j r9 T = none := by
              show (if 0 < T ∨ r9 = 0 then _ else _) = _
              rw [if_neg (by omega)]
            have eN := H4.out.2.2.2.2.2.2.1
            rw [hF] at eN
            have eN2 : foN (vars + n) ⟨3, kk, xa⟩ l = ([⟨3, 0, R⟩], ((vars + n : Nat) : Int)) := by
              rw [eN]; simp [foM, foM1, foA1, hrl, hr2]
            have HEN := Lib.hid eN2
            clear hF eN eN2
            have hC := HADD.out wf (On.refl _) ⟨3, 0, R⟩ (some ad) r9 c9 hrd (by omega)
            go_wp2_with fail
            refine hC.mono ?_
            rintro e w7 ⟨A', c', rfl, hout, hgrow, hnb⟩
            clear hC
            obtain ⟨O5, X5, C5, G5⟩ := HPO.out _ w7 (On.refl _) hgrow
            obtain ⟨z0, z1, z2⟩ := own3 O5
            have zf0 := O5.frozen 0
            have zf1 := O5.frozen 1
            have zf2 := O5.frozen 2
            obtain ⟨n0, n1, n2⟩ := own3 X5
            obtain ⟨w8, hw8⟩ : ∃ w8, ((w7.setCell ⟨q, 0, none⟩ (.int .i64 (vars : Int))).setCell ⟨q, 1, none⟩ (.slice A' (n + 1) c')).setCell ⟨q, 2, none⟩ (.int .i64 0) = w8 := ⟨_, rfl⟩
            have ho7 : Only q w7 w8 := by rw [← hw8]; exact (((Only.refl q w7).set_ 0 _).set_ 1 _).set_ 2 _
            have O8 : Own w8 q 24 #[.int .i64 (vars : Int), .slice A' (n + 1) c', .int .i64 0] := by rw [← hw8]; exact ((O5.set_ 0 _).set_ 1 _).set_ 2 _
            have X8 := X5.only ho7 (by omega)
            have C8 := C5.only ho7 (by omega)
            have U8 := OutN.ft hout ho7 O5
            have G8 := gb_past G5 ho7 (fun g e => by injection e with e; omega)
            obtain ⟨y0, y1, y2⟩ := own3 O8
            obtain ⟨m0, m1, m2⟩ := own3 X8
            obtain ⟨d0, d1, d2⟩ := own3 C8
            have e0 := C8.frozen 0
            have e1 := C8.frozen 1
            have e2 := C8.frozen 2
            have hcp := hout.rd.2.cap
            have hmp := hout.rd.2.max
            have OF := (((C8).set_ 0 (.int .i64 (vars : Int))).set_ 1 (.slice A' (n + 1) c')).set_ 2 (.int .i64 0)
            obtain ⟨x0, x1, x2⟩ := own3 (show Own _ (q + 1 + 1) 24 #[.int .i64 (vars : Int), .slice A' (n + 1) c', .int .i64 0] from OF)
            have ho3 : Only (q + 1 + 1) w8 (((w8.setCell ⟨q + 1 + 1, 0, none⟩ (.int .i64 (vars : Int))).setCell ⟨q + 1 + 1, 1, none⟩ (.slice A' (n + 1) c')).setCell ⟨q + 1 + 1, 2, none⟩ (.int .i64 0)) := (((Only.refl (q + 1 + 1) w8).set_ 0 _).set_ 1 _).set_ 2 _
            have HFI := Lib.hid (And.intro (OutN.ft U8 ho3 (C8)) (gb_past G8 ho3 (fun g e => by injection e with e; omega)))
            have HXX := Lib.hid (And.intro x0 (And.intro x1 x2))
            clear OF ho3 x0 x1 x2
            go_wp2
            refine bodyPost_ret (v := .tuple #[.agg #[.int .i64 (vars : Int), .slice A' (n + 1) c', .int .i64 0], .int .i64 ((vars : Int) + (n : Int))]) (by simp [results, Try.results45, go_sem, HXX.out.1, HXX.out.2.1, HXX.out.2.2]) rfl ⟨A', n + 1, c', ?_, ?_, ?_⟩
            · first | (rw [HEN.out]; done) | (rw [HEN.out]; push_cast; rfl)
            · rw [HEN.out]
              first
              | exact (by simpa using HFI.out.1)
              | exact (by simpa using (HFI.out.1.on (On.refl _).drew))
            · first
              | exact HFI.out.2
              | exact gb_past HFI.out.2 (gb_on (On.refl _).drew none) (fun g e => by cases e)
          · have hr3 : r9 = 1 := by omega
            have hF : foC ⟨3, kk, xa⟩ j r9 T = none := by
              show (if 0 < T ∨ r9 = 0 then _ else _) = _
              rw [if_neg (by omega)]
            have eN := H4.out.2.2.2.2.2.2.1
            rw [hF] at eN
            have eN2 : foN (vars + n) ⟨3, kk, xa⟩ l = ([], (a : Int)) := by
              rw [eN, ← hae]; simp [foM, foM1, foA1, hrl, hr3]
            have HEN := Lib.hid eN2
            clear hF eN eN2
            have OF := (((H4.out.2.2.1).set_ 0 (.int .i64 (vars : Int))).set_ 1 (.slice A (n) c)).set_ 2 (.int .i64 0)
            obtain ⟨x0, x1, x2⟩ := own3 (show Own _ (q + 1 + 1) 24 #[.int .i64 (vars : Int), .slice A (n) c, .int .i64 0] from OF)
            have ho3 : Only (q + 1 + 1) wf (((wf.setCell ⟨q + 1 + 1, 0, none⟩ (.int .i64 (vars : Int))).setCell ⟨q + 1 + 1, 1, none⟩ (.slice A (n) c)).setCell ⟨q + 1 + 1, 2, none⟩ (.int .i64 0)) := (((Only.refl (q + 1 + 1) wf).set_ 0 _).set_ 1 _).set_ 2 _
            have HFI := Lib.hid (And.intro (OutN.ft H4.out.2.2.2.2.1 ho3 (H4.out.2.2.1)) (gb_past (gb_on H4.out.2.2.2.1 (Value.slice A n c).ownBlock) ho3 (fun g e => by injection e with e; omega)))
            have HXX := Lib.hid (And.intro x0 (And.intro x1 x2))
            clear OF ho3 x0 x1 x2
            go_wp2
            refine bodyPost_ret (v := .tuple #[.agg #[.int .i64 (vars : Int), .slice A (n) c, .int .i64 0], .int .i64 ((a : Int))]) (by simp [results, Try.results45, go_sem, HXX.out.1, HXX.out.2.1, HXX.out.2.2]) rfl ⟨A, n, c, ?_, ?_, ?_⟩
            · first | (rw [HEN.out]; done) | (rw [HEN.out]; rfl)
            · rw [HEN.out]
              first
              | exact (by simpa using HFI.out.1)
              | exact (by simpa using (HFI.out.1.on (On.refl _).drew))
            · first
              | exact HFI.out.2
              | exact gb_past HFI.out.2 (gb_on (On.refl _).drew none) (fun g e => by cases e)
end Go.Proofs.Ytooeppffacnmaaa.Fm
/-
  folded of the specification: nodes of kind 4.
-/
namespace Go.Proofs.Ytooeppffacnmaaa.Fm
open Go.RowKit Go.Proofs.Ytooeppffacnmaaa.Sb
set_option linter.unusedVariables false
set_option maxRecDepth 100000
set_option maxHeartbeats 16000000 in
theorem rfolded_4 (w : World) (vars : Nat) (hv : vars ≤ 24) (A : Option Addr) (n c base : Nat) (o : List Nn) (h : OutN w base (.slice A n c) o) (hn : n ≤ 1000) (hbase : base ≤ w.heap.size) (x : Nn) (M : Nat) (hx : okN M x) (hkd : x.kind = 4) (P : Option Addr) (mx dx : Nat) (hxm : mx ≤ dx ∧ dx ≤ 9223372036854775807) (Z : Option Addr) (m d : Nat) (l : List Int) (hZ : Rd w Z m d (VI l)) (hm : x.args.length = m) (hcod : ∀ z ∈ l, isCod z) :
    Calls Try.prog 45 #[.agg #[.int .i64 (vars : Int), .slice A n c, .int .i64 0], .agg #[.int .i64 (x.kind : Int), .int .i64 (x.k : Int), .slice P mx dx], .slice Z m d] w fun e w' => ∃ A' n' c', e = .returned (.tuple #[.agg #[.int .i64 (vars : Int), .slice A' n' c', .int .i64 0], .int .i64 (foN (vars + n) x l).2]) ∧ OutN w' base (.slice A' n' c') (o ++ (foN (vars + n) x l).1) ∧ w.grownBy w' (Value.slice A n c).ownBlock := by
  have HKD := Lib.hid hkd
  clear hkd
  have hnx : o.length = n := h.rd.1.symm
  have hcap := hZ.cap
  have hmax := hZ.max
  have hll : l.length = m := VI_len hZ
  have hcapA := h.rd.2.cap
  have hmaxA := h.rd.2.max
  obtain ⟨q, hq⟩ : ∃ q, w.heap.size = q := ⟨_, rfl⟩
  have hvb : ∀ b, (Value.slice A n c).ownBlock = some b → b < q := fun b hb => by have := (h.blk b hb).2.1; omega
  obtain ⟨w0, hw0⟩ : ∃ w0, ((w.alloc (.cells #[.int .i64 (vars : Int), .slice A n c, .int .i64 0] 24)).alloc (.cells #[.int .i64 (x.kind : Int), .int .i64 (x.k : Int), .slice P mx dx] 49)).alloc (.cells #[.int .i64 0, .slice none 0 0, .int .i64 0] 24) = w0 := ⟨_, rfl⟩
  have O0 : Own w0 q 24 #[.int .i64 (vars : Int), .slice A n c, .int .i64 0] := by rw [← hw0, ← hq]; exact ((Own.new _ _ _).alloc _).alloc _
  have X0 : Own w0 (q + 1) 49 #[.int .i64 (x.kind : Int), .int .i64 (x.k : Int), .slice P mx dx] := by
    rw [← hw0, ← hq]
    have := (Own.new (w.alloc (.cells #[.int .i64 (vars : Int), .slice A n c, .int .i64 0] 24)) 49 #[.int .i64 (x.kind : Int), .int .i64 (x.k : Int), .slice P mx dx]).alloc (.cells #[.int .i64 0, .slice none 0 0, .int .i64 0] 24)
    simpa using this
  have C0 : Own w0 (q + 1 + 1) 24 #[.int .i64 0, .slice none 0 0, .int .i64 0] := by
    rw [← hw0, ← hq]
    have := Own.new ((w.alloc (.cells #[.int .i64 (vars : Int), .slice A n c, .int .i64 0] 24)).alloc (.cells #[.int .i64 (x.kind : Int), .int .i64 (x.k : Int), .slice P mx dx] 49)) 24 #[.int .i64 0, .slice none 0 0, .int .i64 0]
    simpa using this
  have P0 : On w w0 := by rw [← hw0]; exact (((On.refl w).alloc _).alloc _).alloc _
  have hq0 : q + 1 + 1 + 1 ≤ w0.heap.size := by have := C0.lt; omega
  obtain ⟨hm16, hm1⟩ : m ≤ 16 ∧ x.kind ≤ 5 := ⟨by rw [← hm]; exact okN_len hx, hx.1⟩
  have HO := Lib.hid (And.intro O0 (And.intro X0 (And.intro C0 P0)))
  have HW := Lib.hid hw0
  have HI := Lib.hid (And.intro h (And.intro hvb (And.intro hnx (And.intro hx hm))))
  have HZ := Lib.hid (And.intro hZ (And.intro hll hcod))
  clear h hZ hx hm hnx hll hcod O0 X0 C0 P0 hw0
  go_enter Try.func45, Try.ntmps45
  go_upto_region 1 with fail
  rw [HW.out]
  go_wp2
  go_loopw [20, 8, 9] (fun i v u wr => ∃ (j : Nat) (A9 : Option Addr) (r9 c9 : Nat), j ≤ m ∧ i = .int .i64 (j : Int) ∧ v = .slice A9 r9 c9 ∧ r9 = (foR (l.take j)).length ∧ u = .int .i64 (foT (l.take j) : Nat) ∧ wr.ownsRow w0.heap.size 3 1 (.slice A9 r9 c9) r9 (VI (ints (foR (l.take j)))) ∧ On w0 wr) (fun i _ _ _ => m - (intOf i).toNat)
  case atStart => exact ⟨0, none, 0, 0, by omega, rfl, rfl, rfl, rfl, row_nil _ _ _, by first | exact On.refl _ | exact On.drewN (On.refl _) _⟩
  case round =>
    obtain ⟨j, A9, r9, c9, hj, rfl, rfl, hr9, rfl, hrow, hon⟩ := hrel
    by_cases hlt : j < m
    · obtain ⟨ad, rfl, hb, hc⟩ := VI_rd (HZ.out.1.on (HO.out.2.2.2.trans hon)) hlt
      have hjl : j < l.length := by rw [HZ.out.2.1]; exact hlt
      have htk := takeZ hjl
      have hcz : isCod (l.getD j 0) := HZ.out.2.2 _ (by
        have : l.getD j 0 = l[j] := by simp [hjl]
        rw [this]; exact List.getElem_mem hjl)
      have hT := foT_snoc (l.take j) (l.getD j 0)
      have hR := foR_snoc (l.take j) (l.getD j 0)
      rw [← htk] at hT hR
      have hbound := foR_len (l.take j)
      have htl : (l.take j).length ≤ j := by rw [List.length_take]; omega
      obtain ⟨z, hz⟩ : ∃ z, l.getD j 0 = z := ⟨_, rfl⟩
      rw [hz] at hc hcz hT hR
      obtain ⟨tt, htt⟩ : ∃ tt, foT (l.take j) = tt := ⟨_, rfl⟩
      rw [htt] at hT hbound ⊢
      rw [← hr9] at hbound
      have hsz := hon.size
      have HV := Lib.hid (And.intro hrow (And.intro hon (And.intro hT (And.intro hR hr9))))
      clear hrow hon hT hR htk hz htt
      rcases hcz with rfl | rfl | ⟨a, rfl, ha⟩
      · go_wp2
        go_roundw
        case rel => exact ⟨j + 1, A9, r9, c9, by omega, by go_num, rfl, by rw [HV.out.2.2.2.1]; simpa using HV.out.2.2.2.2, by rw [HV.out.2.2.1]; rfl, by rw [HV.out.2.2.2.1]; simpa using HV.out.1, HV.out.2.1⟩
        case measure => simp [intOf] <;> omega
      · go_wp2
        go_roundw
        case rel => exact ⟨j + 1, A9, r9, c9, by omega, by go_num, rfl, by rw [HV.out.2.2.2.1]; simpa using HV.out.2.2.2.2, by rw [HV.out.2.2.1]; go_num, by rw [HV.out.2.2.2.1]; simpa using HV.out.1, HV.out.2.1⟩
        case measure => simp [intOf] <;> omega
      · have en1 : ¬ (a : Int) = -1 := by omega
        have en2 : ¬ (a : Int) = -2 := by omega
        go_wp2_with (at_builtin; refine wpList_app rfl (.tmp 25) (.tmp 27) 47 rfl w0.heap.size 3 (.int .i64 0) 8 Try.underlying47 infoi rfl (by decide) (.slice A9 r9 c9) _ (VI (ints (foR (l.take j)))) rfl (row_alloc HV.out.1 _) (some ⟨wr.heap.size, 0, none⟩) 1 1 [.int .i64 (a : Int)] rfl (rd_one _ _ _) (by simp [Value.oneCell']) (by omega) (by simp; omega) ?_; intro v' w11 hown11 hgrow11 _)
        obtain ⟨A11, c11, rfl⟩ := row_form hown11
        go_roundw
        case rel =>
          refine ⟨j + 1, A11, r9 + 1, c11, by omega, by go_num, rfl, ?_, ?_, ?_, on_row (HV.out.2.1.alloc _) (row_alloc HV.out.1 _) (Nat.le_refl _) hgrow11⟩
          · rw [HV.out.2.2.2.1, List.length_append, ← HV.out.2.2.2.2]; simp
          · rw [HV.out.2.2.1]; simp [en2]
          · rw [HV.out.2.2.2.1]
            simpa [ints_snoc, VI_snocI, VI, ints] using hown11
        case measure => simp [intOf] <;> omega
    · obtain rfl : j = m := by omega
      have etk : l.take j = l := List.take_of_length_le (by rw [HZ.out.2.1]; exact Nat.le_refl _)
      rw [etk] at hr9 hrow ⊢
      have hbound := foR_len l
      rw [HZ.out.2.1, ← hr9] at hbound
      have hNN : ∀ R T L, foR l = R → foT l = T → l.length = L → foN (vars + n) x l = match foC x L R.length T with
        | some b => ([], foB b)
        | none => ((foM (vars + n) x T R).1, ((foM (vars + n) x T R).2 : Int)) := fun R T L e1 e2 e3 => by subst e1; subst e2; subst e3; rfl
      obtain ⟨R, hRe⟩ : ∃ R, foR l = R := ⟨_, rfl⟩
      obtain ⟨T, hTe⟩ : ∃ T, foT l = T := ⟨_, rfl⟩
      have hN := hNN R T j hRe hTe HZ.out.2.1
      have hRb : ∀ b ∈ R, b < 100000 := fun b hb => by
        rw [← hRe] at hb
        unfold foR at hb
        obtain ⟨z, hz, rfl⟩ := List.mem_map.1 hb
        obtain ⟨hz1, hz2⟩ := List.mem_filter.1 hz
        rcases HZ.out.2.2 z hz1 with rfl | rfl | ⟨a, rfl, ha⟩
        · simp at hz2
        · simp at hz2
        · simpa using ha
      rw [hRe] at hr9 hrow
      rw [hTe] at hbound ⊢
      rw [← hr9] at hN
      obtain ⟨hO4, hX4, hC4, hP4⟩ : Own wr q 24 #[.int .i64 (vars : Int), .slice A n c, .int .i64 0] ∧ Own wr (q + 1) 49 #[.int .i64 (x.kind : Int), .int .i64 (x.k : Int), .slice P mx dx] ∧ Own wr (q + 1 + 1) 24 #[.int .i64 0, .slice none 0 0, .int .i64 0] ∧ On w wr := ⟨HO.out.1.on hon, HO.out.2.1.on hon, HO.out.2.2.1.on hon, HO.out.2.2.2.trans hon⟩
      have hsz : q + 1 + 1 + 1 ≤ wr.heap.size := by have := hon.size; omega
      have hform := HI.out.2.2.2.1
      have hxm2 := HI.out.2.2.2.2
      have hnx2 := HI.out.2.2.1
      have hOut4 := HI.out.1.on hP4
      have hrd := rd_of_row hrow
      have hcap9 := hrd.cap
      have hmax9 := hrd.max
      obtain ⟨kd, kk, xa⟩ := x
      obtain rfl : kd = 4 := HKD.out
      have H4 := Lib.hid (And.intro hO4 (And.intro hX4 (And.intro hC4 (And.intro hP4 (And.intro hOut4 (And.intro hrow (And.intro hN (And.intro hRb (And.intro hr9 (And.intro hform (And.intro hxm2 hnx2)))))))))))
      obtain ⟨r0, r1, r2⟩ := own3 hO4
      obtain ⟨k0, k1, k2⟩ := own3 hX4
      obtain ⟨c0, c1, c2⟩ := own3 hC4
      have g0 := hC4.frozen 0
      have g1 := hC4.frozen 1
      have g2 := hC4.frozen 2
      clear hO4 hX4 hC4 hP4 hOut4 hrow hN hNN hRb hr9 hform hxm2 hnx2 hRe hTe hrd hon etk
      obtain ⟨wf, hwf⟩ : ∃ wf, wf = wr := ⟨_, rfl⟩
      subst hwf
      have hadd := fun (W : World) (k : On wf W) (y : Nn) (P : Option Addr) (m d : Nat) (hR : Rd W P m d (VI (ints y.args))) (hm : m ≤ 1000) => radd_new W (vars : Int) 0 A n c base o (H4.out.2.2.2.2.1.on k) y P m d hR hm (by omega) (by have := k.size; omega) (by omega)
      have hpost : ∀ (W W' : World), On wf W → W.grownBy W' (Value.slice A n c).ownBlock → Own W' q 24 #[.int .i64 (vars : Int), .slice A n c, .int .i64 0] ∧ Own W' (q + 1) 49 #[.int .i64 ((4 : Nat) : Int), .int .i64 (kk : Int), .slice P mx dx] ∧ Own W' (q + 1 + 1) 24 #[.int .i64 0, .slice none 0 0, .int .i64 0] ∧ w.grownBy W' (Value.slice A n c).ownBlock := fun W W' k hg => ⟨own_by (H4.out.1.on k) hg (fun b hb => by have := HI.out.2.1 b hb; omega), own_by (H4.out.2.1.on k) hg (fun b hb => by have := HI.out.2.1 b hb; omega), own_by (H4.out.2.2.1.on k) hg (fun b hb => by have := HI.out.2.1 b hb; omega), World.grownBy.trans (gb_on (H4.out.2.2.2.1.trans k) _) hg⟩
      have HADD := Lib.hid hadd
      have HPO := Lib.hid hpost
      clear hadd hpost
      have hk16 : kk ≤ 16 := by (have h1 := H4.out.2.2.2.2.2.2.2.2.2.1.2.2.2.2.2.1 rfl); (have h2 := H4.out.2.2.2.2.2.2.2.2.2.2.1); simp only at h1 h2; omega
      by_cases hk1 : kk ≤ T
      · go_upto_region 30 with fail
        have hF : foC ⟨4, kk, xa⟩ j r9 T = some (decide (kk ≤ T)) := by show (if kk ≤ T ∨ r9 < kk - T then _ else _) = _; rw [if_pos (by omega)]
        have eN := H4.out.2.2.2.2.2.2.1
        rw [hF] at eN
        have HEN := Lib.hid eN
        clear hF eN
        have OF := (((H4.out.2.2.1).set_ 0 (.int .i64 (vars : Int))).set_ 1 (.slice A (n) c)).set_ 2 (.int .i64 0)
        obtain ⟨x0, x1, x2⟩ := own3 (show Own _ (q + 1 + 1) 24 #[.int .i64 (vars : Int), .slice A (n) c, .int .i64 0] from OF)
        have ho3 : Only (q + 1 + 1) wf (((wf.setCell ⟨q + 1 + 1, 0, none⟩ (.int .i64 (vars : Int))).setCell ⟨q + 1 + 1, 1, none⟩ (.slice A (n) c)).setCell ⟨q + 1 + 1, 2, none⟩ (.int .i64 0)) := (((Only.refl (q + 1 + 1) wf).set_ 0 _).set_ 1 _).set_ 2 _
        have HFI := Lib.hid (And.intro (OutN.ft H4.out.2.2.2.2.1 ho3 (H4.out.2.2.1)) (gb_past (gb_on H4.out.2.2.2.1 (Value.slice A n c).ownBlock) ho3 (fun g e => by injection e with e; omega)))
        have HXX := Lib.hid (And.intro x0 (And.intro x1 x2))
        clear OF ho3 x0 x1 x2
        go_region_with ((first | (go_at_call 62; refine (rtruth_any _ _).mono ?_; rintro e w4 ⟨rfl, rfl⟩)))
        all_goals go_wp2
        all_goals
          refine bodyPost_ret (v := .tuple #[.agg #[.int .i64 (vars : Int), .slice A (n) c, .int .i64 0], .int .i64 (foB (decide (IntKind.i64.wrap ((kk : Int) - (T : Int)) ≤ 0)))]) (by simp [results, Try.results45, go_sem, HXX.out.1, HXX.out.2.1, HXX.out.2.2]) rfl ⟨A, n, c, ?_, ?_, ?_⟩
          · first | (rw [HEN.out]; done) | (rw [HEN.out]; have ew : IntKind.i64.wrap ((kk : Int) - (T : Int)) = (kk : Int) - (T : Int) := (by rw [IntKind.wrap_i64]; omega); have eb : decide ((kk : Int) - (T : Int) ≤ 0) = decide (kk ≤ T) := dec_eq (by omega); rw [ew, eb])
          · rw [HEN.out]
            first
            | exact (by simpa using HFI.out.1)
            | exact (by simpa using (HFI.out.1.on (On.refl _).drew))
          · first
            | exact HFI.out.2
            | exact gb_past HFI.out.2 (gb_on (On.refl _).drew none) (fun g e => by cases e)
      · by_cases hk2 : r9 < kk - T
        · go_upto_region 30 with fail
          have hF : foC ⟨4, kk, xa⟩ j r9 T = some (decide (kk ≤ T)) := by show (if kk ≤ T ∨ r9 < kk - T then _ else _) = _; rw [if_pos (by omega)]
          have eN := H4.out.2.2.2.2.2.2.1
          rw [hF] at eN
          have HEN := Lib.hid eN
          clear hF eN
          have OF := (((H4.out.2.2.1).set_ 0 (.int .i64 (vars : Int))).set_ 1 (.slice A (n) c)).set_ 2 (.int .i64 0)
          obtain ⟨x0, x1, x2⟩ := own3 (show Own _ (q + 1 + 1) 24 #[.int .i64 (vars : Int), .slice A (n) c, .int .i64 0] from OF)
          have ho3 : Only (q + 1 + 1) wf (((wf.setCell ⟨q + 1 + 1, 0, none⟩ (.int .i64 (vars : Int))).setCell ⟨q + 1 + 1, 1, none⟩ (.slice A (n) c)).setCell ⟨q + 1 + 1, 2, none⟩ (.int .i64 0)) := (((Only.refl (q + 1 + 1) wf).set_ 0 _).set_ 1 _).set_ 2 _
          have HFI := Lib.hid (And.intro (OutN.ft H4.out.2.2.2.2.1 ho3 (H4.out.2.2.1)) (gb_past (gb_on H4.out.2.2.2.1 (Value.slice A n c).ownBlock) ho3 (fun g e => by injection e with e; omega)))
          have HXX := Lib.hid (And.intro x0 (And.intro x1 x2))
          clear OF ho3 x0 x1 x2
          go_region_with ((first | (go_at_call 62; refine (rtruth_any _ _).mono ?_; rintro e w4 ⟨rfl, rfl⟩)))
          all_goals go_wp2
          all_goals
            refine bodyPost_ret (v := .tuple #[.agg #[.int .i64 (vars : Int), .slice A (n) c, .int .i64 0], .int .i64 (foB (decide (IntKind.i64.wrap ((kk : Int) - (T : Int)) ≤ 0)))]) (by simp [results, Try.results45, go_sem, HXX.out.1, HXX.out.2.1, HXX.out.2.2]) rfl ⟨A, n, c, ?_, ?_, ?_⟩
            · first | (rw [HEN.out]; done) | (rw [HEN.out]; have ew : IntKind.i64.wrap ((kk : Int) - (T : Int)) = (kk : Int) - (T : Int) := (by rw [IntKind.wrap_i64]; omega); have eb : decide ((kk : Int) - (T : Int) ≤ 0) = decide (kk ≤ T) := dec_eq (by omega); rw [ew, eb])
            · rw [HEN.out]
              first
              | exact (by simpa using HFI.out.1)
              | exact (by simpa using (HFI.out.1.on (On.refl _).drew))
            · first
              | exact HFI.out.2
              | exact gb_past HFI.out.2 (gb_on (On.refl _).drew none) (fun g e => by cases e)
        · have hr0 : ¬ r9 = 0 := by omega
          have hrd := rd_of_row H4.out.2.2.2.2.2.1
          obtain ⟨ad, had, hadb, hac⟩ := VI_at hrd (j := 0) (by omega)
          subst had
          have hrl : R.length = r9 := H4.out.2.2.2.2.2.2.2.2.1.symm
          rw [ints_getD (by omega)] at hac
          have hab : R.getD 0 0 < 100000 := H4.out.2.2.2.2.2.2.2.1 _ (getD_memN (by omega))
          obtain ⟨a, hae⟩ : ∃ a, R.getD 0 0 = a := ⟨_, rfl⟩
          rw [hae] at hac hab
          have hac2 : wf.cell? ad = some (.int .i64 (a : Int)) := by rw [add_nil] at hac; exact hac
          by_cases hr2 : 1 < r9
          · have hF : foC ⟨4, kk, xa⟩ j r9 T = none := by
              show (if kk ≤ T ∨ r9 < kk - T then _ else _) = _
              rw [if_neg (by omega)]
            have eN := H4.out.2.2.2.2.2.2.1
            rw [hF] at eN
            have eN2 : foN (vars + n) ⟨4, kk, xa⟩ l = ([⟨4, kk - T, R⟩], ((vars + n : Nat) : Int)) := by
              rw [eN]; simp [foM, foM1, foA1, hrl, hr2]
            have HEN := Lib.hid eN2
            clear hF eN eN2
            have hC := HADD.out wf (On.refl _) ⟨4, kk - T, R⟩ (some ad) r9 c9 hrd (by omega)
            have ek : ((kk - T : Nat) : Int) = (kk : Int) - (T : Int) := by omega
            simp only [ek] at hC
            go_wp2_with fail
            refine hC.mono ?_
            rintro e w7 ⟨A', c', rfl, hout, hgrow, hnb⟩
            clear hC
            obtain ⟨O5, X5, C5, G5⟩ := HPO.out _ w7 (On.refl _) hgrow
            obtain ⟨z0, z1, z2⟩ := own3 O5
            have zf0 := O5.frozen 0
            have zf1 := O5.frozen 1
            have zf2 := O5.frozen 2
            obtain ⟨n0, n1, n2⟩ := own3 X5
            obtain ⟨w8, hw8⟩ : ∃ w8, ((w7.setCell ⟨q, 0, none⟩ (.int .i64 (vars : Int))).setCell ⟨q, 1, none⟩ (.slice A' (n + 1) c')).setCell ⟨q, 2, none⟩ (.int .i64 0) = w8 := ⟨_, rfl⟩
            have ho7 : Only q w7 w8 := by rw [← hw8]; exact (((Only.refl q w7).set_ 0 _).set_ 1 _).set_ 2 _
            have O8 : Own w8 q 24 #[.int .i64 (vars : Int), .slice A' (n + 1) c', .int .i64 0] := by rw [← hw8]; exact ((O5.set_ 0 _).set_ 1 _).set_ 2 _
            have X8 := X5.only ho7 (by omega)
            have C8 := C5.only ho7 (by omega)
            have U8 := OutN.ft hout ho7 O5
            have G8 := gb_past G5 ho7 (fun g e => by injection e with e; omega)
            obtain ⟨y0, y1, y2⟩ := own3 O8
            obtain ⟨m0, m1, m2⟩ := own3 X8
            obtain ⟨d0, d1, d2⟩ := own3 C8
            have e0 := C8.frozen 0
            have e1 := C8.frozen 1
            have e2 := C8.frozen 2
            have hcp := hout.rd.2.cap
            have hmp := hout.rd.2.max
            have OF := (((C8).set_ 0 (.int .i64 (vars : Int))).set_ 1 (.slice A' (n + 1) c')).set_ 2 (.int .i64 0)
            obtain ⟨x0, x1, x2⟩ := own3 (show Own _ (q + 1 + 1) 24 #[.int .i64 (vars : Int), .slice A' (n + 1) c', .int .i64 0] from OF)
            have ho3 : Only (q + 1 + 1) w8 (((w8.setCell ⟨q + 1 + 1, 0, none⟩ (.int .i64 (vars : Int))).setCell ⟨q + 1 + 1, 1, none⟩ (.slice A' (n + 1) c')).setCell ⟨q + 1 + 1, 2, none⟩ (.int .i64 0)) := (((Only.refl (q + 1 + 1) w8).set_ 0 _).set_ 1 _).set_ 2 _
            have HFI := Lib.hid (And.intro (OutN.ft U8 ho3 (C8)) (gb_past G8 ho3 (fun g e => by injection e with e; omega)))
            have HXX := Lib.hid (And.intro x0 (And.intro x1 x2))
            clear OF ho3 x0 x1 x2
            go_wp2
            refine bodyPost_ret (v := .tuple #[.agg #[.int .i64 (vars : Int), .slice A' (n + 1) c', .int .i64 0], .int .i64 ((vars : Int) + (n : Int))]) (by simp [results, Try.results45, go_sem, HXX.out.1, HXX.out.2.1, HXX.out.2.2]) rfl ⟨A', n + 1, c', ?_, ?_, ?_⟩
            · first | (rw [HEN.out]; done) | (rw [HEN.out]; push_cast; rfl)
            · rw [HEN.out]
              first
              | exact (by simpa using HFI.out.1)
              | exact (by simpa using (HFI.out.1.on (On.refl _).drew))
            · first
              | exact HFI.out.2
              | exact gb_past HFI.out.2 (gb_on (On.refl _).drew none) (fun g e => by cases e)
          · have hr3 : r9 = 1 := by omega
            have hF : foC ⟨4, kk, xa⟩ j r9 T = none := by
              show (if kk ≤ T ∨ r9 < kk - T then _ else _) = _
              rw [if_neg (by omega)]
            have eN := H4.out.2.2.2.2.2.2.1
            rw [hF] at eN
            have eN2 : foN (vars + n) ⟨4, kk, xa⟩ l = ([], (a : Int)) := by
              rw [eN, ← hae]; simp [foM, foM1, foA1, hrl, hr3]
            have HEN := Lib.hid eN2
            clear hF eN eN2
            have OF := (((H4.out.2.2.1).set_ 0 (.int .i64 (vars : Int))).set_ 1 (.slice A (n) c)).set_ 2 (.int .i64 0)
            obtain ⟨x0, x1, x2⟩ := own3 (show Own _ (q + 1 + 1) 24 #[.int .i64 (vars : Int), .slice A (n) c, .int .i64 0] from OF)
            have ho3 : Only (q + 1 + 1) wf (((wf.setCell ⟨q + 1 + 1, 0, none⟩ (.int .i64 (vars : Int))).setCell ⟨q + 1 + 1, 1, none⟩ (.slice A (n) c)).setCell ⟨q + 1 + 1, 2, none⟩ (.int .i64 0)) := (((Only.refl (q + 1 + 1) wf).set_ 0 _).set_ 1 _).set_ 2 _
            have HFI := Lib.hid (And.intro (OutN.ft H4.out.2.2.2.2.1 ho3 (H4.out.2.2.1)) (gb_past (gb_on H4.out.2.2.2.1 (Value.slice A n c).ownBlock) ho3 (fun g e => by injection e with e; omega)))
            have HXX := Lib.hid (And.intro x0 (And.intro x1 x2))
            clear OF ho3 x0 x1 x2
            go_wp2
            refine bodyPost_ret (v := .tuple #[.agg #[.int .i64 (vars : Int), .slice A (n) c, .int .i64 0], .int .i64 ((a : Int))]) (by simp [results, Try.results45, go_sem, HXX.out.1, HXX.out.2.1, HXX.out.2.2]) rfl ⟨A, n, c, ?_, ?_, ?_⟩
            · first | (rw [HEN.out]; done) | (rw [HEN.out]; rfl)
            · rw [HEN.out]
              first
              | exact (by simpa using HFI.out.1)
              | exact (by simpa using (HFI.out.1.on (On.refl _).drew))
            · first
              | exact HFI.out.2
              | exact gb_past HFI.out.2 (gb_on (On.refl _).drew none) (fun g e => by cases e)
end Go.Proofs.Ytooeppffacnmaaa.Fm
/-
  folded of the specification: nodes of kind 5.
-/
namespace Go.Proofs.Ytooeppffacnmaaa.Fm
open Go.RowKit Go.Proofs.Ytooeppffacnmaaa.Sb
set_option linter.unusedVariables false
set_option maxRecDepth 100000
set_option maxHeartbeats 16000000 in
theorem rfolded_5 (w : World) (vars : Nat) (hv : vars ≤ 24) (A : Option Addr) (n c base : Nat) (o : List Nn) (h : OutN w base (.slice A n c) o) (hn : n ≤ 1000) (hbase : base ≤ w.heap.size) (x : Nn) (M : Nat) (hx : okN M x) (hkd : x.kind = 5) (P : Option Addr) (mx dx : Nat) (hxm : mx ≤ dx ∧ dx ≤ 9223372036854775807) (Z : Option Addr) (m d : Nat) (l : List Int) (hZ : Rd w Z m d (VI l)) (hm : x.args.length = m) (hcod : ∀ z ∈ l, isCod z) :
    Calls Try.prog 45 #[.agg #[.int .i64 (vars : Int), .slice A n c, .int .i64 0], .agg #[.int .i64 (x.kind : Int), .int .i64 (x.k : Int), .slice P mx dx], .slice Z m d] w fun e w' => ∃ A' n' c', e = .returned (.tuple #[.agg #[.int .i64 (vars : Int), .slice A' n' c', .int .i64 0], .int .i64 (foN (vars + n) x l).2]) ∧ OutN w' base (.slice A' n' c') (o ++ (foN (vars + n) x l).1) ∧ w.grownBy w' (Value.slice A n c).ownBlock := by
  have HKD := Lib.hid hkd
  clear hkd
  have hnx : o.length = n := h.rd.1.symm
  have hcap := hZ.cap
  have hmax := hZ.max
  have hll : l.length = m := VI_len hZ
  have hcapA := h.rd.2.cap
  have hmaxA := h.rd.2.max
  obtain ⟨q, hq⟩ : ∃ q, w.heap.size = q := ⟨_, rfl⟩
  have hvb : ∀ b, (Value.slice A n c).ownBlock = some b → b < q := fun b hb => by have := (h.blk b hb).2.1; omega
  obtain ⟨w0, hw0⟩ : ∃ w0, ((w.alloc (.cells #[.int .i64 (vars : Int), .slice A n c, .int .i64 0] 24)).alloc (.cells #[.int .i64 (x.kind : Int), .int .i64 (x.k : Int), .slice P mx dx] 49)).alloc (.cells #[.int .i64 0, .slice none 0 0, .int .i64 0] 24) = w0 := ⟨_, rfl⟩
  have O0 : Own w0 q 24 #[.int .i64 (vars : Int), .slice A n c, .int .i64 0] := by rw [← hw0, ← hq]; exact ((Own.new _ _ _).alloc _).alloc _
  have X0 : Own w0 (q + 1) 49 #[.int .i64 (x.kind : Int), .int .i64 (x.k : Int), .slice P mx dx] := by
    rw [← hw0, ← hq]
    have := (Own.new (w.alloc (.cells #[.int .i64 (vars : Int), .slice A n c, .int .i64 0] 24)) 49 #[.int .i64 (x.kind : Int), .int .i64 (x.k : Int), .slice P mx dx]).alloc (.cells #[.int .i64 0, .slice none 0 0, .int .i64 0] 24)
    simpa using this
  have C0 : Own w0 (q + 1 + 1) 24 #[.int .i64 0, .slice none 0 0, .int .i64 0] := by
    rw [← hw0, ← hq]
    have := Own.new ((w.alloc (.cells #[.int .i64 (vars : Int), .slice A n c, .int .i64 0] 24)).alloc (.cells #[.int .i64 (x.kind : Int), .int .i64 (x.k : Int), .slice P mx dx] 49)) 24 #[.int .i64 0, .slice none 0 0, .int .i64 0]
    simpa using this
  have P0 : On w w0 := by rw [← hw0]; exact (((On.refl w).alloc _).alloc _).alloc _
  have hq0 : q + 1 + 1 + 1 ≤ w0.heap.size := by have := C0.lt; omega
  obtain ⟨hm16, hm1⟩ : m ≤ 16 ∧ x.kind ≤ 5 := ⟨by rw [← hm]; exact okN_len hx, hx.1⟩
  have HO := Lib.hid (And.intro O0 (And.intro X0 (And.intro C0 P0)))
  have HW := Lib.hid hw0
  have HI := Lib.hid (And.intro h (And.intro hvb (And.intro hnx (And.intro hx hm))))
  have HZ := Lib.hid (And.intro hZ (And.intro hll hcod))
  clear h hZ hx hm hnx hll hcod O0 X0 C0 P0 hw0
  go_enter Try.func45, Try.ntmps45
  go_upto_region 1 with fail
  rw [HW.out]
  go_wp2
  go_loopw [20, 8, 9] (fun i v u wr => ∃ (j : Nat) (A9 : Option Addr) (r9 c9 : Nat), j ≤ m ∧ i = .int .i64 (j : Int) ∧ v = .slice A9 r9 c9 ∧ r9 = (foR (l.take j)).length ∧ u = .int .i64 (foT (l.take j) : Nat) ∧ wr.ownsRow w0.heap.size 3 1 (.slice A9 r9 c9) r9 (VI (ints (foR (l.take j)))) ∧ On w0 wr) (fun i _ _ _ => m - (intOf i).toNat)
  case atStart => exact ⟨0, none, 0, 0, by omega, rfl, rfl, rfl, rfl, row_nil _ _ _, by first | exact On.refl _ | exact On.drewN (On.refl _) _⟩
  case round =>
    obtain ⟨j, A9, r9, c9, hj, rfl, rfl, hr9, rfl, hrow, hon⟩ := hrel
    by_cases hlt : j < m
    · obtain ⟨ad, rfl, hb, hc⟩ := VI_rd (HZ.out.1.on (HO.out.2.2.2.trans hon)) hlt
      have hjl : j < l.length := by rw [HZ.out.2.1]; exact hlt
      have htk := takeZ hjl
      have hcz : isCod (l.getD j 0) := HZ.out.2.2 _ (by
        have : l.getD j 0 = l[j] := by simp [hjl]
        rw [this]; exact List.getElem_mem hjl)
      have hT := foT_snoc (l.take j) (l.getD j 0)
      have hR := foR_snoc (l.take j) (l.getD j 0)
      rw [← htk] at hT hR
      have hbound := foR_len (l.take j)
      have htl : (l.take j).length ≤ j := by rw [List.length_take]; omega
      obtain ⟨z, hz⟩ : ∃ z, l.getD j 0 = z := ⟨_, rfl⟩
      rw [hz] at hc hcz hT hR
      obtain ⟨tt, htt⟩ : ∃ tt, foT (l.take j) = tt := ⟨_, rfl⟩
      rw [htt] at hT hbound ⊢
      rw [← hr9] at hbound
      have hsz := hon.size
      have HV := Lib.hid (And.intro hrow (And.intro hon (And.intro hT (And.intro hR hr9))))
      clear hrow hon hT hR htk hz htt
      rcases hcz with rfl | rfl | ⟨a, rfl, ha⟩
      · go_wp2
        go_roundw
        case rel => exact ⟨j + 1, A9, r9, c9, by omega, by go_num, rfl, by rw [HV.out.2.2.2.1]; simpa using HV.out.2.2.2.2, by rw [HV.out.2.2.1]; rfl, by rw [HV.out.2.2.2.1]; simpa using HV.out.1, HV.out.2.1⟩
        case measure => simp [intOf] <;> omega
      · go_wp2
        go_roundw
        case rel => exact ⟨j + 1, A9, r9, c9, by omega, by go_num, rfl, by rw [HV.out.2.2.2.1]; simpa using HV.out.2.2.2.2, by rw [HV.out.2.2.1]; go_num, by rw [HV.out.2.2.2.1]; simpa using HV.out.1, HV.out.2.1⟩
        case measure => simp [intOf] <;> omega
      · have en1 : ¬ (a : Int) = -1 := by omega
        have en2 : ¬ (a : Int) = -2 := by omega
        go_wp2_with (at_builtin; refine wpList_app rfl (.tmp 25) (.tmp 27) 47 rfl w0.heap.size 3 (.int .i64 0) 8 Try.underlying47 infoi rfl (by decide) (.slice A9 r9 c9) _ (VI (ints (foR (l.take j)))) rfl (row_alloc HV.out.1 _) (some ⟨wr.heap.size, 0, none⟩) 1 1 [.int .i64 (a : Int)] rfl (rd_one _ _ _) (by simp [Value.oneCell']) (by omega) (by simp; omega) ?_; intro v' w11 hown11 hgrow11 _)
        obtain ⟨A11, c11, rfl⟩ := row_form hown11
        go_roundw
        case rel =>
          refine ⟨j + 1, A11, r9 + 1, c11, by omega, by go_num, rfl, ?_, ?_, ?_, on_row (HV.out.2.1.alloc _) (row_alloc HV.out.1 _) (Nat.le_refl _) hgrow11⟩
          · rw [HV.out.2.2.2.1, List.length_append, ← HV.out.2.2.2.2]; simp
          · rw [HV.out.2.2.1]; simp [en2]
          · rw [HV.out.2.2.2.1]
            simpa [ints_snoc, VI_snocI, VI, ints] using hown11
        case measure => simp [intOf] <;> omega
    · obtain rfl : j = m := by omega
      have etk : l.take j = l := List.take_of_length_le (by rw [HZ.out.2.1]; exact Nat.le_refl _)
      rw [etk] at hr9 hrow ⊢
      have hbound := foR_len l
      rw [HZ.out.2.1, ← hr9] at hbound
      have hNN : ∀ R T L, foR l = R → foT l = T → l.length = L → foN (vars + n) x l = match foC x L R.length T with
        | some b => ([], foB b)
        | none => ((foM (vars + n) x T R).1, ((foM (vars + n) x T R).2 : Int)) := fun R T L e1 e2 e3 => by subst e1; subst e2; subst e3; rfl
      obtain ⟨R, hRe⟩ : ∃ R, foR l = R := ⟨_, rfl⟩
      obtain ⟨T, hTe⟩ : ∃ T, foT l = T := ⟨_, rfl⟩
      have hN := hNN R T j hRe hTe HZ.out.2.1
      have hRb : ∀ b ∈ R, b < 100000 := fun b hb => by
        rw [← hRe] at hb
        unfold foR at hb
        obtain ⟨z, hz, rfl⟩ := List.mem_map.1 hb
        obtain ⟨hz1, hz2⟩ := List.mem_filter.1 hz
        rcases HZ.out.2.2 z hz1 with rfl | rfl | ⟨a, rfl, ha⟩
        · simp at hz2
        · simp at hz2
        · simpa using ha
      rw [hRe] at hr9 hrow
      rw [hTe] at hbound ⊢
      rw [← hr9] at hN
      obtain ⟨hO4, hX4, hC4, hP4⟩ : Own wr q 24 #[.int .i64 (vars : Int), .slice A n c, .int .i64 0] ∧ Own wr (q + 1) 49 #[.int .i64 (x.kind : Int), .int .i64 (x.k : Int), .slice P mx dx] ∧ Own wr (q + 1 + 1) 24 #[.int .i64 0, .slice none 0 0, .int .i64 0] ∧ On w wr := ⟨HO.out.1.on hon, HO.out.2.1.on hon, HO.out.2.2.1.on hon, HO.out.2.2.2.trans hon⟩
      have hsz : q + 1 + 1 + 1 ≤ wr.heap.size := by have := hon.size; omega
      have hform := HI.out.2.2.2.1
      have hxm2 := HI.out.2.2.2.2
      have hnx2 := HI.out.2.2.1
      have hOut4 := HI.out.1.on hP4
      have hrd := rd_of_row hrow
      have hcap9 := hrd.cap
      have hmax9 := hrd.max
      obtain ⟨kd, kk, xa⟩ := x
      obtain rfl : kd = 5 := HKD.out
      have H4 := Lib.hid (And.intro hO4 (And.intro hX4 (And.intro hC4 (And.intro hP4 (And.intro hOut4 (And.intro hrow (And.intro hN (And.intro hRb (And.intro hr9 (And.intro hform (And.intro hxm2 hnx2)))))))))))
      obtain ⟨r0, r1, r2⟩ := own3 hO4
      obtain ⟨k0, k1, k2⟩ := own3 hX4
      obtain ⟨c0, c1, c2⟩ := own3 hC4
      have g0 := hC4.frozen 0
      have g1 := hC4.frozen 1
      have g2 := hC4.frozen 2
      clear hO4 hX4 hC4 hP4 hOut4 hrow hN hNN hRb hr9 hform hxm2 hnx2 hRe hTe hrd hon etk
      obtain ⟨wf, hwf⟩ : ∃ wf, wf = wr := ⟨_, rfl⟩
      subst hwf
      have hadd := fun (W : World) (k : On wf W) (y : Nn) (P : Option Addr) (m d : Nat) (hR : Rd W P m d (VI (ints y.args))) (hm : m ≤ 1000) => radd_new W (vars : Int) 0 A n c base o (H4.out.2.2.2.2.1.on k) y P m d hR hm (by omega) (by have := k.size; omega) (by omega)
      have hpost : ∀ (W W' : World), On wf W → W.grownBy W' (Value.slice A n c).ownBlock → Own W' q 24 #[.int .i64 (vars : Int), .slice A n c, .int .i64 0] ∧ Own W' (q + 1) 49 #[.int .i64 ((5 : Nat) : Int), .int .i64 (kk : Int), .slice P mx dx] ∧ Own W' (q + 1 + 1) 24 #[.int .i64 0, .slice none 0 0, .int .i64 0] ∧ w.grownBy W' (Value.slice A n c).ownBlock := fun W W' k hg => ⟨own_by (H4.out.1.on k) hg (fun b hb => by have := HI.out.2.1 b hb; omega), own_by (H4.out.2.1.on k) hg (fun b hb => by have := HI.out.2.1 b hb; omega), own_by (H4.out.2.2.1.on k) hg (fun b hb => by have := HI.out.2.1 b hb; omega), World.grownBy.trans (gb_on (H4.out.2.2.2.1.trans k) _) hg⟩
      have HADD := Lib.hid hadd
      have HPO := Lib.hid hpost
      clear hadd hpost
      by_cases hr0 : r9 = 0
      · go_upto_region 15 with fail
        have hF : foC ⟨5, kk, xa⟩ j r9 T = some (decide (T % 2 = 1)) := by show (if r9 = 0 then _ else _) = _; rw [if_pos hr0]
        have eN := H4.out.2.2.2.2.2.2.1
        rw [hF] at eN
        have HEN := Lib.hid eN
        clear hF eN
        have OF := (((H4.out.2.2.1).set_ 0 (.int .i64 (vars : Int))).set_ 1 (.slice A (n) c)).set_ 2 (.int .i64 0)
        obtain ⟨x0, x1, x2⟩ := own3 (show Own _ (q + 1 + 1) 24 #[.int .i64 (vars : Int), .slice A (n) c, .int .i64 0] from OF)
        have ho3 : Only (q + 1 + 1) wf (((wf.setCell ⟨q + 1 + 1, 0, none⟩ (.int .i64 (vars : Int))).setCell ⟨q + 1 + 1, 1, none⟩ (.slice A (n) c)).setCell ⟨q + 1 + 1, 2, none⟩ (.int .i64 0)) := (((Only.refl (q + 1 + 1) wf).set_ 0 _).set_ 1 _).set_ 2 _
        have HFI := Lib.hid (And.intro (OutN.ft H4.out.2.2.2.2.1 ho3 (H4.out.2.2.1)) (gb_past (gb_on H4.out.2.2.2.1 (Value.slice A n c).ownBlock) ho3 (fun g e => by injection e with e; omega)))
        have HXX := Lib.hid (And.intro x0 (And.intro x1 x2))
        clear OF ho3 x0 x1 x2
        go_region_with ((first | (go_at_call 62; refine (rtruth_any _ _).mono ?_; rintro e w4 ⟨rfl, rfl⟩)))
        all_goals go_wp2
        all_goals
          refine bodyPost_ret (v := .tuple #[.agg #[.int .i64 (vars : Int), .slice A (n) c, .int .i64 0], .int .i64 (foB (((T : Int).tmod 2) == 1))]) (by simp [results, Try.results45, go_sem, HXX.out.1, HXX.out.2.1, HXX.out.2.2]) rfl ⟨A, n, c, ?_, ?_, ?_⟩
          · first | (rw [HEN.out]; done) | (rw [HEN.out]; have eb : (((T : Int).tmod 2) == 1) = decide (T % 2 = 1) := (by rw [Int.tmod_eq_emod_of_nonneg (by omega)]; by_cases e : T % 2 = 1 <;> simp [e] <;> omega); rw [eb])
          · rw [HEN.out]
            first
            | exact (by simpa using HFI.out.1)
            | exact (by simpa using (HFI.out.1.on (On.refl _).drew))
          · first
            | exact HFI.out.2
            | exact gb_past HFI.out.2 (gb_on (On.refl _).drew none) (fun g e => by cases e)
      · have hrd := rd_of_row H4.out.2.2.2.2.2.1
        obtain ⟨ad, had, hadb, hac⟩ := VI_at hrd (j := 0) (by omega)
        subst had
        have hrl : R.length = r9 := H4.out.2.2.2.2.2.2.2.2.1.symm
        rw [ints_getD (by omega)] at hac
        have hab : R.getD 0 0 < 100000 := H4.out.2.2.2.2.2.2.2.1 _ (getD_memN (by omega))
        obtain ⟨a, hae⟩ : ∃ a, R.getD 0 0 = a := ⟨_, rfl⟩
        rw [hae] at hac hab
        have hac2 : wf.cell? ad = some (.int .i64 (a : Int)) := by rw [add_nil] at hac; exact hac
        have hTm : T % 2 < 2 := Nat.mod_lt _ (by omega)
        by_cases hr2 : 1 < r9
        · by_cases hT1 : T % 2 = 1
          · have hTo : T % 2 = 1 := hT1
            have hTi : (T : Int) % 2 = 1 := by omega
            have hTi2 : (T : Int).tmod 2 = 1 := by rw [Int.tmod_eq_emod_of_nonneg (by omega)]; exact hTi
            have hF : foC ⟨5, kk, xa⟩ j r9 T = none := by
              show (if r9 = 0 then _ else _) = _
              rw [if_neg hr0]
            have eN := H4.out.2.2.2.2.2.2.1
            rw [hF] at eN
            have eN2 : foN (vars + n) ⟨5, kk, xa⟩ l = ([⟨5, 0, R⟩, ⟨1, 0, [vars + n]⟩], ((vars + n + 1 : Nat) : Int)) := by
              rw [eN]; simp [foM, foM1, foA1, hrl, hr2, hT1]
            have HEN := Lib.hid eN2
            clear hF eN eN2
            have hC := HADD.out wf (On.refl _) ⟨5, 0, R⟩ (some ad) r9 c9 hrd (by omega)
            go_wp2_with fail
            refine hC.mono ?_
            rintro e w7 ⟨A', c', rfl, hout, hgrow, hnb⟩
            clear hC
            obtain ⟨O5, X5, C5, G5⟩ := HPO.out _ w7 (On.refl _) hgrow
            have hnbq : ∀ b, (Value.slice A' (n + 1) c').ownBlock = some b → b ≠ q ∧ b ≠ q + 1 + 1 ∧ ((Value.slice A n c).ownBlock = some b ∨ w.heap.size ≤ b) := fun b hb => by
              rcases hnb with e | ⟨b', e, hb'⟩
              · rw [e] at hb
                have := HI.out.2.1 b hb
                exact ⟨by omega, by omega, .inl hb⟩
              · rw [e] at hb
                injection hb with hb
                exact ⟨by omega, by omega, .inr (by omega)⟩
            have HNB := Lib.hid hnbq
            clear hnbq
            obtain ⟨z0, z1, z2⟩ := own3 O5
            have zf0 := O5.frozen 0
            have zf1 := O5.frozen 1
            have zf2 := O5.frozen 2
            obtain ⟨n0, n1, n2⟩ := own3 X5
            obtain ⟨w8, hw8⟩ : ∃ w8, ((w7.setCell ⟨q, 0, none⟩ (.int .i64 (vars : Int))).setCell ⟨q, 1, none⟩ (.slice A' (n + 1) c')).setCell ⟨q, 2, none⟩ (.int .i64 0) = w8 := ⟨_, rfl⟩
            have ho7 : Only q w7 w8 := by rw [← hw8]; exact (((Only.refl q w7).set_ 0 _).set_ 1 _).set_ 2 _
            have O8 : Own w8 q 24 #[.int .i64 (vars : Int), .slice A' (n + 1) c', .int .i64 0] := by rw [← hw8]; exact ((O5.set_ 0 _).set_ 1 _).set_ 2 _
            have X8 := X5.only ho7 (by omega)
            have C8 := C5.only ho7 (by omega)
            have U8 := OutN.ft hout ho7 O5
            have G8 := gb_past G5 ho7 (fun g e => by injection e with e; omega)
            obtain ⟨y0, y1, y2⟩ := own3 O8
            obtain ⟨m0, m1, m2⟩ := own3 X8
            obtain ⟨d0, d1, d2⟩ := own3 C8
            have e0 := C8.frozen 0
            have e1 := C8.frozen 1
            have e2 := C8.frozen 2
            have hcp := hout.rd.2.cap
            have hmp := hout.rd.2.max
            have hR8 := rd_one w8 3 (.int .i64 ((vars : Int) + (n : Int)))
            have ehR : VI (ints [vars + n]) = [.int .i64 ((vars : Int) + (n : Int))] := by simp [VI, ints]
            rw [← ehR] at hR8
            have P9 : On w8 (w8.alloc (.cells #[.int .i64 ((vars : Int) + (n : Int))] 3)) := (On.refl w8).alloc _
            have hC2 := radd_any _ (vars : Int) 0 A' (n + 1) c' base _ (U8.on P9) ⟨1, 0, [vars + n]⟩ _ 1 1 hR8 (by omega) (by omega) (by have := P9.size; have := ho7.size; have := hgrow.size; omega) (by omega)
            have hb8 := U8.blk
            have hQ9 := O8.on P9
            have hC9 := C8.on P9
            have hX9 := X8.on P9
            go_wp2_with fail
            refine hC2.mono ?_
            rintro e w9 ⟨A2, c2', rfl, hout2, hgrow2⟩
            clear hC2 z0 z1 z2 zf0 zf1 zf2 n0 n1 n2 y0 y1 y2 m0 m1 m2 d0 d1 d2 e0 e1 e2 hcp hmp hw8
            have O9 := own_by hQ9 hgrow2 (fun b hb => (HNB.out b hb).1)
            have C9 := own_by hC9 hgrow2 (fun b hb => (HNB.out b hb).2.1)
            have G9 : w.grownBy w9 (Value.slice A n c).ownBlock := by
              have g8 := gb_past G8 (gb_on P9 none) (fun g e => by cases e)
              exact ⟨hgrow2.os.trans g8.os, hgrow2.tape.trans g8.tape, hgrow2.output.trans g8.output, Nat.le_trans g8.size hgrow2.size, fun i hi hne => (hgrow2.block i (Nat.lt_of_lt_of_le hi g8.size) (fun e => by
                rcases (HNB.out i e.symm).2.2 with h1 | h1
                · exact hne h1.symm
                · omega)).trans (g8.block i hi hne)⟩
            obtain ⟨z0, z1, z2⟩ := own3 O9
            have zf0 := O9.frozen 0
            have zf1 := O9.frozen 1
            have zf2 := O9.frozen 2
            obtain ⟨w10, hw10⟩ : ∃ w10, ((w9.setCell ⟨q, 0, none⟩ (.int .i64 (vars : Int))).setCell ⟨q, 1, none⟩ (.slice A2 (n + 1 + 1) c2')).setCell ⟨q, 2, none⟩ (.int .i64 0) = w10 := ⟨_, rfl⟩
            have ho9 : Only q w9 w10 := by rw [← hw10]; exact (((Only.refl q w9).set_ 0 _).set_ 1 _).set_ 2 _
            have O10 : Own w10 q 24 #[.int .i64 (vars : Int), .slice A2 (n + 1 + 1) c2', .int .i64 0] := by rw [← hw10]; exact ((O9.set_ 0 _).set_ 1 _).set_ 2 _
            have C10 := C9.only ho9 (by omega)
            have U10 := OutN.ft hout2 ho9 O9
            have G10 := gb_past G9 ho9 (fun g e => by injection e with e; omega)
            obtain ⟨y0, y1, y2⟩ := own3 O10
            obtain ⟨d0, d1, d2⟩ := own3 C10
            have e0 := C10.frozen 0
            have e1 := C10.frozen 1
            have e2 := C10.frozen 2
            have hcp := hout2.rd.2.cap
            have hmp := hout2.rd.2.max
            have OF := (((C10).set_ 0 (.int .i64 (vars : Int))).set_ 1 (.slice A2 (n + 1 + 1) c2')).set_ 2 (.int .i64 0)
            obtain ⟨x0, x1, x2⟩ := own3 (show Own _ (q + 1 + 1) 24 #[.int .i64 (vars : Int), .slice A2 (n + 1 + 1) c2', .int .i64 0] from OF)
            have ho3 : Only (q + 1 + 1) w10 (((w10.setCell ⟨q + 1 + 1, 0, none⟩ (.int .i64 (vars : Int))).setCell ⟨q + 1 + 1, 1, none⟩ (.slice A2 (n + 1 + 1) c2')).setCell ⟨q + 1 + 1, 2, none⟩ (.int .i64 0)) := (((Only.refl (q + 1 + 1) w10).set_ 0 _).set_ 1 _).set_ 2 _
            have HFI := Lib.hid (And.intro (OutN.ft U10 ho3 (C10)) (gb_past G10 ho3 (fun g e => by injection e with e; omega)))
            have HXX := Lib.hid (And.intro x0 (And.intro x1 x2))
            clear OF ho3 x0 x1 x2
            go_wp2
            refine bodyPost_ret (v := .tuple #[.agg #[.int .i64 (vars : Int), .slice A2 (n + 1 + 1) c2', .int .i64 0], .int .i64 ((vars : Int) + ((n + 1 : Nat) : Int))]) (by simp [results, Try.results45, go_sem, HXX.out.1, HXX.out.2.1, HXX.out.2.2]) rfl ⟨A2, n + 1 + 1, c2', ?_, ?_, ?_⟩
            · first | (rw [HEN.out]; done) | (rw [HEN.out]; push_cast; rfl)
            · rw [HEN.out]
              first
              | exact (by simpa using HFI.out.1)
              | exact (by simpa using (HFI.out.1.on (On.refl _).drew))
            · first
              | exact HFI.out.2
              | exact gb_past HFI.out.2 (gb_on (On.refl _).drew none) (fun g e => by cases e)
          · have hT0 : ¬ T % 2 = 1 := hT1
            have hTi : (T : Int) % 2 = 0 := by omega
            have hTi2 : (T : Int).tmod 2 = 0 := by rw [Int.tmod_eq_emod_of_nonneg (by omega)]; exact hTi
            have hF : foC ⟨5, kk, xa⟩ j r9 T = none := by
              show (if r9 = 0 then _ else _) = _
              rw [if_neg hr0]
            have eN := H4.out.2.2.2.2.2.2.1
            rw [hF] at eN
            have eN2 : foN (vars + n) ⟨5, kk, xa⟩ l = ([⟨5, 0, R⟩], ((vars + n : Nat) : Int)) := by
              rw [eN]; simp [foM, foM1, foA1, hrl, hr2, hT1]
            have HEN := Lib.hid eN2
            clear hF eN eN2
            have hC := HADD.out wf (On.refl _) ⟨5, 0, R⟩ (some ad) r9 c9 hrd (by omega)
            go_wp2_with fail
            refine hC.mono ?_
            rintro e w7 ⟨A', c', rfl, hout, hgrow, hnb⟩
            clear hC
            obtain ⟨O5, X5, C5, G5⟩ := HPO.out _ w7 (On.refl _) hgrow
            obtain ⟨z0, z1, z2⟩ := own3 O5
            have zf0 := O5.frozen 0
            have zf1 := O5.frozen 1
            have zf2 := O5.frozen 2
            obtain ⟨n0, n1, n2⟩ := own3 X5
            obtain ⟨w8, hw8⟩ : ∃ w8, ((w7.setCell ⟨q, 0, none⟩ (.int .i64 (vars : Int))).setCell ⟨q, 1, none⟩ (.slice A' (n + 1) c')).setCell ⟨q, 2, none⟩ (.int .i64 0) = w8 := ⟨_, rfl⟩
            have ho7 : Only q w7 w8 := by rw [← hw8]; exact (((Only.refl q w7).set_ 0 _).set_ 1 _).set_ 2 _
            have O8 : Own w8 q 24 #[.int .i64 (vars : Int), .slice A' (n + 1) c', .int .i64 0] := by rw [← hw8]; exact ((O5.set_ 0 _).set_ 1 _).set_ 2 _
            have X8 := X5.only ho7 (by omega)
            have C8 := C5.only ho7 (by omega)
            have U8 := OutN.ft hout ho7 O5
            have G8 := gb_past G5 ho7 (fun g e => by injection e with e; omega)
            obtain ⟨y0, y1, y2⟩ := own3 O8
            obtain ⟨m0, m1, m2⟩ := own3 X8
            obtain ⟨d0, d1, d2⟩ := own3 C8
            have e0 := C8.frozen 0
            have e1 := C8.frozen 1
            have e2 := C8.frozen 2
            have hcp := hout.rd.2.cap
            have hmp := hout.rd.2.max
            have OF := (((C8).set_ 0 (.int .i64 (vars : Int))).set_ 1 (.slice A' (n + 1) c')).set_ 2 (.int .i64 0)
            obtain ⟨x0, x1, x2⟩ := own3 (show Own _ (q + 1 + 1) 24 #[.int .i64 (vars : Int), .slice A' (n + 1) c', .int .i64 0] from OF)
            have ho3 : Only (q + 1 + 1) w8 (((w8.setCell ⟨q + 1 + 1, 0, none⟩ (.int .i64 (vars : Int))).setCell ⟨q + 1 + 1, 1, none⟩ (.slice A' (n + 1) c')).setCell ⟨q + 1 + 1, 2, none⟩ (.int .i64 0)) := (((Only.refl (q + 1 + 1) w8).set_ 0 _).set_ 1 _).set_ 2 _
            have HFI := Lib.hid (And.intro (OutN.ft U8 ho3 (C8)) (gb_past G8 ho3 (fun g e => by injection e with e; omega)))
            have HXX := Lib.hid (And.intro x0 (And.intro x1 x2))
            clear OF ho3 x0 x1 x2
            go_wp2
            refine bodyPost_ret (v := .tuple #[.agg #[.int .i64 (vars : Int), .slice A' (n + 1) c', .int .i64 0], .int .i64 ((vars : Int) + (n : Int))]) (by simp [results, Try.results45, go_sem, HXX.out.1, HXX.out.2.1, HXX.out.2.2]) rfl ⟨A', n + 1, c', ?_, ?_, ?_⟩
            · first | (rw [HEN.out]; done) | (rw [HEN.out]; push_cast; rfl)
            · rw [HEN.out]
              first
              | exact (by simpa using HFI.out.1)
              | exact (by simpa using (HFI.out.1.on (On.refl _).drew))
            · first
              | exact HFI.out.2
              | exact gb_past HFI.out.2 (gb_on (On.refl _).drew none) (fun g e => by cases e)
        · by_cases hT1 : T % 2 = 1
          · have hr3 : r9 = 1 := by omega
            have hTi : (T : Int) % 2 = 1 := by omega
            have hTi2 : (T : Int).tmod 2 = 1 := by rw [Int.tmod_eq_emod_of_nonneg (by omega)]; exact hTi
            have hF : foC ⟨5, kk, xa⟩ j r9 T = none := by
              show (if r9 = 0 then _ else _) = _
              rw [if_neg hr0]
            have eN := H4.out.2.2.2.2.2.2.1
            rw [hF] at eN
            have eN2 : foN (vars + n) ⟨5, kk, xa⟩ l = ([⟨1, 0, [a]⟩], ((vars + n : Nat) : Int)) := by
              rw [eN, ← hae]; simp [foM, foM1, foA1, hrl, hr3, hT1]
            have HEN := Lib.hid eN2
            clear hF eN eN2
            have hR8 := rd_one wf 3 (.int .i64 (a : Int))
            have ehR : VI (ints [a]) = [.int .i64 (a : Int)] := by simp [VI, ints]
            rw [← ehR] at hR8
            have P9 : On wf (wf.alloc (.cells #[.int .i64 (a : Int)] 3)) := (On.refl wf).alloc _
            have hC := HADD.out _ P9 ⟨1, 0, [a]⟩ _ 1 1 hR8 (by omega)
            go_wp2_with fail
            refine hC.mono ?_
            rintro e w7 ⟨A', c', rfl, hout, hgrow, hnb⟩
            clear hC
            obtain ⟨O5, X5, C5, G5⟩ := HPO.out _ w7 P9 hgrow
            obtain ⟨z0, z1, z2⟩ := own3 O5
            have zf0 := O5.frozen 0
            have zf1 := O5.frozen 1
            have zf2 := O5.frozen 2
            obtain ⟨n0, n1, n2⟩ := own3 X5
            obtain ⟨w8, hw8⟩ : ∃ w8, ((w7.setCell ⟨q, 0, none⟩ (.int .i64 (vars : Int))).setCell ⟨q, 1, none⟩ (.slice A' (n + 1) c')).setCell ⟨q, 2, none⟩ (.int .i64 0) = w8 := ⟨_, rfl⟩
            have ho7 : Only q w7 w8 := by rw [← hw8]; exact (((Only.refl q w7).set_ 0 _).set_ 1 _).set_ 2 _
            have O8 : Own w8 q 24 #[.int .i64 (vars : Int), .slice A' (n + 1) c', .int .i64 0] := by rw [← hw8]; exact ((O5.set_ 0 _).set_ 1 _).set_ 2 _
            have X8 := X5.only ho7 (by omega)
            have C8 := C5.only ho7 (by omega)
            have U8 := OutN.ft hout ho7 O5
            have G8 := gb_past G5 ho7 (fun g e => by injection e with e; omega)
            obtain ⟨y0, y1, y2⟩ := own3 O8
            obtain ⟨m0, m1, m2⟩ := own3 X8
            obtain ⟨d0, d1, d2⟩ := own3 C8
            have e0 := C8.frozen 0
            have e1 := C8.frozen 1
            have e2 := C8.frozen 2
            have hcp := hout.rd.2.cap
            have hmp := hout.rd.2.max
            have OF := (((C8).set_ 0 (.int .i64 (vars : Int))).set_ 1 (.slice A' (n + 1) c')).set_ 2 (.int .i64 0)
            obtain ⟨x0, x1, x2⟩ := own3 (show Own _ (q + 1 + 1) 24 #[.int .i64 (vars : Int), .slice A' (n + 1) c', .int .i64 0] from OF)
            have ho3 : Only (q + 1 + 1) w8 (((w8.setCell ⟨q + 1 + 1, 0, none⟩ (.int .i64 (vars : Int))).setCell ⟨q + 1 + 1, 1, none⟩ (.slice A' (n + 1) c')).setCell ⟨q + 1 + 1, 2, none⟩ (.int .i64 0)) := (((Only.refl (q + 1 + 1) w8).set_ 0 _).set_ 1 _).set_ 2 _
            have HFI := Lib.hid (And.intro (OutN.ft U8 ho3 (C8)) (gb_past G8 ho3 (fun g e => by injection e with e; omega)))
            have HXX := Lib.hid (And.intro x0 (And.intro x1 x2))
            clear OF ho3 x0 x1 x2
            go_wp2
            refine bodyPost_ret (v := .tuple #[.agg #[.int .i64 (vars : Int), .slice A' (n + 1) c', .int .i64 0], .int .i64 ((vars : Int) + (n : Int))]) (by simp [results, Try.results45, go_sem, HXX.out.1, HXX.out.2.1, HXX.out.2.2]) rfl ⟨A', n + 1, c', ?_, ?_, ?_⟩
            · first | (rw [HEN.out]; done) | (rw [HEN.out]; push_cast; rfl)
            · rw [HEN.out]
              first
              | exact (by simpa using HFI.out.1)
              | exact (by simpa using (HFI.out.1.on (On.refl _).drew))
            · first
              | exact HFI.out.2
              | exact gb_past HFI.out.2 (gb_on (On.refl _).drew none) (fun g e => by cases e)
          · have hr3 : r9 = 1 := by omega
            have hTi : (T : Int) % 2 = 0 := by omega
            have hTi2 : (T : Int).tmod 2 = 0 := by rw [Int.tmod_eq_emod_of_nonneg (by omega)]; exact hTi
            have hF : foC ⟨5, kk, xa⟩ j r9 T = none := by
              show (if r9 = 0 then _ else _) = _
              rw [if_neg hr0]
            have eN := H4.out.2.2.2.2.2.2.1
            rw [hF] at eN
            have eN2 : foN (vars + n) ⟨5, kk, xa⟩ l = ([], (a : Int)) := by
              rw [eN, ← hae]; simp [foM, foM1, foA1, hrl, hr3, hT1]
            have HEN := Lib.hid eN2
            clear hF eN eN2
            have OF := (((H4.out.2.2.1).set_ 0 (.int .i64 (vars : Int))).set_ 1 (.slice A (n) c)).set_ 2 (.int .i64 0)
            obtain ⟨x0, x1, x2⟩ := own3 (show Own _ (q + 1 + 1) 24 #[.int .i64 (vars : Int), .slice A (n) c, .int .i64 0] from OF)
            have ho3 : Only (q + 1 + 1) wf (((wf.setCell ⟨q + 1 + 1, 0, none⟩ (.int .i64 (vars : Int))).setCell ⟨q + 1 + 1, 1, none⟩ (.slice A (n) c)).setCell ⟨q + 1 + 1, 2, none⟩ (.int .i64 0)) := (((Only.refl (q + 1 + 1) wf).set_ 0 _).set_ 1 _).set_ 2 _
            have HFI := Lib.hid (And.intro (OutN.ft H4.out.2.2.2.2.1 ho3 (H4.out.2.2.1)) (gb_past (gb_on H4.out.2.2.2.1 (Value.slice A n c).ownBlock) ho3 (fun g e => by injection e with e; omega)))
            have HXX := Lib.hid (And.intro x0 (And.intro x1 x2))
            clear OF ho3 x0 x1 x2
            go_wp2
            refine bodyPost_ret (v := .tuple #[.agg #[.int .i64 (vars : Int), .slice A (n) c, .int .i64 0], .int .i64 ((a : Int))]) (by simp [results, Try.results45, go_sem, HXX.out.1, HXX.out.2.1, HXX.out.2.2]) rfl ⟨A, n, c, ?_, ?_, ?_⟩
            · first | (rw [HEN.out]; done) | (rw [HEN.out]; rfl)
            · rw [HEN.out]
              first
              | exact (by simpa using HFI.out.1)
              | exact (by simpa using (HFI.out.1.on (On.refl _).drew))
            · first
              | exact HFI.out.2
              | exact gb_past HFI.out.2 (gb_on (On.refl _).drew none) (fun g e => by cases e)
end Go.Proofs.Ytooeppffacnmaaa.Fm
/-
  folded of the specification, for any node.
-/
namespace Go.Proofs.Ytooeppffacnmaaa.Fm
open Go.RowKit Go.Proofs.Ytooeppffacnmaaa.Sb
set_option linter.unusedVariables false
set_option maxRecDepth 100000
theorem rfolded_ok (w : World) (vars : Nat) (hv : vars ≤ 24) (A : Option Addr) (n c base : Nat) (o : List Nn) (h : OutN w base (.slice A n c) o) (hn : n ≤ 1000) (hbase : base ≤ w.heap.size) (x : Nn) (M : Nat) (hx : okN M x) (P : Option Addr) (mx dx : Nat) (hxm : mx ≤ dx ∧ dx ≤ 9223372036854775807) (Z : Option Addr) (m d : Nat) (l : List Int) (hZ : Rd w Z m d (VI l)) (hm : x.args.length = m) (hcod : ∀ z ∈ l, isCod z) :
    Calls Try.prog 45 #[.agg #[.int .i64 (vars : Int), .slice A n c, .int .i64 0], .agg #[.int .i64 (x.kind : Int), .int .i64 (x.k : Int), .slice P mx dx], .slice Z m d] w fun e w' => ∃ A' n' c', e = .returned (.tuple #[.agg #[.int .i64 (vars : Int), .slice A' n' c', .int .i64 0], .int .i64 (foN (vars + n) x l).2]) ∧ OutN w' base (.slice A' n' c') (o ++ (foN (vars + n) x l).1) ∧ w.grownBy w' (Value.slice A n c).ownBlock := by
  have h5 : x.kind ≤ 5 := hx.1
  have h6 : x.kind = 0 ∨ x.kind = 1 ∨ x.kind = 2 ∨ x.kind = 3 ∨ x.kind = 4 ∨ x.kind = 5 := by omega
  rcases h6 with e | e | e | e | e | e
  · exact rfolded_0 w vars hv A n c base o h hn hbase x M hx e P mx dx hxm Z m d l hZ hm hcod
  · exact rfolded_1 w vars hv A n c base o h hn hbase x M hx e P mx dx hxm Z m d l hZ hm hcod
  · exact rfolded_2 w vars hv A n c base o h hn hbase x M hx e P mx dx hxm Z m d l hZ hm hcod
  · exact rfolded_3 w vars hv A n c base o h hn hbase x M hx e P mx dx hxm Z m d l hZ hm hcod
  · exact rfolded_4 w vars hv A n c base o h hn hbase x M hx e P mx dx hxm Z m d l hZ hm hcod
  · exact rfolded_5 w vars hv A n c base o h hn hbase x M hx e P mx dx hxm Z m d l hZ hm hcod
end Go.Proofs.Ytooeppffacnmaaa.Fm
