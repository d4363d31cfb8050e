/-
  Events that become constants or formulas: Assign, Replace of the specification.
-/
import Derived.Test.YtooeppffacnmaaaJGC
import Derived.Test.YtooeppffacnmaaaKu
namespace Go.Proofs.Ytooeppffacnmaaa.Fm
open Go.RowKit Go.Proofs.Ytooeppffacnmaaa.Sb
set_option linter.unusedVariables false
set_option maxRecDepth 100000
theorem bit_int9 (s a : Nat) (hs : s < 16777216) : bits .and .i64 ((s : Int) / 2 ^ a) 1 = ((s / 2 ^ a % 2 : Nat) : Int) := by
  have e : ((s : Int) / 2 ^ a) = ((s >>> a : Nat) : Int) := by
    rw [Nat.shiftRight_eq_div_pow, Int.natCast_ediv, Int.natCast_pow]; rfl
  rw [e, bit_step s a hs, Nat.shiftRight_eq_div_pow]
/-- what events become in Assign -/
def asgV (v y n i : Nat) : Nat := if n / 2 ^ i % 2 = 1 then v else if y / 2 ^ i % 2 = 1 then v + 1 else i
def asgL (v y n k : Nat) : List Nat := (List.range k).map (asgV v y n)
theorem asgL_succ (v y n k : Nat) : asgL v y n (k + 1) = asgL v y n k ++ [asgV v y n k] := by unfold asgL; rw [List.range_succ]; simp
theorem asgL_len (v y n k : Nat) : (asgL v y n k).length = k := by simp [asgL]
def two01 : List Nn := [⟨0, 0, []⟩, ⟨0, 1, []⟩]
def assignF (f : Fn) (y n : Nat) : Fn := joined f two01 (asgL f.vars y n f.vars)
theorem two01_ok (v : Nat) : okL v two01 := by
  intro i hi
  have h2 : i = 0 ∨ i = 1 := by simp [two01] at hi; omega
  rcases h2 with rfl | rfl
  · exact okN_const (by omega)
  · exact okN_const (by omega)
theorem two01_rd {w : World} {g : Nat} (h : Own w g 49 #[.int .i64 0, .int .i64 0, .slice none 0 0, .int .i64 0, .int .i64 1, .slice none 0 0]) : RdN w (some ⟨g, 0, none⟩) 2 2 (rawL two01) := by
  refine ⟨rfl, by omega, by omega, fun e => (by cases e), fun h0 => ⟨_, rfl, h.lt, fun j hj => ?_⟩⟩
  have h2 : j = 0 ∨ j = 1 := by omega
  rcases h2 with rfl | rfl
  · exact ⟨none, 0, 0, h.cell 0, h.cell 1, h.cell 2, Rd.nil_ _⟩
  · exact ⟨none, 0, 0, h.cell 3, h.cell 4, h.cell 5, Rd.nil_ _⟩
/-- what events become in Replace -/
def repV (e t i : Nat) : Nat := if i = e then t else i
def repL (e t k : Nat) : List Nat := (List.range k).map (repV e t)
theorem repL_succ (e t k : Nat) : repL e t (k + 1) = repL e t k ++ [repV e t k] := by unfold repL; rw [List.range_succ]; simp
theorem repL_len (e t k : Nat) : (repL e t k).length = k := by simp [repL]
def replaceF (f : Fn) (e : Nat) (g : Fn) : Fn := joined f g.nodes (repL e g.top f.vars)
set_option maxHeartbeats 16000000 in
theorem rassign_bad (w : World) (f : Fn) (hf : WF f) (A : Option Addr) (n c : Nat) (h : RdN w A n c (rawL f.nodes)) (y nn : Int) (hbad : cubErr f.vars y nn ≠ 0) :
    Calls Try.prog 22 #[.agg #[.int .i64 (f.vars : Int), .slice A n c, .int .i64 (f.top : Int)], cubV y nn] w fun e w' => e = .returned (.tuple #[.agg #[.int .i64 0, .slice none 0 0, .int .i64 0], .int .i64 (cubErr f.vars y nn : Nat)]) ∧ On w w' := by
  obtain ⟨q, hq⟩ : ∃ q, w.heap.size = q := ⟨_, rfl⟩
  obtain ⟨w0, hw0⟩ : ∃ w0, ((w.alloc (.cells #[.int .i64 (f.vars : Int), .slice A n c, .int .i64 (f.top : Int)] 24)).alloc (.cells #[.int .i64 y, .int .i64 nn] 36)).alloc (.cells #[.int .i64 0, .slice none 0 0, .int .i64 0] 24) = w0 := ⟨_, rfl⟩
  have O0 : Own w0 q 24 #[.int .i64 (f.vars : Int), .slice A n c, .int .i64 (f.top : Int)] := by rw [← hw0, ← hq]; exact ((Own.new _ _ _).alloc _).alloc _
  have K0 : Own w0 (q + 1) 36 #[.int .i64 y, .int .i64 nn] := by
    rw [← hw0, ← hq]
    have := (Own.new (w.alloc (.cells #[.int .i64 (f.vars : Int), .slice A n c, .int .i64 (f.top : Int)] 24)) 36 #[.int .i64 y, .int .i64 nn]).alloc (.cells #[.int .i64 0, .slice none 0 0, .int .i64 0] 24)
    simpa using this
  have C0 : Own w0 (q + 1 + 1) 24 #[.int .i64 0, .slice none 0 0, .int .i64 0] := by
    rw [← hw0, ← hq]
    have := Own.new ((w.alloc (.cells #[.int .i64 (f.vars : Int), .slice A n c, .int .i64 (f.top : Int)] 24)).alloc (.cells #[.int .i64 y, .int .i64 nn] 36)) 24 #[.int .i64 0, .slice none 0 0, .int .i64 0]
    simpa using this
  have P0 : On w w0 := by rw [← hw0]; exact (((On.refl w).alloc _).alloc _).alloc _
  have hT := rtcheck_ok w0 f hf A n c (h.on P0) y nn
  obtain ⟨er, her⟩ : ∃ er, cubErr f.vars y nn = er := ⟨_, rfl⟩
  rw [her] at hT hbad ⊢
  have h0 : ¬ (er : Int) = 0 := by omega
  obtain ⟨r0, r1, r2⟩ := own3 O0
  obtain ⟨k0, k1⟩ := own2 K0
  have HO := Lib.hid (And.intro C0 P0)
  have HW := Lib.hid hw0
  clear h hf O0 K0 C0 P0 hw0 her hbad
  go_enter Try.func22, Try.ntmps22
  go_upto_region 1 with fail
  rw [HW.out]
  go_wp2_with fail
  refine hT.mono ?_
  rintro e w1 ⟨rfl, P1⟩
  clear hT r0 r1 r2 k0 k1
  have hC8 := HO.out.1.on P1
  obtain ⟨c0, c1, c2⟩ := own3 hC8
  have g0 := hC8.frozen 0
  have g1 := hC8.frozen 1
  have g2 := hC8.frozen 2
  have OF := ((hC8.set_ 0 (.int .i64 0)).set_ 1 (.slice none 0 0)).set_ 2 (.int .i64 0)
  obtain ⟨x0, x1, x2⟩ := own3 (show Own _ (q + 1 + 1) 24 #[.int .i64 0, .slice none 0 0, .int .i64 0] from OF)
  have P8 := On.setCell (On.setCell (On.setCell (HO.out.2.trans P1) (p := ⟨q + 1 + 1, 0, none⟩) (by show w.heap.size ≤ q + 1 + 1; omega) (.int .i64 0)) (p := ⟨q + 1 + 1, 1, none⟩) (by show w.heap.size ≤ q + 1 + 1; omega) (.slice none 0 0)) (p := ⟨q + 1 + 1, 2, none⟩) (by show w.heap.size ≤ q + 1 + 1; omega) (.int .i64 0)
  have HZ := Lib.hid P8
  clear OF P8 hC8 P1
  go_wp2
  exact bodyPost_ret (v := .tuple #[.agg #[.int .i64 0, .slice none 0 0, .int .i64 0], .int .i64 (er : Int)]) (by simp [results, Try.results22, go_sem, x0, x1, x2]) rfl ⟨rfl, HZ.out⟩
set_option maxHeartbeats 16000000 in
theorem rassign_ok (w : World) (f : Fn) (hf : WF f) (A : Option Addr) (n c : Nat) (h : RdN w A n c (rawL f.nodes)) (y nn : Nat) (hy : y < 2 ^ f.vars) (hnn : nn < 2 ^ f.vars) (hok : cubErr f.vars (y : Int) (nn : Int) = 0) :
    Calls Try.prog 22 #[.agg #[.int .i64 (f.vars : Int), .slice A n c, .int .i64 (f.top : Int)], cubV (y : Int) (nn : Int)] w fun e w' => MadeR w.heap.size (assignF f y nn) e w' ∧ On w w' := by
  have hv := hf.1
  have hp24 : 2 ^ f.vars ≤ 2 ^ 24 := Nat.pow_le_pow_right (by omega) hv
  have hy24 : y < 16777216 := by omega
  have hn24 : nn < 16777216 := by omega
  have hcap := h.cap
  have hmax := h.max
  clear hp24
  obtain ⟨q, hq⟩ : ∃ q, w.heap.size = q := ⟨_, rfl⟩
  obtain ⟨w0, hw0⟩ : ∃ w0, ((w.alloc (.cells #[.int .i64 (f.vars : Int), .slice A n c, .int .i64 (f.top : Int)] 24)).alloc (.cells #[.int .i64 (y : Int), .int .i64 (nn : Int)] 36)).alloc (.cells #[.int .i64 0, .slice none 0 0, .int .i64 0] 24) = w0 := ⟨_, rfl⟩
  have O0 : Own w0 q 24 #[.int .i64 (f.vars : Int), .slice A n c, .int .i64 (f.top : Int)] := by rw [← hw0, ← hq]; exact ((Own.new _ _ _).alloc _).alloc _
  have K0 : Own w0 (q + 1) 36 #[.int .i64 (y : Int), .int .i64 (nn : Int)] := by
    rw [← hw0, ← hq]
    have := (Own.new (w.alloc (.cells #[.int .i64 (f.vars : Int), .slice A n c, .int .i64 (f.top : Int)] 24)) 36 #[.int .i64 (y : Int), .int .i64 (nn : Int)]).alloc (.cells #[.int .i64 0, .slice none 0 0, .int .i64 0] 24)
    simpa using this
  have C0 : Own w0 (q + 1 + 1) 24 #[.int .i64 0, .slice none 0 0, .int .i64 0] := by
    rw [← hw0, ← hq]
    have := Own.new ((w.alloc (.cells #[.int .i64 (f.vars : Int), .slice A n c, .int .i64 (f.top : Int)] 24)).alloc (.cells #[.int .i64 (y : Int), .int .i64 (nn : Int)] 36)) 24 #[.int .i64 0, .slice none 0 0, .int .i64 0]
    simpa using this
  have P0 : On w w0 := by rw [← hw0]; exact (((On.refl w).alloc _).alloc _).alloc _
  have hT := rtcheck_ok w0 f hf A n c (h.on P0) (y : Int) (nn : Int)
  rw [hok] at hT
  obtain ⟨r0, r1, r2⟩ := own3 O0
  obtain ⟨k0, k1⟩ := own2 K0
  have HO := Lib.hid (And.intro O0 (And.intro K0 (And.intro C0 (And.intro P0 (And.intro h hf)))))
  have HW := Lib.hid hw0
  clear h hf O0 K0 C0 P0 hw0 hok hy hnn
  go_enter Try.func22, Try.ntmps22
  go_upto_region 1 with fail
  rw [HW.out]
  go_wp2_with fail
  refine hT.mono ?_
  rintro e w1 ⟨rfl, P1⟩
  clear hT r0 r1 r2 k0 k1
  obtain ⟨r0, r1, r2⟩ := own3 (HO.out.1.on P1)
  have H1 := Lib.hid (And.intro (HO.out.1.on P1) (And.intro (HO.out.2.1.on P1) (And.intro (HO.out.2.2.1.on P1) (HO.out.2.2.2.1.trans P1))))
  have hq1 : q + 1 + 1 + 1 ≤ w1.heap.size := by have := (HO.out.2.2.1.on P1).lt; omega
  clear P1
  go_wp2
  clear r0 r1 r2
  go_loopw [18, 7] (fun i v wr => ∃ (k : Nat) (A9 : Option Addr) (c9 : Nat), k ≤ f.vars ∧ i = .int .i64 (k : Int) ∧ v = .slice A9 k c9 ∧ wr.ownsRow w1.heap.size 3 1 (.slice A9 k c9) k (VI (ints (asgL f.vars y nn k))) ∧ On w1 wr) (fun i _ _ => f.vars - (intOf i).toNat)
  case atStart => exact ⟨0, none, 0, by omega, rfl, rfl, row_nil _ _ _, On.refl _⟩
  case round =>
    obtain ⟨k, A9, c9, hk, rfl, rfl, hrow, hon⟩ := hrel
    obtain ⟨r0, r1, r2⟩ := own3 (H1.out.1.on hon)
    by_cases hlt : k < f.vars
    · obtain ⟨k0, k1⟩ := own2 (H1.out.2.1.on hon)
      have bn := bit_int9 nn k hn24
      have by_ := bit_int9 y k hy24
      have h2n : nn / 2 ^ k % 2 < 2 := Nat.mod_lt _ (by omega)
      have h2y : y / 2 ^ k % 2 < 2 := Nat.mod_lt _ (by omega)
      have hsucc := asgL_succ f.vars y nn k
      have hval : ∀ a, asgV f.vars y nn k = a → VI (ints (asgL f.vars y nn (k + 1))) = VI (ints (asgL f.vars y nn k)) ++ [.int .i64 (a : Int)] := fun a ha => by rw [hsucc, ha, ints_snoc, VI_snocI]
      have hdef : asgV f.vars y nn k = if nn / 2 ^ k % 2 = 1 then f.vars else if y / 2 ^ k % 2 = 1 then f.vars + 1 else k := rfl
      obtain ⟨bb, hbb⟩ : ∃ bb, nn / 2 ^ k % 2 = bb := ⟨_, rfl⟩
      obtain ⟨yb, hyb⟩ : ∃ yb, y / 2 ^ k % 2 = yb := ⟨_, rfl⟩
      rw [hbb] at bn h2n hdef
      rw [hyb] at by_ h2y hdef
      have hk64 : k < 64 := by omega
      have hsz := hon.size
      have HV := Lib.hid (And.intro hval (And.intro hdef (And.intro hrow hon)))
      clear hsucc hval hdef hbb hyb hrow hon
      by_cases e1 : bb = 1
      · subst e1
        go_wp2_with (at_builtin; refine wpList_app rfl (.tmp 32) (.tmp 35) 47 rfl w1.heap.size 3 (.int .i64 0) 8 Try.underlying47 infoi rfl (by decide) (.slice A9 k c9) _ (VI (ints (asgL f.vars y nn k))) rfl (row_alloc HV.out.2.2.1 _) (some ⟨wr.heap.size, 0, none⟩) 1 1 [.int .i64 (f.vars : Int)] rfl (rd_one _ _ _) (by simp [Value.oneCell']) (by omega) (by simp; omega) ?_; intro v' w11 hown11 hgrow11 _)
        obtain ⟨A11, c11, rfl⟩ := row_form hown11
        go_roundw
        case rel =>
          refine ⟨k + 1, A11, c11, by omega, by go_num, rfl, ?_, on_row (HV.out.2.2.2.alloc _) (row_alloc HV.out.2.2.1 _) (Nat.le_refl _) hgrow11⟩
          rw [HV.out.1 f.vars (by rw [HV.out.2.1, if_pos rfl])]; exact hown11
        case measure => simp [intOf] <;> omega
      · obtain rfl : bb = 0 := by omega
        by_cases e2 : yb = 1
        · subst e2
          go_wp2_with (at_builtin; refine wpList_app rfl (.tmp 44) (.tmp 48) 47 rfl w1.heap.size 3 (.int .i64 0) 8 Try.underlying47 infoi rfl (by decide) (.slice A9 k c9) _ (VI (ints (asgL f.vars y nn k))) rfl (row_alloc HV.out.2.2.1 _) (some ⟨wr.heap.size, 0, none⟩) 1 1 [.int .i64 ((f.vars : Int) + 1)] rfl (rd_one _ _ _) (by simp [Value.oneCell']) (by omega) (by simp; omega) ?_; intro v' w11 hown11 hgrow11 _)
          obtain ⟨A11, c11, rfl⟩ := row_form hown11
          go_roundw
          case rel =>
            refine ⟨k + 1, A11, c11, by omega, by go_num, rfl, ?_, on_row (HV.out.2.2.2.alloc _) (row_alloc HV.out.2.2.1 _) (Nat.le_refl _) hgrow11⟩
            rw [HV.out.1 (f.vars + 1) (by rw [HV.out.2.1, if_neg (by omega), if_pos rfl])]; exact hown11
          case measure => simp [intOf] <;> omega
        · obtain rfl : yb = 0 := by omega
          go_wp2_with (at_builtin; refine wpList_app rfl (.tmp 21) (.tmp 23) 47 rfl w1.heap.size 3 (.int .i64 0) 8 Try.underlying47 infoi rfl (by decide) (.slice A9 k c9) _ (VI (ints (asgL f.vars y nn k))) rfl (row_alloc HV.out.2.2.1 _) (some ⟨wr.heap.size, 0, none⟩) 1 1 [.int .i64 (k : Int)] rfl (rd_one _ _ _) (by simp [Value.oneCell']) (by omega) (by simp; omega) ?_; intro v' w11 hown11 hgrow11 _)
          obtain ⟨A11, c11, rfl⟩ := row_form hown11
          go_roundw
          case rel =>
            refine ⟨k + 1, A11, c11, by omega, by go_num, rfl, ?_, on_row (HV.out.2.2.2.alloc _) (row_alloc HV.out.2.2.1 _) (Nat.le_refl _) hgrow11⟩
            rw [HV.out.1 k (by rw [HV.out.2.1, if_neg (by omega), if_neg (by omega)])]; exact hown11
          case measure => simp [intOf] <;> omega
    · have hkv : k = f.vars := by omega
      subst hkv
      obtain ⟨b2_, hb2⟩ : ∃ b2_, wr.heap.size = b2_ := ⟨_, rfl⟩
      obtain ⟨w3, hw3⟩ : ∃ w3, wr.alloc (.cells #[.int .i64 0, .int .i64 0, .slice none 0 0, .int .i64 0, .int .i64 1, .slice none 0 0] 49) = w3 := ⟨_, rfl⟩
      have OT : Own w3 b2_ 49 #[.int .i64 0, .int .i64 0, .slice none 0 0, .int .i64 0, .int .i64 1, .slice none 0 0] := by rw [← hw3, ← hb2]; exact Own.new _ _ _
      have P3 : On wr w3 := by rw [← hw3]; exact (On.refl wr).alloc _
      have hP3 := (H1.out.2.2.2.trans hon).trans P3
      have hJ := rjoined_ok w3 f HO.out.2.2.2.2.2 A n c (HO.out.2.2.2.2.1.on hP3) two01 (two01_ok _) (by decide) (some ⟨b2_, 0, none⟩) 2 2 (two01_rd OT) (asgL f.vars y nn f.vars) A9 f.vars c9 ((rd_of_row hrow).on P3) (asgL_len _ _ _ _)
      have hqb : q + 1 + 1 < w3.heap.size := by have := (hon.trans P3).size; omega
      have hlow : w.heap.size ≤ w3.heap.size := by omega
      have HC3 := Lib.hid (And.intro ((H1.out.2.2.1.on hon).on P3) hP3)
      clear OT P3 hP3 hrow hon
      go_wp2_with fail
      refine hJ.mono ?_
      rintro e w8 ⟨hM, P8⟩
      clear hJ r0 r1 r2 hw3
      have hC8 := HC3.out.1.on P8
      have HP8 := Lib.hid (HC3.out.2.trans P8)
      change MadeR _ (assignF f y nn) _ _ at hM
      clear P8
      obtain ⟨c0, c1, c2⟩ := own3 hC8
      have g0 := hC8.frozen 0
      have g1 := hC8.frozen 1
      have g2 := hC8.frozen 2
      rcases hM with ⟨hle, A', c', rfl, hO⟩ | ⟨hgt, rfl⟩
      · obtain ⟨no, hno⟩ : ∃ no, (assignF f y nn).nodes.length = no := ⟨_, rfl⟩
        obtain ⟨tp, htp⟩ : ∃ tp, (assignF f y nn).top = tp := ⟨_, rfl⟩
        obtain ⟨gv, hgv⟩ : ∃ gv, (assignF f y nn).vars = gv := ⟨_, rfl⟩
        rw [hno] at hle hO
        rw [hno, htp, hgv]
        have OF := ((hC8.set_ 0 (.int .i64 (gv : Int))).set_ 1 (.slice A' no c')).set_ 2 (.int .i64 (tp : Int))
        obtain ⟨x0, x1, x2⟩ := own3 (show Own _ (q + 1 + 1) 24 #[.int .i64 (gv : Int), .slice A' no c', .int .i64 (tp : Int)] from OF)
        have P8 := On.setCell (On.setCell (On.setCell HP8.out (p := ⟨q + 1 + 1, 0, none⟩) (by show w.heap.size ≤ q + 1 + 1; omega) (.int .i64 (gv : Int))) (p := ⟨q + 1 + 1, 1, none⟩) (by show w.heap.size ≤ q + 1 + 1; omega) (.slice A' no c')) (p := ⟨q + 1 + 1, 2, none⟩) (by show w.heap.size ≤ q + 1 + 1; omega) (.int .i64 (tp : Int))
        have U8 := ((hO.far (p := ⟨q + 1 + 1, 0, none⟩) hqb (.int .i64 (gv : Int))).far (p := ⟨q + 1 + 1, 1, none⟩) hqb (.slice A' no c')).far (p := ⟨q + 1 + 1, 2, none⟩) hqb (.int .i64 (tp : Int))
        have HZ := Lib.hid (And.intro hle (And.intro P8 (And.intro (U8.low hlow) (And.intro hno (And.intro htp hgv)))))
        clear OF P8 hle hC8 U8 hno htp hgv hO
        go_wp2
        refine bodyPost_ret (v := .tuple #[.agg #[.int .i64 (gv : Int), .slice A' no c', .int .i64 (tp : Int)], .int .i64 0]) (by simp [results, Try.results22, go_sem, x0, x1, x2]) rfl ⟨.inl ?_, HZ.out.2.1⟩
        rw [HZ.out.2.2.2.1, HZ.out.2.2.2.2.1, HZ.out.2.2.2.2.2]
        exact ⟨HZ.out.1, A', c', rfl, HZ.out.2.2.1⟩
      · have OF := ((hC8.set_ 0 (.int .i64 0)).set_ 1 (.slice none 0 0)).set_ 2 (.int .i64 0)
        obtain ⟨x0, x1, x2⟩ := own3 (show Own _ (q + 1 + 1) 24 #[.int .i64 0, .slice none 0 0, .int .i64 0] from OF)
        have P8 := On.setCell (On.setCell (On.setCell HP8.out (p := ⟨q + 1 + 1, 0, none⟩) (by show w.heap.size ≤ q + 1 + 1; omega) (.int .i64 0)) (p := ⟨q + 1 + 1, 1, none⟩) (by show w.heap.size ≤ q + 1 + 1; omega) (.slice none 0 0)) (p := ⟨q + 1 + 1, 2, none⟩) (by show w.heap.size ≤ q + 1 + 1; omega) (.int .i64 0)
        have HZ := Lib.hid (And.intro hgt P8)
        clear OF P8 hgt hC8
        go_wp2
        refine bodyPost_ret (v := .tuple #[.agg #[.int .i64 0, .slice none 0 0, .int .i64 0], .int .i64 4]) (by simp [results, Try.results22, go_sem, x0, x1, x2]) rfl ⟨.inr ?_, HZ.out.2⟩
        exact ⟨HZ.out.1, rfl⟩
set_option maxHeartbeats 16000000 in
theorem rreplace_ok (w : World) (f : Fn) (hf : WF f) (A : Option Addr) (n c : Nat) (h : RdN w A n c (rawL f.nodes)) (g : Fn) (hg : WF g) (A2 : Option Addr) (n2 c2 : Nat) (h2 : RdN w A2 n2 c2 (rawL g.nodes)) (hvv : g.vars = f.vars) (ev : Nat) (hev : ev < f.vars) :
    Calls Try.prog 24 #[.agg #[.int .i64 (f.vars : Int), .slice A n c, .int .i64 (f.top : Int)], .int .i64 (ev : Int), .agg #[.int .i64 (g.vars : Int), .slice A2 n2 c2, .int .i64 (g.top : Int)]] w fun e w' => MadeR w.heap.size (replaceF f ev g) e w' ∧ On w w' := by
  have hv := hf.1
  have hcap := h.cap
  have hmax := h.max
  have hcap2 := h2.cap
  have hmax2 := h2.max
  have hgl : g.nodes.length ≤ 128 := hg.2.1
  have hgt := hg.2.2.2
  have hn2 : g.nodes.length = n2 := by have := h2.len; rwa [raw_len] at this
  rw [hn2] at hgl hgt
  obtain ⟨gt, hgt2⟩ : ∃ gt, g.top = gt := ⟨_, rfl⟩
  obtain ⟨q, hq⟩ : ∃ q, w.heap.size = q := ⟨_, rfl⟩
  rw [hvv] at hgt ⊢
  rw [hgt2] at hgt ⊢
  obtain ⟨w0, hw0⟩ : ∃ w0, ((w.alloc (.cells #[.int .i64 (f.vars : Int), .slice A n c, .int .i64 (f.top : Int)] 24)).alloc (.cells #[.int .i64 (f.vars : Int), .slice A2 n2 c2, .int .i64 (gt : Int)] 24)).alloc (.cells #[.int .i64 0, .slice none 0 0, .int .i64 0] 24) = w0 := ⟨_, rfl⟩
  have O0 : Own w0 q 24 #[.int .i64 (f.vars : Int), .slice A n c, .int .i64 (f.top : Int)] := by rw [← hw0, ← hq]; exact ((Own.new _ _ _).alloc _).alloc _
  have K0 : Own w0 (q + 1) 24 #[.int .i64 (f.vars : Int), .slice A2 n2 c2, .int .i64 (gt : Int)] := by
    rw [← hw0, ← hq]
    have := (Own.new (w.alloc (.cells #[.int .i64 (f.vars : Int), .slice A n c, .int .i64 (f.top : Int)] 24)) 24 #[.int .i64 (f.vars : Int), .slice A2 n2 c2, .int .i64 (gt : Int)]).alloc (.cells #[.int .i64 0, .slice none 0 0, .int .i64 0] 24)
    simpa using this
  have C0 : Own w0 (q + 1 + 1) 24 #[.int .i64 0, .slice none 0 0, .int .i64 0] := by
    rw [← hw0, ← hq]
    have := Own.new ((w.alloc (.cells #[.int .i64 (f.vars : Int), .slice A n c, .int .i64 (f.top : Int)] 24)).alloc (.cells #[.int .i64 (f.vars : Int), .slice A2 n2 c2, .int .i64 (gt : Int)] 24)) 24 #[.int .i64 0, .slice none 0 0, .int .i64 0]
    simpa using this
  have P0 : On w w0 := by rw [← hw0]; exact (((On.refl w).alloc _).alloc _).alloc _
  obtain ⟨r0, r1, r2⟩ := own3 O0
  obtain ⟨k0, k1, k2⟩ := own3 K0
  have HO := Lib.hid (And.intro O0 (And.intro K0 (And.intro C0 (And.intro P0 (And.intro h (And.intro hf (And.intro hg (And.intro h2 (And.intro hvv (And.intro hgt2 hn2))))))))))
  have HW := Lib.hid hw0
  clear h h2 hf hg O0 K0 C0 P0 hw0 hvv hgt2 hn2
  go_enter Try.func24, Try.ntmps24
  go_upto_region 1 with fail
  rw [HW.out]
  have dd1 : decide ((ev : Int) < 0) = false := decide_eq_false (by omega)
  have dd2 : decide (f.vars ≤ ev) = false := decide_eq_false (by omega)
  have dd3 : decide ((f.vars : Int) ≤ (ev : Int)) = false := decide_eq_false (by omega)
  go_wp2
  clear r0 r1 r2 k0 k1 k2 dd1 dd2 dd3
  go_loopw [27, 8] (fun i v wr => ∃ (k : Nat) (A9 : Option Addr) (c9 : Nat), k ≤ f.vars ∧ i = .int .i64 (k : Int) ∧ v = .slice A9 k c9 ∧ wr.ownsRow w0.heap.size 3 1 (.slice A9 k c9) k (VI (ints (repL ev gt k))) ∧ On w0 wr) (fun i _ _ => f.vars - (intOf i).toNat)
  case atStart => exact ⟨0, none, 0, by omega, rfl, rfl, row_nil _ _ _, by first | exact On.refl _ | exact On.drewN (On.refl _) _⟩
  case round =>
    obtain ⟨k, A9, c9, hk, rfl, rfl, hrow, hon⟩ := hrel
    obtain ⟨r0, r1, r2⟩ := own3 (HO.out.1.on hon)
    obtain ⟨k0, k1, k2⟩ := own3 (HO.out.2.1.on hon)
    by_cases hlt : k < f.vars
    · have hsucc := repL_succ ev gt k
      have hval : ∀ a, repV ev gt k = a → VI (ints (repL ev gt (k + 1))) = VI (ints (repL ev gt k)) ++ [.int .i64 (a : Int)] := fun a ha => by rw [hsucc, ha, ints_snoc, VI_snocI]
      have hsz := hon.size
      have HV := Lib.hid (And.intro hval (And.intro hrow hon))
      clear hsucc hval hrow hon
      by_cases e1 : k = ev
      · have e1' := e1.symm
        subst e1'
        go_wp2_with (at_builtin; refine wpList_app rfl (.tmp 33) (.tmp 36) 47 rfl w0.heap.size 3 (.int .i64 0) 8 Try.underlying47 infoi rfl (by decide) (.slice A9 ev c9) _ (VI (ints (repL ev gt ev))) rfl (row_alloc HV.out.2.1 _) (some ⟨wr.heap.size, 0, none⟩) 1 1 [.int .i64 (gt : Int)] rfl (rd_one _ _ _) (by simp [Value.oneCell']) (by omega) (by simp; omega) ?_; intro v' w11 hown11 hgrow11 _)
        obtain ⟨A11, c11, rfl⟩ := row_form hown11
        go_roundw
        case rel =>
          refine ⟨ev + 1, A11, c11, by omega, by go_num, rfl, ?_, on_row (HV.out.2.2.alloc _) (row_alloc HV.out.2.1 _) (Nat.le_refl _) hgrow11⟩
          rw [HV.out.1 gt (by unfold repV; rw [if_pos rfl])]; exact hown11
        case measure => simp [intOf] <;> omega
      · have e2 : ¬ (k : Int) = (ev : Int) := by omega
        go_wp2_with (at_builtin; refine wpList_app rfl (.tmp 38) (.tmp 40) 47 rfl w0.heap.size 3 (.int .i64 0) 8 Try.underlying47 infoi rfl (by decide) (.slice A9 k c9) _ (VI (ints (repL ev gt k))) rfl (row_alloc HV.out.2.1 _) (some ⟨wr.heap.size, 0, none⟩) 1 1 [.int .i64 (k : Int)] rfl (rd_one _ _ _) (by simp [Value.oneCell']) (by omega) (by simp; omega) ?_; intro v' w11 hown11 hgrow11 _)
        obtain ⟨A11, c11, rfl⟩ := row_form hown11
        go_roundw
        case rel =>
          refine ⟨k + 1, A11, c11, by omega, by go_num, rfl, ?_, on_row (HV.out.2.2.alloc _) (row_alloc HV.out.2.1 _) (Nat.le_refl _) hgrow11⟩
          rw [HV.out.1 k (by unfold repV; rw [if_neg e1])]; exact hown11
        case measure => simp [intOf] <;> omega
    · have hkv : k = f.vars := by omega
      subst hkv
      have hJ := rjoined_ok wr f HO.out.2.2.2.2.2.1 A n c (HO.out.2.2.2.2.1.on (HO.out.2.2.2.1.trans hon)) g.nodes (by have := HO.out.2.2.2.2.2.2.1.okL; rw [HO.out.2.2.2.2.2.2.2.2.1] at this; exact this) (by rw [HO.out.2.2.2.2.2.2.2.2.2.2]; omega) A2 n2 c2 (HO.out.2.2.2.2.2.2.2.1.on (HO.out.2.2.2.1.trans hon)) (repL ev gt f.vars) A9 f.vars c9 (rd_of_row hrow) (repL_len _ _ _)
      have hqb : q + 1 + 1 < wr.heap.size := by have := (HO.out.2.2.1.on hon).lt; exact this
      have hlow : w.heap.size ≤ wr.heap.size := by omega
      have HC3 := Lib.hid (And.intro (HO.out.2.2.1.on hon) (HO.out.2.2.2.1.trans hon))
      clear hrow hon
      go_wp2_with fail
      refine hJ.mono ?_
      rintro e w8 ⟨hM, P8⟩
      clear hJ r0 r1 r2 k0 k1 k2
      have hC8 := HC3.out.1.on P8
      have HP8 := Lib.hid (HC3.out.2.trans P8)
      have hgF : joined f g.nodes (repL ev gt f.vars) = replaceF f ev g := by unfold replaceF; rw [HO.out.2.2.2.2.2.2.2.2.2.1]
      rw [hgF] at hM
      clear P8 hgF
      obtain ⟨c0, c1, c2⟩ := own3 hC8
      have g0 := hC8.frozen 0
      have g1 := hC8.frozen 1
      have g2 := hC8.frozen 2
      rcases hM with ⟨hle, A', c', rfl, hO⟩ | ⟨hgt, rfl⟩
      · obtain ⟨no, hno⟩ : ∃ no, (replaceF f ev g).nodes.length = no := ⟨_, rfl⟩
        obtain ⟨tp, htp⟩ : ∃ tp, (replaceF f ev g).top = tp := ⟨_, rfl⟩
        obtain ⟨gv, hgv⟩ : ∃ gv, (replaceF f ev g).vars = gv := ⟨_, rfl⟩
        rw [hno] at hle hO
        rw [hno, htp, hgv]
        have OF := ((hC8.set_ 0 (.int .i64 (gv : Int))).set_ 1 (.slice A' no c')).set_ 2 (.int .i64 (tp : Int))
        obtain ⟨x0, x1, x2⟩ := own3 (show Own _ (q + 1 + 1) 24 #[.int .i64 (gv : Int), .slice A' no c', .int .i64 (tp : Int)] from OF)
        have P8 := On.setCell (On.setCell (On.setCell HP8.out (p := ⟨q + 1 + 1, 0, none⟩) (by show w.heap.size ≤ q + 1 + 1; omega) (.int .i64 (gv : Int))) (p := ⟨q + 1 + 1, 1, none⟩) (by show w.heap.size ≤ q + 1 + 1; omega) (.slice A' no c')) (p := ⟨q + 1 + 1, 2, none⟩) (by show w.heap.size ≤ q + 1 + 1; omega) (.int .i64 (tp : Int))
        have U8 := ((hO.far (p := ⟨q + 1 + 1, 0, none⟩) hqb (.int .i64 (gv : Int))).far (p := ⟨q + 1 + 1, 1, none⟩) hqb (.slice A' no c')).far (p := ⟨q + 1 + 1, 2, none⟩) hqb (.int .i64 (tp : Int))
        have HZ := Lib.hid (And.intro hle (And.intro P8 (And.intro (U8.low hlow) (And.intro hno (And.intro htp hgv)))))
        clear OF P8 hle hC8 U8 hno htp hgv hO
        go_wp2
        refine bodyPost_ret (v := .tuple #[.agg #[.int .i64 (gv : Int), .slice A' no c', .int .i64 (tp : Int)], .int .i64 0]) (by simp [results, Try.results24, go_sem, x0, x1, x2]) rfl ⟨.inl ?_, HZ.out.2.1⟩
        rw [HZ.out.2.2.2.1, HZ.out.2.2.2.2.1, HZ.out.2.2.2.2.2]
        exact ⟨HZ.out.1, A', c', rfl, HZ.out.2.2.1⟩
      · have OF := ((hC8.set_ 0 (.int .i64 0)).set_ 1 (.slice none 0 0)).set_ 2 (.int .i64 0)
        obtain ⟨x0, x1, x2⟩ := own3 (show Own _ (q + 1 + 1) 24 #[.int .i64 0, .slice none 0 0, .int .i64 0] from OF)
        have P8 := On.setCell (On.setCell (On.setCell HP8.out (p := ⟨q + 1 + 1, 0, none⟩) (by show w.heap.size ≤ q + 1 + 1; omega) (.int .i64 0)) (p := ⟨q + 1 + 1, 1, none⟩) (by show w.heap.size ≤ q + 1 + 1; omega) (.slice none 0 0)) (p := ⟨q + 1 + 1, 2, none⟩) (by show w.heap.size ≤ q + 1 + 1; omega) (.int .i64 0)
        have HZ := Lib.hid (And.intro hgt P8)
        clear OF P8 hgt hC8
        go_wp2
        refine bodyPost_ret (v := .tuple #[.agg #[.int .i64 0, .slice none 0 0, .int .i64 0], .int .i64 4]) (by simp [results, Try.results24, go_sem, x0, x1, x2]) rfl ⟨.inr ?_, HZ.out.2⟩
        exact ⟨HZ.out.1, rfl⟩
end Go.Proofs.Ytooeppffacnmaaa.Fm
/-
  Replace of the specification: its errors.
-/
namespace Go.Proofs.Ytooeppffacnmaaa.Fm
open Go.RowKit Go.Proofs.Ytooeppffacnmaaa.Sb
set_option linter.unusedVariables false
set_option maxRecDepth 100000
/-- the error of Replace -/
def repErr (v v2 : Nat) (ev : Int) : Nat := if v = v2 then (if 0 ≤ ev ∧ ev < (v : Int) then 0 else 10) else 11
set_option maxHeartbeats 8000000 in
theorem rreplace_bad (w : World) (f g : Fn) (A : Option Addr) (n c : Nat) (A2 : Option Addr) (n2 c2 : Nat) (hv : f.vars ≤ 24) (hv2 : g.vars ≤ 24) (hn : n ≤ c) (hc : c ≤ 9223372036854775807) (hn2 : n2 ≤ c2) (hc2 : c2 ≤ 9223372036854775807) (hft : f.top ≤ 1000) (hgt : g.top ≤ 1000) (ev : Int) (hev : I64 ev) (hbad : repErr f.vars g.vars ev ≠ 0) :
    Calls Try.prog 24 #[.agg #[.int .i64 (f.vars : Int), .slice A n c, .int .i64 (f.top : Int)], .int .i64 ev, .agg #[.int .i64 (g.vars : Int), .slice A2 n2 c2, .int .i64 (g.top : Int)]] w fun e w' => e = .returned (.tuple #[.agg #[.int .i64 0, .slice none 0 0, .int .i64 0], .int .i64 (repErr f.vars g.vars ev : Nat)]) ∧ On w w' := by
  obtain ⟨q, hq⟩ : ∃ q, w.heap.size = q := ⟨_, rfl⟩
  obtain ⟨w0, hw0⟩ : ∃ w0, ((w.alloc (.cells #[.int .i64 (f.vars : Int), .slice A n c, .int .i64 (f.top : Int)] 24)).alloc (.cells #[.int .i64 (g.vars : Int), .slice A2 n2 c2, .int .i64 (g.top : Int)] 24)).alloc (.cells #[.int .i64 0, .slice none 0 0, .int .i64 0] 24) = w0 := ⟨_, rfl⟩
  have O0 : Own w0 q 24 #[.int .i64 (f.vars : Int), .slice A n c, .int .i64 (f.top : Int)] := by rw [← hw0, ← hq]; exact ((Own.new _ _ _).alloc _).alloc _
  have K0 : Own w0 (q + 1) 24 #[.int .i64 (g.vars : Int), .slice A2 n2 c2, .int .i64 (g.top : Int)] := by
    rw [← hw0, ← hq]
    have := (Own.new (w.alloc (.cells #[.int .i64 (f.vars : Int), .slice A n c, .int .i64 (f.top : Int)] 24)) 24 #[.int .i64 (g.vars : Int), .slice A2 n2 c2, .int .i64 (g.top : Int)]).alloc (.cells #[.int .i64 0, .slice none 0 0, .int .i64 0] 24)
    simpa using this
  have C0 : Own w0 (q + 1 + 1) 24 #[.int .i64 0, .slice none 0 0, .int .i64 0] := by
    rw [← hw0, ← hq]
    have := Own.new ((w.alloc (.cells #[.int .i64 (f.vars : Int), .slice A n c, .int .i64 (f.top : Int)] 24)).alloc (.cells #[.int .i64 (g.vars : Int), .slice A2 n2 c2, .int .i64 (g.top : Int)] 24)) 24 #[.int .i64 0, .slice none 0 0, .int .i64 0]
    simpa using this
  have P0 : On w w0 := by rw [← hw0]; exact (((On.refl w).alloc _).alloc _).alloc _
  obtain ⟨r0, r1, r2⟩ := own3 O0
  obtain ⟨k0, k1, k2⟩ := own3 K0
  obtain ⟨c0, c1, c2'⟩ := own3 C0
  have g0 := C0.frozen 0
  have g1 := C0.frozen 1
  have g2 := C0.frozen 2
  have OF := ((C0.set_ 0 (.int .i64 0)).set_ 1 (.slice none 0 0)).set_ 2 (.int .i64 0)
  obtain ⟨x0, x1, x2⟩ := own3 (show Own _ (q + 1 + 1) 24 #[.int .i64 0, .slice none 0 0, .int .i64 0] from OF)
  have P8 := On.setCell (On.setCell (On.setCell P0 (p := ⟨q + 1 + 1, 0, none⟩) (by show w.heap.size ≤ q + 1 + 1; omega) (.int .i64 0)) (p := ⟨q + 1 + 1, 1, none⟩) (by show w.heap.size ≤ q + 1 + 1; omega) (.slice none 0 0)) (p := ⟨q + 1 + 1, 2, none⟩) (by show w.heap.size ≤ q + 1 + 1; omega) (.int .i64 0)
  have HZ := Lib.hid P8
  have HW := Lib.hid hw0
  unfold repErr at hbad ⊢
  clear O0 K0 C0 P0 P8 OF hw0
  obtain ⟨v1, hv1⟩ : ∃ v1, f.vars = v1 := ⟨_, rfl⟩
  obtain ⟨v2, hv2e⟩ : ∃ v2, g.vars = v2 := ⟨_, rfl⟩
  rw [hv1] at hv hbad ⊢ r0
  rw [hv2e] at hv2 hbad ⊢ k0
  rw [hv1, hv2e] at HW
  clear hv1 hv2e
  by_cases hvv : v1 = v2
  · subst hvv
    rw [if_pos rfl] at hbad ⊢
    by_cases h0 : 0 ≤ ev
    · by_cases h1 : ev < (v1 : Int)
      · rw [if_pos ⟨h0, h1⟩] at hbad; exact absurd rfl hbad
      · rw [if_neg (fun h => h1 h.2)]
        go_enter Try.func24, Try.ntmps24
        go_upto_region 1 with fail
        rw [HW.out]
        go_wp2
        exact bodyPost_ret (v := .tuple #[.agg #[.int .i64 0, .slice none 0 0, .int .i64 0], .int .i64 10]) (by simp [results, Try.results24, go_sem, x0, x1, x2]) rfl ⟨rfl, HZ.out⟩
    · rw [if_neg (fun h => h0 h.1)]
      go_enter Try.func24, Try.ntmps24
      go_upto_region 1 with fail
      rw [HW.out]
      go_wp2
      exact bodyPost_ret (v := .tuple #[.agg #[.int .i64 0, .slice none 0 0, .int .i64 0], .int .i64 10]) (by simp [results, Try.results24, go_sem, x0, x1, x2]) rfl ⟨rfl, HZ.out⟩
  · rw [if_neg hvv]
    go_enter Try.func24, Try.ntmps24
    go_upto_region 1 with fail
    rw [HW.out]
    go_wp2
    exact bodyPost_ret (v := .tuple #[.agg #[.int .i64 0, .slice none 0 0, .int .i64 0], .int .i64 11]) (by simp [results, Try.results24, go_sem, x0, x1, x2]) rfl ⟨rfl, HZ.out⟩
end Go.Proofs.Ytooeppffacnmaaa.Fm
