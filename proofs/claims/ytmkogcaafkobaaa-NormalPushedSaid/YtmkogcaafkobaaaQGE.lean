/-
  Assign of the program: the errors.
-/
import Derived.Test.YtmkogcaafkobaaaQGC
import Derived.Test.YtmkogcaafkobaaaJGE
namespace Go.Proofs.Ytmkogcaafkobaaa.Fm
open Go.RowKit Go.Proofs.Ytmkogcaafkobaaa.Sb Go.Proofs.Ytmkogcaafkobaaa.Rgv
set_option linter.unusedVariables false
set_option linter.unusedSimpArgs false
set_option maxRecDepth 100000
set_option maxHeartbeats 4000000 in
theorem nassign_bad (w : World) (vars top : Int) (A : Option Addr) (n c : Nat) (xs : List Nd) (h : RdN w A n c xs) (hv : I64 vars) (ht : I64 top) (y nn : Int) (hy : I64 y) (hnn : I64 nn) (hbad : chk vars xs top ≠ 0) :
    Calls Try.prog 18 #[.agg #[.int .i64 vars, .slice A n c, .int .i64 top], cubV y nn] w fun e w' => e = .returned (.tuple #[.agg #[.int .i64 0, .slice none 0 0, .int .i64 0], errV (chk vars xs top)]) ∧ On w w' := by
  obtain ⟨q, hq⟩ : ∃ q, w.heap.size = q := ⟨_, rfl⟩
  obtain ⟨w0, hw0⟩ : ∃ w0, ((w.alloc (.cells #[.int .i64 vars, .slice A n c, .int .i64 top] 24)).alloc (.cells #[.int .i64 y, .int .i64 nn] 48)).alloc (.cells #[.int .i64 0, .slice none 0 0, .int .i64 0] 24) = w0 := ⟨_, rfl⟩
  have O0 : Own w0 q 24 #[.int .i64 vars, .slice A n c, .int .i64 top] := by rw [← hw0, ← hq]; exact ((Own.new _ _ _).alloc _).alloc _
  have B0 : Own w0 (q + 1) 48 #[.int .i64 y, .int .i64 nn] := by
    rw [← hw0, ← hq]
    have := (Own.new (w.alloc (.cells #[.int .i64 vars, .slice A n c, .int .i64 top] 24)) 48 #[.int .i64 y, .int .i64 nn]).alloc (.cells #[.int .i64 0, .slice none 0 0, .int .i64 0] 24)
    simpa using this
  have C0 : Own w0 (q + 1 + 1) 24 #[.int .i64 0, .slice none 0 0, .int .i64 0] := by
    rw [← hw0, ← hq]
    have := Own.new ((w.alloc (.cells #[.int .i64 vars, .slice A n c, .int .i64 top] 24)).alloc (.cells #[.int .i64 y, .int .i64 nn] 48)) 24 #[.int .i64 0, .slice none 0 0, .int .i64 0]
    simpa using this
  have P0 : On w w0 := by rw [← hw0]; exact (((On.refl w).alloc _).alloc _).alloc _
  obtain ⟨r0, r1, r2⟩ := own3 O0
  have hC := check_any w0 vars top A n c xs (h.on P0) hv ht
  obtain ⟨er, her⟩ : ∃ er, chk vars xs top = er := ⟨_, rfl⟩
  rw [her] at hC hbad ⊢
  rw [errV_pos er hbad] at hC ⊢
  have HO := Lib.hid (And.intro C0 P0)
  clear O0 B0 C0 P0 h hv ht her
  unfold cubV
  go_enter Try.func18, Try.ntmps18
  go_wp2_with fail
  refine hC.mono ?_
  rintro e w1 ⟨rfl, P1⟩
  clear hC r0 r1 r2 hw0
  have C1 := HO.out.1.on P1
  have P1' := HO.out.2.trans P1
  obtain ⟨e0, e1', e2⟩ := own3 C1
  have g0 := C1.frozen 0
  have g1 := C1.frozen 1
  have g2 := C1.frozen 2
  have OF := ((C1.set_ 0 (.int .i64 0)).set_ 1 (.slice none 0 0)).set_ 2 (.int .i64 0)
  obtain ⟨x0, x1, x2⟩ := own3 (show Own _ (q + 1 + 1) 24 #[.int .i64 0, .slice none 0 0, .int .i64 0] from OF)
  have P9 := On.setCell (On.setCell (On.setCell (P1') (p := ⟨q + 1 + 1, 0, none⟩) (by show w.heap.size ≤ q + 1 + 1; omega) (.int .i64 0)) (p := ⟨q + 1 + 1, 1, none⟩) (by show w.heap.size ≤ q + 1 + 1; omega) (.slice none 0 0)) (p := ⟨q + 1 + 1, 2, none⟩) (by show w.heap.size ≤ q + 1 + 1; omega) (.int .i64 0)
  have HZ := Lib.hid P9
  clear OF P9
  go_wp2
  exact bodyPost_ret (v := .tuple #[.agg #[.int .i64 0, .slice none 0 0, .int .i64 0], .iface 43 (.int .i64 (er : Int))]) (by simp [results, Try.results18, go_sem, x0, x1, x2]) rfl ⟨rfl, HZ.out⟩
set_option maxHeartbeats 8000000 in
theorem nassign_err (w : World) (f : Fn) (hf : WF f) (A : Option Addr) (n c : Nat) (h : RdN w A n c (rawL f.nodes)) (y nn : Int) (hy : I64 y) (hnn : I64 nn) (hbad : cubErr f.vars y nn ≠ 0) :
    Calls Try.prog 18 #[.agg #[.int .i64 (f.vars : Int), .slice A n c, .int .i64 (f.top : Int)], cubV y nn] w fun e w' => e = .returned (.tuple #[.agg #[.int .i64 0, .slice none 0 0, .int .i64 0], errV (cubErr f.vars y nn)]) ∧ On w w' := by
  have htop := hf.2.2.2
  have hv24 := hf.1
  have hn128 := hf.2.1
  obtain ⟨q, hq⟩ : ∃ q, w.heap.size = q := ⟨_, rfl⟩
  obtain ⟨w0, hw0⟩ : ∃ w0, ((w.alloc (.cells #[.int .i64 (f.vars : Int), .slice A n c, .int .i64 (f.top : Int)] 24)).alloc (.cells #[.int .i64 y, .int .i64 nn] 48)).alloc (.cells #[.int .i64 0, .slice none 0 0, .int .i64 0] 24) = w0 := ⟨_, rfl⟩
  have O0 : Own w0 q 24 #[.int .i64 (f.vars : Int), .slice A n c, .int .i64 (f.top : Int)] := by rw [← hw0, ← hq]; exact ((Own.new _ _ _).alloc _).alloc _
  have B0 : Own w0 (q + 1) 48 #[.int .i64 y, .int .i64 nn] := by
    rw [← hw0, ← hq]
    have := (Own.new (w.alloc (.cells #[.int .i64 (f.vars : Int), .slice A n c, .int .i64 (f.top : Int)] 24)) 48 #[.int .i64 y, .int .i64 nn]).alloc (.cells #[.int .i64 0, .slice none 0 0, .int .i64 0] 24)
    simpa using this
  have C0 : Own w0 (q + 1 + 1) 24 #[.int .i64 0, .slice none 0 0, .int .i64 0] := by
    rw [← hw0, ← hq]
    have := Own.new ((w.alloc (.cells #[.int .i64 (f.vars : Int), .slice A n c, .int .i64 (f.top : Int)] 24)).alloc (.cells #[.int .i64 y, .int .i64 nn] 48)) 24 #[.int .i64 0, .slice none 0 0, .int .i64 0]
    simpa using this
  have P0 : On w w0 := by rw [← hw0]; exact (((On.refl w).alloc _).alloc _).alloc _
  obtain ⟨r0, r1, r2⟩ := own3 O0
  have hC := check_any w0 (f.vars : Int) (f.top : Int) A n c _ (h.on P0) (by unfold I64; omega) (by unfold I64; omega)
  rw [chk_ok hf, errV_zero] at hC
  have HO := Lib.hid (And.intro O0 (And.intro B0 (And.intro C0 P0)))
  have e1 := shl_step f.vars hv24
  have hv64 : f.vars < 64 := by omega
  obtain ⟨res, hres⟩ : ∃ res, cubErr f.vars y nn = res := ⟨_, rfl⟩
  rw [hres] at hbad ⊢
  unfold cubErr setB at hres
  obtain ⟨p2, hp2⟩ : ∃ p2, 2 ^ f.vars = p2 := ⟨_, rfl⟩
  rw [hp2] at e1 hres
  have HRES := Lib.hid hres
  clear h hf O0 B0 C0 P0 hp2 hres hy hnn
  unfold cubV
  go_enter Try.func18, Try.ntmps18
  go_wp2_with fail
  refine hC.mono ?_
  rintro e w1 ⟨rfl, P1⟩
  clear hC r0 r1 r2 hw0
  obtain ⟨r0, r1, r2⟩ := own3 (HO.out.1.on P1)
  obtain ⟨k0, k1⟩ := own2 (HO.out.2.1.on P1)
  obtain ⟨g, hg⟩ : ∃ g, w1.heap.size = g := ⟨_, rfl⟩
  obtain ⟨w2, hw2⟩ : ∃ w2, w1.alloc (.cells #[.int .i64 y, .int .i64 nn] 3) = w2 := ⟨_, rfl⟩
  have OG : Own w2 g 3 #[.int .i64 y, .int .i64 nn] := by rw [← hw2, ← hg]; exact Own.new _ _ _
  have P2 : On w1 w2 := by rw [← hw2]; exact (On.refl w1).alloc _
  have P12 := P1.trans P2
  have H2 := Lib.hid (And.intro OG (And.intro (HO.out.1.on P12) (And.intro (HO.out.2.1.on P12) (And.intro (HO.out.2.2.1.on P12) (HO.out.2.2.2.trans P12)))))
  have HW2 := Lib.hid hw2
  clear OG P1 P2 P12 hw2
  go_wp2
  (try rw [HW2.out])
  clear r0 r1 r2 k0 k1 HW2
  go_loopw [27] (fun i wr => ∃ k : Nat, k ≤ 2 ∧ i = .int .i64 (k : Int) ∧ (1 ≤ k → 0 ≤ y ∧ y < (p2 : Int)) ∧ (2 ≤ k → 0 ≤ nn ∧ nn < (p2 : Int)) ∧ On w wr ∧ Own wr g 3 #[.int .i64 y, .int .i64 nn] ∧ Own wr q 24 #[.int .i64 (f.vars : Int), .slice A n c, .int .i64 (f.top : Int)] ∧ Own wr (q + 1) 48 #[.int .i64 y, .int .i64 nn] ∧ Own wr (q + 1 + 1) 24 #[.int .i64 0, .slice none 0 0, .int .i64 0]) (fun i _ => 2 - (intOf i).toNat)
  case atStart => exact ⟨0, by omega, rfl, fun h => absurd h (by omega), fun h => absurd h (by omega), H2.out.2.2.2.2, H2.out.1, H2.out.2.1, H2.out.2.2.1, H2.out.2.2.2.1⟩
  case round =>
    obtain ⟨k, hk, rfl, hy, hn, hon, hG, hQ, hB, hC⟩ := hrel
    obtain ⟨r0, r1, r2⟩ := own3 hQ
    obtain ⟨k0, k1⟩ := own2 hB
    obtain ⟨m0, m1⟩ := own2 hG
    have HC := Lib.hid (And.intro hon (And.intro hG (And.intro hQ (And.intro hB hC))))
    clear hon hG hQ hB hC
    have hk3 : k = 0 ∨ k = 1 ∨ k = 2 := by omega
    rcases hk3 with rfl | rfl | rfl
    · clear hy hn
      by_cases h1 : y < 0
      · have hr : res = 3 := by rw [← HRES.out, if_pos (.inl (by rw [decide_eq_false (by omega)]; rfl))]
        subst hr
        obtain ⟨e0, e1', e2⟩ := own3 HC.out.2.2.2.2
        have g0 := HC.out.2.2.2.2.frozen 0
        have g1 := HC.out.2.2.2.2.frozen 1
        have g2 := HC.out.2.2.2.2.frozen 2
        have OF := ((HC.out.2.2.2.2.set_ 0 (.int .i64 0)).set_ 1 (.slice none 0 0)).set_ 2 (.int .i64 0)
        obtain ⟨x0, x1, x2⟩ := own3 (show Own _ (q + 1 + 1) 24 #[.int .i64 0, .slice none 0 0, .int .i64 0] from OF)
        have P9 := On.setCell (On.setCell (On.setCell (HC.out.1) (p := ⟨q + 1 + 1, 0, none⟩) (by show w.heap.size ≤ q + 1 + 1; omega) (.int .i64 0)) (p := ⟨q + 1 + 1, 1, none⟩) (by show w.heap.size ≤ q + 1 + 1; omega) (.slice none 0 0)) (p := ⟨q + 1 + 1, 2, none⟩) (by show w.heap.size ≤ q + 1 + 1; omega) (.int .i64 0)
        have HZ := Lib.hid P9
        clear OF P9
        go_wp2
        exact bodyPost_ret (v := .tuple #[.agg #[.int .i64 0, .slice none 0 0, .int .i64 0], .iface 43 (.int .i64 3)]) (by simp [results, Try.results18, go_sem, x0, x1, x2]) rfl ⟨by rw [errV_pos _ (by decide)]; rfl, HZ.out⟩
      · by_cases h2 : (p2 : Int) ≤ y
        · have hr : res = 3 := by rw [← HRES.out, if_pos (.inl (by rw [decide_eq_true (by omega : 0 ≤ y), decide_eq_false (by omega)]; rfl))]
          subst hr
          obtain ⟨e0, e1', e2⟩ := own3 HC.out.2.2.2.2
          have g0 := HC.out.2.2.2.2.frozen 0
          have g1 := HC.out.2.2.2.2.frozen 1
          have g2 := HC.out.2.2.2.2.frozen 2
          have OF := ((HC.out.2.2.2.2.set_ 0 (.int .i64 0)).set_ 1 (.slice none 0 0)).set_ 2 (.int .i64 0)
          obtain ⟨x0, x1, x2⟩ := own3 (show Own _ (q + 1 + 1) 24 #[.int .i64 0, .slice none 0 0, .int .i64 0] from OF)
          have P9 := On.setCell (On.setCell (On.setCell (HC.out.1) (p := ⟨q + 1 + 1, 0, none⟩) (by show w.heap.size ≤ q + 1 + 1; omega) (.int .i64 0)) (p := ⟨q + 1 + 1, 1, none⟩) (by show w.heap.size ≤ q + 1 + 1; omega) (.slice none 0 0)) (p := ⟨q + 1 + 1, 2, none⟩) (by show w.heap.size ≤ q + 1 + 1; omega) (.int .i64 0)
          have HZ := Lib.hid P9
          clear OF P9
          go_wp2
          exact bodyPost_ret (v := .tuple #[.agg #[.int .i64 0, .slice none 0 0, .int .i64 0], .iface 43 (.int .i64 3)]) (by simp [results, Try.results18, go_sem, x0, x1, x2]) rfl ⟨by rw [errV_pos _ (by decide)]; rfl, HZ.out⟩
        · go_wp2
          go_roundw
          case rel => exact ⟨1, by omega, by go_num, fun _ => ⟨by omega, by omega⟩, fun h => absurd h (by omega), HC.out.1, HC.out.2.1, HC.out.2.2.1, HC.out.2.2.2.1, HC.out.2.2.2.2⟩
          case measure => simp [intOf]
    · have hy1 := hy (by omega)
      clear hy hn
      by_cases h1 : nn < 0
      · have hr : res = 3 := by rw [← HRES.out, if_pos (.inr (by rw [decide_eq_false (by omega)]; rfl))]
        subst hr
        obtain ⟨e0, e1', e2⟩ := own3 HC.out.2.2.2.2
        have g0 := HC.out.2.2.2.2.frozen 0
        have g1 := HC.out.2.2.2.2.frozen 1
        have g2 := HC.out.2.2.2.2.frozen 2
        have OF := ((HC.out.2.2.2.2.set_ 0 (.int .i64 0)).set_ 1 (.slice none 0 0)).set_ 2 (.int .i64 0)
        obtain ⟨x0, x1, x2⟩ := own3 (show Own _ (q + 1 + 1) 24 #[.int .i64 0, .slice none 0 0, .int .i64 0] from OF)
        have P9 := On.setCell (On.setCell (On.setCell (HC.out.1) (p := ⟨q + 1 + 1, 0, none⟩) (by show w.heap.size ≤ q + 1 + 1; omega) (.int .i64 0)) (p := ⟨q + 1 + 1, 1, none⟩) (by show w.heap.size ≤ q + 1 + 1; omega) (.slice none 0 0)) (p := ⟨q + 1 + 1, 2, none⟩) (by show w.heap.size ≤ q + 1 + 1; omega) (.int .i64 0)
        have HZ := Lib.hid P9
        clear OF P9
        go_wp2
        exact bodyPost_ret (v := .tuple #[.agg #[.int .i64 0, .slice none 0 0, .int .i64 0], .iface 43 (.int .i64 3)]) (by simp [results, Try.results18, go_sem, x0, x1, x2]) rfl ⟨by rw [errV_pos _ (by decide)]; rfl, HZ.out⟩
      · by_cases h2 : (p2 : Int) ≤ nn
        · have hr : res = 3 := by rw [← HRES.out, if_pos (.inr (by rw [decide_eq_true (by omega : 0 ≤ nn), decide_eq_false (by omega)]; rfl))]
          subst hr
          obtain ⟨e0, e1', e2⟩ := own3 HC.out.2.2.2.2
          have g0 := HC.out.2.2.2.2.frozen 0
          have g1 := HC.out.2.2.2.2.frozen 1
          have g2 := HC.out.2.2.2.2.frozen 2
          have OF := ((HC.out.2.2.2.2.set_ 0 (.int .i64 0)).set_ 1 (.slice none 0 0)).set_ 2 (.int .i64 0)
          obtain ⟨x0, x1, x2⟩ := own3 (show Own _ (q + 1 + 1) 24 #[.int .i64 0, .slice none 0 0, .int .i64 0] from OF)
          have P9 := On.setCell (On.setCell (On.setCell (HC.out.1) (p := ⟨q + 1 + 1, 0, none⟩) (by show w.heap.size ≤ q + 1 + 1; omega) (.int .i64 0)) (p := ⟨q + 1 + 1, 1, none⟩) (by show w.heap.size ≤ q + 1 + 1; omega) (.slice none 0 0)) (p := ⟨q + 1 + 1, 2, none⟩) (by show w.heap.size ≤ q + 1 + 1; omega) (.int .i64 0)
          have HZ := Lib.hid P9
          clear OF P9
          go_wp2
          exact bodyPost_ret (v := .tuple #[.agg #[.int .i64 0, .slice none 0 0, .int .i64 0], .iface 43 (.int .i64 3)]) (by simp [results, Try.results18, go_sem, x0, x1, x2]) rfl ⟨by rw [errV_pos _ (by decide)]; rfl, HZ.out⟩
        · go_wp2
          go_roundw
          case rel => exact ⟨2, by omega, by go_num, fun _ => hy1, fun _ => ⟨by omega, by omega⟩, HC.out.1, HC.out.2.1, HC.out.2.2.1, HC.out.2.2.2.1, HC.out.2.2.2.2⟩
          case measure => simp [intOf]
    · have hy1 := hy (by omega)
      have hn1 := hn (by omega)
      clear hy hn
      have hs : ¬ ((decide (0 ≤ y) && decide (y < (p2 : Int))) = false ∨ (decide (0 ≤ nn) && decide (nn < (p2 : Int))) = false) := by
        rw [decide_eq_true hy1.1, decide_eq_true hy1.2, decide_eq_true hn1.1, decide_eq_true hn1.2]; decide
      have hr := HRES.out
      rw [if_neg hs] at hr
      clear hs hy1 hn1
      by_cases h0 : bits .and .i64 y nn = 0
      · rw [if_pos h0] at hr
        exact absurd hr.symm hbad
      · rw [if_neg h0] at hr
        subst hr
        obtain ⟨e0, e1', e2⟩ := own3 HC.out.2.2.2.2
        have g0 := HC.out.2.2.2.2.frozen 0
        have g1 := HC.out.2.2.2.2.frozen 1
        have g2 := HC.out.2.2.2.2.frozen 2
        have OF := ((HC.out.2.2.2.2.set_ 0 (.int .i64 0)).set_ 1 (.slice none 0 0)).set_ 2 (.int .i64 0)
        obtain ⟨x0, x1, x2⟩ := own3 (show Own _ (q + 1 + 1) 24 #[.int .i64 0, .slice none 0 0, .int .i64 0] from OF)
        have P9 := On.setCell (On.setCell (On.setCell (HC.out.1) (p := ⟨q + 1 + 1, 0, none⟩) (by show w.heap.size ≤ q + 1 + 1; omega) (.int .i64 0)) (p := ⟨q + 1 + 1, 1, none⟩) (by show w.heap.size ≤ q + 1 + 1; omega) (.slice none 0 0)) (p := ⟨q + 1 + 1, 2, none⟩) (by show w.heap.size ≤ q + 1 + 1; omega) (.int .i64 0)
        have HZ := Lib.hid P9
        clear OF P9
        go_wp2
        exact bodyPost_ret (v := .tuple #[.agg #[.int .i64 0, .slice none 0 0, .int .i64 0], .iface 43 (.int .i64 6)]) (by simp [results, Try.results18, go_sem, x0, x1, x2]) rfl ⟨by rw [errV_pos _ (by decide)]; rfl, HZ.out⟩
end Go.Proofs.Ytmkogcaafkobaaa.Fm
/-
  Assign of the program.
-/
namespace Go.Proofs.Ytmkogcaafkobaaa.Fm
open Go.RowKit Go.Proofs.Ytmkogcaafkobaaa.Sb Go.Proofs.Ytmkogcaafkobaaa.Rgv
set_option linter.unusedVariables false
set_option linter.unusedSimpArgs false
set_option maxRecDepth 100000
theorem asg_set (v y n : Nat) {k : Nat} (hk : k < v) : (asgL v y n k ++ (List.range v).drop k).set k (asgV v y n k) = asgL v y n (k + 1) ++ (List.range v).drop (k + 1) := by
  have h1 : (List.range v).drop k = k :: (List.range v).drop (k + 1) := by
    rw [List.drop_eq_getElem_cons (by simpa using hk)]; simp
  rw [h1, List.set_append_right _ _ (by rw [asgL_len]; omega), asgL_len, Nat.sub_self, List.set_cons_zero, asgL_succ, List.append_assoc]; rfl
theorem asg_same (v y n : Nat) {k : Nat} (hk : k < v) (h : asgV v y n k = k) : asgL v y n k ++ (List.range v).drop k = asgL v y n (k + 1) ++ (List.range v).drop (k + 1) := by
  have h1 : (List.range v).drop k = k :: (List.range v).drop (k + 1) := by
    rw [List.drop_eq_getElem_cons (by simpa using hk)]; simp
  rw [h1, asgL_succ, h, List.append_assoc]; rfl
set_option maxHeartbeats 16000000 in
theorem nassign_ok (w : World) (f : Fn) (hf : WF f) (A : Option Addr) (n c : Nat) (h : RdN w A n c (rawL f.nodes)) (y nn : Nat) (hy : y < 2 ^ f.vars) (hnn : nn < 2 ^ f.vars) (hok : cubErr f.vars (y : Int) (nn : Int) = 0) :
    Calls Try.prog 18 #[.agg #[.int .i64 (f.vars : Int), .slice A n c, .int .i64 (f.top : Int)], cubV (y : Int) (nn : Int)] w fun e w' => MadeP (assignF f y nn) e w' ∧ On w w' := by
  have htop := hf.2.2.2
  have hv24 := hf.1
  have hn128 := hf.2.1
  have hcap := h.cap
  have hmax := h.max
  have hnl : f.nodes.length = n := by have := h.len; rwa [raw_len] at this
  obtain ⟨a', b', ea, eb, _, _, hdis⟩ := cub_zero hv24 hok
  obtain rfl : a' = y := by omega
  obtain rfl : b' = nn := by omega
  have hand : bits .and .i64 (a' : Int) (b' : Int) = 0 := by
    unfold cubErr at hok
    split at hok
    · omega
    · split at hok
      · assumption
      · omega
  have hp24 := pow24 hv24
  have hy24 : a' < 16777216 := by omega
  have hn24 : b' < 16777216 := by omega
  clear hp24
  obtain ⟨p2, hp2⟩ : ∃ p2, 2 ^ f.vars = p2 := ⟨_, rfl⟩
  rw [hp2] at hy hnn
  have HDIS := Lib.hid hdis
  have HE := Lib.hid hp2
  clear hok hdis ea eb hp2
  obtain ⟨yI, hyI⟩ : ∃ yI : Int, (a' : Int) = yI := ⟨_, rfl⟩
  obtain ⟨nI, hnI⟩ : ∃ nI : Int, (b' : Int) = nI := ⟨_, rfl⟩
  rw [hyI, hnI] at hand ⊢
  have HAND := Lib.hid hand
  clear hand
  have g1 : ¬ yI < 0 := by omega
  have g2 : ¬ (p2 : Int) ≤ yI := by omega
  have g3 : ¬ nI < 0 := by omega
  have g4 : ¬ (p2 : Int) ≤ nI := by omega
  have HB := Lib.hid (And.intro (And.intro hyI hnI) (And.intro hy24 hn24))
  clear hy24 hn24 hy hnn hyI hnI
  obtain ⟨q, hq⟩ : ∃ q, w.heap.size = q := ⟨_, rfl⟩
  obtain ⟨w0, hw0⟩ : ∃ w0, ((w.alloc (.cells #[.int .i64 (f.vars : Int), .slice A n c, .int .i64 (f.top : Int)] 24)).alloc (.cells #[.int .i64 yI, .int .i64 nI] 48)).alloc (.cells #[.int .i64 0, .slice none 0 0, .int .i64 0] 24) = w0 := ⟨_, rfl⟩
  have O0 : Own w0 q 24 #[.int .i64 (f.vars : Int), .slice A n c, .int .i64 (f.top : Int)] := by rw [← hw0, ← hq]; exact ((Own.new _ _ _).alloc _).alloc _
  have B0 : Own w0 (q + 1) 48 #[.int .i64 yI, .int .i64 nI] := by
    rw [← hw0, ← hq]
    have := (Own.new (w.alloc (.cells #[.int .i64 (f.vars : Int), .slice A n c, .int .i64 (f.top : Int)] 24)) 48 #[.int .i64 yI, .int .i64 nI]).alloc (.cells #[.int .i64 0, .slice none 0 0, .int .i64 0] 24)
    simpa using this
  have C0 : Own w0 (q + 1 + 1) 24 #[.int .i64 0, .slice none 0 0, .int .i64 0] := by
    rw [← hw0, ← hq]
    have := Own.new ((w.alloc (.cells #[.int .i64 (f.vars : Int), .slice A n c, .int .i64 (f.top : Int)] 24)).alloc (.cells #[.int .i64 yI, .int .i64 nI] 48)) 24 #[.int .i64 0, .slice none 0 0, .int .i64 0]
    simpa using this
  have P0 : On w w0 := by rw [← hw0]; exact (((On.refl w).alloc _).alloc _).alloc _
  obtain ⟨r0, r1, r2⟩ := own3 O0
  have hC := check_any w0 (f.vars : Int) (f.top : Int) A n c _ (h.on P0) (by unfold I64; omega) (by unfold I64; omega)
  rw [chk_ok hf, errV_zero] at hC
  have HO := Lib.hid (And.intro O0 (And.intro B0 (And.intro C0 P0)))
  have HF := Lib.hid (And.intro hf (And.intro h (And.intro HDIS.out hnl)))
  have hv64 : f.vars < 64 := by omega
  have e1 := shl_step f.vars hv24
  rw [HE.out] at e1
  clear h hf O0 B0 C0 P0 hnl
  unfold cubV
  go_enter Try.func18, Try.ntmps18
  go_wp2_with fail
  refine hC.mono ?_
  rintro e w1 ⟨rfl, P1⟩
  clear hC r0 r1 r2 hw0
  obtain ⟨r0, r1, r2⟩ := own3 (HO.out.1.on P1)
  obtain ⟨k0, k1⟩ := own2 (HO.out.2.1.on P1)
  obtain ⟨g, hg⟩ : ∃ g, w1.heap.size = g := ⟨_, rfl⟩
  obtain ⟨w2, hw2⟩ : ∃ w2, w1.alloc (.cells #[.int .i64 yI, .int .i64 nI] 3) = w2 := ⟨_, rfl⟩
  have OG : Own w2 g 3 #[.int .i64 yI, .int .i64 nI] := by rw [← hw2, ← hg]; exact Own.new _ _ _
  have P2 : On w1 w2 := by rw [← hw2]; exact (On.refl w1).alloc _
  have P12 := P1.trans P2
  have H2 := Lib.hid (And.intro OG (And.intro (HO.out.1.on P12) (And.intro (HO.out.2.1.on P12) (And.intro (HO.out.2.2.1.on P12) (HO.out.2.2.2.trans P12)))))
  have HW2 := Lib.hid hw2
  clear OG P1 P2 P12 hw2
  go_wp2
  (try rw [HW2.out])
  clear r0 r1 r2 k0 k1 HW2
  go_loopw [27] (fun i wr => ∃ k : Nat, k ≤ 2 ∧ i = .int .i64 (k : Int) ∧ On w wr ∧ Own wr g 3 #[.int .i64 yI, .int .i64 nI] ∧ Own wr q 24 #[.int .i64 (f.vars : Int), .slice A n c, .int .i64 (f.top : Int)] ∧ Own wr (q + 1) 48 #[.int .i64 yI, .int .i64 nI] ∧ Own wr (q + 1 + 1) 24 #[.int .i64 0, .slice none 0 0, .int .i64 0]) (fun i _ => 2 - (intOf i).toNat)
  case atStart => exact ⟨0, by omega, rfl, H2.out.2.2.2.2, H2.out.1, H2.out.2.1, H2.out.2.2.1, H2.out.2.2.2.1⟩
  case round =>
    obtain ⟨k, hk, rfl, hon, hG, hQ, hB, hC⟩ := hrel
    obtain ⟨w5, hw5⟩ : ∃ w5, w5 = wr := ⟨_, rfl⟩
    subst hw5
    obtain ⟨r0, r1, r2⟩ := own3 hQ
    obtain ⟨k0, k1⟩ := own2 hB
    obtain ⟨m0, m1⟩ := own2 hG
    have HC := Lib.hid (And.intro hon (And.intro hG (And.intro hQ (And.intro hB hC))))
    clear hG hQ hB hC
    have hk3 : k = 0 ∨ k = 1 ∨ k = 2 := by omega
    rcases hk3 with rfl | rfl | rfl
    · go_wp2
      go_roundw
      case rel => exact ⟨1, by omega, by go_num, HC.out.1, HC.out.2.1, HC.out.2.2.1, HC.out.2.2.2.1, HC.out.2.2.2.2⟩
      case measure => simp [intOf]
    · go_wp2
      go_roundw
      case rel => exact ⟨2, by omega, by go_num, HC.out.1, HC.out.2.1, HC.out.2.2.1, HC.out.2.2.2.1, HC.out.2.2.2.2⟩
      case measure => simp [intOf]
    · clear g1 g2 g3 g4 e1
      have hand := HAND.out
      obtain ⟨V, hVV⟩ : ∃ V, f.vars = V := ⟨_, rfl⟩
      obtain ⟨tp, htp⟩ : ∃ tp, f.top = tp := ⟨_, rfl⟩
      have HT := Lib.hid (And.intro hVV htp)
      rw [hVV] at hv24 htop r0 HC
      rw [htp] at htop r2 HC
      (try rw [hVV])
      (try rw [htp])
      clear m0 m1
      obtain ⟨b, hb⟩ : ∃ b, w5.heap.size = b := ⟨_, rfl⟩
      obtain ⟨wd1, hd1⟩ : ∃ wd1, w5.alloc (.cells #[.int .i64 0, .slice none 0 0] 56) = wd1 := ⟨_, rfl⟩
      have Bd1 : Own wd1 b 56 #[.int .i64 0, .slice none 0 0] := by rw [← hd1, ← hb]; exact Own.new _ _ _
      have Pd1 : On w5 wd1 := by rw [← hd1]; exact (On.refl w5).alloc _
      obtain ⟨wd, hd2⟩ : ∃ wd, (wd1.setCell ⟨b, 0, none⟩ (.int .i64 (V : Int))).setCell ⟨b, 1, none⟩ (.slice none 0 0) = wd := ⟨_, rfl⟩
      have Bd2 : Own wd b 56 #[.int .i64 (V : Int), .slice none 0 0] := by rw [← hd2]; exact (Bd1.set_ 0 _).set_ 1 _
      have Pd2 : On w5 wd := by rw [← hd2]; exact On.setCell (On.setCell Pd1 (p := ⟨b, 0, none⟩) (by show w5.heap.size ≤ b; omega) _) (p := ⟨b, 1, none⟩) (by show w5.heap.size ≤ b; omega) _
      obtain ⟨y0, y1⟩ := own2 Bd1
      have z0 := Bd1.frozen 0
      have z1 := Bd1.frozen 1
      have D0 : Dr w5 (fun _ => False) wd b V [] := ⟨Pd2, by omega, fun _ h => h.elim, _, Bd2, OutZ.nil _ _ _⟩
      clear Bd1 Pd1 Bd2
      have O6 := HC.out.2.2.1.on Pd2
      obtain ⟨t0, t1, t2⟩ := own3 O6
      have hq5 : q + 1 + 1 < w5.heap.size := HC.out.2.2.2.2.lt
      obtain ⟨V1, hV1⟩ : ∃ V1, V + 1 = V1 := ⟨_, rfl⟩
      have hC := dadd0 w5 _ wd b V [] D0 hv24 (by simp) V rfl 0 0 0 0 rfl rfl
      clear D0
      go_wp2_with fail
      refine hC.mono ?_
      rintro e w6 ⟨rfl, D6, K6⟩
      clear hC hd1 hd2 y0 y1 z0 z1
      have hC := dadd0 w5 _ w6 b V _ D6 hv24 (by simp) V1 (by simpa using hV1) 0 1 0 1 rfl rfl
      clear D6
      go_wp2_with fail
      refine hC.mono ?_
      rintro e w7 ⟨rfl, D7, K7⟩
      clear hC
      have e7 : ([] ++ [(⟨0, 0, []⟩ : Nn)] ++ [(⟨0, 1, []⟩ : Nn)]) = two01 := rfl
      rw [e7] at D7
      have O7 := HC.out.2.2.1.on D7.on
      obtain ⟨u0, u1, u2⟩ := own3 O7
      have hC := events_any w7 V hv24
      have H7 := Lib.hid D7
      clear D7 O6 O7 K6 K7 Pd2
      go_wp2_with fail
      refine hC.mono ?_
      rintro e wl ⟨gs, rfl, hgs, hGs, Pl⟩
      clear hC t0 t1 t2 u0 u1 u2 r0 r1 r2 k0 k1
      have Dl0 := H7.out.by_ (row := none) (Z' := fun g => (Value.slice (some ⟨gs, 0, none⟩) V V).ownBlock = some g ∨ False) (gb_on Pl none) (fun _ e => by cases e) (fun g1 e => by
        rcases e with e | e
        · injection e with e; subst e; exact .inr ⟨hgs, hGs.lt⟩
        · exact e.elim)
      have hd := H7.out.on.size
      have Sl := owns_blk (base := w5.heap.size) hGs (by omega) (n := V) (by rw [VI_length, ints_length, List.length_range]) (by omega)
      have HS := Lib.hid (And.intro Dl0 Sl)
      clear Dl0 Sl hGs
      go_wp2
      go_loopw [61] (fun i wr => ∃ k : Nat, k ≤ V ∧ i = .int .i64 (k : Int) ∧ Dr w5 (fun g => (Value.slice (some ⟨gs, 0, none⟩) V V).ownBlock = some g ∨ False) wr b V two01 ∧ wr.ownsRow w5.heap.size 3 1 (.slice (some ⟨gs, 0, none⟩) V V) V (VI (ints (asgL V a' b' k ++ (List.range V).drop k)))) (fun i _ => V - (intOf i).toNat)
      case atStart => exact ⟨0, by omega, rfl, HS.out.1, by simpa [asgL] using HS.out.2⟩
      case round =>
        obtain ⟨k, hk, rfl, D, S⟩ := hrel
        obtain ⟨wo, hwo⟩ : ∃ wo, wo = wr := ⟨_, rfl⟩
        subst hwo
        by_cases hlt : k < V
        · obtain ⟨k0, k1⟩ := own2 (HC.out.2.2.2.1.on D.on)
          have bn := bit_int9 b' k HB.out.2.2
          have by_ := bit_int9 a' k HB.out.2.1
          rw [HB.out.1.2] at bn
          rw [HB.out.1.1] at by_
          have h2n : b' / 2 ^ k % 2 < 2 := Nat.mod_lt _ (by omega)
          have h2y : a' / 2 ^ k % 2 < 2 := Nat.mod_lt _ (by omega)
          have hset := asg_set V a' b' hlt
          have hsame := asg_same V a' b' hlt
          have hdef : asgV V a' b' k = if b' / 2 ^ k % 2 = 1 then V else if a' / 2 ^ k % 2 = 1 then V + 1 else k := rfl
          have hdk : a' / 2 ^ k % 2 = 1 → ¬ b' / 2 ^ k % 2 = 1 := fun e1 e2 => HF.out.2.2.1 k ⟨by rw [Nat.testBit_eq_decide_div_mod_eq, e1]; rfl, by rw [Nat.testBit_eq_decide_div_mod_eq, e2]; rfl⟩
          have hc := row_cellG S hlt rfl
          obtain ⟨_, _, cur, hcur⟩ := row_own S
          have hfz := hcur.frozen k
          obtain ⟨bb, hbb⟩ : ∃ bb, b' / 2 ^ k % 2 = bb := ⟨_, rfl⟩
          obtain ⟨yb, hyb⟩ : ∃ yb, a' / 2 ^ k % 2 = yb := ⟨_, rfl⟩
          rw [hbb] at bn h2n hdef hdk
          rw [hyb] at by_ h2y hdef hdk
          have hk64 : k < 64 := by omega
          have HV := Lib.hid (And.intro D (And.intro S (And.intro hset (And.intro hsame (And.intro hdef hcur)))))
          clear hset hsame hdef hbb hyb D S hcur
          by_cases ey : yb = 1
          · obtain rfl : bb = 0 := by have := hdk ey; omega
            subst ey
            go_wp2
            go_roundw
            case rel =>
              refine ⟨k + 1, by omega, by go_num, HV.out.1.set_ HV.out.2.2.2.2.2 (row_own HV.out.2.1).1 (by decide) (by decide) (fun _ => .inl rfl) _ _, ?_⟩
              have h1 := row_setZ HV.out.2.1 hlt (V1 : Int)
              rw [ints_set] at h1
              have h2 := HV.out.2.2.1
              rw [HV.out.2.2.2.2.1, if_neg (by omega), if_pos rfl, hV1] at h2
              rwa [h2] at h1
            case measure => simp [intOf] <;> omega
          · obtain rfl : yb = 0 := by omega
            by_cases en : bb = 1
            · subst en
              go_wp2
              go_roundw
              case rel =>
                refine ⟨k + 1, by omega, by go_num, HV.out.1.set_ HV.out.2.2.2.2.2 (row_own HV.out.2.1).1 (by decide) (by decide) (fun _ => .inl rfl) _ _, ?_⟩
                have h1 := row_setZ HV.out.2.1 hlt (V : Int)
                rw [ints_set] at h1
                have h2 := HV.out.2.2.1
                rw [HV.out.2.2.2.2.1, if_pos rfl] at h2
                rwa [h2] at h1
              case measure => simp [intOf] <;> omega
            · obtain rfl : bb = 0 := by omega
              clear hc hfz
              go_wp2
              go_roundw
              case rel =>
                have h2 := HV.out.2.2.2.1 (by rw [HV.out.2.2.2.2.1, if_neg (by omega), if_neg (by omega)])
                exact ⟨k + 1, by omega, by go_num, HV.out.1, by rw [← h2]; exact HV.out.2.1⟩
              case measure => simp [intOf] <;> omega
        · obtain rfl : k = V := by omega
          have hL : asgL k a' b' k ++ (List.range k).drop k = asgL k a' b' k := by rw [List.drop_of_length_le (by simp), List.append_nil]
          rw [hL] at S
          have O9 := HC.out.2.2.1.on D.on
          obtain ⟨t0, t1, t2⟩ := own3 O9
          have hC := dincl_any w5 (fun _ => False) wo b k two01 _ k D hv24 (by decide) (asgL k a' b' k) S f HF.out.1 HT.out.1 A n c (HF.out.2.1.on HC.out.1)
          rw [HT.out.2] at hC
          obtain ⟨rt, hrt⟩ : ∃ rt, (jnow k two01 (asgL k a' b' k) f.nodes.length).getD tp 0 = rt := ⟨_, rfl⟩
          rw [hrt] at hC
          have HR := Lib.hid hrt
          clear D S O9 hL hrt
          go_wp2_with fail
          refine hC.mono ?_
          rintro e w9 ⟨rfl, D9, K9⟩
          clear hC t0 t1 t2
          have hTr : assignF f a' b' = ⟨k, two01 ++ inclN k two01 (asgL k a' b' k) f, rt⟩ := by unfold assignF joined inclN; rw [HT.out.1, HT.out.2, HR.out]
          have hC := dwhole_any w5 _ w9 b k _ D9 hv24 rt
          rw [← hTr] at hC
          have C9 := HC.out.2.2.2.2.on D9.on
          have P9 := HC.out.1.trans D9.on
          have HW := Lib.hid (And.intro C9 P9)
          clear D9 K9 hTr C9 P9
          go_wp2_with fail
          refine hC.mono ?_
          rintro e w8 ⟨hMP, P8'⟩
          clear hC
          have C8 := HW.out.1.on P8'
          have P8 := HW.out.2.trans P8'
          have hqs : w.heap.size ≤ q + 1 + 1 := by omega
          obtain ⟨e0, e1, e2⟩ := own3 C8
          have g0 := C8.frozen 0
          have g1 := C8.frozen 1
          have g2 := C8.frozen 2
          rcases hMP with ⟨hle, A', c', rfl, hRR⟩ | ⟨hgt2, rfl⟩
          · obtain ⟨tv, htv⟩ : ∃ z, (assignF f a' b').vars = z := ⟨_, rfl⟩
            obtain ⟨tt, htt⟩ : ∃ z, (assignF f a' b').top = z := ⟨_, rfl⟩
            obtain ⟨tn, htn⟩ : ∃ z, (assignF f a' b').nodes.length = z := ⟨_, rfl⟩
            have HT := Lib.hid (And.intro htv (And.intro htt htn))
            rw [htv, htt, htn]
            rw [htn] at hRR hle
            clear htv htt htn
            have OF := ((C8.set_ 0 (.int .i64 (tv : Int))).set_ 1 (.slice A' tn c')).set_ 2 (.int .i64 (tt : Int))
            obtain ⟨x0, x1, x2⟩ := own3 (show Own _ (q + 1 + 1) 24 #[.int .i64 (tv : Int), .slice A' tn c', .int .i64 (tt : Int)] from OF)
            have P9 := On.setCell (On.setCell (On.setCell P8 (p := ⟨q + 1 + 1, 0, none⟩) hqs (.int .i64 (tv : Int))) (p := ⟨q + 1 + 1, 1, none⟩) hqs (.slice A' tn c')) (p := ⟨q + 1 + 1, 2, none⟩) hqs (.int .i64 (tt : Int))
            have R9 := ((hRR.far (p := ⟨q + 1 + 1, 0, none⟩) hq5 (.int .i64 (tv : Int))).far (p := ⟨q + 1 + 1, 1, none⟩) hq5 (.slice A' tn c')).far (p := ⟨q + 1 + 1, 2, none⟩) hq5 (.int .i64 (tt : Int))
            have HZ := Lib.hid (And.intro hle (And.intro P9 R9))
            clear OF P9 hle C8 R9 hRR P8
            go_wp2
            refine bodyPost_ret (v := .tuple #[.agg #[.int .i64 (tv : Int), .slice A' tn c', .int .i64 (tt : Int)], .nilIface]) (by simp [results, Try.results18, go_sem, x0, x1, x2]) rfl ⟨.inl ?_, HZ.out.2.1⟩
            rw [HT.out.1, HT.out.2.1, HT.out.2.2]
            exact ⟨HZ.out.1, A', c', rfl, HZ.out.2.2.rd.2⟩
          · have OF := ((C8.set_ 0 (.int .i64 0)).set_ 1 (.slice none 0 0)).set_ 2 (.int .i64 0)
            obtain ⟨x0, x1, x2⟩ := own3 (show Own _ (q + 1 + 1) 24 #[.int .i64 0, .slice none 0 0, .int .i64 0] from OF)
            have P9 := On.setCell (On.setCell (On.setCell P8 (p := ⟨q + 1 + 1, 0, none⟩) hqs (.int .i64 0)) (p := ⟨q + 1 + 1, 1, none⟩) hqs (.slice none 0 0)) (p := ⟨q + 1 + 1, 2, none⟩) hqs (.int .i64 0)
            have HZ := Lib.hid (And.intro hgt2 P9)
            clear OF P9 hgt2 C8 P8
            rw [errV_pos 4 (by decide)]
            go_wp2
            refine bodyPost_ret (v := .tuple #[.agg #[.int .i64 0, .slice none 0 0, .int .i64 0], errV 4]) (by rw [errV_pos 4 (by decide)]; simp [results, Try.results18, go_sem, x0, x1, x2]) rfl ⟨.inr ⟨HZ.out.1, rfl⟩, HZ.out.2⟩
end Go.Proofs.Ytmkogcaafkobaaa.Fm
/-
  Replace of the program: the errors.
-/
namespace Go.Proofs.Ytmkogcaafkobaaa.Fm
open Go.RowKit Go.Proofs.Ytmkogcaafkobaaa.Sb Go.Proofs.Ytmkogcaafkobaaa.Rgv
set_option linter.unusedVariables false
set_option linter.unusedSimpArgs false
set_option maxRecDepth 100000
/-- the error of two formulas, and of the event -/
def errR (vars : Int) (xs : List Nd) (top vars2 : Int) (xs2 : List Nd) (top2 ev : Int) : Nat :=
  if chk vars xs top ≠ 0 then chk vars xs top else if chk vars2 xs2 top2 ≠ 0 then chk vars2 xs2 top2 else repErr vars.toNat vars2.toNat ev
set_option maxHeartbeats 8000000 in
theorem nreplace_bad (w : World) (vars top : Int) (A : Option Addr) (n c : Nat) (xs : List Nd) (h : RdN w A n c xs) (hv : I64 vars) (ht : I64 top) (vars2 top2 : Int) (A2 : Option Addr) (n2 c2 : Nat) (xs2 : List Nd) (h2 : RdN w A2 n2 c2 xs2) (hv2 : I64 vars2) (ht2 : I64 top2) (ev : Int) (hev : I64 ev) (hbad : errR vars xs top vars2 xs2 top2 ev ≠ 0) :
    Calls Try.prog 20 #[.agg #[.int .i64 vars, .slice A n c, .int .i64 top], .int .i64 ev, .agg #[.int .i64 vars2, .slice A2 n2 c2, .int .i64 top2]] w fun e w' => e = .returned (.tuple #[.agg #[.int .i64 0, .slice none 0 0, .int .i64 0], errV (errR vars xs top vars2 xs2 top2 ev)]) ∧ On w w' := by
  obtain ⟨q, hq⟩ : ∃ q, w.heap.size = q := ⟨_, rfl⟩
  obtain ⟨w0, hw0⟩ : ∃ w0, ((w.alloc (.cells #[.int .i64 vars, .slice A n c, .int .i64 top] 24)).alloc (.cells #[.int .i64 vars2, .slice A2 n2 c2, .int .i64 top2] 24)).alloc (.cells #[.int .i64 0, .slice none 0 0, .int .i64 0] 24) = w0 := ⟨_, rfl⟩
  have O0 : Own w0 q 24 #[.int .i64 vars, .slice A n c, .int .i64 top] := by rw [← hw0, ← hq]; exact ((Own.new _ _ _).alloc _).alloc _
  have B0 : Own w0 (q + 1) 24 #[.int .i64 vars2, .slice A2 n2 c2, .int .i64 top2] := by
    rw [← hw0, ← hq]
    have := (Own.new (w.alloc (.cells #[.int .i64 vars, .slice A n c, .int .i64 top] 24)) 24 #[.int .i64 vars2, .slice A2 n2 c2, .int .i64 top2]).alloc (.cells #[.int .i64 0, .slice none 0 0, .int .i64 0] 24)
    simpa using this
  have C0 : Own w0 (q + 1 + 1) 24 #[.int .i64 0, .slice none 0 0, .int .i64 0] := by
    rw [← hw0, ← hq]
    have := Own.new ((w.alloc (.cells #[.int .i64 vars, .slice A n c, .int .i64 top] 24)).alloc (.cells #[.int .i64 vars2, .slice A2 n2 c2, .int .i64 top2] 24)) 24 #[.int .i64 0, .slice none 0 0, .int .i64 0]
    simpa using this
  have P0 : On w w0 := by rw [← hw0]; exact (((On.refl w).alloc _).alloc _).alloc _
  obtain ⟨r0, r1, r2⟩ := own3 O0
  obtain ⟨k0, k1, k2⟩ := own3 B0
  obtain ⟨er, her⟩ : ∃ er, errR vars xs top vars2 xs2 top2 ev = er := ⟨_, rfl⟩
  rw [her] at hbad ⊢
  unfold errR at her
  have hC1 := Lib.hid (fun (W : World) (k : On w W) => check_any W vars top A n c xs (h.on k) hv ht)
  have hC2 := Lib.hid (fun (W : World) (k : On w W) => check_any W vars2 top2 A2 n2 c2 xs2 (h2.on k) hv2 ht2)
  have HZ1 := Lib.hid (fun hz : chk vars xs top = 0 => chk_zero hz)
  have HZ2 := Lib.hid (fun hz : chk vars2 xs2 top2 = 0 => chk_zero hz)
  obtain ⟨ca, hca⟩ : ∃ ca, chk vars xs top = ca := ⟨_, rfl⟩
  obtain ⟨cb, hcb⟩ : ∃ cb, chk vars2 xs2 top2 = cb := ⟨_, rfl⟩
  rw [hca] at hC1 HZ1 her
  rw [hcb] at hC2 HZ2 her
  have HE := Lib.hid her
  clear h h2 hv ht hv2 ht2 hev hca hcb her
  obtain ⟨g, hg⟩ : ∃ g, w0.heap.size = g := ⟨_, rfl⟩
  obtain ⟨w2, hw2⟩ : ∃ w2, w0.alloc (.cells #[.int .i64 vars, .slice A n c, .int .i64 top, .int .i64 vars2, .slice A2 n2 c2, .int .i64 top2] 24) = w2 := ⟨_, rfl⟩
  have OG : Own w2 g 24 #[.int .i64 vars, .slice A n c, .int .i64 top, .int .i64 vars2, .slice A2 n2 c2, .int .i64 top2] := by rw [← hw2, ← hg]; exact Own.new _ _ _
  have P2 : On w0 w2 := by rw [← hw2]; exact (On.refl w0).alloc _
  have H2 := Lib.hid (And.intro OG (And.intro (O0.on P2) (And.intro (B0.on P2) (And.intro (C0.on P2) (P0.trans P2)))))
  clear OG P2 O0 B0 C0 P0
  go_enter Try.func20, Try.ntmps20
  go_wp2
  clear r0 r1 r2 k0 k1 k2 hw0 hw2
  go_loopw [18] (fun i wr => ∃ k : Nat, k ≤ 2 ∧ i = .int .i64 (k : Int) ∧ (1 ≤ k → ca = 0) ∧ (2 ≤ k → cb = 0) ∧ On w wr ∧ Own wr g 24 #[.int .i64 vars, .slice A n c, .int .i64 top, .int .i64 vars2, .slice A2 n2 c2, .int .i64 top2] ∧ Own wr q 24 #[.int .i64 vars, .slice A n c, .int .i64 top] ∧ Own wr (q + 1) 24 #[.int .i64 vars2, .slice A2 n2 c2, .int .i64 top2] ∧ Own wr (q + 1 + 1) 24 #[.int .i64 0, .slice none 0 0, .int .i64 0]) (fun i _ => 2 - (intOf i).toNat)
  case atStart => exact ⟨0, by omega, rfl, fun h => absurd h (by omega), fun h => absurd h (by omega), H2.out.2.2.2.2, H2.out.1, H2.out.2.1, H2.out.2.2.1, H2.out.2.2.2.1⟩
  case round =>
    obtain ⟨k, hk, rfl, h1, h2, hon, hG, hQ, hB, hC⟩ := hrel
    have HC := Lib.hid (And.intro hon (And.intro hG (And.intro hQ (And.intro hB hC))))
    clear hon hG hQ hB hC
    have hk3 : k = 0 ∨ k = 1 ∨ k = 2 := by omega
    rcases hk3 with rfl | rfl | rfl
    · clear h1 h2
      have m0 : wr.cell? ⟨g, 0, none⟩ = some (.int .i64 vars) := by rw [HC.out.2.1.cell]; rfl
      have m1 : wr.cell? ⟨g, 1, none⟩ = some (.slice A n c) := by rw [HC.out.2.1.cell]; rfl
      have m2 : wr.cell? ⟨g, 2, none⟩ = some (.int .i64 top) := by rw [HC.out.2.1.cell]; rfl
      obtain ⟨p, hp⟩ : ∃ p, wr.heap.size = p := ⟨_, rfl⟩
      obtain ⟨wb, hwb⟩ : ∃ wb, wr.alloc (.cells #[.int .i64 0, .slice none 0 0, .int .i64 0] 24) = wb := ⟨_, rfl⟩
      have Nb : Own wb p 24 #[.int .i64 0, .slice none 0 0, .int .i64 0] := by rw [← hwb, ← hp]; exact Own.new _ _ _
      have Pb : On wr wb := by rw [← hwb]; exact (On.refl wr).alloc _
      obtain ⟨wc, hwc⟩ : ∃ wc, ((wb.setCell ⟨p, 0, none⟩ (.int .i64 vars)).setCell ⟨p, 1, none⟩ (.slice A n c)).setCell ⟨p, 2, none⟩ (.int .i64 top) = wc := ⟨_, rfl⟩
      have Nc : Own wc p 24 #[.int .i64 vars, .slice A n c, .int .i64 top] := by rw [← hwc]; exact ((Nb.set_ 0 _).set_ 1 _).set_ 2 _
      have Pc : On wr wc := by rw [← hwc]; exact On.setCell (On.setCell (On.setCell Pb (p := ⟨p, 0, none⟩) (by show wr.heap.size ≤ p; omega) _) (p := ⟨p, 1, none⟩) (by show wr.heap.size ≤ p; omega) _) (p := ⟨p, 2, none⟩) (by show wr.heap.size ≤ p; omega) _
      obtain ⟨y0, y1, y2⟩ := own3 Nb
      have z0 := Nb.frozen 0
      have z1 := Nb.frozen 1
      have z2 := Nb.frozen 2
      obtain ⟨u0, u1, u2⟩ := own3 Nc
      have hC := hC1.out wc (HC.out.1.trans Pc)
      have HP := Lib.hid Pc
      clear Nb Pb Nc Pc
      go_wp2_with fail
      refine hC.mono ?_
      rintro e w5 ⟨rfl, P5⟩
      have P6 := HP.out.trans P5
      clear hC m0 m1 m2 y0 y1 y2 z0 z1 z2 u0 u1 u2 hwb hwc
      by_cases hz : ca = 0
      · subst hz
        rw [errV_zero]
        go_wp2
        go_roundw
        case rel => exact ⟨1, by omega, by go_num, fun _ => by first | trivial | rfl, fun h => absurd h (by omega), HC.out.1.trans P6, HC.out.2.1.on P6, HC.out.2.2.1.on P6, HC.out.2.2.2.1.on P6, HC.out.2.2.2.2.on P6⟩
        case measure => simp [intOf]
      · have hr : ca = er := by rw [← HE.out, if_pos hz]
        subst hr
        rw [errV_pos ca hz]
        obtain ⟨e0, e1', e2⟩ := own3 (HC.out.2.2.2.2.on P6)
        have g0 := (HC.out.2.2.2.2.on P6).frozen 0
        have g1 := (HC.out.2.2.2.2.on P6).frozen 1
        have g2 := (HC.out.2.2.2.2.on P6).frozen 2
        have OF := (((HC.out.2.2.2.2.on P6).set_ 0 (.int .i64 0)).set_ 1 (.slice none 0 0)).set_ 2 (.int .i64 0)
        obtain ⟨x0, x1, x2⟩ := own3 (show Own _ (q + 1 + 1) 24 #[.int .i64 0, .slice none 0 0, .int .i64 0] from OF)
        have P9 := On.setCell (On.setCell (On.setCell (HC.out.1.trans P6) (p := ⟨q + 1 + 1, 0, none⟩) (by show w.heap.size ≤ q + 1 + 1; omega) (.int .i64 0)) (p := ⟨q + 1 + 1, 1, none⟩) (by show w.heap.size ≤ q + 1 + 1; omega) (.slice none 0 0)) (p := ⟨q + 1 + 1, 2, none⟩) (by show w.heap.size ≤ q + 1 + 1; omega) (.int .i64 0)
        have HZ := Lib.hid P9
        clear OF P9
        go_wp2
        exact bodyPost_ret (v := .tuple #[.agg #[.int .i64 0, .slice none 0 0, .int .i64 0], .iface 43 (.int .i64 (ca : Int))]) (by simp [results, Try.results20, go_sem, x0, x1, x2]) rfl ⟨by rw [errV_pos _ hz], HZ.out⟩
    · have hz1 := h1 (by omega)
      clear h1 h2
      have m0 : wr.cell? ⟨g, 3, none⟩ = some (.int .i64 vars2) := by rw [HC.out.2.1.cell]; rfl
      have m1 : wr.cell? ⟨g, 4, none⟩ = some (.slice A2 n2 c2) := by rw [HC.out.2.1.cell]; rfl
      have m2 : wr.cell? ⟨g, 5, none⟩ = some (.int .i64 top2) := by rw [HC.out.2.1.cell]; rfl
      obtain ⟨p, hp⟩ : ∃ p, wr.heap.size = p := ⟨_, rfl⟩
      obtain ⟨wb, hwb⟩ : ∃ wb, wr.alloc (.cells #[.int .i64 0, .slice none 0 0, .int .i64 0] 24) = wb := ⟨_, rfl⟩
      have Nb : Own wb p 24 #[.int .i64 0, .slice none 0 0, .int .i64 0] := by rw [← hwb, ← hp]; exact Own.new _ _ _
      have Pb : On wr wb := by rw [← hwb]; exact (On.refl wr).alloc _
      obtain ⟨wc, hwc⟩ : ∃ wc, ((wb.setCell ⟨p, 0, none⟩ (.int .i64 vars2)).setCell ⟨p, 1, none⟩ (.slice A2 n2 c2)).setCell ⟨p, 2, none⟩ (.int .i64 top2) = wc := ⟨_, rfl⟩
      have Nc : Own wc p 24 #[.int .i64 vars2, .slice A2 n2 c2, .int .i64 top2] := by rw [← hwc]; exact ((Nb.set_ 0 _).set_ 1 _).set_ 2 _
      have Pc : On wr wc := by rw [← hwc]; exact On.setCell (On.setCell (On.setCell Pb (p := ⟨p, 0, none⟩) (by show wr.heap.size ≤ p; omega) _) (p := ⟨p, 1, none⟩) (by show wr.heap.size ≤ p; omega) _) (p := ⟨p, 2, none⟩) (by show wr.heap.size ≤ p; omega) _
      obtain ⟨y0, y1, y2⟩ := own3 Nb
      have z0 := Nb.frozen 0
      have z1 := Nb.frozen 1
      have z2 := Nb.frozen 2
      obtain ⟨u0, u1, u2⟩ := own3 Nc
      have hC := hC2.out wc (HC.out.1.trans Pc)
      have HP := Lib.hid Pc
      clear Nb Pb Nc Pc
      go_wp2_with fail
      refine hC.mono ?_
      rintro e w5 ⟨rfl, P5⟩
      have P6 := HP.out.trans P5
      clear hC m0 m1 m2 y0 y1 y2 z0 z1 z2 u0 u1 u2 hwb hwc
      by_cases hz : cb = 0
      · subst hz
        rw [errV_zero]
        go_wp2
        go_roundw
        case rel => exact ⟨2, by omega, by go_num, fun _ => hz1, fun _ => by first | trivial | rfl, HC.out.1.trans P6, HC.out.2.1.on P6, HC.out.2.2.1.on P6, HC.out.2.2.2.1.on P6, HC.out.2.2.2.2.on P6⟩
        case measure => simp [intOf]
      · have hr : cb = er := by rw [← HE.out, if_neg (fun h => h hz1), if_pos hz]
        subst hr
        rw [errV_pos cb hz]
        obtain ⟨e0, e1', e2⟩ := own3 (HC.out.2.2.2.2.on P6)
        have g0 := (HC.out.2.2.2.2.on P6).frozen 0
        have g1 := (HC.out.2.2.2.2.on P6).frozen 1
        have g2 := (HC.out.2.2.2.2.on P6).frozen 2
        have OF := (((HC.out.2.2.2.2.on P6).set_ 0 (.int .i64 0)).set_ 1 (.slice none 0 0)).set_ 2 (.int .i64 0)
        obtain ⟨x0, x1, x2⟩ := own3 (show Own _ (q + 1 + 1) 24 #[.int .i64 0, .slice none 0 0, .int .i64 0] from OF)
        have P9 := On.setCell (On.setCell (On.setCell (HC.out.1.trans P6) (p := ⟨q + 1 + 1, 0, none⟩) (by show w.heap.size ≤ q + 1 + 1; omega) (.int .i64 0)) (p := ⟨q + 1 + 1, 1, none⟩) (by show w.heap.size ≤ q + 1 + 1; omega) (.slice none 0 0)) (p := ⟨q + 1 + 1, 2, none⟩) (by show w.heap.size ≤ q + 1 + 1; omega) (.int .i64 0)
        have HZ := Lib.hid P9
        clear OF P9
        go_wp2
        exact bodyPost_ret (v := .tuple #[.agg #[.int .i64 0, .slice none 0 0, .int .i64 0], .iface 43 (.int .i64 (cb : Int))]) (by simp [results, Try.results20, go_sem, x0, x1, x2]) rfl ⟨by rw [errV_pos _ hz], HZ.out⟩
    · have hz1 := h1 (by omega)
      have hz2 := h2 (by omega)
      clear h1 h2
      obtain ⟨f, hf, hfv, _, _⟩ := HZ1.out hz1
      obtain ⟨g2, hg2, hgv, _, _⟩ := HZ2.out hz2
      have hr := HE.out
      rw [if_neg (fun h => h hz1), if_neg (fun h => h hz2)] at hr
      have hb1 := hf.1
      have hb2 := hg2.1
      have ev1 : vars.toNat = f.vars := by omega
      have ev2 : vars2.toNat = g2.vars := by omega
      rw [ev1, ev2] at hr
      obtain ⟨v1, hv1⟩ : ∃ v1, f.vars = v1 := ⟨_, rfl⟩
      obtain ⟨v2, hv2⟩ : ∃ v2, g2.vars = v2 := ⟨_, rfl⟩
      rw [hv1] at hr hb1 hfv
      rw [hv2] at hr hb2 hgv
      clear ev1 ev2 hf hg2 HZ1 HZ2 hz1 hz2 hv1 hv2 H2 hC1 hC2
      obtain ⟨r0, r1, r2⟩ := own3 HC.out.2.2.1
      obtain ⟨k0, k1, k2⟩ := own3 HC.out.2.2.2.1
      unfold repErr at hr
      by_cases he : v1 = v2
      · rw [if_pos he] at hr
        have hei : (vars : Int) = vars2 := by omega
        by_cases hl : 0 ≤ ev ∧ ev < (v1 : Int)
        · rw [if_pos hl] at hr
          exact absurd hr.symm hbad
        · rw [if_neg hl] at hr
          subst hr
          rw [← hei] at k0
          by_cases hneg : ev < 0
          · clear hl
            obtain ⟨e0, e1', e2⟩ := own3 (HC.out.2.2.2.2)
            have g0 := (HC.out.2.2.2.2).frozen 0
            have g1 := (HC.out.2.2.2.2).frozen 1
            have g2 := (HC.out.2.2.2.2).frozen 2
            have OF := (((HC.out.2.2.2.2).set_ 0 (.int .i64 0)).set_ 1 (.slice none 0 0)).set_ 2 (.int .i64 0)
            obtain ⟨x0, x1, x2⟩ := own3 (show Own _ (q + 1 + 1) 24 #[.int .i64 0, .slice none 0 0, .int .i64 0] from OF)
            have P9 := On.setCell (On.setCell (On.setCell (HC.out.1) (p := ⟨q + 1 + 1, 0, none⟩) (by show w.heap.size ≤ q + 1 + 1; omega) (.int .i64 0)) (p := ⟨q + 1 + 1, 1, none⟩) (by show w.heap.size ≤ q + 1 + 1; omega) (.slice none 0 0)) (p := ⟨q + 1 + 1, 2, none⟩) (by show w.heap.size ≤ q + 1 + 1; omega) (.int .i64 0)
            have HZ := Lib.hid P9
            clear OF P9
            go_wp2
            exact bodyPost_ret (v := .tuple #[.agg #[.int .i64 0, .slice none 0 0, .int .i64 0], .iface 43 (.int .i64 10)]) (by simp [results, Try.results20, go_sem, x0, x1, x2]) rfl ⟨by rw [errV_pos _ (by decide)]; rfl, HZ.out⟩
          · have hge : vars ≤ ev := by omega
            clear hl
            obtain ⟨e0, e1', e2⟩ := own3 (HC.out.2.2.2.2)
            have g0 := (HC.out.2.2.2.2).frozen 0
            have g1 := (HC.out.2.2.2.2).frozen 1
            have g2 := (HC.out.2.2.2.2).frozen 2
            have OF := (((HC.out.2.2.2.2).set_ 0 (.int .i64 0)).set_ 1 (.slice none 0 0)).set_ 2 (.int .i64 0)
            obtain ⟨x0, x1, x2⟩ := own3 (show Own _ (q + 1 + 1) 24 #[.int .i64 0, .slice none 0 0, .int .i64 0] from OF)
            have P9 := On.setCell (On.setCell (On.setCell (HC.out.1) (p := ⟨q + 1 + 1, 0, none⟩) (by show w.heap.size ≤ q + 1 + 1; omega) (.int .i64 0)) (p := ⟨q + 1 + 1, 1, none⟩) (by show w.heap.size ≤ q + 1 + 1; omega) (.slice none 0 0)) (p := ⟨q + 1 + 1, 2, none⟩) (by show w.heap.size ≤ q + 1 + 1; omega) (.int .i64 0)
            have HZ := Lib.hid P9
            clear OF P9
            go_wp2
            exact bodyPost_ret (v := .tuple #[.agg #[.int .i64 0, .slice none 0 0, .int .i64 0], .iface 43 (.int .i64 10)]) (by simp [results, Try.results20, go_sem, x0, x1, x2]) rfl ⟨by rw [errV_pos _ (by decide)]; rfl, HZ.out⟩
      · rw [if_neg he] at hr
        subst hr
        have hei : ¬ vars = vars2 := by omega
        obtain ⟨e0, e1', e2⟩ := own3 (HC.out.2.2.2.2)
        have g0 := (HC.out.2.2.2.2).frozen 0
        have g1 := (HC.out.2.2.2.2).frozen 1
        have g2 := (HC.out.2.2.2.2).frozen 2
        have OF := (((HC.out.2.2.2.2).set_ 0 (.int .i64 0)).set_ 1 (.slice none 0 0)).set_ 2 (.int .i64 0)
        obtain ⟨x0, x1, x2⟩ := own3 (show Own _ (q + 1 + 1) 24 #[.int .i64 0, .slice none 0 0, .int .i64 0] from OF)
        have P9 := On.setCell (On.setCell (On.setCell (HC.out.1) (p := ⟨q + 1 + 1, 0, none⟩) (by show w.heap.size ≤ q + 1 + 1; omega) (.int .i64 0)) (p := ⟨q + 1 + 1, 1, none⟩) (by show w.heap.size ≤ q + 1 + 1; omega) (.slice none 0 0)) (p := ⟨q + 1 + 1, 2, none⟩) (by show w.heap.size ≤ q + 1 + 1; omega) (.int .i64 0)
        have HZ := Lib.hid P9
        clear OF P9
        go_wp2
        exact bodyPost_ret (v := .tuple #[.agg #[.int .i64 0, .slice none 0 0, .int .i64 0], .iface 43 (.int .i64 11)]) (by simp [results, Try.results20, go_sem, x0, x1, x2]) rfl ⟨by rw [errV_pos _ (by decide)]; rfl, HZ.out⟩
end Go.Proofs.Ytmkogcaafkobaaa.Fm
/-
  Replace of the program.
-/
namespace Go.Proofs.Ytmkogcaafkobaaa.Fm
open Go.RowKit Go.Proofs.Ytmkogcaafkobaaa.Sb Go.Proofs.Ytmkogcaafkobaaa.Rgv
set_option linter.unusedVariables false
set_option linter.unusedSimpArgs false
set_option maxRecDepth 100000
theorem jnow_id {v n a : Nat} (h : a < v + n) : (jnow v [] (List.range v) n).getD a 0 = a := by
  by_cases ha : a < v
  · rw [jnow_event (by simpa using ha)]
    simp [ha]
  · obtain ⟨i, rfl⟩ : ∃ i, a = v + i := ⟨a - v, by omega⟩
    rw [jnow_node (by omega) (by simp)]; simp
theorem inclN_id {g : Fn} (hg : WF g) {V : Nat} (hv : g.vars = V) : inclN V [] (List.range V) g = g.nodes := by
  unfold inclN
  apply List.ext_getElem?
  intro i
  rw [List.getElem?_map]
  by_cases hi : i < g.nodes.length
  · rw [List.getElem?_eq_getElem hi]
    have hx : g.nodes[i] = g.nd i := by simp [Fn.nd, hi]
    have : ren (jnow V [] (List.range V) g.nodes.length) (g.nd i).args = (g.nd i).args := by
      unfold ren
      conv => rhs; rw [← List.map_id (g.nd i).args]
      refine List.map_congr_left fun a ha => ?_
      have := hg.arg hi ha
      rw [jnow_id (by omega)]; rfl
    rw [Option.map_some, hx, this]
  · rw [List.getElem?_eq_none (by omega)]; rfl
theorem repL_set {e t k : Nat} (h : e < k) : (List.range k).set e t = repL e t k := by
  apply List.ext_getElem?
  intro i
  unfold repL
  rw [List.getElem?_set, List.getElem?_map, List.length_range]
  by_cases hi : i < k
  · rw [List.getElem?_range hi]
    unfold repV
    by_cases he : e = i
    · subst he; simp [h]
    · have : ¬ i = e := fun h => he h.symm
      simp [he, this]
  · rw [List.getElem?_eq_none (by simpa using hi)]
    have : ¬ e = i := by omega
    simp [this]
def DR (wa : World) (b : Nat) (V : Nat) (gn : List Nn) (A2 : Option Addr) (n2 : Nat) (c2 : Nat) (tg : Nat) (qg : Nat) (gs : Nat) (cs : Nat) (ev : Nat) (i : Nat) (f : Tmp → Value) (w : World) : Prop :=
  match i with
  | 0 => f 52 = Value.slice (some ⟨gs, 0, none⟩) V cs
  | 1 => f 53 = .int .i64 (ev : Int)
  | 2 => f 54 = .agg #[.int .i64 (V : Int), .slice A2 n2 c2, .int .i64 (tg : Int)]
  | 3 => f 55 = .pointer (some ⟨qg, 0, none⟩)
  | 4 => f 56 = .int .i64 (V : Int)
  | 5 => ∃ W1 : World, (∃ g5 : Nat, f 57 = .slice (some ⟨g5, 0, none⟩) V V ∧ W1.ownsRow wa.heap.size 3 1 (.slice (some ⟨g5, 0, none⟩) V V) V (VI (ints (List.range V))) ∧ Dr wa (fun g => (Value.slice (some ⟨g5, 0, none⟩) V V).ownBlock = some g ∨ (Value.slice (some ⟨gs, 0, none⟩) V cs).ownBlock = some g) W1 b V [] ∧ W1.ownsRow wa.heap.size 3 1 (Value.slice (some ⟨gs, 0, none⟩) V cs) V (VI (ints (List.range V))) ∧ g5 ≠ gs) ∧ On W1 w
  | 6 => ∃ W1 : World, (f 58 = .int .i64 (tg : Int) ∧ Dr wa (fun g => (Value.slice (some ⟨gs, 0, none⟩) V cs).ownBlock = some g) W1 b V gn ∧ W1.ownsRow wa.heap.size 3 1 (Value.slice (some ⟨gs, 0, none⟩) V cs) V (VI (ints (List.range V)))) ∧ On W1 w
  | 7 => f 59 = .pointer (some ⟨gs, ev, none⟩)
  | 8 => ∃ W1 : World, (Dr wa (fun g => (Value.slice (some ⟨gs, 0, none⟩) V cs).ownBlock = some g) W1 b V gn ∧ W1.ownsRow wa.heap.size 3 1 (Value.slice (some ⟨gs, 0, none⟩) V cs) V (VI (ints ((List.range V).set ev tg)))) ∧ On W1 w
  | 9 => ∃ W1 : World, (Dr wa (fun g => (Value.slice (some ⟨gs, 0, none⟩) V cs).ownBlock = some g) W1 b V [] ∧ Own W1 qg 24 #[.int .i64 (V : Int), .slice A2 n2 c2, .int .i64 (tg : Int)] ∧ W1.ownsRow wa.heap.size 3 1 (Value.slice (some ⟨gs, 0, none⟩) V cs) V (VI (ints (List.range V)))) ∧ On W1 w
  | _ => True
def DREx (i : Nat) : Nat := if i = 5 then 6 else if i = 6 then 8 else if i = 9 then 6 else 100
def DRK (wa : World) (b : Nat) (V : Nat) (gn : List Nn) (A2 : Option Addr) (n2 : Nat) (c2 : Nat) (tg : Nat) (qg : Nat) (gs : Nat) (cs : Nat) (ev : Nat) (i : Nat) (w w' : World) : Prop := if i = 6 ∨ i = 8 then (True → True) else On w w'
theorem DRK.on (wa : World) (b : Nat) (V : Nat) (gn : List Nn) (A2 : Option Addr) (n2 : Nat) (c2 : Nat) (tg : Nat) (qg : Nat) (gs : Nat) (cs : Nat) (ev : Nat) {i : Nat} {w w' : World} (h : ¬ (i = 6 ∨ i = 8)) (k9 : On w w') : DRK wa b V gn A2 n2 c2 tg qg gs cs ev i w w' := by unfold DRK; rw [if_neg h]; exact k9
theorem DRK.sp (wa : World) (b : Nat) (V : Nat) (gn : List Nn) (A2 : Option Addr) (n2 : Nat) (c2 : Nat) (tg : Nat) (qg : Nat) (gs : Nat) (cs : Nat) (ev : Nat) {i : Nat} {w w' : World} (h : i = 6 ∨ i = 8) (k9 : True → True) : DRK wa b V gn A2 n2 c2 tg qg gs cs ev i w w' := by unfold DRK; rw [if_pos h]; exact k9
theorem DR.cases {j : Nat} (h : j < 10) : j = 0 ∨ j = 1 ∨ j = 2 ∨ j = 3 ∨ j = 4 ∨ j = 5 ∨ j = 6 ∨ j = 7 ∨ j = 8 ∨ j = 9 := by omega
theorem DR.on (wa : World) (b : Nat) (V : Nat) (gn : List Nn) (A2 : Option Addr) (n2 : Nat) (c2 : Nat) (tg : Nat) (qg : Nat) (gs : Nat) (cs : Nat) (ev : Nat) {j : Nat} (hj : j < 10) {f : Tmp → Value} {w w' : World} (k9 : On w w') (h : DR wa b V gn A2 n2 c2 tg qg gs cs ev j f w) : DR wa b V gn A2 n2 c2 tg qg gs cs ev j f w' := by
  rcases DR.cases hj with rfl | rfl | rfl | rfl | rfl | rfl | rfl | rfl | rfl | rfl
  · exact h
  · exact h
  · exact h
  · exact h
  · exact h
  · obtain ⟨W1, h1, h2⟩ := (show ∃ W1 : World, (∃ g5 : Nat, f 57 = .slice (some ⟨g5, 0, none⟩) V V ∧ W1.ownsRow wa.heap.size 3 1 (.slice (some ⟨g5, 0, none⟩) V V) V (VI (ints (List.range V))) ∧ Dr wa (fun g => (Value.slice (some ⟨g5, 0, none⟩) V V).ownBlock = some g ∨ (Value.slice (some ⟨gs, 0, none⟩) V cs).ownBlock = some g) W1 b V [] ∧ W1.ownsRow wa.heap.size 3 1 (Value.slice (some ⟨gs, 0, none⟩) V cs) V (VI (ints (List.range V))) ∧ g5 ≠ gs) ∧ On W1 w from h)
    exact ⟨W1, h1, h2.trans k9⟩
  · obtain ⟨W1, h1, h2⟩ := (show ∃ W1 : World, (f 58 = .int .i64 (tg : Int) ∧ Dr wa (fun g => (Value.slice (some ⟨gs, 0, none⟩) V cs).ownBlock = some g) W1 b V gn ∧ W1.ownsRow wa.heap.size 3 1 (Value.slice (some ⟨gs, 0, none⟩) V cs) V (VI (ints (List.range V)))) ∧ On W1 w from h)
    exact ⟨W1, h1, h2.trans k9⟩
  · exact h
  · obtain ⟨W1, h1, h2⟩ := (show ∃ W1 : World, (Dr wa (fun g => (Value.slice (some ⟨gs, 0, none⟩) V cs).ownBlock = some g) W1 b V gn ∧ W1.ownsRow wa.heap.size 3 1 (Value.slice (some ⟨gs, 0, none⟩) V cs) V (VI (ints ((List.range V).set ev tg)))) ∧ On W1 w from h)
    exact ⟨W1, h1, h2.trans k9⟩
  · obtain ⟨W1, h1, h2⟩ := (show ∃ W1 : World, (Dr wa (fun g => (Value.slice (some ⟨gs, 0, none⟩) V cs).ownBlock = some g) W1 b V [] ∧ Own W1 qg 24 #[.int .i64 (V : Int), .slice A2 n2 c2, .int .i64 (tg : Int)] ∧ W1.ownsRow wa.heap.size 3 1 (Value.slice (some ⟨gs, 0, none⟩) V cs) V (VI (ints (List.range V)))) ∧ On W1 w from h)
    exact ⟨W1, h1, h2.trans k9⟩
theorem DR.dep (wa : World) (b : Nat) (V : Nat) (gn : List Nn) (A2 : Option Addr) (n2 : Nat) (c2 : Nat) (tg : Nat) (qg : Nat) (gs : Nat) (cs : Nat) (ev : Nat) {j : Nat} (hj : j < 10) {f f' : Tmp → Value} {w : World} (hd : ∀ d, d ∈ (match j with | 0 => [52] | 1 => [53] | 2 => [54] | 3 => [55] | 4 => [56] | 5 => [57] | 6 => [58] | 7 => [59] | 8 => [] | 9 => [] | _ => []) → f d = f' d) (h : DR wa b V gn A2 n2 c2 tg qg gs cs ev j f w) : DR wa b V gn A2 n2 c2 tg qg gs cs ev j f' w := by
  rcases DR.cases hj with rfl | rfl | rfl | rfl | rfl | rfl | rfl | rfl | rfl | rfl
  · have h' : f 52 = Value.slice (some ⟨gs, 0, none⟩) V cs := h
    simp only [hd 52 (by simp)] at h'
    exact h'
  · have h' : f 53 = .int .i64 (ev : Int) := h
    simp only [hd 53 (by simp)] at h'
    exact h'
  · have h' : f 54 = .agg #[.int .i64 (V : Int), .slice A2 n2 c2, .int .i64 (tg : Int)] := h
    simp only [hd 54 (by simp)] at h'
    exact h'
  · have h' : f 55 = .pointer (some ⟨qg, 0, none⟩) := h
    simp only [hd 55 (by simp)] at h'
    exact h'
  · have h' : f 56 = .int .i64 (V : Int) := h
    simp only [hd 56 (by simp)] at h'
    exact h'
  · have h' : ∃ W1 : World, (∃ g5 : Nat, f 57 = .slice (some ⟨g5, 0, none⟩) V V ∧ W1.ownsRow wa.heap.size 3 1 (.slice (some ⟨g5, 0, none⟩) V V) V (VI (ints (List.range V))) ∧ Dr wa (fun g => (Value.slice (some ⟨g5, 0, none⟩) V V).ownBlock = some g ∨ (Value.slice (some ⟨gs, 0, none⟩) V cs).ownBlock = some g) W1 b V [] ∧ W1.ownsRow wa.heap.size 3 1 (Value.slice (some ⟨gs, 0, none⟩) V cs) V (VI (ints (List.range V))) ∧ g5 ≠ gs) ∧ On W1 w := h
    simp only [hd 57 (by simp)] at h'
    exact h'
  · have h' : ∃ W1 : World, (f 58 = .int .i64 (tg : Int) ∧ Dr wa (fun g => (Value.slice (some ⟨gs, 0, none⟩) V cs).ownBlock = some g) W1 b V gn ∧ W1.ownsRow wa.heap.size 3 1 (Value.slice (some ⟨gs, 0, none⟩) V cs) V (VI (ints (List.range V)))) ∧ On W1 w := h
    simp only [hd 58 (by simp)] at h'
    exact h'
  · have h' : f 59 = .pointer (some ⟨gs, ev, none⟩) := h
    simp only [hd 59 (by simp)] at h'
    exact h'
  · have h' : ∃ W1 : World, (Dr wa (fun g => (Value.slice (some ⟨gs, 0, none⟩) V cs).ownBlock = some g) W1 b V gn ∧ W1.ownsRow wa.heap.size 3 1 (Value.slice (some ⟨gs, 0, none⟩) V cs) V (VI (ints ((List.range V).set ev tg)))) ∧ On W1 w := h
    exact h'
  · have h' : ∃ W1 : World, (Dr wa (fun g => (Value.slice (some ⟨gs, 0, none⟩) V cs).ownBlock = some g) W1 b V [] ∧ Own W1 qg 24 #[.int .i64 (V : Int), .slice A2 n2 c2, .int .i64 (tg : Int)] ∧ W1.ownsRow wa.heap.size 3 1 (Value.slice (some ⟨gs, 0, none⟩) V cs) V (VI (ints (List.range V)))) ∧ On W1 w := h
    exact h'
set_option maxHeartbeats 16000000 in
theorem nreplace_ok (w : World) (f : Fn) (hf : WF f) (A : Option Addr) (n c : Nat) (h : RdN w A n c (rawL f.nodes)) (gg : Fn) (hg : WF gg) (A2 : Option Addr) (n2 c2 : Nat) (h2 : RdN w A2 n2 c2 (rawL gg.nodes)) (hvv : gg.vars = f.vars) (ev : Nat) (hev : ev < f.vars) :
    Calls Try.prog 20 #[.agg #[.int .i64 (f.vars : Int), .slice A n c, .int .i64 (f.top : Int)], .int .i64 (ev : Int), .agg #[.int .i64 (gg.vars : Int), .slice A2 n2 c2, .int .i64 (gg.top : Int)]] w fun e w' => MadeP (replaceF f ev gg) e w' ∧ On w w' := by
  have hV := hf.1
  have hl1 : f.nodes.length ≤ 128 := hf.2.1
  have hl2 : gg.nodes.length ≤ 128 := hg.2.1
  have htop := hf.2.2.2
  have htop2 := hg.2.2.2
  have hC1 := fun (W : World) (k : On w W) => check_any W (f.vars : Int) (f.top : Int) A n c _ (h.on k) (by unfold I64; omega) (by unfold I64; omega)
  have hC2 := fun (W : World) (k : On w W) => check_any W (gg.vars : Int) (gg.top : Int) A2 n2 c2 _ (h2.on k) (by unfold I64; omega) (by unfold I64; omega)
  rw [chk_ok hf, errV_zero] at hC1
  rw [chk_ok hg, errV_zero] at hC2
  have hgid := inclN_id hg (V := f.vars) hvv
  obtain ⟨V, hVV⟩ : ∃ V, f.vars = V := ⟨_, rfl⟩
  obtain ⟨tf, htf⟩ : ∃ tf, f.top = tf := ⟨_, rfl⟩
  obtain ⟨tg, htg⟩ : ∃ tg, gg.top = tg := ⟨_, rfl⟩
  have hgV : gg.vars = V := hvv.trans hVV
  rw [hVV, htf] at hC1
  rw [hgV, htg] at hC2
  rw [hVV] at hgid hV hev htop
  rw [hVV, htf, hgV, htg]
  rw [hgV] at htop2
  have hgt2 : (jnow V [] (List.range V) gg.nodes.length).getD tg 0 = tg := jnow_id (by rw [← htg]; exact htop2)
  obtain ⟨q, hq⟩ : ∃ q, w.heap.size = q := ⟨_, rfl⟩
  obtain ⟨w0, hw0⟩ : ∃ w0, ((w.alloc (.cells #[.int .i64 (V : Int), .slice A n c, .int .i64 (tf : Int)] 24)).alloc (.cells #[.int .i64 (V : Int), .slice A2 n2 c2, .int .i64 (tg : Int)] 24)).alloc (.cells #[.int .i64 0, .slice none 0 0, .int .i64 0] 24) = w0 := ⟨_, rfl⟩
  have O0 : Own w0 q 24 #[.int .i64 (V : Int), .slice A n c, .int .i64 (tf : Int)] := by rw [← hw0, ← hq]; exact ((Own.new _ _ _).alloc _).alloc _
  have B0 : Own w0 (q + 1) 24 #[.int .i64 (V : Int), .slice A2 n2 c2, .int .i64 (tg : Int)] := by
    rw [← hw0, ← hq]
    have := (Own.new (w.alloc (.cells #[.int .i64 (V : Int), .slice A n c, .int .i64 (tf : Int)] 24)) 24 #[.int .i64 (V : Int), .slice A2 n2 c2, .int .i64 (tg : Int)]).alloc (.cells #[.int .i64 0, .slice none 0 0, .int .i64 0] 24)
    simpa using this
  have C0 : Own w0 (q + 1 + 1) 24 #[.int .i64 0, .slice none 0 0, .int .i64 0] := by
    rw [← hw0, ← hq]
    have := Own.new ((w.alloc (.cells #[.int .i64 (V : Int), .slice A n c, .int .i64 (tf : Int)] 24)).alloc (.cells #[.int .i64 (V : Int), .slice A2 n2 c2, .int .i64 (tg : Int)] 24)) 24 #[.int .i64 0, .slice none 0 0, .int .i64 0]
    simpa using this
  have P0 : On w w0 := by rw [← hw0]; exact (((On.refl w).alloc _).alloc _).alloc _
  obtain ⟨r0, r1, r2⟩ := own3 O0
  obtain ⟨k0, k1, k2⟩ := own3 B0
  have hC1 := Lib.hid hC1
  have hC2 := Lib.hid hC2
  have HF := Lib.hid (And.intro (And.intro hf (And.intro hVV (And.intro htf h))) (And.intro (And.intro hg (And.intro hgV (And.intro htg h2))) (And.intro hgid (And.intro hgt2 (And.intro htop (And.intro hl1 hl2))))))
  clear hf hVV htf h hg hgV htg h2 hgid hgt2 htop htop2 hl1 hl2 hvv
  obtain ⟨g, hg⟩ : ∃ g, w0.heap.size = g := ⟨_, rfl⟩
  obtain ⟨w2, hw2⟩ : ∃ w2, w0.alloc (.cells #[.int .i64 (V : Int), .slice A n c, .int .i64 (tf : Int), .int .i64 (V : Int), .slice A2 n2 c2, .int .i64 (tg : Int)] 24) = w2 := ⟨_, rfl⟩
  have OG : Own w2 g 24 #[.int .i64 (V : Int), .slice A n c, .int .i64 (tf : Int), .int .i64 (V : Int), .slice A2 n2 c2, .int .i64 (tg : Int)] := by rw [← hw2, ← hg]; exact Own.new _ _ _
  have P2 : On w0 w2 := by rw [← hw2]; exact (On.refl w0).alloc _
  have H2 := Lib.hid (And.intro OG (And.intro (O0.on P2) (And.intro (B0.on P2) (And.intro (C0.on P2) (P0.trans P2)))))
  clear OG P2 O0 B0 C0 P0
  go_enter Try.func20, Try.ntmps20
  go_wp2
  clear r0 r1 r2 k0 k1 k2 hw0 hw2
  go_loopw [18] (fun i wr => ∃ k : Nat, k ≤ 2 ∧ i = .int .i64 (k : Int) ∧ On w wr ∧ Own wr g 24 #[.int .i64 (V : Int), .slice A n c, .int .i64 (tf : Int), .int .i64 (V : Int), .slice A2 n2 c2, .int .i64 (tg : Int)] ∧ Own wr q 24 #[.int .i64 (V : Int), .slice A n c, .int .i64 (tf : Int)] ∧ Own wr (q + 1) 24 #[.int .i64 (V : Int), .slice A2 n2 c2, .int .i64 (tg : Int)] ∧ Own wr (q + 1 + 1) 24 #[.int .i64 0, .slice none 0 0, .int .i64 0]) (fun i _ => 2 - (intOf i).toNat)
  case atStart => exact ⟨0, by omega, rfl, H2.out.2.2.2.2, H2.out.1, H2.out.2.1, H2.out.2.2.1, H2.out.2.2.2.1⟩
  case round =>
    obtain ⟨k, hk, rfl, hon, hG, hQ, hB, hC⟩ := hrel
    obtain ⟨w3, hw3⟩ : ∃ w3, w3 = wr := ⟨_, rfl⟩
    have HC := Lib.hid (And.intro hon (And.intro hG (And.intro hQ (And.intro hB hC))))
    clear hon hG hQ hB hC
    have hk3 : k = 0 ∨ k = 1 ∨ k = 2 := by omega
    rcases hk3 with rfl | rfl | rfl
    · have m0 : wr.cell? ⟨g, 0, none⟩ = some (.int .i64 (V : Int)) := by rw [HC.out.2.1.cell]; rfl
      have m1 : wr.cell? ⟨g, 1, none⟩ = some (.slice A n c) := by rw [HC.out.2.1.cell]; rfl
      have m2 : wr.cell? ⟨g, 2, none⟩ = some (.int .i64 (tf : Int)) := by rw [HC.out.2.1.cell]; rfl
      obtain ⟨p, hp⟩ : ∃ p, wr.heap.size = p := ⟨_, rfl⟩
      obtain ⟨wb, hwb⟩ : ∃ wb, wr.alloc (.cells #[.int .i64 0, .slice none 0 0, .int .i64 0] 24) = wb := ⟨_, rfl⟩
      have Nb : Own wb p 24 #[.int .i64 0, .slice none 0 0, .int .i64 0] := by rw [← hwb, ← hp]; exact Own.new _ _ _
      have Pb : On wr wb := by rw [← hwb]; exact (On.refl wr).alloc _
      obtain ⟨wc, hwc⟩ : ∃ wc, ((wb.setCell ⟨p, 0, none⟩ (.int .i64 (V : Int))).setCell ⟨p, 1, none⟩ (.slice A n c)).setCell ⟨p, 2, none⟩ (.int .i64 (tf : Int)) = wc := ⟨_, rfl⟩
      have Nc : Own wc p 24 #[.int .i64 (V : Int), .slice A n c, .int .i64 (tf : Int)] := by rw [← hwc]; exact ((Nb.set_ 0 _).set_ 1 _).set_ 2 _
      have Pc : On wr wc := by rw [← hwc]; exact On.setCell (On.setCell (On.setCell Pb (p := ⟨p, 0, none⟩) (by show wr.heap.size ≤ p; omega) _) (p := ⟨p, 1, none⟩) (by show wr.heap.size ≤ p; omega) _) (p := ⟨p, 2, none⟩) (by show wr.heap.size ≤ p; omega) _
      obtain ⟨y0, y1, y2⟩ := own3 Nb
      have z0 := Nb.frozen 0
      have z1 := Nb.frozen 1
      have z2 := Nb.frozen 2
      obtain ⟨u0, u1, u2⟩ := own3 Nc
      have hC := hC1.out wc (HC.out.1.trans Pc)
      have HP := Lib.hid Pc
      clear Nb Pb Nc Pc
      go_wp2_with fail
      refine hC.mono ?_
      rintro e w5 ⟨rfl, P5⟩
      have P6 := HP.out.trans P5
      clear hC m0 m1 m2 y0 y1 y2 z0 z1 z2 u0 u1 u2 hwb hwc
      go_wp2
      go_roundw
      case rel => exact ⟨1, by omega, by go_num, HC.out.1.trans P6, HC.out.2.1.on P6, HC.out.2.2.1.on P6, HC.out.2.2.2.1.on P6, HC.out.2.2.2.2.on P6⟩
      case measure => simp [intOf]
    · have m0 : wr.cell? ⟨g, 3, none⟩ = some (.int .i64 (V : Int)) := by rw [HC.out.2.1.cell]; rfl
      have m1 : wr.cell? ⟨g, 4, none⟩ = some (.slice A2 n2 c2) := by rw [HC.out.2.1.cell]; rfl
      have m2 : wr.cell? ⟨g, 5, none⟩ = some (.int .i64 (tg : Int)) := by rw [HC.out.2.1.cell]; rfl
      obtain ⟨p, hp⟩ : ∃ p, wr.heap.size = p := ⟨_, rfl⟩
      obtain ⟨wb, hwb⟩ : ∃ wb, wr.alloc (.cells #[.int .i64 0, .slice none 0 0, .int .i64 0] 24) = wb := ⟨_, rfl⟩
      have Nb : Own wb p 24 #[.int .i64 0, .slice none 0 0, .int .i64 0] := by rw [← hwb, ← hp]; exact Own.new _ _ _
      have Pb : On wr wb := by rw [← hwb]; exact (On.refl wr).alloc _
      obtain ⟨wc, hwc⟩ : ∃ wc, ((wb.setCell ⟨p, 0, none⟩ (.int .i64 (V : Int))).setCell ⟨p, 1, none⟩ (.slice A2 n2 c2)).setCell ⟨p, 2, none⟩ (.int .i64 (tg : Int)) = wc := ⟨_, rfl⟩
      have Nc : Own wc p 24 #[.int .i64 (V : Int), .slice A2 n2 c2, .int .i64 (tg : Int)] := by rw [← hwc]; exact ((Nb.set_ 0 _).set_ 1 _).set_ 2 _
      have Pc : On wr wc := by rw [← hwc]; exact On.setCell (On.setCell (On.setCell Pb (p := ⟨p, 0, none⟩) (by show wr.heap.size ≤ p; omega) _) (p := ⟨p, 1, none⟩) (by show wr.heap.size ≤ p; omega) _) (p := ⟨p, 2, none⟩) (by show wr.heap.size ≤ p; omega) _
      obtain ⟨y0, y1, y2⟩ := own3 Nb
      have z0 := Nb.frozen 0
      have z1 := Nb.frozen 1
      have z2 := Nb.frozen 2
      obtain ⟨u0, u1, u2⟩ := own3 Nc
      have hC := hC2.out wc (HC.out.1.trans Pc)
      have HP := Lib.hid Pc
      clear Nb Pb Nc Pc
      go_wp2_with fail
      refine hC.mono ?_
      rintro e w5 ⟨rfl, P5⟩
      have P6 := HP.out.trans P5
      clear hC m0 m1 m2 y0 y1 y2 z0 z1 z2 u0 u1 u2 hwb hwc
      go_wp2
      go_roundw
      case rel => exact ⟨2, by omega, by go_num, HC.out.1.trans P6, HC.out.2.1.on P6, HC.out.2.2.1.on P6, HC.out.2.2.2.1.on P6, HC.out.2.2.2.2.on P6⟩
      case measure => simp [intOf]
    · obtain ⟨w5, hw5⟩ : ∃ w5, w5 = wr := ⟨_, rfl⟩
      subst hw5
      clear hw3 hC1 hC2 H2
      obtain ⟨r0, r1, r2⟩ := own3 HC.out.2.2.1
      obtain ⟨k0, k1, k2⟩ := own3 HC.out.2.2.2.1
      obtain ⟨b, hb⟩ : ∃ b, w5.heap.size = b := ⟨_, rfl⟩
      obtain ⟨wd1, hd1⟩ : ∃ wd1, w5.alloc (.cells #[.int .i64 0, .slice none 0 0] 56) = wd1 := ⟨_, rfl⟩
      have Bd1 : Own wd1 b 56 #[.int .i64 0, .slice none 0 0] := by rw [← hd1, ← hb]; exact Own.new _ _ _
      have Pd1 : On w5 wd1 := by rw [← hd1]; exact (On.refl w5).alloc _
      obtain ⟨wd, hd2⟩ : ∃ wd, (wd1.setCell ⟨b, 0, none⟩ (.int .i64 (V : Int))).setCell ⟨b, 1, none⟩ (.slice none 0 0) = wd := ⟨_, rfl⟩
      have Bd2 : Own wd b 56 #[.int .i64 (V : Int), .slice none 0 0] := by rw [← hd2]; exact (Bd1.set_ 0 _).set_ 1 _
      have Pd2 : On w5 wd := by rw [← hd2]; exact On.setCell (On.setCell Pd1 (p := ⟨b, 0, none⟩) (by show w5.heap.size ≤ b; omega) _) (p := ⟨b, 1, none⟩) (by show w5.heap.size ≤ b; omega) _
      obtain ⟨y0, y1⟩ := own2 Bd1
      have z0 := Bd1.frozen 0
      have z1 := Bd1.frozen 1
      have D0 : Dr w5 (fun _ => False) wd b V [] := ⟨Pd2, by omega, fun _ h => h.elim, _, Bd2, OutZ.nil _ _ _⟩
      clear Bd1 Pd1 Bd2
      have O6 := HC.out.2.2.1.on Pd2
      obtain ⟨t0, t1, t2⟩ := own3 O6
      have hq5 : q + 1 + 1 < w5.heap.size := HC.out.2.2.2.2.lt
      have hC := events_any wd V hV
      have H5 := Lib.hid (And.intro D0 Pd2)
      clear O6 D0 Pd2
      go_wp2_with fail
      refine hC.mono ?_
      rintro e wl ⟨gs, rfl, hgs, hG, Pl⟩
      clear hC y0 y1 z0 z1 hd1 hd2 r0 r1 r2 k0 k1 k2 t0 t1 t2
      have Dl0 := H5.out.1.by_ (row := none) (Z' := fun g => (Value.slice (some ⟨gs, 0, none⟩) V V).ownBlock = some g) (gb_on Pl none) (fun _ e => by cases e) (fun g1 e => by
        injection e with e; subst e; exact .inr ⟨hgs, hG.lt⟩)
      have hd := H5.out.1.on.size
      have Sl := owns_blk (base := w5.heap.size) hG (by omega) (n := V) (by rw [VI_length, ints_length, List.length_range]) (by omega)
      have Gl := HC.out.2.2.2.1.on Dl0.on
      obtain ⟨gn, hgn⟩ : ∃ gn, gg.nodes = gn := ⟨_, rfl⟩
      have hcall : ∀ (W : World) (g5 : Nat) (D : Dr w5 (fun x => (Value.slice (some ⟨g5, 0, none⟩) V V).ownBlock = some x ∨ (Value.slice (some ⟨gs, 0, none⟩) V V).ownBlock = some x) W b V []) (S : W.ownsRow w5.heap.size 3 1 (.slice (some ⟨g5, 0, none⟩) V V) V (VI (ints (List.range V)))), Calls Try.prog 38 #[.pointer (some ⟨b, 0, none⟩), .agg #[.int .i64 (V : Int), .slice A2 n2 c2, .int .i64 (tg : Int)], .slice (some ⟨g5, 0, none⟩) V V] W fun e w' => e = .returned (.int .i64 (tg : Int)) ∧ Dr w5 (fun x => (Value.slice (some ⟨gs, 0, none⟩) V V).ownBlock = some x) w' b V gn ∧ KP W w' b w5 (.slice (some ⟨g5, 0, none⟩) V V) := by
        intro W g5 D S
        have hI := dincl_any w5 (fun x => (Value.slice (some ⟨gs, 0, none⟩) V V).ownBlock = some x) W b V [] _ V D hV (by simp) (List.range V) S gg HF.out.2.1.1 HF.out.2.1.2.1 A2 n2 c2 (HF.out.2.1.2.2.2.on HC.out.1)
        rw [HF.out.2.1.2.2.1, HF.out.2.2.1, HF.out.2.2.2.1, List.nil_append, hgn] at hI
        exact hI
      have hcall := Lib.hid hcall
      have H0 := Lib.hid (And.intro Dl0 (And.intro Gl Sl))
      clear Dl0 Sl Gl hG hd
      go_upto_region 14 with fail
      obtain ⟨wm, hwm⟩ : ∃ wm, wl = wm := ⟨_, rfl⟩
      have D0 := H0.out.1
      have G0 := H0.out.2.1
      have S0 := H0.out.2.2
      rw [hwm] at D0 G0 S0 ⊢
      refine wp_region_w (by kernel_rfl) 10 (DR w5 b V gn A2 n2 c2 tg (q + 1) gs V ev) DREx (DRK w5 b V gn A2 n2 c2 tg (q + 1) gs V ev) [none, none, none, none, none, none, none, none, none, none, none, none, none, none, none, none, none, none, none, none, none, none, none, none, none, none, none, none, none, none, none, none, none, none, none, none, none, none, none, none, none, none, none, none, none, none, none, none, none, none, none, none, some 52, some 53, some 54, some 55, some 56, some 57, some 58, some 59, none, none, none, none, none, none, none] (by kernel_rfl) (by kernel_rfl) (by kernel_rfl) rfl ?rgDepDR ?rgKeepDR (by decide) ?rgInitDR ?rgOpsDR ?rgDoneDR
      case rgDepDR =>
        intro j9 f1 f2 W hj hd h
        refine DR.dep w5 b V gn A2 n2 c2 tg (q + 1) gs V ev hj ?_ h
        rcases DR.cases hj with rfl | rfl | rfl | rfl | rfl | rfl | rfl | rfl | rfl | rfl <;> first | (intro d hm; simp at hm; done) | (intro d hm; simp at hm; (try rcases hm with rfl | rfl) <;> (try subst hm) <;> exact hd _ (by kernel_rfl))
      case rgKeepDR =>
        intro i9 j9 f1 W W' hi hj hij hex hw1 hw2 hk h
        unfold DRK at hk
        by_cases h6 : i9 = 6
        · subst h6
          rw [if_pos (by decide)] at hk
          rcases DR.cases hj with rfl | rfl | rfl | rfl | rfl | rfl | rfl | rfl | rfl | rfl
          · exact h
          · exact h
          · exact h
          · exact h
          · exact h
          · exact absurd rfl hex
          · exact absurd rfl hij
          · exact h
          · exact absurd (hw1.symm.trans (show _ = true by kernel_rfl)) (by decide)
          · exact absurd rfl hex
        by_cases h8 : i9 = 8
        · subst h8
          rw [if_pos (by decide)] at hk
          rcases DR.cases hj with rfl | rfl | rfl | rfl | rfl | rfl | rfl | rfl | rfl | rfl
          · exact h
          · exact h
          · exact h
          · exact h
          · exact h
          · exact absurd (hw2.symm.trans (show _ = true by kernel_rfl)) (by decide)
          · exact absurd rfl hex
          · exact h
          · exact absurd rfl hij
          · exact absurd (hw2.symm.trans (show _ = true by kernel_rfl)) (by decide)
        rw [if_neg (by omega)] at hk
        exact DR.on w5 b V gn A2 n2 c2 tg (q + 1) gs V ev hj hk h
      case rgInitDR =>
        intro j9 h1 h2
        have h1' : 9 ≤ j9 := h1
        have h2' : j9 < 10 := h2
        obtain rfl : j9 = 9 := by omega
        · exact ⟨_, ⟨D0, G0, S0⟩, (On.refl _).drew⟩
      case rgOpsDR =>
        refine ⟨?_, ?_, ?_, ?_, ?_, ?_, ?_, ?_, ?_, trivial⟩
        · refine fun a W hp => ob_yes rfl (does_value (w' := W) (v := a.eval (.tmp 12)) rfl (DRK.on w5 b V gn A2 n2 c2 tg (q + 1) gs V ev (by decide) (On.refl W)) ((val_eq (by rw [hp.tsize]; exact (show (52 : Nat) < 67 by decide))).trans (show a.eval (.tmp 12) = Value.slice (some ⟨gs, 0, none⟩) V V from hp.same 12 (by kernel_rfl))))
        · refine fun a W hp => ob_yes rfl (does_value (w' := W) (v := a.eval (.tmp 1)) rfl (DRK.on w5 b V gn A2 n2 c2 tg (q + 1) gs V ev (by decide) (On.refl W)) ((val_eq (by rw [hp.tsize]; exact (show (53 : Nat) < 67 by decide))).trans (show a.eval (.tmp 1) = .int .i64 (ev : Int) from hp.same 1 (by kernel_rfl))))
        · refine fun a W hp => ob_yes rfl (does_value (w' := W) (v := .agg #[.int .i64 (V : Int), .slice A2 n2 c2, .int .i64 (tg : Int)]) (do_value ?_) (DRK.on w5 b V gn A2 n2 c2 tg (q + 1) gs V ev (by decide) (On.refl W)) (val_eq (by rw [hp.tsize]; exact (show (54 : Nat) < 67 by decide))))
          obtain ⟨W1, ⟨D1, G1, S1⟩, k1⟩ : ∃ W1 : World, (Dr w5 (fun g => (Value.slice (some ⟨gs, 0, none⟩) V V).ownBlock = some g) W1 b V [] ∧ Own W1 (q + 1) 24 #[.int .i64 (V : Int), .slice A2 n2 c2, .int .i64 (tg : Int)] ∧ W1.ownsRow w5.heap.size 3 1 (Value.slice (some ⟨gs, 0, none⟩) V V) V (VI (ints (List.range V)))) ∧ On W1 W := hp.fact 9 (by decide) (.inl (by decide)) (.inr (.inr (by kernel_rfl)))
          obtain ⟨q0, q1, q2⟩ := own3 (G1.on k1)
          clear D1 G1 S1
          (try simp only [List.map_toArray, List.map_cons, List.map_nil])
          rw [show a.eval (.tmp 5) = .pointer (some ⟨q + 1, 0, none⟩) from hp.same 5 (by kernel_rfl)]
          go_simp
          all_goals (rw [IntKind.wrap_i64]; omega)
        · refine fun a W hp => ob_yes rfl (does_value (w' := W) (v := .pointer (some ⟨q + 1, 0, none⟩)) (do_value ?_) (DRK.on w5 b V gn A2 n2 c2 tg (q + 1) gs V ev (by decide) (On.refl W)) (val_eq (by rw [hp.tsize]; exact (show (55 : Nat) < 67 by decide))))
          (try simp only [List.map_toArray, List.map_cons, List.map_nil])
          rw [show a.eval (.tmp 5) = .pointer (some ⟨q + 1, 0, none⟩) from hp.same 5 (by kernel_rfl)]
          go_simp
          all_goals (rw [IntKind.wrap_i64]; omega)
        · refine fun a W hp => ob_yes rfl (does_value (w' := W) (v := .int .i64 (V : Int)) (do_value ?_) (DRK.on w5 b V gn A2 n2 c2 tg (q + 1) gs V ev (by decide) (On.refl W)) (val_eq (by rw [hp.tsize]; exact (show (56 : Nat) < 67 by decide))))
          obtain ⟨W1, ⟨D1, G1, S1⟩, k1⟩ : ∃ W1 : World, (Dr w5 (fun g => (Value.slice (some ⟨gs, 0, none⟩) V V).ownBlock = some g) W1 b V [] ∧ Own W1 (q + 1) 24 #[.int .i64 (V : Int), .slice A2 n2 c2, .int .i64 (tg : Int)] ∧ W1.ownsRow w5.heap.size 3 1 (Value.slice (some ⟨gs, 0, none⟩) V V) V (VI (ints (List.range V)))) ∧ On W1 W := hp.fact 9 (by decide) (.inl (by decide)) (.inr (.inr (by kernel_rfl)))
          obtain ⟨q0, q1, q2⟩ := own3 (G1.on k1)
          clear D1 G1 S1
          (try simp only [List.map_toArray, List.map_cons, List.map_nil])
          rw [show a.eval (.tmp 55) = .pointer (some ⟨q + 1, 0, none⟩) from hp.fact 3 (by decide) (.inr (by kernel_rfl)) (.inl (by decide))]
          go_simp
          all_goals (rw [IntKind.wrap_i64]; omega)
        · refine fun a W hp => ob_yes rfl ?_
          obtain ⟨W1, ⟨D1, G1, S1⟩, k1⟩ : ∃ W1 : World, (Dr w5 (fun g => (Value.slice (some ⟨gs, 0, none⟩) V V).ownBlock = some g) W1 b V [] ∧ Own W1 (q + 1) 24 #[.int .i64 (V : Int), .slice A2 n2 c2, .int .i64 (tg : Int)] ∧ W1.ownsRow w5.heap.size 3 1 (Value.slice (some ⟨gs, 0, none⟩) V V) V (VI (ints (List.range V)))) ∧ On W1 W := hp.fact 9 (by decide) (.inl (by decide)) (.inr (.inr (by kernel_rfl)))
          have e56 := (show a.eval (.tmp 56) = .int .i64 (V : Int) from hp.fact 4 (by decide) (.inr (by kernel_rfl)) (.inl (by decide)))
          simp only [Act.eval, Array.getD_eq_getD_getElem?] at e56
          unfold Does
          go_simp
          (try rw [e56])
          refine (events_any W V hV).mono ?_
          rintro e w9 ⟨g5, rfl, hg5, hG5, P9⟩
          refine ⟨⟨_, rfl⟩, DRK.on w5 b V gn A2 n2 c2 tg (q + 1) gs V ev (by decide) (P9), ?_⟩
          have D := D1.to k1
          have S := owns_on S1 k1
          have hgl := (row_own S).2.1
          have hws := D.on.size
          refine ⟨w9, ⟨g5, val_eq (by rw [hp.tsize]; exact (show (57 : Nat) < 67 by decide)), owns_blk hG5 (by omega) (by rw [VI_length, ints_length, List.length_range]) (by omega), ?_, owns_on S P9, by omega⟩, On.refl _⟩
          refine D.by_ (row := none) (gb_on P9 none) (fun _ e => by cases e) (fun g1 e => ?_)
          rcases e with e | e
          · injection e with e; subst e; exact .inr ⟨hg5, hG5.lt⟩
          · exact .inl e
        · refine fun a W hp => ob_yes rfl ?_
          obtain ⟨W1, ⟨D1, G1, S1⟩, k1⟩ : ∃ W1 : World, (Dr w5 (fun g => (Value.slice (some ⟨gs, 0, none⟩) V V).ownBlock = some g) W1 b V [] ∧ Own W1 (q + 1) 24 #[.int .i64 (V : Int), .slice A2 n2 c2, .int .i64 (tg : Int)] ∧ W1.ownsRow w5.heap.size 3 1 (Value.slice (some ⟨gs, 0, none⟩) V V) V (VI (ints (List.range V)))) ∧ On W1 W := hp.fact 9 (by decide) (.inl (by decide)) (.inr (.inl rfl))
          obtain ⟨W2, ⟨g5, g57, hr5, D2, S2, hne⟩, k2⟩ : ∃ W2 : World, (∃ g5 : Nat, slv a 57 = .slice (some ⟨g5, 0, none⟩) V V ∧ W2.ownsRow w5.heap.size 3 1 (.slice (some ⟨g5, 0, none⟩) V V) V (VI (ints (List.range V))) ∧ Dr w5 (fun g => (Value.slice (some ⟨g5, 0, none⟩) V V).ownBlock = some g ∨ (Value.slice (some ⟨gs, 0, none⟩) V V).ownBlock = some g) W2 b V [] ∧ W2.ownsRow w5.heap.size 3 1 (Value.slice (some ⟨gs, 0, none⟩) V V) V (VI (ints (List.range V))) ∧ g5 ≠ gs) ∧ On W2 W := hp.fact 5 (by decide) (.inr (by kernel_rfl)) (.inr (.inl rfl))
          have D := D2.to k2
          have S := owns_on S2 k2
          have e57 : a.eval (.tmp 57) = .slice (some ⟨g5, 0, none⟩) V V := g57
          have e11 := (show a.eval (.tmp 11) = .pointer (some ⟨b, 0, none⟩) from hp.same 11 (by kernel_rfl))
          have e54 := (show a.eval (.tmp 54) = .agg #[.int .i64 (V : Int), .slice A2 n2 c2, .int .i64 (tg : Int)] from hp.fact 2 (by decide) (.inr (by kernel_rfl)) (.inl (by decide)))
          simp only [Act.eval, Array.getD_eq_getD_getElem?] at e11 e54 e57
          unfold Does
          go_simp
          (try rw [e11, e54, e57])
          refine (hcall.out W g5 D (owns_on hr5 k2)).mono ?_
          rintro e w9 ⟨rfl, D9, K9⟩
          refine ⟨⟨_, rfl⟩, DRK.sp w5 b V gn A2 n2 c2 tg (q + 1) gs V ev (by decide) (id), ?_⟩
          exact ⟨w9, ⟨val_eq (by rw [hp.tsize]; exact (show (58 : Nat) < 67 by decide)), D9, K9.row S (fun g e e2 => by injection e with e; injection e2 with e2; exact hne (e2.trans e.symm))⟩, On.refl _⟩
        · refine fun a W hp => ob_yes rfl (does_value (w' := W) (v := .pointer (some ⟨gs, ev, none⟩)) (do_value ?_) (DRK.on w5 b V gn A2 n2 c2 tg (q + 1) gs V ev (by decide) (On.refl W)) (val_eq (by rw [hp.tsize]; exact (show (59 : Nat) < 67 by decide))))
          (try simp only [List.map_toArray, List.map_cons, List.map_nil])
          rw [show a.eval (.tmp 52) = Value.slice (some ⟨gs, 0, none⟩) V V from hp.fact 0 (by decide) (.inr (by kernel_rfl)) (.inl (by decide)), show a.eval (.tmp 53) = .int .i64 (ev : Int) from hp.fact 1 (by decide) (.inr (by kernel_rfl)) (.inl (by decide))]
          go_simp
          all_goals (rw [IntKind.wrap_i64]; omega)
        · refine fun a W hp => ?_
          obtain ⟨W1, ⟨g58, D1, S1⟩, k1⟩ : ∃ W1 : World, (slv a 58 = .int .i64 (tg : Int) ∧ Dr w5 (fun g => (Value.slice (some ⟨gs, 0, none⟩) V V).ownBlock = some g) W1 b V gn ∧ W1.ownsRow w5.heap.size 3 1 (Value.slice (some ⟨gs, 0, none⟩) V V) V (VI (ints (List.range V)))) ∧ On W1 W := hp.fact 6 (by decide) (.inr (by kernel_rfl)) (.inr (.inl rfl))
          have D := D1.to k1
          have S := owns_on S1 k1
          obtain ⟨hgw, hgl, cur, hcur⟩ := row_own S
          have hc := row_cellG S hev (v := (List.range V).getD ev 0) rfl
          have hfz := hcur.frozen ev
          refine ob_yes rfl (does_skip (w' := W.setCell ⟨gs, ev, none⟩ (.int .i64 (tg : Int))) (do_unit ?_) (DRK.sp w5 b V gn A2 n2 c2 tg (q + 1) gs V ev (by decide) id) ⟨_, ⟨?_, ?_⟩, On.refl _⟩)
          · rw [show a.eval (.tmp 59) = .pointer (some ⟨gs, ev, none⟩) from hp.fact 7 (by decide) (.inr (by kernel_rfl)) (.inl (by decide)), show a.eval (.tmp 58) = _ from g58]
            go_simp
          · exact D.set_ hcur hgw (by decide) (by decide) (fun _ => rfl) ev _
          · have := row_setZ S hev (tg : Int)
            rwa [ints_set] at this
      case rgDoneDR =>
        intro fv w9 hf
        obtain ⟨W1, ⟨D1, S1⟩, k1⟩ : ∃ W1 : World, (Dr w5 (fun g => (Value.slice (some ⟨gs, 0, none⟩) V V).ownBlock = some g) W1 b V gn ∧ W1.ownsRow w5.heap.size 3 1 (Value.slice (some ⟨gs, 0, none⟩) V V) V (VI (ints ((List.range V).set ev tg)))) ∧ On W1 w9 := hf 8 (by decide) (by decide)
        clear hf
        simp only [fillL]
        have D9 := D1.to k1
        have S9 := owns_on S1 k1
        clear S1 D1 k1
        have O9 := HC.out.2.2.1.on D9.on
        obtain ⟨t0, t1, t2⟩ := own3 O9
        rw [repL_set hev] at S9
        have hC := dincl_any w5 (fun _ => False) w9 b V gn _ V (D9.re (fun x e => by rcases e with e | e; exact e; exact e.elim)) hV (by rw [← hgn]; have := HF.out.2.2.2.2.2.2; omega) (repL ev tg V) S9 f HF.out.1.1 HF.out.1.2.1 A n c (HF.out.1.2.2.2.on HC.out.1)
        rw [HF.out.1.2.2.1] at hC
        obtain ⟨rt, hrt⟩ : ∃ rt, (jnow V gn (repL ev tg V) f.nodes.length).getD tf 0 = rt := ⟨_, rfl⟩
        rw [hrt] at hC
        have HR := Lib.hid (And.intro hrt hgn)
        clear D9 S9 O9 hrt D0 G0 S0
        go_wp2_with fail
        refine hC.mono ?_
        rintro e w10 ⟨rfl, D10, K10⟩
        clear hC t0 t1 t2
        have hTr : replaceF f ev gg = ⟨V, gn ++ inclN V gn (repL ev tg V) f, rt⟩ := by unfold replaceF joined inclN; rw [HF.out.1.2.1, HF.out.1.2.2.1, HF.out.2.1.2.2.1, HR.out.2, HR.out.1]
        have hC := dwhole_any w5 _ w10 b V _ D10 hV rt
        rw [← hTr] at hC
        have C9 := HC.out.2.2.2.2.on D10.on
        have P9 := HC.out.1.trans D10.on
        have HW := Lib.hid (And.intro C9 P9)
        clear D10 K10 hTr C9 P9
        go_wp2_with fail
        refine hC.mono ?_
        rintro e w8 ⟨hMP, P8'⟩
        clear hC
        have C8 := HW.out.1.on P8'
        have P8 := HW.out.2.trans P8'
        have hqs : w.heap.size ≤ q + 1 + 1 := by omega
        obtain ⟨e0, e1, e2⟩ := own3 C8
        have g0 := C8.frozen 0
        have g1 := C8.frozen 1
        have g2 := C8.frozen 2
        rcases hMP with ⟨hle, A', c', rfl, hRR⟩ | ⟨hgt2, rfl⟩
        · obtain ⟨tv, htv⟩ : ∃ z, (replaceF f ev gg).vars = z := ⟨_, rfl⟩
          obtain ⟨tt, htt⟩ : ∃ z, (replaceF f ev gg).top = z := ⟨_, rfl⟩
          obtain ⟨tn, htn⟩ : ∃ z, (replaceF f ev gg).nodes.length = z := ⟨_, rfl⟩
          have HT := Lib.hid (And.intro htv (And.intro htt htn))
          rw [htv, htt, htn]
          rw [htn] at hRR hle
          clear htv htt htn
          have OF := ((C8.set_ 0 (.int .i64 (tv : Int))).set_ 1 (.slice A' tn c')).set_ 2 (.int .i64 (tt : Int))
          obtain ⟨x0, x1, x2⟩ := own3 (show Own _ (q + 1 + 1) 24 #[.int .i64 (tv : Int), .slice A' tn c', .int .i64 (tt : Int)] from OF)
          have P9 := On.setCell (On.setCell (On.setCell P8 (p := ⟨q + 1 + 1, 0, none⟩) hqs (.int .i64 (tv : Int))) (p := ⟨q + 1 + 1, 1, none⟩) hqs (.slice A' tn c')) (p := ⟨q + 1 + 1, 2, none⟩) hqs (.int .i64 (tt : Int))
          have R9 := ((hRR.far (p := ⟨q + 1 + 1, 0, none⟩) hq5 (.int .i64 (tv : Int))).far (p := ⟨q + 1 + 1, 1, none⟩) hq5 (.slice A' tn c')).far (p := ⟨q + 1 + 1, 2, none⟩) hq5 (.int .i64 (tt : Int))
          have HZ := Lib.hid (And.intro hle (And.intro P9 R9))
          clear OF P9 hle C8 R9 hRR P8
          go_wp2
          refine bodyPost_ret (v := .tuple #[.agg #[.int .i64 (tv : Int), .slice A' tn c', .int .i64 (tt : Int)], .nilIface]) (by simp [results, Try.results20, go_sem, x0, x1, x2]) rfl ⟨.inl ?_, HZ.out.2.1⟩
          rw [HT.out.1, HT.out.2.1, HT.out.2.2]
          exact ⟨HZ.out.1, A', c', rfl, HZ.out.2.2.rd.2⟩
        · have OF := ((C8.set_ 0 (.int .i64 0)).set_ 1 (.slice none 0 0)).set_ 2 (.int .i64 0)
          obtain ⟨x0, x1, x2⟩ := own3 (show Own _ (q + 1 + 1) 24 #[.int .i64 0, .slice none 0 0, .int .i64 0] from OF)
          have P9 := On.setCell (On.setCell (On.setCell P8 (p := ⟨q + 1 + 1, 0, none⟩) hqs (.int .i64 0)) (p := ⟨q + 1 + 1, 1, none⟩) hqs (.slice none 0 0)) (p := ⟨q + 1 + 1, 2, none⟩) hqs (.int .i64 0)
          have HZ := Lib.hid (And.intro hgt2 P9)
          clear OF P9 hgt2 C8 P8
          rw [errV_pos 4 (by decide)]
          go_wp2
          refine bodyPost_ret (v := .tuple #[.agg #[.int .i64 0, .slice none 0 0, .int .i64 0], errV 4]) (by rw [errV_pos 4 (by decide)]; simp [results, Try.results20, go_sem, x0, x1, x2]) rfl ⟨.inr ⟨HZ.out.1, rfl⟩, HZ.out.2⟩
        
end Go.Proofs.Ytmkogcaafkobaaa.Fm
