/-
  FormulaMeasures.
-/
import Derived.Test.YtimigaajhhfbhaaFa
namespace Go.Proofs.Ytimigaajhhfbhaa.Fm
open Go.RowKit Go.Proofs.Ytimigaajhhfbhaa.Sb
set_option linter.unusedVariables false
set_option maxRecDepth 100000
set_option maxHeartbeats 16000000 in
theorem lmeasures_any (w : World) (vars top : Int) (A : Option Addr) (n c : Nat) (xs : List Nd) (h : RdN w A n c xs) (hv : I64 vars) (ht : I64 top) :
    Calls Try.prog 4 #[.agg #[.int .i64 vars, .slice A n c, .int .i64 top]] w fun e w' => e = .returned (.bool true) ∧ On w w' := by
  obtain ⟨q, hq⟩ : ∃ q, w.heap.size = q := ⟨_, rfl⟩
  obtain ⟨w0, hw0⟩ : ∃ w0, w.alloc (.cells #[.int .i64 vars, .slice A n c, .int .i64 top] 24) = w0 := ⟨_, rfl⟩
  have O0 : Own w0 q 24 #[.int .i64 vars, .slice A n c, .int .i64 top] := by rw [← hw0, ← hq]; exact Own.new _ _ _
  have P0 : On w w0 := by rw [← hw0]; exact (On.refl w).alloc _
  have hAw := awake_any w0
  have hL := fun W (k : On w W) => light_any W vars top A n c xs (h.on k)
  have hC := fun W (k : On w W) => rcheck_any W vars top A n c xs (h.on k) hv ht
  have HO := Lib.hid (And.intro O0 (And.intro P0 hw0))
  have HR := Lib.hid h
  clear h O0 P0
  go_enter Try.func4, Try.ntmps4
  go_wp2_with fail
  refine hAw.mono ?_
  rintro e w1 ⟨rfl, P1⟩
  have Pw1 := HO.out.2.1.trans P1
  have O1 := HO.out.1.on P1
  obtain ⟨r0, r1, r2⟩ := own3 O1
  have hL1 := hL w1 Pw1
  clear hAw hL hw0
  by_cases hl : lightB xs = true
  · rw [hl] at hL1
    go_wp2_with fail
    refine hL1.mono ?_
    rintro e w2 ⟨rfl, P2⟩
    have Pw2 := Pw1.trans P2
    have O2 := O1.on P2
    obtain ⟨s0, s1, s2⟩ := own3 O2
    have hC2 := hC w2 Pw2
    clear hL1 hC r0 r1 r2 P1 P2 Pw1 O1
    by_cases hc : chk vars xs top = 0
    · rw [hc] at hC2
      obtain ⟨f, hf, rfl, rfl, rfl⟩ := chk_zero hc
      go_wp2_with fail
      refine hC2.mono ?_
      rintro e w3 ⟨rfl, P3⟩
      have Pw3 := Pw2.trans P3
      have O3 := O2.on P3
      have R3 := HR.out.on Pw3
      clear hC2 s0 s1 s2 P3 Pw2 O2 HR hv ht hc hl
      have hn : f.nodes.length = n := by have := R3.len; rwa [raw_len] at this
      obtain ⟨s0, s1, s2⟩ := own3 O3
      have hX := support_ok w3 f hf A n c R3
      go_wp2_with fail
      refine hX.mono ?_
      rintro e w4 ⟨rfl, P4⟩
      have Pw4 := Pw3.trans P4
      have O4 := O3.on P4
      have R4 := R3.on P4
      clear hX s0 s1 s2 P4 Pw3 O3 R3 
      obtain ⟨s0, s1, s2⟩ := own3 O4
      have hX := size_ok w4 f hf A n c R4
      go_wp2_with fail
      refine hX.mono ?_
      rintro e w5 ⟨rfl, P5⟩
      have Pw5 := Pw4.trans P5
      have O5 := O4.on P5
      have R5 := R4.on P5
      clear hX s0 s1 s2 P5 Pw4 O4 R4 
      obtain ⟨s0, s1, s2⟩ := own3 O5
      have hX := depth_ok w5 f hf A n c R5
      go_wp2_with fail
      refine hX.mono ?_
      rintro e w6 ⟨rfl, P6⟩
      have Pw6 := Pw5.trans P6
      have O6 := O5.on P6
      have R6 := R5.on P6
      clear hX s0 s1 s2 P6 Pw5 O5 R5 
      obtain ⟨s0, s1, s2⟩ := own3 O6
      have hX := trim_ok w6 f hf A n c R6
      go_wp2_with fail
      refine hX.mono ?_
      rintro e w7 ⟨A7, c7, rfl, T7, P7⟩
      have Pw7 := Pw6.trans P7
      have O7 := O6.on P7
      have R7 := R6.on P7
      clear hX s0 s1 s2 P7 Pw6 O6 R6 
      obtain ⟨no, hno⟩ : ∃ no, (trim f).nodes.length = no := ⟨_, rfl⟩
      obtain ⟨tp, htp⟩ : ∃ tp, (trim f).top = tp := ⟨_, rfl⟩
      rw [hno] at T7
      have HNO := Lib.hid (And.intro hno htp)
      rw [hno, htp]
      clear hno htp
      obtain ⟨b8, hb8⟩ : ∃ b8, w7.heap.size = b8 := ⟨_, rfl⟩
      obtain ⟨w8, hw8⟩ : ∃ w8, w7.alloc (.cells #[.int .i64 (f.vars : Int), .slice A7 no c7, .int .i64 (tp : Int)] 24) = w8 := ⟨_, rfl⟩
      have B8 : Own w8 b8 24 #[.int .i64 (f.vars : Int), .slice A7 no c7, .int .i64 (tp : Int)] := by rw [← hw8, ← hb8]; exact Own.new _ _ _
      have P8 : On w7 w8 := by rw [← hw8]; exact (On.refl w7).alloc _
      have Pw8 := Pw7.trans P8
      have O8 := O7.on P8
      have R8 := R7.on P8
      have T8 := T7.on P8
      obtain ⟨s0, s1, s2⟩ := own3 O8
      have hX := rsize_ok w8 f hf A n c R8
      clear Pw7 O7 R7 T7 P8
      go_wp2_with fail
      refine hX.mono ?_
      rintro e w9 ⟨rfl, P9⟩
      have Pw9 := Pw8.trans P9
      have O9 := O8.on P9
      have R9 := R8.on P9
      have T9 := T8.on P9
      have B9 := B8.on P9
      clear hX hw8 hb8 s0 s1 s2 P9 Pw8 O8 R8 T8 B8
      obtain ⟨s0, s1, s2⟩ := own3 O9
      obtain ⟨u0, u1, u2⟩ := own3 B9
      have hS := fun W (k : On w9 W) => rsupport_ok W f hf A n c (R9.on k)
      have hD := fun W (k : On w9 W) => rdepth_ok W f hf A n c (R9.on k)
      have hT := fun W (k : On w9 W) => rtrim_ok W f hf A n c (R9.on k)
      have hno := HNO.out.1
      have htp := HNO.out.2
      rw [hno, htp] at hT
      have hFo := fun W (k : On w9 W) A' c' (h' : RdN W A' no c' (rawL (trim f).nodes)) => formula_eq W (f.vars : Int) (tp : Int) A7 no c7 A' no c' (rawL (trim f).nodes) (T9.on k) h'
      have hS0 : ∀ W, On w9 W → On w9 W ∧ W.cell? ⟨q, 0, none⟩ = some (.int .i64 (f.vars : Int)) ∧ W.cell? ⟨q, 1, none⟩ = some (.slice A n c) ∧ W.cell? ⟨q, 2, none⟩ = some (.int .i64 (f.top : Int)) ∧ W.cell? ⟨b8, 0, none⟩ = some (.int .i64 (f.vars : Int)) ∧ W.cell? ⟨b8, 1, none⟩ = some (.slice A7 no c7) ∧ W.cell? ⟨b8, 2, none⟩ = some (.int .i64 (tp : Int)) := fun W k => ⟨k, (own3 (O9.on k)).1, (own3 (O9.on k)).2.1, (own3 (O9.on k)).2.2, own3 (B9.on k)⟩
      have HS := Lib.hid hS0
      have HK := Lib.hid (And.intro hS (And.intro hD (And.intro hT (And.intro hFo Pw9))))
      clear hS0 hS hD hT hFo O9 R9 B9 T9 Pw9 hno htp HNO
      go_wp2
      go_region_held3 (fun W => On w9 W ∧ W.cell? ⟨q, 0, none⟩ = some (.int .i64 (f.vars : Int)) ∧ W.cell? ⟨q, 1, none⟩ = some (.slice A n c) ∧ W.cell? ⟨q, 2, none⟩ = some (.int .i64 (f.top : Int)) ∧ W.cell? ⟨b8, 0, none⟩ = some (.int .i64 (f.vars : Int)) ∧ W.cell? ⟨b8, 1, none⟩ = some (.slice A7 no c7) ∧ W.cell? ⟨b8, 2, none⟩ = some (.int .i64 (tp : Int)))
        (first | exact HS.out _ (On.refl _).drew | exact HS.out _ (On.refl _) | (go_split_ands; exact HS.out _ (On.trans (by assumption) PA)) | assumption)
        (first
          | (go_at_call 24; go_split_ands; (with_reducible refine (HK.out.1 _ ?_).mono ?_); assumption; rintro e wA ⟨rfl, PA⟩)
          | (go_at_call 25; go_split_ands; (with_reducible refine (HK.out.2.1 _ ?_).mono ?_); assumption; rintro e wA ⟨rfl, PA⟩)
          | (go_at_call 27; go_split_ands; (with_reducible refine (HK.out.2.2.1 _ ?_).mono ?_); assumption; rintro e wA ⟨A9, c9, rfl, T9, PA⟩)
          | (go_at_call 26; go_split_ands; (with_reducible refine (HK.out.2.2.2.1 _ ?_ A9 c9 ?_).mono ?_); assumption; (first | exact T9 | exact T9.on (On.refl _).drew | exact T9.on PA); rintro e wA ⟨rfl, PA⟩))
      all_goals
        rename_i hHe
        have hOnF := hHe.1
        clear hHe
        go_wp2
        go_ret
        exact ⟨rfl, HK.out.2.2.2.2.trans hOnF⟩
    · have hcn : ¬ (chk vars xs top : Int) = 0 := by omega
      obtain ⟨er, her⟩ : ∃ er, chk vars xs top = er := ⟨_, rfl⟩
      rw [her] at hC2 hcn
      clear her hc
      have hA2 := fun W => awake_any W
      go_wp2_with fail
      refine hC2.mono ?_
      rintro e w3 ⟨rfl, P3⟩
      clear hC2
      go_wp2_with fail
      refine (hA2 _).mono ?_
      rintro e w4 ⟨rfl, P4⟩
      go_wp2
      go_ret
      exact ⟨rfl, (Pw2.trans P3).trans P4⟩
  · rw [Bool.eq_false_iff.2 hl] at hL1
    have hA2 := fun W => awake_any W
    clear hC
    go_wp2_with fail
    refine hL1.mono ?_
    rintro e w2 ⟨rfl, P2⟩
    clear hL1
    go_wp2_with fail
    refine (hA2 _).mono ?_
    rintro e w3 ⟨rfl, P3⟩
    go_wp2
    go_ret
    exact ⟨rfl, (Pw1.trans P2).trans P3⟩
end Go.Proofs.Ytimigaajhhfbhaa.Fm
