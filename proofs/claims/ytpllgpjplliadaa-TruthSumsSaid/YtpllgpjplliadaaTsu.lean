/-
  TruthSums.
-/
import Derived.Test.YtpllgpjplliadaaTs1
namespace Go.Proofs.Ytpllgpjplliadaa.Fm
open Go.RowKit Go.Proofs.Ytpllgpjplliadaa.Sb Go.Proofs.Ytpllgpjplliadaa.Rg
set_option linter.unusedVariables false
set_option maxRecDepth 100000
set_option maxHeartbeats 16000000 in
theorem ltsumsT_any (w : World) (vars top : Int) (A : Option Addr) (n c : Nat) (xs : List Nd) (h : RdN w A n c xs) (hv : I64 vars) (ht : I64 top) :
    Calls Try.prog 6 #[.agg #[.int .i64 vars, .slice A n c, .int .i64 top]] w fun e w' => e = .returned (.bool true) ∧ On w w' := by
  obtain ⟨q, hq⟩ : ∃ q, w.heap.size = q := ⟨_, rfl⟩
  obtain ⟨w0, hw0⟩ : ∃ w0, w.alloc (.cells #[.int .i64 vars, .slice A n c, .int .i64 top] 24) = w0 := ⟨_, rfl⟩
  have O0 : Own w0 q 24 #[.int .i64 vars, .slice A n c, .int .i64 top] := by rw [← hw0, ← hq]; exact Own.new _ _ _
  have P0 : On w w0 := by rw [← hw0]; exact (On.refl w).alloc _
  have hAw := awakeT_any w0
  have hL1 := fun W (k : On w W) => light_any W vars top A n c xs (h.on k)
  have H0 := Lib.hid (And.intro P0 (And.intro hw0 O0))
  clear P0 O0
  go_enter Try.func6, Try.ntmps6
  subst hq
  go_wp2_with fail
  refine hAw.mono ?_
  rintro e w1 ⟨rfl, P1⟩
  have Pw1 := H0.out.1.trans P1
  have O1 := (H0.out.2.2).on P1
  obtain ⟨r0, r1, r2⟩ := own3 O1
  have hl1 := hL1 w1 Pw1
  clear hAw hL1 hw0 H0
  by_cases hb : lightB xs = true
  · rw [hb] at hl1
    have hlen := light_len hb
    go_wp2_with fail
    refine hl1.mono ?_
    rintro e w2 ⟨rfl, P2⟩
    have Pw2 := Pw1.trans P2
    have O2 := O1.on P2
    clear hl1 r0 r1 r2 P2 Pw1 O1 hb
    have R2 := h.on Pw2
    have hn200 : n ≤ 200 := by rw [← R2.len]; exact hlen
    clear hlen
    have hcap := R2.cap
    have hmax := R2.max
    obtain ⟨s0, s1, s2⟩ := own3 O2
    by_cases hbig : 127 < n
    · have hA2 := fun W => awakeT_any W
      have hgt : ¬ ((n : Int) + 1 ≤ 128) := by omega
      have hgt2 : (128 : Int) < (n : Int) + 1 := by omega
      go_wp2_with fail
      refine (hA2 _).mono ?_
      rintro e w4 ⟨rfl, P4⟩
      go_wp2
      go_ret
      exact ⟨rfl, Pw2.trans P4⟩
    · have hle : (n : Int) + 1 ≤ 128 := by omega
      have hle2 : ¬ ((128 : Int) < (n : Int) + 1) := by omega
      by_cases hc : chkT vars xs top = 0
      · obtain ⟨f, hf, rfl, rfl, rfl, hv12⟩ := chkT_le vars xs top hc
        have hn : f.nodes.length = n := by have := R2.len; rwa [raw_len] at this
        clear hc h hv ht
        have hW := twts_ok w2 f hf hv12 A n c R2
        go_wp2_with fail
        refine hW.mono ?_
        rintro e w3 ⟨Bw, dw, rfl, W3, P3⟩
        have Pw3 := Pw2.trans P3
        have O3 := O2.on P3
        have R3 := R2.on P3
        clear hW s0 s1 s2 P3 Pw2 O2 R2
        have hC := tcnt_ok w3 f hf hv12 A n c R3
        obtain ⟨s0, s1, s2⟩ := own3 O3
        go_wp2_with fail
        refine hC.mono ?_
        rintro e w4 ⟨rfl, P4⟩
        have Pw4 := Pw3.trans P4
        have O4 := O3.on P4
        have R4 := R3.on P4
        have W4 := W3.on P4
        clear hC s0 s1 s2 P4 Pw3 O3 R3 W3
        have hcl : ∀ W, On w4 W → W.cell? ⟨w.heap.size, 0, none⟩ = some (.int .i64 (f.vars : Int)) ∧ W.cell? ⟨w.heap.size, 1, none⟩ = some (.slice A n c) ∧ W.cell? ⟨w.heap.size, 2, none⟩ = some (.int .i64 (f.top : Int)) := fun W k => own3 (O4.on k)
        obtain ⟨cells, hcells, hsrc0, hone⟩ := src_of R4
        have hsrc : ∀ W, On w4 W → Src W 3 A n c cells := fun W k => src_on R4 hsrc0 k
        have HH := Lib.hid (And.intro hcells O4)
        clear hcells hsrc0
        have hv24 : f.vars ≤ 24 := by omega
        go_upto_region 7 with fail
        refine wp_region_inv (by kernel_rfl) w4 (DS w4 w.heap.size (f.vars : Int) (f.top : Int) A n c cells) DSEx DSK [none, none, none, none, none, none, none, some 7, none, none, none, none, none, none, none, none, none, none, none, none, none, none, none, none, none, none, none, none, none, none, none, none, none, none, none, none, none, none, none, none, none, none, none, none, none, none, none, none, none, some 49, some 50, some 51, some 52, some 53, some 54, some 55, some 56, some 57, some 58, some 59, some 60, some 61, some 62, some 63, some 64, some 65, some 66, some 67, none, none, none, none, none, none, none, none, none, none, none, none, none, none, none, none, none, none, none, none, none, none, none, none, none, none, none, none, none, none, none, none, none, none, none, none, none, none, none, none, none, none, none, none, none, none, none, none, none, none, none, none, none, none, none, none, none, none, none, none, none, none, none, none, none, none, none, none, none, none, none] (by kernel_rfl) (by kernel_rfl) (by kernel_rfl) rfl ?rgDep ?rgKeep (On.refl w4) ?rgOps ?rgDone
        case rgDep =>
          intro j f1 f2 W hj hd h
          refine DS.dep w4 _ _ _ _ _ _ _ hj ?_ h
          rcases DS.cases hj with rfl | rfl | rfl | rfl | rfl | rfl | rfl | rfl | rfl | rfl | rfl | rfl | rfl | rfl | rfl | rfl | rfl | rfl | rfl | rfl | rfl <;> (intro d hm; simp at hm; (try rcases hm with rfl | rfl) <;> (try subst hm) <;> exact hd _ (by kernel_rfl))
        case rgKeep =>
          intro i j f1 W W' hi hj hij hex hw1 hw2 hk h
          unfold DSK at hk
          by_cases h5 : i = 5
          · subst h5
            rw [if_pos rfl] at hk
            refine DS.at5 w4 _ _ _ _ _ _ _ hj ⟨?_, ?_, ?_, ?_, ?_⟩ hk h
            · rintro rfl; exact hex rfl
            · rintro rfl; exact hij rfl
            · rintro rfl; exact absurd (hw1.symm.trans (show _ = true by kernel_rfl)) (by decide)
            · rintro rfl; exact absurd (hw1.symm.trans (show _ = true by kernel_rfl)) (by decide)
            · rintro rfl; exact absurd (hw1.symm.trans (show _ = true by kernel_rfl)) (by decide)
          rw [if_neg h5] at hk
          by_cases h11 : i = 11
          · subst h11
            rw [if_pos rfl] at hk
            refine DS.at11 w4 _ _ _ _ _ _ _ hj ⟨?_, ?_, ?_, ?_, ?_, ?_⟩ hk h
            · rintro rfl; exact absurd (hw2.symm.trans (show _ = true by kernel_rfl)) (by decide)
            · rintro rfl; exact hex rfl
            · rintro rfl; exact hex rfl
            · rintro rfl; exact hij rfl
            · rintro rfl; exact absurd (hw1.symm.trans (show _ = true by kernel_rfl)) (by decide)
            · rintro rfl; exact absurd (hw1.symm.trans (show _ = true by kernel_rfl)) (by decide)
          rw [if_neg h11] at hk
          by_cases h20 : i = 20
          · subst h20
            rw [if_pos rfl] at hk
            refine DS.at20 w4 _ _ _ _ _ _ _ hj ⟨?_, ?_, ?_, ?_, ?_⟩ hk h
            · rintro rfl; exact absurd (hw2.symm.trans (show _ = true by kernel_rfl)) (by decide)
            · rintro rfl; exact absurd (hw2.symm.trans (show _ = true by kernel_rfl)) (by decide)
            · rintro rfl; exact absurd (hw2.symm.trans (show _ = true by kernel_rfl)) (by decide)
            · rintro rfl; exact hex rfl
            · rintro rfl; exact hij rfl
          rw [if_neg h20] at hk
          exact DS.on w4 _ _ _ _ _ _ _ hj hk h
        case rgOps =>
          refine ⟨?_, ?_, ?_, ?_, ?_, ?_, ?_, ?_, ?_, ?_, ?_, ?_, ?_, ?_, ?_, ?_, ?_, ?_, ?_, ?_, ?_, trivial⟩
          · refine fun a W hp => ob_yes rfl (does_value (w' := W) (v := .pointer (some ⟨w.heap.size, 0, none⟩)) (do_value ?_) hp.on (DSK.of_on (On.refl W)) (val_eq (by rw [hp.tsize]; exact (show (49 : Nat) < 139 by decide))))
            rw [show a.eval (.tmp 1) = .pointer (some ⟨w.heap.size, 0, none⟩) from hp.same 1 (by kernel_rfl)]
            go_simp
          · refine fun a W hp => ob_yes rfl (does_value (w' := W) (v := .int .i64 (f.vars : Int)) (do_value ?_) hp.on (DSK.of_on (On.refl W)) (val_eq (by rw [hp.tsize]; exact (show (50 : Nat) < 139 by decide))))
            have hc := hcl W hp.on
            rw [show a.eval (.tmp 49) = _ from hp.fact 0 (by kernel_rfl) (.inl (by decide))]
            have hc1 := hc.1
            clear hc
            go_simp
          · exact fun a W hp => ob_yes rfl (does_value (w' := W.alloc (.cells #[] 57)) (v := .slice (some ⟨W.heap.size, 0, none⟩) 0 0) (do_value (by go_simp)) (hp.on.alloc _) (DSK.of_on ((On.refl W).alloc _)) ⟨W.heap.size, val_eq (by rw [hp.tsize]; exact (show (51 : Nat) < 139 by decide)), hp.on.size, Own.new _ _ _⟩)
          · refine fun a W hp => ob_yes rfl (does_value (w' := W) (v := .pointer (some ⟨w.heap.size, 1, none⟩)) (do_value ?_) hp.on (DSK.of_on (On.refl W)) (val_eq (by rw [hp.tsize]; exact (show (52 : Nat) < 139 by decide))))
            rw [show a.eval (.tmp 1) = .pointer (some ⟨w.heap.size, 0, none⟩) from hp.same 1 (by kernel_rfl)]
            go_simp
          · refine fun a W hp => ob_yes rfl (does_value (w' := W) (v := .slice A n c) (do_value ?_) hp.on (DSK.of_on (On.refl W)) (val_eq (by rw [hp.tsize]; exact (show (53 : Nat) < 139 by decide))))
            have hc := hcl W hp.on
            rw [show a.eval (.tmp 52) = _ from hp.fact 3 (by kernel_rfl) (.inl (by decide))]
            have hc1 := hc.2.1
            clear hc
            go_simp
          · refine fun a W hp => ?_
            obtain ⟨g0, hg1, hg2, hg3⟩ : ∃ g0, slv a 51 = .slice (some ⟨g0, 0, none⟩) 0 0 ∧ w4.heap.size ≤ g0 ∧ Own W g0 57 #[] := hp.fact 2 (by kernel_rfl) (.inr (.inl rfl))
            have hx : slv a 53 = .slice A n c := hp.fact 4 (by kernel_rfl) (.inl (by decide))
            have hrow : W.ownsRow w4.heap.size 57 3 (.slice (some ⟨g0, 0, none⟩) 0 0) 0 [] := ⟨rfl, .inr ⟨g0, 0, #[], rfl, hg2, hg3, Nat.le_refl _, by unfold maxLen; omega, rfl, rfl⟩⟩
            refine ob_yes rfl (does_app (.tmp 51) (.tmp 53) 22 rfl w4.heap.size 57 (.agg #[.int .i64 0, .int .i64 0, .slice none 0 0]) 3 40 Try.underlying22 (by kernel_rfl) rfl (by decide) (by decide) _ 0 [] hg1 hrow A n c cells hx (hsrc W hp.on) hone (by omega) hp.on.size ?_)
            intro v' w' hown hgrow
            refine ⟨owns_onb hp.on hrow (Nat.le_refl _) hgrow, ?_, ?_⟩
            · show Kn (fun cur _ => cur = #[]) W w'
              exact Kn.only (show Only g0 W w' from hgrow) hg3 rfl
            · show w'.ownsRow w4.heap.size 57 3 (slv (a.put (some 54) v') 54) n cells
              rw [val_eq (by rw [hp.tsize]; exact (show (54 : Nat) < 139 by decide))]
              simpa using hown
          · refine fun a W hp => ob_yes rfl (does_value (w' := W) (v := .pointer (some ⟨w.heap.size, 2, none⟩)) (do_value ?_) hp.on (DSK.of_on (On.refl W)) (val_eq (by rw [hp.tsize]; exact (show (55 : Nat) < 139 by decide))))
            rw [show a.eval (.tmp 1) = .pointer (some ⟨w.heap.size, 0, none⟩) from hp.same 1 (by kernel_rfl)]
            go_simp
          · refine fun a W hp => ob_yes rfl (does_value (w' := W) (v := .int .i64 (f.top : Int)) (do_value ?_) hp.on (DSK.of_on (On.refl W)) (val_eq (by rw [hp.tsize]; exact (show (56 : Nat) < 139 by decide))))
            have hc := hcl W hp.on
            rw [show a.eval (.tmp 55) = _ from hp.fact 6 (by kernel_rfl) (.inl (by decide))]
            have hc1 := hc.2.2
            clear hc
            go_simp
          · refine fun a W hp => ob_yes rfl (does_value (w' := W.alloc (.cells #[.int .i64 (f.top : Int)] 3)) (v := .slice (some ⟨W.heap.size, 0, none⟩) 1 1) (do_value ?_) (hp.on.alloc _) (DSK.of_on ((On.refl W).alloc _)) ⟨W.heap.size, val_eq (by rw [hp.tsize]; exact (show (57 : Nat) < 139 by decide)), Own.new _ _ _⟩)
            simp only [List.map_toArray, List.map_cons, List.map_nil]
            rw [show a.eval (.tmp 56) = _ from hp.fact 7 (by kernel_rfl) (.inl (by decide))]
            go_simp
          · refine fun a W hp => ?_
            obtain ⟨b, hb1, hb2⟩ : ∃ b, slv a 57 = .slice (some ⟨b, 0, none⟩) 1 1 ∧ Own W b 3 #[.int .i64 (f.top : Int)] := hp.fact 8 (by kernel_rfl) (.inl (by decide))
            refine ob_yes rfl (does_value (w' := W) (v := .agg #[.int .i64 1, .int .i64 0, .slice (some ⟨b, 0, none⟩) 1 1]) (do_value ?_) hp.on (DSK.of_on (On.refl W)) ⟨b, val_eq (by rw [hp.tsize]; exact (show (58 : Nat) < 139 by decide)), hb2⟩)
            simp only [List.map_toArray, List.map_cons, List.map_nil]
            rw [show a.eval (.tmp 57) = _ from hb1]
            go_simp
          · refine fun a W hp => ?_
            obtain ⟨b, hb1, hb2⟩ : ∃ b, slv a 58 = .agg #[.int .i64 1, .int .i64 0, .slice (some ⟨b, 0, none⟩) 1 1] ∧ Own W b 3 #[.int .i64 (f.top : Int)] := hp.fact 9 (by kernel_rfl) (.inl (by decide))
            refine ob_yes rfl (does_value (w' := W.alloc (.cells #[.int .i64 1, .int .i64 0, .slice (some ⟨b, 0, none⟩) 1 1] 57)) (v := .slice (some ⟨W.heap.size, 0, none⟩) 1 1) (do_value ?_) (hp.on.alloc _) (DSK.of_on ((On.refl W).alloc _)) ⟨W.heap.size, b, val_eq (by rw [hp.tsize]; exact (show (59 : Nat) < 139 by decide)), Own.new _ _ _, hb2.alloc _⟩)
            simp only [List.map_toArray, List.map_cons, List.map_nil]
            rw [show a.eval (.tmp 58) = _ from hb1]
            go_simp
          · refine fun a W hp => ?_
            have hrow : W.ownsRow w4.heap.size 57 3 (slv a 54) n cells := hp.fact 5 (by kernel_rfl) (.inr (.inl rfl))
            obtain ⟨d, b, hd1, hd2, hd3⟩ : ∃ d b, slv a 59 = .slice (some ⟨d, 0, none⟩) 1 1 ∧ Own W d 57 #[.int .i64 1, .int .i64 0, .slice (some ⟨b, 0, none⟩) 1 1] ∧ Own W b 3 #[.int .i64 (f.top : Int)] := hp.fact 10 (by kernel_rfl) (.inr (.inl rfl))
            refine ob_yes rfl (does_app (.tmp 54) (.tmp 59) 22 rfl w4.heap.size 57 (.agg #[.int .i64 0, .int .i64 0, .slice none 0 0]) 3 40 Try.underlying22 (by kernel_rfl) rfl (by decide) (by decide) _ n cells rfl hrow (some ⟨d, 0, none⟩) 1 1 _ hd1 (src_one W d [.int .i64 1, .int .i64 0, .slice (some ⟨b, 0, none⟩) 1 1] rfl hd2) (by intro u hu; simp at hu; rcases hu with rfl | rfl | rfl <;> rfl) (by omega) hp.on.size ?_)
            intro v' w' hown hgrow
            have hk : Kn (fun _ t => t = 57) W w' := kn_row hrow hgrow (fun _ => rfl)
            refine ⟨owns_onb hp.on hrow (Nat.le_refl _) hgrow, hk, b, ?_, hk.own hd3 (by decide)⟩
            rw [val_eq (by rw [hp.tsize]; exact (show (60 : Nat) < 139 by decide))]
            exact hown
          · refine fun a W hp => ob_yes rfl (does_value (w' := W) (v := .pointer (some ⟨w.heap.size, 0, none⟩)) (do_value ?_) hp.on (DSK.of_on (On.refl W)) (val_eq (by rw [hp.tsize]; exact (show (61 : Nat) < 139 by decide))))
            rw [show a.eval (.tmp 1) = .pointer (some ⟨w.heap.size, 0, none⟩) from hp.same 1 (by kernel_rfl)]
            go_simp
          · refine fun a W hp => ob_yes rfl (does_value (w' := W) (v := .int .i64 (f.vars : Int)) (do_value ?_) hp.on (DSK.of_on (On.refl W)) (val_eq (by rw [hp.tsize]; exact (show (62 : Nat) < 139 by decide))))
            have hc := hcl W hp.on
            rw [show a.eval (.tmp 61) = _ from hp.fact 12 (by kernel_rfl) (.inl (by decide))]
            have hc1 := hc.1
            clear hc
            go_simp
          · refine fun a W hp => ob_yes rfl (does_value (w' := W) (v := .pointer (some ⟨w.heap.size, 1, none⟩)) (do_value ?_) hp.on (DSK.of_on (On.refl W)) (val_eq (by rw [hp.tsize]; exact (show (63 : Nat) < 139 by decide))))
            rw [show a.eval (.tmp 1) = .pointer (some ⟨w.heap.size, 0, none⟩) from hp.same 1 (by kernel_rfl)]
            go_simp
          · refine fun a W hp => ob_yes rfl (does_value (w' := W) (v := .slice A n c) (do_value ?_) hp.on (DSK.of_on (On.refl W)) (val_eq (by rw [hp.tsize]; exact (show (64 : Nat) < 139 by decide))))
            have hc := hcl W hp.on
            rw [show a.eval (.tmp 63) = _ from hp.fact 14 (by kernel_rfl) (.inl (by decide))]
            have hc1 := hc.2.1
            clear hc
            go_simp
          · refine fun a W hp => ob_yes rfl (does_value (w' := W) (v := .int .i64 (n : Int)) ?_ hp.on (DSK.of_on (On.refl W)) (val_eq (by rw [hp.tsize]; exact (show (65 : Nat) < 139 by decide))))
            have hx : slv a 64 = .slice A n c := hp.fact 15 (by kernel_rfl) (.inl (by decide))
            have hx' : a.eval (.tmp 64) = .slice A n c := hx
            simp [execOp, resolve, invoke, builtin, hx', Result.andThen]
            go_simp
          · refine fun a W hp => ob_yes rfl (does_value (w' := W) (v := .int .i64 ((f.vars : Int) + (n : Int))) (do_value ?_) hp.on (DSK.of_on (On.refl W)) (val_eq (by rw [hp.tsize]; exact (show (66 : Nat) < 139 by decide))))
            (try simp only [List.map_toArray, List.map_cons, List.map_nil])
            rw [show a.eval (.tmp 62) = _ from hp.fact 13 (by kernel_rfl) (.inl (by decide)), show a.eval (.tmp 65) = _ from hp.fact 16 (by kernel_rfl) (.inl (by decide))]
            go_simp
            rw [IntKind.wrap_i64]; omega
          · refine fun a W hp => ?_
            obtain ⟨b, hrow, _⟩ : ∃ b : Nat, W.ownsRow w4.heap.size 57 3 (slv a 60) (n + 1) (cells ++ ([.int .i64 1, .int .i64 0, .slice (some ⟨b, 0, none⟩) 1 1] : List Value)) ∧ Own W b 3 #[.int .i64 (f.top : Int)] := hp.fact 11 (by kernel_rfl) (.inl (by decide))
            obtain ⟨B, k, hB⟩ : ∃ B k, slv a 60 = .slice B (n + 1) k := by
              rcases hrow.2 with ⟨_, h0⟩ | ⟨g, cap, cur, hv, _⟩
              · omega
              · exact ⟨_, _, hv⟩
            refine ob_yes rfl (does_value (w' := W) (v := .agg #[.int .i64 (f.vars : Int), .slice B (n + 1) k, .int .i64 ((f.vars : Int) + (n : Int))]) (do_value ?_) hp.on (DSK.of_on (On.refl W)) ⟨?_, B, n + 1, k, ?_⟩)
            · simp only [List.map_toArray, List.map_cons, List.map_nil]
              rw [show a.eval (.tmp 50) = _ from hp.fact 1 (by kernel_rfl) (.inl (by decide)), show a.eval (.tmp 60) = _ from hB, show a.eval (.tmp 66) = _ from hp.fact 17 (by kernel_rfl) (.inl (by decide))]
              go_simp
            · rw [val_eq (by rw [hp.tsize]; exact (show (67 : Nat) < 139 by decide)), val_ne (by decide), hB]
            · rw [val_ne (by decide), hB]
          · exact fun a W hp => ob_yes rfl (does_value (w' := W.alloc (.cells #[.int .i64 0, .slice none 0 0, .int .i64 0] 24)) (v := .pointer (some ⟨W.heap.size, 0, none⟩)) (do_value (by go_simp)) (hp.on.alloc _) (DSK.of_on ((On.refl W).alloc _)) ⟨W.heap.size, val_eq (by rw [hp.tsize]; exact (show (7 : Nat) < 139 by decide)), hp.on.size, Own.new _ _ _⟩)
          · refine fun a W hp => ?_
            obtain ⟨g0, hg1, hg2, hg3⟩ : ∃ g0, slv a 7 = .pointer (some ⟨g0, 0, none⟩) ∧ w4.heap.size ≤ g0 ∧ Own W g0 24 #[.int .i64 0, .slice none 0 0, .int .i64 0] := hp.fact 19 (by kernel_rfl) (.inr (.inl rfl))
            obtain ⟨h66, B, m, k, h64⟩ : slv a 67 = .agg #[.int .i64 (f.vars : Int), slv a 60, .int .i64 ((f.vars : Int) + (n : Int))] ∧ ∃ B m k, slv a 60 = .slice B m k := hp.fact 18 (by kernel_rfl) (.inl (by decide))
            rw [h64] at h66
            obtain ⟨c0, c1, c2⟩ := own3 hg3
            have f0 := hg3.frozen 0
            have f1 := hg3.frozen 1
            have f2 := hg3.frozen 2
            have ho : Only g0 W (((W.setCell ⟨g0, 0, none⟩ (.int .i64 (f.vars : Int))).setCell ⟨g0, 1, none⟩ (.slice B m k)).setCell ⟨g0, 2, none⟩ (.int .i64 ((f.vars : Int) + (n : Int)))) := (((Only.refl g0 W).set_ 0 _).set_ 1 _).set_ 2 _
            refine ob_yes rfl (does_skip (w' := ((W.setCell ⟨g0, 0, none⟩ (.int .i64 (f.vars : Int))).setCell ⟨g0, 1, none⟩ (.slice B m k)).setCell ⟨g0, 2, none⟩ (.int .i64 ((f.vars : Int) + (n : Int)))) (do_unit ?_) (hp.on.only ho hg2) ?_ ⟨g0, ?_, hg2, ?_⟩)
            · rw [show a.eval (.tmp 7) = _ from hg1, show a.eval (.tmp 67) = _ from h66]
              go_simp
            · show Kn (fun _ t => t = 24) W _
              exact Kn.only ho hg3 rfl
            · rw [val_ne (by decide), hg1]
            · rw [val_ne (by decide), h64]
              exact ((hg3.set_ 0 _).set_ 1 _).set_ 2 _
        case rgDone =>
          intro fv w5 P5 hf5
          obtain ⟨b, hrow, hb⟩ : ∃ b : Nat, w5.ownsRow w4.heap.size 57 3 (fv 60) (n + 1) (cells ++ ([.int .i64 1, .int .i64 0, .slice (some ⟨b, 0, none⟩) 1 1] : List Value)) ∧ Own w5 b 3 #[.int .i64 (f.top : Int)] := hf5 11 (by decide) (by decide)
          obtain ⟨g6, e10, hg6, O6⟩ : ∃ g, fv 7 = .pointer (some ⟨g, 0, none⟩) ∧ w4.heap.size ≤ g ∧ Own w5 g 24 #[.int .i64 (f.vars : Int), fv 60, .int .i64 ((f.vars : Int) + (n : Int))] := hf5 20 (by decide) (by decide)
          obtain ⟨B, k, hB⟩ : ∃ B k, fv 60 = .slice B (n + 1) k := by
            rcases hrow.2 with ⟨_, h0⟩ | ⟨g, cap, cur, hv, _⟩
            · omega
            · exact ⟨_, _, hv⟩
          rw [hB] at hrow O6
          simp only [fillL, e10]
          clear hf5 e10 hB hcl hsrc hone
          have hN : NIn w5 (cells ++ ([.int .i64 1, .int .i64 0, .slice (some ⟨b, 0, none⟩) 1 1] : List Value)) (rawL f.nodes ++ [⟨1, 0, [(f.top : Int)]⟩]) := (HH.out.1.on P5).app (NIn.one (x := ⟨1, 0, [(f.top : Int)]⟩) (rd_ownT hb rfl rfl (by omega)))
          obtain ⟨B', k', e, RN⟩ := rdn_of hrow hN (by simp [raw_len, hn])
          injection e with e1 e2 e3
          subst e1; subst e3
          have e : rawL (neg1 f).nodes = rawL f.nodes ++ [⟨1, 0, [(f.top : Int)]⟩] := by simp [neg1, rawL, Nn.raw, ints]
          rw [← e] at RN
          have hWn := twts_ok w5 (neg1 f) (neg1_wf hf (by omega)) hv12 B (n + 1) k RN
          have ev : (neg1 f).vars = f.vars := rfl
          have et : ((neg1 f).top : Int) = ((f.vars : Int) + (n : Int)) := by show ((f.vars + f.nodes.length : Nat) : Int) = _; rw [hn]; push_cast; rfl
          rw [ev, et] at hWn
          obtain ⟨t0, t1, t2⟩ := own3 O6
          have W5 := W4.on P5
          have O5 := O4.on P5
          have Pw5 := Pw4.trans P5
          have hboth := fun i hi => wts_both hf hv12 (k := i) hi
          have hsum := sum_wts f
          have hsle := sumTo_le f (2 ^ f.vars)
          have hcle := chs_le f.vars (by omega)
          have hm12 := pow12 hv12
          have hwd : wts f = wtsTo f (2 ^ f.vars) := rfl
          rw [← hwd] at hsle
          have hwl := wts_len f
          have hwl2 := wts_len (neg1 f)
          rw [ev] at hwl2
          obtain ⟨lw, hlw⟩ : ∃ lw, wts f = lw := ⟨_, rfl⟩
          obtain ⟨lv, hlv⟩ : ∃ lv, wts (neg1 f) = lv := ⟨_, rfl⟩
          obtain ⟨cn, hcn⟩ : ∃ cn, cnt f = cn := ⟨_, rfl⟩
          obtain ⟨m2, hm2⟩ : ∃ m2, 2 ^ f.vars = m2 := ⟨_, rfl⟩
          simp only [hlw, hlv] at hboth
          rw [hlw] at hsum hsle hwl W5
          rw [hlv] at hWn hwl2
          rw [hcn] at hsum
          rw [hm2] at hsle hm12
          clear hwd hlw hlv hm2 ev et e hN RN hrow hb P5 HH O6
          have HB := Lib.hid (And.intro hboth (And.intro hsum (And.intro hsle (And.intro hcle (And.intro hwl (And.intro hwl2 hm12))))))
          clear hboth hsum hsle hcle hwl hwl2 hm12 R4 W4 O4 Pw4 hf hn
          go_wp2_with fail
          refine hWn.mono ?_
          rintro e w6 ⟨B2, d2, rfl, V6, P6⟩
          clear hWn t0 t1 t2
          have W6 := W5.on P6
          have O6 := O5.on P6
          have Pw6 := Pw5.trans P6
          obtain ⟨s0, s1, s2⟩ := own3 O6
          have hne1 : ((f.vars : Int) + 1 != (f.vars : Int) + 1) = false := by simp
          have HP := Lib.hid Pw6
          have HO6 := Lib.hid O6
          have HWV := Lib.hid (And.intro W6 V6)
          have hcapW := W6.cap
          have hmaxW := W6.max
          have hcapV := V6.cap
          have hmaxV := V6.max
          clear P6 Pw5 Pw6 W5 O5 W6 V6
          go_wp2
          clear hne1
          go_loopw [92, 10, 11] (fun i x y wr => ∃ t : Nat, t ≤ f.vars + 1 ∧ i = .int .i64 (t : Int) ∧ x = .int .i64 (sumTo lw t : Nat) ∧ y = .int .i64 (chs f.vars t : Nat) ∧ ∃ z, wr = w6.drewN z) (fun i _ _ _ => f.vars + 1 - (intOf i).toNat)
          case atStart => exact ⟨0, by omega, rfl, rfl, rfl, 0, rfl⟩
          case round =>
            obtain ⟨t, ht, rfl, rfl, rfl, z, rfl⟩ := hrel
            by_cases ht2 : t < f.vars + 1
            · obtain ⟨ad, rfl, _, hcw⟩ := VI_at HWV.out.1 ht2
              obtain ⟨ad2, rfl, _, hcv⟩ := VI_at HWV.out.2 ht2
              rw [ints_getD (by rw [HB.out.2.2.2.2.1]; exact ht2)] at hcw
              rw [ints_getD (by rw [HB.out.2.2.2.2.2.1]; exact ht2)] at hcv
              have hxy := HB.out.1 t (by omega)
              have hs : sumTo lw (t + 1) = sumTo lw t + lw.getD t 0 := rfl
              have hch : chs f.vars (t + 1) = chs f.vars t * (f.vars - t) / (t + 1) := rfl
              have b1 := HB.out.2.2.1 (t + 1) (by omega)
              have b2 := HB.out.2.2.1 t (by omega)
              have b3 := HB.out.2.2.2.1 t (by omega)
              have b4 := HB.out.2.2.2.1 (t + 1) (by omega)
              have hm12 := HB.out.2.2.2.2.2.2
              obtain ⟨x, hx⟩ : ∃ x, lw.getD t 0 = x := ⟨_, rfl⟩
              obtain ⟨y, hy⟩ : ∃ y, lv.getD t 0 = y := ⟨_, rfl⟩
              obtain ⟨sm, hsm⟩ : ∃ sm, sumTo lw t = sm := ⟨_, rfl⟩
              obtain ⟨ch, hce⟩ : ∃ ch, chs f.vars t = ch := ⟨_, rfl⟩
              rw [hx, hsm] at hs
              rw [hx] at hcw hxy
              rw [hy] at hcv hxy
              rw [hsm] at b2 ⊢
              rw [hce] at hxy hch b3 ⊢
              rw [hs] at b1
              rw [hch] at b4
              have hxi : (x : Int) + (y : Int) = (ch : Int) := by omega
              have HH2 := Lib.hid (And.intro hs hch)
              have HCH := Lib.hid (ch_run ch f.vars t b3 hv12 (by omega))
              have n1 : ¬ (x : Int) < 0 := by omega
              have n2 : ¬ (y : Int) < 0 := by omega
              clear hs hch hx hy hsm hce hxy
              go_upto_region 15 with fail
              go_quiet (fail)
              go_upto_region 18 with fail
              obtain ⟨r0, r1, r2⟩ := own3 HO6.out
              clear hcw hcv n1 n2
              go_wp2
              go_roundw
              case rel => exact ⟨t + 1, by omega, by go_num, by rw [HH2.out.1]; go_num, by rw [HH2.out.2, HCH.out], _, rfl⟩
              case measure => simp [intOf] <;> omega
            · obtain rfl : t = f.vars + 1 := by omega
              rw [HB.out.2.1]
              go_wp2
              go_ret
              exact ⟨rfl, HP.out.drewN z⟩
      · obtain ⟨er, her⟩ : ∃ er, chkT vars xs top = er := ⟨_, rfl⟩
        have hW := twts_bad w2 vars top A n c xs R2 hv ht hc
        have hC := fun W (k : On w2 W) => tcnt_bad W vars top A n c xs (R2.on k) hv ht hc
        rw [her] at hc hW
        simp only [her] at hC
        rw [errV_pos er hc] at hW
        simp only [errV_pos er hc] at hC
        have hNum := fun W => numT_any W er
        rw [errV_pos er hc] at hNum
        clear her hc
        go_wp2_with fail
        refine hW.mono ?_
        rintro e w3 ⟨Bw, dw, rfl, P3⟩
        clear hW s0 s1 s2
        have hC2 := hC w3 P3
        clear hC
        obtain ⟨s0, s1, s2⟩ := own3 (O2.on P3)
        go_wp2_with fail
        refine hC2.mono ?_
        rintro e w4 ⟨rfl, P4⟩
        clear hC2 s0 s1 s2
        go_wp2_with (refine (hNum _).mono ?_; rintro e w9 ⟨rfl, rfl⟩)
        go_ret
        exact ⟨rfl, (Pw2.trans P3).trans P4⟩
  · rw [Bool.eq_false_iff.2 hb] at hl1
    have hA2 := fun W => awakeT_any W
    go_wp2_with fail
    refine hl1.mono ?_
    rintro e w7 ⟨rfl, P7⟩
    clear hl1 r0 r1 r2
    go_wp2_with fail
    refine (hA2 _).mono ?_
    rintro e w8 ⟨rfl, P8⟩
    go_wp2
    go_ret
    exact ⟨rfl, (Pw1.trans P7).trans P8⟩
end Go.Proofs.Ytpllgpjplliadaa.Fm
