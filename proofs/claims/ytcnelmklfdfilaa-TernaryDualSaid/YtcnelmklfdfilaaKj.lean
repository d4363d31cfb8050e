/-
  TernaryDual.
-/
import Derived.Test.YtcnelmklfdfilaaKb
import Derived.Test.YtcnelmklfdfilaaKd
import Derived.Test.YtcnelmklfdfilaaKi
import Derived.Test.YtcnelmklfdfilaaKj1
namespace Go.Proofs.Ytcnelmklfdfilaa.Fm
open Go.RowKit Go.Proofs.Ytcnelmklfdfilaa.Sb Go.Proofs.Ytcnelmklfdfilaa.Rg
set_option linter.unusedVariables false
set_option maxRecDepth 100000
set_option maxHeartbeats 16000000 in
theorem ltdual_any (w : World) (vars top : Int) (A : Option Addr) (n c : Nat) (xs : List Nd) (h : RdN w A n c xs) (hv : I64 vars) (ht : I64 top) (x0 x1 : Int) :
    Calls Try.prog 7 #[.agg #[.int .i64 vars, .slice A n c, .int .i64 top], .int .i64 x0, .int .i64 x1] w fun e w' => e = .returned (.bool true) ∧ On w w' := by
  obtain ⟨q, hq⟩ : ∃ q, w.heap.size = q := ⟨_, rfl⟩
  obtain ⟨w0, hw0⟩ : ∃ w0, w.alloc (.cells #[.int .i64 vars, .slice A n c, .int .i64 top] 24) = w0 := ⟨_, rfl⟩
  have O0 : Own w0 q 24 #[.int .i64 vars, .slice A n c, .int .i64 top] := by rw [← hw0, ← hq]; exact Own.new _ _ _
  have P0 : On w w0 := by rw [← hw0]; exact ((On.refl w)).alloc _
  have hAw := awake9_any w0
  have hL := fun W (k : On w W) => light_any W vars top A n c xs (h.on k)
  have hC := fun W (k : On w W) => check_any W vars top A n c xs (h.on k) hv ht
  have H0 := Lib.hid (And.intro P0 (And.intro h (And.intro hw0 O0)))
  clear h P0 O0
  go_enter Try.func7, Try.ntmps7
  subst hq
  go_wp2_with fail
  refine hAw.mono ?_
  rintro e w1 ⟨rfl, P1⟩
  have Pw1 := H0.out.1.trans P1
  have O1 := (H0.out.2.2.2).on P1
  obtain ⟨r0, r1, r2⟩ := own3 O1
  have hL1 := hL w1 Pw1
  clear hAw hL hw0
  by_cases hl : lightB xs = true
  · rw [hl] at hL1
    go_wp2_with fail
    refine hL1.mono ?_
    rintro e w2 ⟨rfl, P2⟩
    have Pw2 := Pw1.trans P2
    have O2 := O1.on P2
    obtain ⟨s0, s1, s2⟩ := own3 O2
    have hC2 := hC w2 Pw2
    clear hL1 hC r0 r1 r2 P1 P2 Pw1 O1
    by_cases hc : chk vars xs top = 0
    · rw [hc, errV_zero] at hC2
      obtain ⟨f, hf, rfl, rfl, rfl⟩ := chk_zero hc
      go_wp2_with fail
      refine hC2.mono ?_
      rintro e w3 ⟨rfl, P3⟩
      have Pw3 := Pw2.trans P3
      have O3 := O2.on P3
      have R3 := H0.out.2.1.on Pw3
      clear hC2 s0 s1 s2 P3 Pw2 O2 H0 hv ht hc hl
      have hn : f.nodes.length = n := by have := R3.len; rwa [raw_len] at this
      have hn128 := hf.2.1
      have hWF := hf
      have hcap := R3.cap
      have hmax := R3.max
      obtain ⟨s0, s1, s2⟩ := own3 O3
      by_cases hbig : 126 < n
      · have hA2 := fun W => awake9_any W
        have hgt : ¬ ((n : Int) + 2 ≤ 128) := by omega
        have hgt2 : (128 : Int) < (n : Int) + 2 := by omega
        go_wp2_with fail
        refine (hA2 _).mono ?_
        rintro e w4 ⟨rfl, P4⟩
        go_wp2
        go_ret
        exact ⟨rfl, Pw3.trans P4⟩
      · have hle : (n : Int) + 2 ≤ 128 := by omega
        have hle2 : ¬ ((128 : Int) < (n : Int) + 2) := by omega
        have hp24 := pow24 hf.1
        have hv24 := hf.1
        have hcb := cube_any w3 f hf A n c x0 x1
        have hy := cuY_lt f.vars x0
        have hnn := cuN_lt f.vars x0 x1
        have hd := cu_dis f.vars x0 x1
        obtain ⟨y, hye⟩ : ∃ y, cuY f.vars x0 = y := ⟨_, rfl⟩
        obtain ⟨nn, hnne⟩ : ∃ nn, cuN f.vars x0 x1 = nn := ⟨_, rfl⟩
        rw [hye, hnne] at hcb hd
        rw [hye] at hy
        rw [hnne] at hnn
        clear hye hnne
        have HV := Lib.hid (And.intro hy (And.intro hnn hd))
        clear hy hnn hd
        go_wp2_with fail
        refine hcb.mono ?_
        rintro e w4 ⟨rfl, P4⟩
        have Pw4 := Pw3.trans P4
        have O4 := O3.on P4
        have R4 := R3.on P4
        clear hcb s0 s1 s2 P4 Pw3 O3 R3
        obtain ⟨al, hal⟩ : ∃ al, (((2 ^ f.vars : Nat) : Int) - 1) = al := ⟨_, rfl⟩
        rw [hal]
        clear hal
        have C0 : Own (w4.alloc (.cells #[.int .i64 0, .int .i64 0] 26)) w4.heap.size 26 #[.int .i64 0, .int .i64 0] := Own.new _ _ _
        obtain ⟨k0, k1⟩ := own2 C0
        have f0 := C0.frozen 0
        have f1 := C0.frozen 1
        have HP := Lib.hid hp24
        clear hp24
        go_upto_region 4 with fail
        clear k0 k1 f0 f1 C0
        have P5 := (On.refl w4).alloc (.cells #[.int .i64 (y : Int), .int .i64 (nn : Int)] 26)
        have C5 := Own.new w4 26 #[.int .i64 (y : Int), .int .i64 (nn : Int)]
        obtain ⟨w5, hw5⟩ : ∃ w5, w4.alloc (.cells #[.int .i64 (y : Int), .int .i64 (nn : Int)] 26) = w5 := ⟨_, rfl⟩
        rw [hw5] at P5 C5 ⊢
        have Pw5 := Pw4.trans P5
        have O5 := O4.on P5
        have R5 := R4.on P5
        clear hw5 P5 Pw4 O4 R4
        obtain ⟨g, hge⟩ : ∃ g, w4.heap.size = g := ⟨_, rfl⟩
        rw [hge] at C5 ⊢
        clear hge
        obtain ⟨s0, s1, s2⟩ := own3 O5
        go_upto_region 5 with fail
        have hcl : ∀ W, On w5 W → W.cell? ⟨w.heap.size, 0, none⟩ = some (.int .i64 (f.vars : Int)) ∧ W.cell? ⟨w.heap.size, 1, none⟩ = some (.slice A n c) ∧ W.cell? ⟨w.heap.size, 2, none⟩ = some (.int .i64 (f.top : Int)) := fun W k => own3 (O5.on k)
        obtain ⟨cells, hcells, hsrc0, hone⟩ := src_of R5
        have hsrc : ∀ W, On w5 W → Src W 3 A n c cells := fun W k => hsrc0.on (fun ad e hne => by
          have h0 : 0 < n := by
            rcases Nat.eq_zero_or_pos n with h | h
            · exfalso
              apply hne
              apply List.eq_nil_of_length_eq_zero
              rw [hsrc0.1, h, Nat.zero_mul]
            · exact h
          obtain ⟨ad', e', hb, _⟩ := R5.at_ 0 h0
          rw [e] at e'
          injection e' with e'
          rw [e']; exact hb) k
        have HH := Lib.hid (And.intro hcells (And.intro O5 (And.intro C5 R5)))
        clear s0 s1 s2 hcells hsrc0
        refine wp_region_inv (by kernel_rfl) w5 (DF w5 w.heap.size (f.vars : Int) (f.top : Int) ((f.vars : Int) + (n : Int)) A n c cells) exD KD [none, none, none, none, none, none, none, none, none, none, some 10, none, none, none, none, none, none, none, none, none, none, none, none, none, none, none, none, none, none, none, none, none, none, none, none, none, none, none, none, none, none, none, none, none, none, none, none, none, none, none, some 50, some 51, some 52, some 53, some 54, some 55, some 56, some 57, some 58, some 59, some 60, some 61, some 62, some 63, some 64, some 65, some 66, none, none, none, none, none, none, none, none, none, none, none, none, none, none, none, none, none, none, none, none, none, none, none, none, none, none, none, none, none, none, none, none, none, none, none, none, none, none, none, none, none, none, none, none, none, none, none, none, none, none, none, none, none] (by kernel_rfl) (by kernel_rfl) (by kernel_rfl) rfl ?rgDep ?rgKeep (On.refl w5) ?rgOps ?rgDone
        case rgDep =>
          intro j f1 f2 W hj hd h
          refine DF.dep w5 _ _ _ _ _ _ _ _ hj ?_ ?_ ?_ h
          · rcases lt19 hj with rfl | rfl | rfl | rfl | rfl | rfl | rfl | rfl | rfl | rfl | rfl | rfl | rfl | rfl | rfl | rfl | rfl | rfl | rfl <;> exact hd _ (by kernel_rfl)
          · intro h17
            have : j = 17 ∨ j = 18 := by have : j < 19 := hj; omega
            rcases this with rfl | rfl <;> exact hd _ (by kernel_rfl)
          · intro h14 h15 h17
            have : j = 14 ∨ j = 16 ∨ j = 18 := by have : j < 19 := hj; omega
            rcases this with rfl | rfl | rfl <;> exact hd _ (by kernel_rfl)
        case rgKeep =>
          intro i j f1 W W' hi hj hij hex hw1 hw2 hk h
          unfold KD at hk
          by_cases h5 : i = 5
          · subst h5
            rw [if_pos rfl] at hk
            refine DF.empty w5 _ _ _ _ _ _ _ _ hj ⟨?_, hij, ?_, ?_, ?_⟩ hk h
            · rintro rfl; exact hex rfl
            · rintro rfl; exact absurd (hw1.symm.trans (show _ = true by kernel_rfl)) (by decide)
            · rintro rfl; exact absurd (hw1.symm.trans (show _ = true by kernel_rfl)) (by decide)
            · rintro rfl; exact absurd (hw1.symm.trans (show _ = true by kernel_rfl)) (by decide)
          rw [if_neg h5] at hk
          by_cases h14 : i = 14
          · subst h14
            rw [if_pos rfl] at hk
            refine DF.node w5 _ _ _ _ _ _ _ _ hj ⟨?_, ?_, ?_, hij, ?_, ?_⟩ hk h
            · rintro rfl; exact absurd (hw2.symm.trans (show _ = true by kernel_rfl)) (by decide)
            · rintro rfl; exact hex rfl
            · rintro rfl; exact hex rfl
            · rintro rfl; exact absurd (hw1.symm.trans (show _ = true by kernel_rfl)) (by decide)
            · rintro rfl; exact absurd (hw1.symm.trans (show _ = true by kernel_rfl)) (by decide)
          rw [if_neg h14] at hk
          by_cases h18 : i = 18
          · subst h18
            rw [if_pos rfl] at hk
            refine DF.form w5 _ _ _ _ _ _ _ _ hj ⟨?_, ?_, ?_, ?_, hij⟩ hk h
            · rintro rfl; exact absurd (hw2.symm.trans (show _ = true by kernel_rfl)) (by decide)
            · rintro rfl; exact absurd (hw2.symm.trans (show _ = true by kernel_rfl)) (by decide)
            · rintro rfl; exact absurd (hw2.symm.trans (show _ = true by kernel_rfl)) (by decide)
            · rintro rfl; exact hex rfl
          rw [if_neg h18] at hk
          exact DF.on w5 _ _ _ _ _ _ _ _ hj hk h
        case rgOps =>
          refine ⟨?_, ?_, ?_, ?_, ?_, ?_, ?_, ?_, ?_, ?_, ?_, ?_, ?_, ?_, ?_, ?_, ?_, ?_, ?_, trivial⟩
          · refine fun a W hp => ob_yes rfl (does_value (w' := W) (v := .pointer (some ⟨w.heap.size, 0, none⟩)) (do_value ?_) hp.on (KD.of_on (On.refl W)) (val_eq (by rw [hp.tsize]; exact (show (50 : Nat) < 120 by decide))))
            rw [show a.eval (.tmp 3) = .pointer (some ⟨w.heap.size, 0, none⟩) from hp.same 3 (by kernel_rfl)]
            go_simp
          · refine fun a W hp => ob_yes rfl (does_value (w' := W) (v := .int .i64 (f.vars : Int)) (do_value ?_) hp.on (KD.of_on (On.refl W)) (val_eq (by rw [hp.tsize]; exact (show (51 : Nat) < 120 by decide))))
            have hc := hcl W hp.on
            rw [show a.eval (.tmp 50) = _ from hp.fact 0 (by kernel_rfl) (.inl (by decide))]
            have hc1 := hc.1
            clear hc
            go_simp
          · exact fun a W hp => ob_yes rfl (does_value (w' := W.alloc (.cells #[] 57)) (v := .slice (some ⟨W.heap.size, 0, none⟩) 0 0) (do_value (by go_simp)) (hp.on.alloc _) (KD.of_on ((On.refl W).alloc _)) ⟨W.heap.size, val_eq (by rw [hp.tsize]; exact (show (52 : Nat) < 120 by decide)), hp.on.size, Own.new _ _ _⟩)
          · refine fun a W hp => ob_yes rfl (does_value (w' := W) (v := .pointer (some ⟨w.heap.size, 1, none⟩)) (do_value ?_) hp.on (KD.of_on (On.refl W)) (val_eq (by rw [hp.tsize]; exact (show (53 : Nat) < 120 by decide))))
            rw [show a.eval (.tmp 3) = .pointer (some ⟨w.heap.size, 0, none⟩) from hp.same 3 (by kernel_rfl)]
            go_simp
          · refine fun a W hp => ob_yes rfl (does_value (w' := W) (v := .slice A n c) (do_value ?_) hp.on (KD.of_on (On.refl W)) (val_eq (by rw [hp.tsize]; exact (show (54 : Nat) < 120 by decide))))
            have hc := hcl W hp.on
            rw [show a.eval (.tmp 53) = _ from hp.fact 3 (by kernel_rfl) (.inl (by decide))]
            have hc1 := hc.2.1
            clear hc
            go_simp
          · refine fun a W hp => ?_
            obtain ⟨g0, hg1, hg2, hg3⟩ : ∃ g0, slv a 52 = .slice (some ⟨g0, 0, none⟩) 0 0 ∧ w5.heap.size ≤ g0 ∧ Own W g0 57 #[] := hp.fact 2 (by kernel_rfl) (.inr (.inl rfl))
            have hx : slv a 54 = .slice A n c := hp.fact 4 (by kernel_rfl) (.inl (by decide))
            have hrow : W.ownsRow w5.heap.size 57 3 (.slice (some ⟨g0, 0, none⟩) 0 0) 0 [] := ⟨rfl, .inr ⟨g0, 0, #[], rfl, hg2, hg3, Nat.le_refl _, by unfold maxLen; omega, rfl, rfl⟩⟩
            refine ob_yes rfl (does_app (.tmp 52) (.tmp 54) 22 rfl w5.heap.size 57 (.agg #[.int .i64 0, .int .i64 0, .slice none 0 0]) 3 40 Try.underlying22 (by kernel_rfl) rfl (by decide) (by decide) _ 0 [] hg1 hrow A n c cells hx (hsrc W hp.on) hone (by omega) hp.on.size ?_)
            intro v' w' hown hgrow
            refine ⟨owns_onb hp.on hrow (Nat.le_refl _) hgrow, ?_, ?_⟩
            · show Kn (fun cur _ => cur = #[]) W w'
              exact Kn.only (show Only g0 W w' from hgrow) hg3 rfl
            · show w'.ownsRow w5.heap.size 57 3 (slv (a.put (some 55) v') 55) n cells
              rw [val_eq (by rw [hp.tsize]; exact (show (55 : Nat) < 120 by decide))]
              simpa using hown
          · refine fun a W hp => ob_yes rfl (does_value (w' := W) (v := .pointer (some ⟨w.heap.size, 2, none⟩)) (do_value ?_) hp.on (KD.of_on (On.refl W)) (val_eq (by rw [hp.tsize]; exact (show (56 : Nat) < 120 by decide))))
            rw [show a.eval (.tmp 3) = .pointer (some ⟨w.heap.size, 0, none⟩) from hp.same 3 (by kernel_rfl)]
            go_simp
          · refine fun a W hp => ob_yes rfl (does_value (w' := W) (v := .int .i64 (f.top : Int)) (do_value ?_) hp.on (KD.of_on (On.refl W)) (val_eq (by rw [hp.tsize]; exact (show (57 : Nat) < 120 by decide))))
            have hc := hcl W hp.on
            rw [show a.eval (.tmp 56) = _ from hp.fact 6 (by kernel_rfl) (.inl (by decide))]
            have hc1 := hc.2.2
            clear hc
            go_simp
          · refine fun a W hp => ob_yes rfl (does_value (w' := W.alloc (.cells #[.int .i64 (f.top : Int)] 3)) (v := .slice (some ⟨W.heap.size, 0, none⟩) 1 1) (do_value ?_) (hp.on.alloc _) (KD.of_on ((On.refl W).alloc _)) ⟨W.heap.size, val_eq (by rw [hp.tsize]; exact (show (58 : Nat) < 120 by decide)), Own.new _ _ _⟩)
            simp only [List.map_toArray, List.map_cons, List.map_nil]
            rw [show a.eval (.tmp 57) = _ from hp.fact 7 (by kernel_rfl) (.inl (by decide))]
            go_simp
          · refine fun a W hp => ?_
            obtain ⟨b, hb1, hb2⟩ : ∃ b, slv a 58 = .slice (some ⟨b, 0, none⟩) 1 1 ∧ Own W b 3 _ := hp.fact 8 (by kernel_rfl) (.inl (by decide))
            refine ob_yes rfl (does_value (w' := W) (v := .agg #[.int .i64 1, .int .i64 0, .slice (some ⟨b, 0, none⟩) 1 1]) (do_value ?_) hp.on (KD.of_on (On.refl W)) ⟨b, val_eq (by rw [hp.tsize]; exact (show (59 : Nat) < 120 by decide)), hb2⟩)
            simp only [List.map_toArray, List.map_cons, List.map_nil]
            rw [show a.eval (.tmp 58) = _ from hb1]
            go_simp
          · exact fun a W hp => ob_yes rfl (does_value (w' := W) (v := slv a 9) rfl hp.on (KD.of_on (On.refl W)) ((val_eq (by rw [hp.tsize]; exact (show (60 : Nat) < 120 by decide))).trans (hp.same 9 (by kernel_rfl))))
          · refine fun a W hp => ob_yes rfl (does_value (w' := W.alloc (.cells #[.int .i64 ((f.vars : Int) + (n : Int))] 3)) (v := .slice (some ⟨W.heap.size, 0, none⟩) 1 1) (do_value ?_) (hp.on.alloc _) (KD.of_on ((On.refl W).alloc _)) ⟨W.heap.size, val_eq (by rw [hp.tsize]; exact (show (61 : Nat) < 120 by decide)), Own.new _ _ _⟩)
            simp only [List.map_toArray, List.map_cons, List.map_nil]
            rw [show a.eval (.tmp 60) = _ from hp.fact 10 (by kernel_rfl) (.inl (by decide))]
            go_simp
          · refine fun a W hp => ?_
            obtain ⟨b, hb1, hb2⟩ : ∃ b, slv a 61 = .slice (some ⟨b, 0, none⟩) 1 1 ∧ Own W b 3 _ := hp.fact 11 (by kernel_rfl) (.inl (by decide))
            refine ob_yes rfl (does_value (w' := W) (v := .agg #[.int .i64 1, .int .i64 0, .slice (some ⟨b, 0, none⟩) 1 1]) (do_value ?_) hp.on (KD.of_on (On.refl W)) ⟨b, val_eq (by rw [hp.tsize]; exact (show (62 : Nat) < 120 by decide)), hb2⟩)
            simp only [List.map_toArray, List.map_cons, List.map_nil]
            rw [show a.eval (.tmp 61) = _ from hb1]
            go_simp
          · refine fun a W hp => ?_
            obtain ⟨b, hb1, hb2⟩ : ∃ b, slv a 59 = .agg #[.int .i64 1, .int .i64 0, .slice (some ⟨b, 0, none⟩) 1 1] ∧ Own W b 3 #[.int .i64 (f.top : Int)] := hp.fact 9 (by kernel_rfl) (.inl (by decide))
            obtain ⟨b', hb1', hb2'⟩ : ∃ b, slv a 62 = .agg #[.int .i64 1, .int .i64 0, .slice (some ⟨b, 0, none⟩) 1 1] ∧ Own W b 3 #[.int .i64 ((f.vars : Int) + (n : Int))] := hp.fact 12 (by kernel_rfl) (.inl (by decide))
            refine ob_yes rfl (does_value (w' := W.alloc (.cells #[.int .i64 1, .int .i64 0, .slice (some ⟨b, 0, none⟩) 1 1, .int .i64 1, .int .i64 0, .slice (some ⟨b', 0, none⟩) 1 1] 57)) (v := .slice (some ⟨W.heap.size, 0, none⟩) 2 2) (do_value ?_) (hp.on.alloc _) (KD.of_on ((On.refl W).alloc _)) ⟨W.heap.size, b, b', val_eq (by rw [hp.tsize]; exact (show (63 : Nat) < 120 by decide)), Own.new _ _ _, hb2.alloc _, hb2'.alloc _⟩)
            simp only [List.map_toArray, List.map_cons, List.map_nil]
            rw [show a.eval (.tmp 59) = _ from hb1, show a.eval (.tmp 62) = _ from hb1']
            go_simp
          · refine fun a W hp => ?_
            have hrow : W.ownsRow w5.heap.size 57 3 (slv a 55) n cells := hp.fact 5 (by kernel_rfl) (.inr (.inl rfl))
            obtain ⟨d, b, b', hd1, hd2, hd3, hd4⟩ : ∃ d b b', slv a 63 = .slice (some ⟨d, 0, none⟩) 2 2 ∧ Own W d 57 #[.int .i64 1, .int .i64 0, .slice (some ⟨b, 0, none⟩) 1 1, .int .i64 1, .int .i64 0, .slice (some ⟨b', 0, none⟩) 1 1] ∧ Own W b 3 #[.int .i64 (f.top : Int)] ∧ Own W b' 3 #[.int .i64 ((f.vars : Int) + (n : Int))] := hp.fact 13 (by kernel_rfl) (.inr (.inl rfl))
            refine ob_yes rfl (does_app (.tmp 55) (.tmp 63) 22 rfl w5.heap.size 57 (.agg #[.int .i64 0, .int .i64 0, .slice none 0 0]) 3 40 Try.underlying22 (by kernel_rfl) rfl (by decide) (by decide) _ n cells rfl hrow (some ⟨d, 0, none⟩) 2 2 _ hd1 (src_two W d [.int .i64 1, .int .i64 0, .slice (some ⟨b, 0, none⟩) 1 1, .int .i64 1, .int .i64 0, .slice (some ⟨b', 0, none⟩) 1 1] rfl hd2) (by intro u hu; simp at hu; rcases hu with rfl | rfl | rfl | rfl | rfl | rfl <;> rfl) (by omega) hp.on.size ?_)
            intro v' w' hown hgrow
            have hk : Kn (fun _ t => t = 57) W w' := kn_row hrow hgrow (fun _ => rfl)
            refine ⟨owns_onb hp.on hrow (Nat.le_refl _) hgrow, hk, b, b', ?_, hk.own hd3 (by decide), hk.own hd4 (by decide)⟩
            rw [val_eq (by rw [hp.tsize]; exact (show (64 : Nat) < 120 by decide))]
            exact hown
          · exact fun a W hp => ob_yes rfl (does_value (w' := W) (v := slv a 9) rfl hp.on (KD.of_on (On.refl W)) ((val_eq (by rw [hp.tsize]; exact (show (65 : Nat) < 120 by decide))).trans (hp.same 9 (by kernel_rfl))))
          · refine fun a W hp => ?_
            obtain ⟨b, b', hrow, _⟩ : ∃ b b' : Nat, W.ownsRow w5.heap.size 57 3 (slv a 64) (n + 2) (cells ++ ([.int .i64 1, .int .i64 0, .slice (some ⟨b, 0, none⟩) 1 1, .int .i64 1, .int .i64 0, .slice (some ⟨b', 0, none⟩) 1 1] : List Value)) ∧ Own W b 3 #[.int .i64 (f.top : Int)] ∧ Own W b' 3 #[.int .i64 ((f.vars : Int) + (n : Int))] := hp.fact 14 (by kernel_rfl) (.inl (by decide))
            obtain ⟨B, k, hB⟩ : ∃ B k, slv a 64 = .slice B (n + 2) k := by
              rcases hrow.2 with ⟨_, h0⟩ | ⟨g, cap, cur, hv, _⟩
              · omega
              · exact ⟨_, _, hv⟩
            refine ob_yes rfl (does_value (w' := W) (v := .agg #[.int .i64 (f.vars : Int), .slice B (n + 2) k, .int .i64 ((f.vars : Int) + (n : Int))]) (do_value ?_) hp.on (KD.of_on (On.refl W)) ⟨?_, B, n + 2, k, ?_⟩)
            · simp only [List.map_toArray, List.map_cons, List.map_nil]
              rw [show a.eval (.tmp 51) = _ from hp.fact 1 (by kernel_rfl) (.inl (by decide)), show a.eval (.tmp 64) = _ from hB, show a.eval (.tmp 65) = _ from hp.fact 15 (by kernel_rfl) (.inl (by decide))]
              go_simp
            · rw [val_eq (by rw [hp.tsize]; exact (show (66 : Nat) < 120 by decide)), val_ne (by decide), hB]
            · rw [val_ne (by decide), hB]
          · exact fun a W hp => ob_yes rfl (does_value (w' := W.alloc (.cells #[.int .i64 0, .slice none 0 0, .int .i64 0] 24)) (v := .pointer (some ⟨W.heap.size, 0, none⟩)) (do_value (by go_simp)) (hp.on.alloc _) (KD.of_on ((On.refl W).alloc _)) ⟨W.heap.size, val_eq (by rw [hp.tsize]; exact (show (10 : Nat) < 120 by decide)), hp.on.size, Own.new _ _ _⟩)
          · refine fun a W hp => ?_
            obtain ⟨g0, hg1, hg2, hg3⟩ : ∃ g0, slv a 10 = .pointer (some ⟨g0, 0, none⟩) ∧ w5.heap.size ≤ g0 ∧ Own W g0 24 #[.int .i64 0, .slice none 0 0, .int .i64 0] := hp.fact 17 (by kernel_rfl) (.inr (.inl rfl))
            obtain ⟨h66, B, m, k, h64⟩ : slv a 66 = .agg #[.int .i64 (f.vars : Int), slv a 64, .int .i64 ((f.vars : Int) + (n : Int))] ∧ ∃ B m k, slv a 64 = .slice B m k := hp.fact 16 (by kernel_rfl) (.inl (by decide))
            rw [h64] at h66
            obtain ⟨c0, c1, c2⟩ := own3 hg3
            have f0 := hg3.frozen 0
            have f1 := hg3.frozen 1
            have f2 := hg3.frozen 2
            have ho : Only g0 W (((W.setCell ⟨g0, 0, none⟩ (.int .i64 (f.vars : Int))).setCell ⟨g0, 1, none⟩ (.slice B m k)).setCell ⟨g0, 2, none⟩ (.int .i64 ((f.vars : Int) + (n : Int)))) := (((Only.refl g0 W).set_ 0 _).set_ 1 _).set_ 2 _
            refine ob_yes rfl (does_skip (w' := ((W.setCell ⟨g0, 0, none⟩ (.int .i64 (f.vars : Int))).setCell ⟨g0, 1, none⟩ (.slice B m k)).setCell ⟨g0, 2, none⟩ (.int .i64 ((f.vars : Int) + (n : Int)))) (do_unit ?_) (hp.on.only ho hg2) ?_ ⟨g0, ?_, hg2, ?_⟩)
            · rw [show a.eval (.tmp 10) = _ from hg1, show a.eval (.tmp 66) = _ from h66]
              go_simp
            · show Kn (fun _ t => t = 24) W _
              exact Kn.only ho hg3 rfl
            · rw [val_ne (by decide), hg1]
            · rw [val_ne (by decide), h64]
              exact ((hg3.set_ 0 _).set_ 1 _).set_ 2 _
        case rgDone =>
          intro fv w6 P6 hf
          obtain ⟨b, b', hrow, hb, hb'⟩ : ∃ b b' : Nat, w6.ownsRow w5.heap.size 57 3 (fv 64) (n + 2) (cells ++ ([.int .i64 1, .int .i64 0, .slice (some ⟨b, 0, none⟩) 1 1, .int .i64 1, .int .i64 0, .slice (some ⟨b', 0, none⟩) 1 1] : List Value)) ∧ Own w6 b 3 #[.int .i64 (f.top : Int)] ∧ Own w6 b' 3 #[.int .i64 ((f.vars : Int) + (n : Int))] := hf 14 (by decide) (by decide)
          obtain ⟨g6, e10, hg6, O6⟩ : ∃ g, fv 10 = .pointer (some ⟨g, 0, none⟩) ∧ w5.heap.size ≤ g ∧ Own w6 g 24 #[.int .i64 (f.vars : Int), fv 64, .int .i64 ((f.vars : Int) + (n : Int))] := hf 18 (by decide) (by decide)
          obtain ⟨B, k, hB⟩ : ∃ B k, fv 64 = .slice B (n + 2) k := by
            rcases hrow.2 with ⟨_, h0⟩ | ⟨g, cap, cur, hv, _⟩
            · omega
            · exact ⟨_, _, hv⟩
          rw [hB] at hrow O6
          simp only [fillL, e10]
          clear hf e10 hB hcl hsrc hone
          have HD : ∀ W, On w5 W → W.ownsRow w5.heap.size 57 3 (.slice B (n + 2) k) (n + 2) (cells ++ ([.int .i64 1, .int .i64 0, .slice (some ⟨b, 0, none⟩) 1 1, .int .i64 1, .int .i64 0, .slice (some ⟨b', 0, none⟩) 1 1] : List Value)) → Own W b 3 #[.int .i64 (f.top : Int)] → Own W b' 3 #[.int .i64 ((f.vars : Int) + (n : Int))] → ∀ t, RdN W B (n + 2) k (rawL (neg2 f t).nodes) := by
            intro W kW h1 h2 h3 t
            have hN : NIn W (cells ++ ([.int .i64 1, .int .i64 0, .slice (some ⟨b, 0, none⟩) 1 1, .int .i64 1, .int .i64 0, .slice (some ⟨b', 0, none⟩) 1 1] : List Value)) (rawL f.nodes ++ ([⟨1, 0, [(f.top : Int)]⟩] ++ [⟨1, 0, [((f.vars : Int) + (n : Int))]⟩])) := (HH.out.1.on kW).app (NIn.app (c1 := [.int .i64 1, .int .i64 0, .slice (some ⟨b, 0, none⟩) 1 1]) (c2 := [.int .i64 1, .int .i64 0, .slice (some ⟨b', 0, none⟩) 1 1]) (NIn.one (x := ⟨1, 0, [(f.top : Int)]⟩) (rd_own9 h2 rfl rfl (by omega))) (NIn.one (x := ⟨1, 0, [((f.vars : Int) + (n : Int))]⟩) (rd_own9 h3 rfl rfl (by omega))))
            obtain ⟨B', k', e, R⟩ := rdn_of h1 hN (by simp [raw_len, hn])
            injection e with e1 e2 e3
            subst e1; subst e3
            have e : rawL (neg2 f t).nodes = rawL f.nodes ++ ([⟨1, 0, [(f.top : Int)]⟩] ++ [⟨1, 0, [((f.vars : Int) + (n : Int))]⟩]) := by simp [neg2, rawL, Nn.raw, ints, hn]
            rw [e]; exact R
          have hwf := fun t (ht : t < f.vars + f.nodes.length + 2) => neg2_wf hWF (by omega : f.nodes.length + 2 ≤ 128) ht
          have h1 := neg2_one hWF (by omega : f.nodes.length + 2 ≤ 128) y nn
          have h2 := neg2_two hWF (by omega : f.nodes.length + 2 ≤ 128) y nn
          have hle3 := tval_le f y nn
          have hV1 := tvalue_ok w6 f hWF A n c (HH.out.2.2.2.on P6) y nn HV.out.1 HV.out.2.1 HV.out.2.2
          have hV2 := fun W (kW : On w6 W) => tvalue_ok W (neg2 f (f.vars + n)) (hwf _ (by omega)) B (n + 2) k (HD W (P6.trans kW) (owns_on hrow kW) (hb.on kW) (hb'.on kW) _) y nn HV.out.1 HV.out.2.1 HV.out.2.2
          have hV3 := fun W (kW : On w5 W) q1 q2 q3 => tvalue_ok W (neg2 f (f.vars + n + 1)) (hwf _ (by omega)) B (n + 2) k (HD W kW q1 q2 q3 _) y nn HV.out.1 HV.out.2.1 HV.out.2.2
          rw [hn] at h1 h2
          rw [h1] at hV2
          rw [h2] at hV3
          have ev : ∀ t, (neg2 f t).vars = f.vars := fun _ => rfl
          have et : ∀ t, (neg2 f t).top = t := fun _ => rfl
          simp only [ev, et] at hV2 hV3
          have eN : ((f.vars + n : Nat) : Int) = ((f.vars : Int) + (n : Int)) := by push_cast; rfl
          have eM : ((f.vars + n + 1 : Nat) : Int) = ((f.vars : Int) + (n : Int)) + 1 := by push_cast; rfl
          rw [eN] at hV2
          rw [eM] at hV3
          obtain ⟨tv, htv⟩ : ∃ tv, tval f y nn = tv := ⟨_, rfl⟩
          rw [htv] at hV1 hV2 hV3 hle3
          clear eN eM h1 h2 hwf ev et htv HD
          have HB := Lib.hid (And.intro hrow (And.intro hb (And.intro hb' O6)))
          obtain ⟨s0, s1, s2⟩ := own3 (HH.out.2.1.on P6)
          obtain ⟨k0, k1⟩ := own2 (HH.out.2.2.1.on P6)
          have HV3 := Lib.hid hV3
          have HV2 := Lib.hid hV2
          clear hrow hb hb' O6 hV3 hV2
          go_wp2_with fail
          refine hV1.mono ?_
          rintro e w7 ⟨rfl, P7⟩
          clear hV1 s0 s1 s2 k0 k1
          obtain ⟨k0, k1⟩ := own2 (HH.out.2.2.1.on (P6.trans P7))
          obtain ⟨t0, t1, t2⟩ := own3 (HB.out.2.2.2.on P7)
          have hV2 := HV2.out w7 P7
          clear HV2
          go_wp2_with fail
          refine hV2.mono ?_
          rintro e w8 ⟨rfl, P8⟩
          clear hV2 t0 t1 t2 k0 k1
          have P78 := P7.trans P8
          have O8 := HB.out.2.2.2.on P78
          obtain ⟨t0, t1, t2⟩ := own3 O8
          have f2 := O8.frozen 2
          obtain ⟨w9, hw9⟩ : ∃ w9, w8.setCell ⟨g6, 2, none⟩ (.int .i64 (((f.vars : Int) + (n : Int)) + 1)) = w9 := ⟨_, rfl⟩
          have P59 : On w5 w9 := by rw [← hw9]; exact On.setCell (P6.trans P78) (p := ⟨g6, 2, none⟩) hg6 _
          have O9 : Own w9 g6 24 #[.int .i64 (f.vars : Int), .slice B (n + 2) k, .int .i64 (((f.vars : Int) + (n : Int)) + 1)] := by rw [← hw9]; exact O8.set_ 2 _
          have hk9 : Kn (fun _ t => t = 24) w8 w9 := by rw [← hw9]; exact Kn.only ((Only.refl g6 w8).set_ 2 _) O8 rfl
          have hV3 := HV3.out w9 P59 (owns_kn (owns_on HB.out.1 P78) hk9 (fun _ => by decide)) (hk9.own (HB.out.2.1.on P78) (by decide)) (hk9.own (HB.out.2.2.1.on P78) (by decide))
          have HW9 := Lib.hid hw9
          clear hw9 HV3 hk9 O8
          go_upto_region 9 with fail
          rw [HW9.out]
          clear t0 t1 t2 f2 HW9
          obtain ⟨k0, k1⟩ := own2 (HH.out.2.2.1.on P59)
          obtain ⟨t0, t1, t2⟩ := own3 O9
          go_wp2_with fail
          refine hV3.mono ?_
          rintro e w10 ⟨rfl, P10⟩
          clear hV3 k0 k1 t0 t1 t2
          have Pend := Pw5.trans (P59.trans P10)
          have ht3 : tv = 0 ∨ tv = 1 ∨ tv = 2 := by omega
          have n0 : notT 0 = 1 := rfl
          have n1 : notT 1 = 0 := rfl
          have n2 : notT 2 = 2 := rfl
          clear hle3 HH HB HV HP
          rcases ht3 with rfl | rfl | rfl
          · rw [n0, n1]
            go_wp2
            go_ret
            exact ⟨rfl, Pend⟩
          · rw [n1, n0]
            go_wp2
            go_ret
            exact ⟨rfl, Pend⟩
          · rw [n2, n2]
            go_wp2
            go_ret
            exact ⟨rfl, Pend⟩
    · obtain ⟨er, her⟩ : ∃ er, chk vars xs top = er := ⟨_, rfl⟩
      rw [her] at hC2 hc
      rw [errV_pos _ hc] at hC2
      clear her
      have hA2 := fun W => awake9_any W
      go_wp2_with fail
      refine hC2.mono ?_
      rintro e w3 ⟨rfl, P3⟩
      clear hC2
      go_wp2_with fail
      refine (hA2 _).mono ?_
      rintro e w4 ⟨rfl, P4⟩
      go_wp2
      go_ret
      exact ⟨rfl, (Pw2.trans P3).trans P4⟩
  · rw [Bool.eq_false_iff.2 hl] at hL1
    have hA2 := fun W => awake9_any W
    clear hC
    go_wp2_with fail
    refine hL1.mono ?_
    rintro e w2 ⟨rfl, P2⟩
    clear hL1
    go_wp2_with fail
    refine (hA2 _).mono ?_
    rintro e w3 ⟨rfl, P3⟩
    go_wp2
    go_ret
    exact ⟨rfl, (Pw1.trans P2).trans P3⟩
end Go.Proofs.Ytcnelmklfdfilaa.Fm
