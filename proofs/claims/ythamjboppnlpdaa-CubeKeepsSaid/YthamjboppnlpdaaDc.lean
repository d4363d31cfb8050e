/-
  Package cube: Cover of accepted lists.
-/
import Derived.Test.YthamjboppnlpdaaDb
namespace Go.Proofs.Ythamjboppnlpdaa.Cu
open Go.RowKit Go.Proofs.Ythamjboppnlpdaa.Sb
set_option linter.unusedVariables false
set_option maxRecDepth 100000
set_option maxHeartbeats 32000000 in
theorem coverP_ok (w : World) (A : Option Addr) (n cc : Nat) (l : List Cb) (h : RdC w A n cc (zl l)) (hl : ∀ x ∈ l, OkC x) (hn : n ≤ 1024) :
    Calls Try.prog 29 #[.slice A n cc] w fun e w' => ((∃ (cv : List Cb) (A' : Option Addr) (m : Nat), coverL l = some cv ∧ e = .returned (.tuple #[.slice A' cv.length m, .nilIface]) ∧ RdC w' A' cv.length m (zl cv)) ∨ (coverL l = none ∧ e = .returned (.tuple #[.slice none 0 0, errV 4]))) ∧ On w w' := by
  have hnl : l.length = n := by have := h.len; rwa [zl_len] at this
  have hcap := h.cap
  have hmax := h.max
  obtain ⟨oo, hoo⟩ : ∃ z, coverL l = z := ⟨_, rfl⟩
  rw [hoo]
  have hCL := checkList_any w A n cc (zl l) h
  rw [chkB_ok hn hl, errV_zero] at hCL
  have HR := Lib.hid (And.intro h (And.intro hnl (And.intro hl hoo)))
  clear h hnl hl hoo
  go_enter Try.func29, Try.ntmps29
  go_wp2_with fail
  refine hCL.mono ?_
  rintro e w1 ⟨rfl, P1⟩
  clear hCL
  have HP1 := Lib.hid P1
  clear P1
  go_wp2
  go_loopw [17, 5] (fun i vc wr => ∃ (k : Nat) (cv : List Cb), k ≤ n ∧ i = .int .i64 (k : Int) ∧ covTo l k = some cv ∧ wr.ownsRow w.heap.size 23 2 vc cv.length (CV (zl cv)) ∧ On w wr) (fun i _ _ => n - (intOf i).toNat)
  case atStart => exact ⟨0, [], by omega, rfl, rfl, ⟨rfl, .inl ⟨rfl, rfl⟩⟩, HP1.out⟩
  case round =>
    obtain ⟨k, cv, hk, rfl, hcov, hrow, hon⟩ := hrel
    obtain ⟨wo, hwo⟩ : ∃ z, z = wr := ⟨_, rfl⟩
    subst hwo
    obtain ⟨Av, cv', rfl, hvc, hvm⟩ := owns_form hrow
    have hcl := covTo_len k cv hcov
    by_cases hlt : k < n
    · have hkl : k < l.length := by rw [HR.out.2.1]; exact hlt
      have hm := HR.out.2.2.1 _ (getD_mem (d := (0, 0)) hkl)
      have hcs : covTo l (k + 1) = covS l (some cv) k := by rw [← hcov]; rfl
      have hnone : covTo l (k + 1) = none → coverL l = none := fun e => by
        have := covTo_none e (l.length - (k + 1))
        rwa [show k + 1 + (l.length - (k + 1)) = l.length by omega] at this
      have hRt := fun W (k' : On w W) => (HR.out.1.on k').take (show k ≤ n by omega)
      obtain ⟨ad, rfl, hb, hc0, hc1⟩ := (HR.out.1.on hon).at_ hlt
      rw [zl_cell] at hc0 hc1
      simp only at hc0 hc1
      have htk : (zl l).take k = zl (l.take k) := by unfold zl; rw [List.map_take]
      rw [htk] at hRt
      have hok2 : ∀ x ∈ l.take k, OkC x := fun x hx => HR.out.2.2.1 x (List.mem_of_mem_take hx)
      unfold covS at hcs
      simp only at hcs
      obtain ⟨⟨c1, c2⟩, hc⟩ : ∃ z, l.getD k (0, 0) = z := ⟨_, rfl⟩
      rw [hc] at hc0 hc1 hm hcs
      simp only at hc0 hc1
      have hO := fun W (k' : On w W) => outside_ok W (c1, c2) hm (some ad) k cc (l.take k) (hRt W k') hok2 (by omega)
      obtain ⟨o, ho⟩ : ∃ z, outL (c1, c2) (l.take k) = z := ⟨_, rfl⟩
      rw [ho] at hO hcs
      unfold cbV at hO
      simp only at hO
      have Z0 : Own (wo.alloc (.cells #[.int .i64 0, .int .i64 0] 23)) wo.heap.size 23 #[.int .i64 0, .int .i64 0] := Own.new _ _ _
      obtain ⟨k0, k1⟩ := own2 Z0
      have f0 := Z0.frozen 0
      have f1 := Z0.frozen 1
      have HX := Lib.hid (And.intro hO (And.intro hcs (And.intro hnone (And.intro hrow hon))))
      have hol : ∀ ps, o = some ps → ps.length ≤ 1024 := fun ps e => outL_len (ho.trans e)
      clear hO hcs hnone hrow hon hRt hok2 htk hm hc hkl hcov ho
      go_upto_region 8 with fail
      clear k0 k1 f0 f1 Z0 hc0 hc1
      obtain ⟨w3, hw3⟩ : ∃ z, wo.alloc (.cells #[.int .i64 (c1 : Int), .int .i64 (c2 : Int)] 23) = z := ⟨_, rfl⟩
      obtain ⟨O3, P3⟩ := box1 rfl hw3
      rw [hw3]
      obtain ⟨bx, hbx⟩ : ∃ z, wo.heap.size = z := ⟨_, rfl⟩
      rw [hbx] at O3 ⊢
      have hS0 : ∀ W, On w3 W → On w3 W ∧ W.cell? ⟨bx, 0, none⟩ = some (.int .i64 (c1 : Int)) ∧ W.cell? ⟨bx, 1, none⟩ = some (.int .i64 (c2 : Int)) := fun W k => ⟨k, (own2 (O3.on k)).1, (own2 (O3.on k)).2⟩
      have HS := Lib.hid hS0
      have HP3 := Lib.hid (And.intro (HX.out.2.2.2.2.trans P3) (owns_on HX.out.2.2.2.1 P3))
      have hS6 := hS0 w3 (On.refl _)
      clear hS0 O3 P3 hw3 hbx
      have hkc : k ≤ cc := by omega
      have hk0 : (0 : Int) ≤ (k : Int) := by omega
      have hk1 : (k : Int) ≤ (cc : Int) := by omega
      have hk2 : ((k : Int)).toNat = k := by omega
      cases o with
      | none =>
        have hO2 : ∀ W, On w3 W → Calls Try.prog 53 #[.agg #[.int .i64 (c1 : Int), .int .i64 (c2 : Int)], .slice (some ad) k cc] W fun e w' => e = .returned (.tuple #[.slice none 0 0, .bool false]) ∧ On W w' := fun W k' => (HX.out.1 W (HP3.out.1.trans k')).mono fun e w' hh => by
          rcases hh with ⟨⟨ps, _, _, h1, _⟩ | ⟨_, h2⟩, h3⟩
          · cases h1
          · exact ⟨h2, h3⟩
        have HO2 := Lib.hid hO2
        clear hO2 hol
        go_region_held3 (fun W => On w3 W ∧ W.cell? ⟨bx, 0, none⟩ = some (.int .i64 (c1 : Int)) ∧ W.cell? ⟨bx, 1, none⟩ = some (.int .i64 (c2 : Int)))
          (first | exact HS.out _ (On.refl _).drew | exact HS.out _ (On.refl _) | assumption | (go_split_ands; exact HS.out _ (On.trans (by assumption) PA)))
          (first
            | (go_at_call 53; go_split_ands; (with_reducible refine (HO2.out _ ?_).mono ?_); assumption; rintro e wA ⟨rfl, PA⟩))
        rename_i hHe
        have hOn := HP3.out.1.trans hHe.1
        have hno := HX.out.2.2.1 HX.out.2.1
        rw [HR.out.2.2.2] at hno
        have HN := Lib.hid (And.intro hno hOn)
        clear hHe hOn hno
        go_wp2
        go_ret2
        exact ⟨.inr ⟨HN.out.1, rfl⟩, HN.out.2⟩
      | some ps =>
        have hpl := hol ps rfl
        have hO2 : ∀ W, On w3 W → Calls Try.prog 53 #[.agg #[.int .i64 (c1 : Int), .int .i64 (c2 : Int)], .slice (some ad) k cc] W fun e w' => ∃ A9 m9, e = .returned (.tuple #[.slice A9 ps.length m9, .bool true]) ∧ RdC w' A9 ps.length m9 (zl ps) ∧ On W w' := fun W k' => (HX.out.1 W (HP3.out.1.trans k')).mono fun e w' hh => by
          rcases hh with ⟨⟨ps2, A9, m9, h1, h2, h4⟩ | ⟨h1, _⟩, h3⟩
          · injection h1 with h1
            subst h1
            exact ⟨A9, m9, h2, h4, h3⟩
          · cases h1
        have HO2 := Lib.hid hO2
        clear hO2 hol
        go_region_held3 (fun W => On w3 W ∧ W.cell? ⟨bx, 0, none⟩ = some (.int .i64 (c1 : Int)) ∧ W.cell? ⟨bx, 1, none⟩ = some (.int .i64 (c2 : Int)))
          (first | exact HS.out _ (On.refl _).drew | exact HS.out _ (On.refl _) | assumption | (go_split_ands; exact HS.out _ (On.trans (by assumption) PA)))
          (first
            | (go_at_call 53; go_split_ands; (with_reducible refine (HO2.out _ ?_).mono ?_); assumption; rintro e wA ⟨A9, m9, rfl, T9, PA⟩))
        rename_i hHe
        have hOn := hHe.1
        have hcs := HX.out.2.1
        have hpc := T9.cap
        have hpm := T9.max
        have HY := Lib.hid (And.intro T9 (And.intro (HP3.out.1.trans hOn) (And.intro (owns_on HP3.out.2 hOn) hcs)))
        have hzw := HY.out.2.1.size
        clear hHe hOn hcs T9 PA
        by_cases hbig : 1024 < cv.length + ps.length
        · have hcs := HY.out.2.2.2
          rw [if_pos hbig] at hcs
          have hno := HX.out.2.2.1 hcs
          rw [HR.out.2.2.2] at hno
          have HN := Lib.hid hno
          clear hcs hno
          go_wp2
          go_ret2
          exact ⟨.inr ⟨HN.out, rfl⟩, HY.out.2.1⟩
        · have hcs := HY.out.2.2.2
          rw [if_neg hbig] at hcs
          have HN := Lib.hid hcs
          clear hcs
          go_upto_region 12 with (at_builtin; refine wpList_appC rfl (.tmp 41) (.tmp 42) 37 rfl w.heap.size 23 _ 2 16 Try.underlying37 cubeInfo rfl (by decide) (by decide) (.slice Av cv.length cv') cv.length (CV (zl cv)) rfl HY.out.2.2.1 A9 ps.length m9 (CV (zl ps)) rfl HY.out.1.src (CV_cell _) (by omega) hzw ?_; intro v' w6 hown6 hgrow6 hblk6)
          have P6 := owns_onb HY.out.2.1 HY.out.2.2.1 (Nat.le_refl _) hgrow6
          have HF := Lib.hid (And.intro hown6 P6)
          clear hown6 hgrow6 hblk6 P6
          go_wp2
          go_roundw
          case rel =>
            refine ⟨k + 1, cv ++ ps, by omega, by go_num, HN.out, ?_, HF.out.2⟩
            rw [List.length_append, zl_app, CV_app]
            exact HF.out.1
          case measure => simp [intOf] <;> omega
    · obtain rfl : k = n := by omega
      have hc2 : coverL l = some cv := by unfold coverL; rw [HR.out.2.1]; exact hcov
      rw [HR.out.2.2.2] at hc2
      have HF := Lib.hid (And.intro (rdc_of_row hrow (zl_len cv)) (And.intro hc2 hon))
      clear hrow hon hcov hc2
      go_wp2
      go_ret2
      exact ⟨.inl ⟨cv, Av, cv', HF.out.2.1, rfl, HF.out.1⟩, HF.out.2.2⟩
end Go.Proofs.Ythamjboppnlpdaa.Cu
