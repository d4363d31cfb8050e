/-
  Package cube: Absorb of accepted lists.
-/
import Derived.Test.YthamjboppnlpdaaDp
import Derived.Deep.LoopGhost
namespace Go.Proofs.Ythamjboppnlpdaa.Cu
open Go.RowKit Go.Proofs.Ythamjboppnlpdaa.Sb
set_option linter.unusedVariables false
set_option maxRecDepth 100000
/-- one more cube -/
def absS (k : List Cb) (c : Cb) : List Cb := if ∃ o ∈ k, implC c o = true then k else k ++ [c]
def absF (l : List Cb) : List Cb := l.foldl absS []
/-- what Absorb hands back -/
def absL (l : List Cb) : List Cb := absF (sortL l)
theorem absF_take {l : List Cb} {k : Nat} (h : k < l.length) : absF (l.take (k + 1)) = absS (absF (l.take k)) (l.getD k (0, 0)) := by
  have e : l.getD k (0, 0) = l[k] := by rw [List.getD_eq_getElem?_getD, List.getElem?_eq_getElem h]; rfl
  rw [e]
  unfold absF
  rw [List.take_add_one, List.getElem?_eq_getElem h, List.foldl_append]
  rfl
theorem absS_len (k : List Cb) (c : Cb) : (absS k c).length ≤ k.length + 1 := by
  unfold absS
  by_cases h : ∃ o ∈ k, implC c o = true
  · rw [if_pos h]; omega
  · rw [if_neg h, List.length_append]; simp
theorem absS_sub {k : List Cb} {c x : Cb} (h : x ∈ absS k c) : x ∈ k ∨ x = c := by
  unfold absS at h
  by_cases e : ∃ o ∈ k, implC c o = true
  · rw [if_pos e] at h; exact .inl h
  · rw [if_neg e, List.mem_append, List.mem_singleton] at h; exact h
theorem fold_sub : ∀ (l k : List Cb) (x : Cb), x ∈ l.foldl absS k → x ∈ k ∨ x ∈ l
  | [], k, x, h => .inl h
  | c :: l, k, x, h => by
    rcases fold_sub l (absS k c) x h with h | h
    · rcases absS_sub h with h | h
      · exact .inl h
      · exact .inr (by rw [h]; exact List.mem_cons_self)
    · exact .inr (List.mem_cons_of_mem _ h)
theorem fold_len : ∀ (l k : List Cb), (l.foldl absS k).length ≤ k.length + l.length
  | [], k => by simp
  | c :: l, k => by
    have h1 := fold_len l (absS k c)
    have h2 := absS_len k c
    rw [List.foldl_cons, List.length_cons]
    omega
theorem absF_sub {l : List Cb} {x : Cb} (h : x ∈ absF l) : x ∈ l := by
  rcases fold_sub l [] x h with h | h
  · cases h
  · exact h
theorem absF_len (l : List Cb) : (absF l).length ≤ l.length := by
  have := fold_len l []
  unfold absF
  simp only [List.length_nil] at this
  omega
set_option maxHeartbeats 32000000 in
theorem absorb_ok (w : World) (A : Option Addr) (n cc : Nat) (l : List Cb) (h : RdC w A n cc (zl l)) (hl : ∀ x ∈ l, OkC x) (hn : n ≤ 1024) :
    Calls Try.prog 30 #[.slice A n cc] w fun e w' => ∃ A' m, e = .returned (.tuple #[.slice A' (absL l).length m, .nilIface]) ∧ RdC w' A' (absL l).length m (zl (absL l)) ∧ On w w' := by
  have hnl : l.length = n := by have := h.len; rwa [zl_len] at this
  have hcap := h.cap
  have hmax := h.max
  unfold absL
  have hCL := checkList_any w A n cc (zl l) h
  rw [chkB_ok hn hl, errV_zero] at hCL
  obtain ⟨s, hs⟩ : ∃ s, sortL l = s := ⟨_, rfl⟩
  have hsl : s.length = n := by rw [← hs, sortL_len, hnl]
  have hso : ∀ x ∈ s, OkC x := fun x hx => hl x (by rw [← hs] at hx; exact (sortL_perm l).mem_iff.1 hx)
  have hSo := fun W Bs (R : RdC W A n cc (zl l)) (hB : Bs < W.heap.size) (hc : W.cell? ⟨Bs, 0, none⟩ = some (.slice A n cc)) => sorted_ok W Bs A n cc l R hl hn hB hc
  rw [hs] at hSo ⊢
  have HR := Lib.hid (And.intro h (And.intro hsl (And.intro hso hSo)))
  clear h hnl hl hs hsl hso hSo
  go_enter Try.func30, Try.ntmps30
  go_wp2_with fail
  go_step3
  go_wp2_with fail
  refine hCL.mono ?_
  rintro e w1 ⟨rfl, P1⟩
  clear hCL
  have hV := values_any w1 A n cc
  have HP1 := Lib.hid P1
  clear P1
  go_wp2_with fail
  go_step3
  go_wp2_with fail
  refine hV.mono ?_
  rintro e w2 ⟨rfl, hw2⟩
  clear hV
  have hBx : w2.cell? ⟨w1.heap.size, 0, none⟩ = some (.slice A n cc) := by rw [← hw2]; exact ((Sb.Own.new w1 37 #[.slice A n cc]).cell 0).trans rfl
  have hsz : w1.heap.size < w2.heap.size := by rw [← hw2]; simp
  have P2 : On w w2 := by rw [← hw2]; exact HP1.out.alloc _
  have hSS := HR.out.2.2.2 w2 w1.heap.size (HR.out.1.on P2) hsz hBx
  have HP2 := Lib.hid P2
  clear hBx hsz P2 hw2
  go_wp2_with fail
  refine hSS.mono ?_
  rintro e w3 ⟨A3, c3, rfl, hrd, P3⟩
  have hcap3 := hrd.cap
  have hmax3 := hrd.max
  have H3 := Lib.hid (And.intro hrd (HP2.out.trans P3))
  clear hSS hrd P3
  go_wp2
  go_loopg [5, 19] n (fun g v i wr => ∃ k : Nat, k + g = n ∧ i = .int .i64 (k : Int) ∧ wr.ownsRow w3.heap.size 23 2 v (absF (s.take k)).length (CV (zl (absF (s.take k)))) ∧ On w3 wr)
  case atStart => exact ⟨0, by omega, rfl, ⟨rfl, .inl ⟨rfl, rfl⟩⟩, On.refl _⟩
  case round =>
    obtain ⟨k, hkg, rfl, hrow, hon⟩ := hrel
    obtain ⟨wo, hwo⟩ : ∃ z, z = wr := ⟨_, rfl⟩
    subst hwo
    obtain ⟨Ak, ck, rfl, hkc, hkm⟩ := owns_form hrow
    have hal := absF_len (s.take k)
    rw [List.length_take] at hal
    cases gk with
    | zero =>
      have hk4 : k = n := by omega
      subst hk4
      have hz : ¬ ((k : Int) < (k : Int)) := by omega
      have hst : s.take k = s := List.take_of_length_le (by rw [HR.out.2.1]; omega)
      rw [hst] at hrow
      have HX := Lib.hid (And.intro hrow (H3.out.2.trans hon))
      have hst2 := Lib.hid hst
      clear hrow hon hst
      go_wp2
      try rw [Exit.noGoto_ret]
      go_ret2
      refine ⟨Ak, ck, ?_, rdc_of_row HX.out.1 (zl_len _), HX.out.2⟩
      rw [hst2.out]; rfl
    | succ g =>
      have hlt : k < n := by omega
      have hki : (k : Int) < (n : Int) := by omega
      have hkl : k < s.length := by rw [HR.out.2.1]; exact hlt
      have hm := HR.out.2.2.1 _ (getD_mem (d := (0, 0)) hkl)
      have hat := absF_take hkl
      obtain ⟨ad, rfl, hb, hc0, hc1⟩ := (H3.out.1.on hon).at_ hlt
      rw [zl_cell] at hc0 hc1
      simp only at hc0 hc1
      obtain ⟨⟨c1, c2⟩, hc⟩ : ∃ z, s.getD k (0, 0) = z := ⟨_, rfl⟩
      rw [hc] at hc0 hc1 hm hat
      simp only at hc0 hc1
      have hkok : ∀ x ∈ absF (s.take k), OkC x := fun x hx => HR.out.2.2.1 x (List.mem_of_mem_take (absF_sub hx))
      obtain ⟨kp, hkp⟩ : ∃ z, absF (s.take k) = z := ⟨_, rfl⟩
      rw [hkp] at hrow hat hkok hal hkc ⊢
      have hmin := Nat.min_le_right k s.length
      have Z0 : Sb.Own (wo.alloc (.cells #[.int .i64 0, .int .i64 0] 23)) wo.heap.size 23 #[.int .i64 0, .int .i64 0] := Sb.Own.new _ _ _
      obtain ⟨k0, k1⟩ := own2 Z0
      have f0 := Z0.frozen 0
      have f1 := Z0.frozen 1
      have HX := Lib.hid (And.intro hrow (And.intro hon (And.intro hm (And.intro hat hkok))))
      have hkp2 := Lib.hid hkp
      clear hrow hon hm hc hkl hat hkok hkp
      go_upto_region 8 with fail
      clear k0 k1 f0 f1 Z0 hc0 hc1
      obtain ⟨w4, hw4⟩ : ∃ z, wo.alloc (.cells #[.int .i64 (c1 : Int), .int .i64 (c2 : Int)] 23) = z := ⟨_, rfl⟩
      obtain ⟨O4, P4⟩ := box1 rfl hw4
      rw [hw4]
      obtain ⟨bx, hbx⟩ : ∃ z, wo.heap.size = z := ⟨_, rfl⟩
      rw [hbx] at O4 ⊢
      have H4 := Lib.hid (And.intro O4 (And.intro (owns_on HX.out.1 P4) (HX.out.2.1.trans P4)))
      clear O4 P4 hw4 hbx
      go_wp2
      go_loopg [25] kp.length (fun g2 i wy => ∃ j : Nat, j + g2 = kp.length ∧ i = .int .i64 (j : Int) ∧ (∀ t, t < j → implC (c1, c2) (kp.getD t (0, 0)) = false) ∧ On w4 wy)
      case atStart => exact ⟨0, by omega, rfl, fun t ht => by omega, On.refl _⟩
      case round =>
        obtain ⟨j, hjg, rfl, hni, hony⟩ := hrel
        obtain ⟨wp, hwp⟩ : ∃ z, z = wr := ⟨_, rfl⟩
        subst hwp
        cases gk with
        | zero =>
          have hjm : j = kp.length := by omega
          subst hjm
          have hz : ¬ ((kp.length : Int) < (kp.length : Int)) := by omega
          have habs : absS kp (c1, c2) = kp ++ [(c1, c2)] := by
            unfold absS
            rw [if_neg]
            rintro ⟨o, ho, hi⟩
            obtain ⟨t, ht, rfl⟩ := List.getElem_of_mem ho
            have := hni t ht
            rw [List.getD_eq_getElem?_getD, List.getElem?_eq_getElem ht] at this
            simp only [Option.getD_some] at this
            rw [this] at hi
            cases hi
          have O5 := H4.out.1.on hony
          obtain ⟨z0, z1⟩ := own2 O5
          obtain ⟨w5, hw5⟩ : ∃ z, wp.alloc (.cells #[.int .i64 (c1 : Int), .int .i64 (c2 : Int)] 23) = z := ⟨_, rfl⟩
          obtain ⟨O6, P6⟩ := box1 rfl hw5
          have HS := Lib.hid (And.intro (src_one O6) (And.intro (owns_on (owns_on H4.out.2.1 hony) P6) (And.intro ((H4.out.2.2.trans hony).trans P6) habs)))
          have hsz := HS.out.2.2.1.size
          clear O5 O6 P6 hony hni habs
          go_upto_region 14 with (at_builtin; refine wpList_appC rfl (.tmp 33) (.tmp 35) 37 rfl w3.heap.size 23 _ 2 16 Try.underlying37 cubeInfo rfl (by decide) (by decide) (.slice Ak kp.length ck) kp.length (CV (zl kp)) rfl HS.out.2.1 (some ⟨wp.heap.size, 0, none⟩) 1 1 (CV [((c1 : Int), (c2 : Int))]) rfl HS.out.1 (CV_cell _) (by omega) hsz ?_; intro v' w6 hown6 hgrow6 hblk6)
          have P6 := owns_onb HS.out.2.2.1 HS.out.2.1 (Nat.le_refl _) hgrow6
          have HF := Lib.hid (And.intro hown6 (And.intro P6 HS.out.2.2.2))
          clear hown6 hgrow6 hblk6 P6 z0 z1
          go_wp2
          go_roundg g
          case measure => omega
          case rel =>
            have hat := HX.out.2.2.2.1
            rw [HF.out.2.2] at hat
            refine ⟨k + 1, by omega, by go_num, ?_, HF.out.2.1⟩
            rw [hat, List.length_append, zl_app, CV_app]
            exact HF.out.1
        | succ g2 =>
          have hjl : j < kp.length := by omega
          have hji : (j : Int) < (kp.length : Int) := by omega
          have hmo := HX.out.2.2.2.2 _ (getD_mem (d := (0, 0)) hjl)
          obtain ⟨ad2, e2, hb2, hc0, hc1⟩ := (rdc_of_row (owns_on H4.out.2.1 hony) (zl_len kp)).at_ hjl
          cases e2
          rw [zl_cell] at hc0 hc1
          simp only at hc0 hc1
          obtain ⟨⟨o1, o2⟩, ho⟩ : ∃ z, kp.getD j (0, 0) = z := ⟨_, rfl⟩
          rw [ho] at hc0 hc1 hmo
          simp only at hc0 hc1
          have hI := fun W => implies_ok W (c1, c2) (o1, o2) HX.out.2.2.1 hmo
          have Z0 : Sb.Own (wp.alloc (.cells #[.int .i64 0, .int .i64 0] 23)) wp.heap.size 23 #[.int .i64 0, .int .i64 0] := Sb.Own.new _ _ _
          obtain ⟨k0, k1⟩ := own2 Z0
          have f0 := Z0.frozen 0
          have f1 := Z0.frozen 1
          have HY := Lib.hid (And.intro hony (And.intro hni (And.intro ho hmo)))
          have HGM := Lib.hid (getD_mem (l := kp) (d := ((0 : Nat), (0 : Nat))) hjl)
          clear hony hni ho hmo
          go_upto_region 11 with fail
          clear k0 k1 f0 f1 Z0 hc0 hc1
          obtain ⟨w5, hw5⟩ : ∃ z, wp.alloc (.cells #[.int .i64 (o1 : Int), .int .i64 (o2 : Int)] 23) = z := ⟨_, rfl⟩
          obtain ⟨O5, P5⟩ := box1 rfl hw5
          rw [hw5]
          obtain ⟨by_, hby⟩ : ∃ z, wp.heap.size = z := ⟨_, rfl⟩
          rw [hby] at O5 ⊢
          have H5 := Lib.hid (HY.out.1.trans P5)
          obtain ⟨z0, z1⟩ := own2 O5
          obtain ⟨y0, y1⟩ := own2 (H4.out.1.on H5.out)
          have hI2 := hI w5
          unfold cbV at hI2
          simp only at hI2
          clear hI O5 P5 hw5 hby
          obtain ⟨bb, hbb⟩ : ∃ z, implC (c1, c2) (o1, o2) = z := ⟨_, rfl⟩
          rw [hbb] at hI2
          have HB := Lib.hid hbb
          clear hbb
          cases bb with
          | true =>
            go_wp2_with fail
            refine hI2.mono ?_
            rintro e w6 ⟨rfl, P6⟩
            have H6 := Lib.hid (H5.out.trans P6)
            clear hI2 z0 z1 y0 y1 P6
            go_wp2
            go_roundg g
            case measure => omega
            case rel =>
              have habs : absS kp (c1, c2) = kp := by
                unfold absS
                rw [if_pos ⟨_, HGM.out, by rw [HY.out.2.2.1]; exact HB.out⟩]
              have hat := HX.out.2.2.2.1
              rw [habs] at hat
              refine ⟨k + 1, by omega, by go_num, ?_, H4.out.2.2.trans H6.out⟩
              rw [hat]
              exact owns_on H4.out.2.1 H6.out
          | false =>
            go_wp2_with fail
            refine hI2.mono ?_
            rintro e w6 ⟨rfl, P6⟩
            have H6 := Lib.hid (H5.out.trans P6)
            clear hI2 z0 z1 y0 y1 P6
            go_wp2
            go_roundg g2
            case measure => omega
            case rel =>
              refine ⟨j + 1, by omega, by go_num, fun t ht => ?_, H6.out⟩
              by_cases htj : t = j
              · subst htj
                rw [HY.out.2.2.1]
                exact HB.out
              · exact HY.out.2.1 t (by omega)
end Go.Proofs.Ythamjboppnlpdaa.Cu
