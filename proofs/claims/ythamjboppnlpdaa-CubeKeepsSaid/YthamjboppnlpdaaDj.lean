/-
  Package cube: Disjoint, the specification's Disjoint.
-/
import Derived.Test.YthamjboppnlpdaaDd
namespace Go.Proofs.Ythamjboppnlpdaa.Cu
open Go.RowKit Go.Proofs.Ythamjboppnlpdaa.Sb
set_option linter.unusedVariables false
set_option maxRecDepth 100000
/-- the first k cubes clash pairwise -/
def DisjP (l : List Cb) (k : Nat) : Prop := ∀ i, i < k → ∀ j, j < i → clash (l.getD i (0, 0)) (l.getD j (0, 0)) ≠ 0
theorem getD_take {α : Type} {l : List α} {k j : Nat} {d : α} (h : j < k) : (l.take k).getD j d = l.getD j d := by
  rw [List.getD_eq_getElem?_getD, List.getD_eq_getElem?_getD, List.getElem?_take, if_pos h]
set_option maxHeartbeats 32000000 in
theorem disjoint_ok (w : World) (A : Option Addr) (n cc : Nat) (l : List Cb) (h : RdC w A n cc (zl l)) (hl : ∀ x ∈ l, OkC x) (hn : n ≤ 1024) :
    Calls Try.prog 28 #[.slice A n cc] w fun e w' => (∃ b, e = .returned (.tuple #[.bool b, .nilIface]) ∧ (b = true ↔ DisjP l n)) ∧ On w w' := by
  have hnl : l.length = n := by have := h.len; rwa [zl_len] at this
  have hcap := h.cap
  have hmax := h.max
  have hCL := checkList_any w A n cc (zl l) h
  rw [chkB_ok hn hl, errV_zero] at hCL
  have HR := Lib.hid (And.intro h (And.intro hnl hl))
  clear h hnl hl
  go_enter Try.func28, Try.ntmps28
  go_wp2_with fail
  refine hCL.mono ?_
  rintro e w1 ⟨rfl, P1⟩
  clear hCL
  have HP1 := Lib.hid P1
  clear P1
  go_wp2
  go_loopw [16] (fun i wr => ∃ (k : Nat), k ≤ n ∧ i = .int .i64 (k : Int) ∧ DisjP l k ∧ On w wr) (fun i _ => n - (intOf i).toNat)
  case atStart => exact ⟨0, by omega, rfl, fun i hi => by omega, HP1.out⟩
  case round =>
    obtain ⟨k, hk, rfl, hdj, hon⟩ := hrel
    obtain ⟨wo, hwo⟩ : ∃ z, z = wr := ⟨_, rfl⟩
    subst hwo
    by_cases hlt : k < n
    · have hkl : k < l.length := by rw [HR.out.2.1]; exact hlt
      have hm := HR.out.2.2 _ (getD_mem (d := (0, 0)) hkl)
      have hRt := fun W (k' : On w W) => (HR.out.1.on k').take (show k ≤ n by omega)
      obtain ⟨ad, rfl, hb, hc0, hc1⟩ := (HR.out.1.on hon).at_ hlt
      rw [zl_cell] at hc0 hc1
      simp only at hc0 hc1
      have htk : (zl l).take k = zl (l.take k) := by unfold zl; rw [List.map_take]
      rw [htk] at hRt
      obtain ⟨⟨c1, c2⟩, hc⟩ : ∃ z, l.getD k (0, 0) = z := ⟨_, rfl⟩
      rw [hc] at hc0 hc1 hm
      simp only at hc0 hc1
      have Z0 : Own (wo.alloc (.cells #[.int .i64 0, .int .i64 0] 23)) wo.heap.size 23 #[.int .i64 0, .int .i64 0] := Own.new _ _ _
      obtain ⟨k0, k1⟩ := own2 Z0
      have f0 := Z0.frozen 0
      have f1 := Z0.frozen 1
      have HX := Lib.hid (And.intro hRt (And.intro hm (And.intro hc (And.intro hdj hon))))
      clear hon hRt htk hm hc hkl hdj
      go_upto_region 7 with fail
      clear k0 k1 f0 f1 Z0 hc0 hc1
      obtain ⟨w3, hw3⟩ : ∃ z, wo.alloc (.cells #[.int .i64 (c1 : Int), .int .i64 (c2 : Int)] 23) = z := ⟨_, rfl⟩
      obtain ⟨O3, P3⟩ := box1 rfl hw3
      rw [hw3]
      obtain ⟨bx, hbx⟩ : ∃ z, wo.heap.size = z := ⟨_, rfl⟩
      rw [hbx] at O3 ⊢
      have H3 := Lib.hid (And.intro O3 (HX.out.2.2.2.2.trans P3))
      clear O3 P3 hw3 hbx
      have hkc : k ≤ cc := by omega
      have hk0 : (0 : Int) ≤ (k : Int) := by omega
      have hk1 : (k : Int) ≤ (cc : Int) := by omega
      have hk2 : ((k : Int)).toNat = k := by omega
      go_wp2
      go_loopw [25] (fun i wx => ∃ (t : Nat), t ≤ k ∧ i = .int .i64 (t : Int) ∧ (∀ j, j < t → clash (c1, c2) (l.getD j (0, 0)) ≠ 0) ∧ Own wx bx 23 #[.int .i64 (c1 : Int), .int .i64 (c2 : Int)] ∧ On w wx) (fun i _ => k - (intOf i).toNat)
      case atStart => exact ⟨0, by omega, rfl, fun j hj => by omega, H3.out.1, H3.out.2⟩
      case round =>
        obtain ⟨t, ht, rfl, hcl, hO, hon⟩ := hrel
        by_cases hlt2 : t < k
        · have htl : t < l.length := by rw [HR.out.2.1]; omega
          have hpt := HR.out.2.2 _ (getD_mem (d := (0, 0)) htl)
          obtain ⟨ad2, e2, hb2, hc0, hc1⟩ := (HX.out.1 wr hon).at_ hlt2
          cases e2
          rw [zl_cell, getD_take hlt2] at hc0 hc1
          simp only at hc0 hc1
          obtain ⟨⟨p1, p2⟩, hp⟩ : ∃ z, l.getD t (0, 0) = z := ⟨_, rfl⟩
          rw [hp] at hc0 hc1 hpt
          simp only at hc0 hc1
          have hK := fun W => clash_ok W (c1, c2) (p1, p2) HX.out.2.1 hpt
          have Z0 : Own (wr.alloc (.cells #[.int .i64 0, .int .i64 0] 23)) wr.heap.size 23 #[.int .i64 0, .int .i64 0] := Own.new _ _ _
          obtain ⟨k0, k1⟩ := own2 Z0
          have f0 := Z0.frozen 0
          have f1 := Z0.frozen 1
          have HY := Lib.hid (And.intro hO (And.intro hon (And.intro hcl hp)))
          clear hO hon hcl hp hpt
          go_upto_region 10 with fail
          clear k0 k1 f0 f1 Z0 hc0 hc1
          obtain ⟨w4, hw4⟩ : ∃ z, wr.alloc (.cells #[.int .i64 (p1 : Int), .int .i64 (p2 : Int)] 23) = z := ⟨_, rfl⟩
          obtain ⟨O4, P4⟩ := box1 rfl hw4
          rw [hw4]
          obtain ⟨by_, hby⟩ : ∃ z, wr.heap.size = z := ⟨_, rfl⟩
          rw [hby] at O4 ⊢
          have H4 := Lib.hid (And.intro (HY.out.1.on P4) (HY.out.2.1.trans P4))
          obtain ⟨z0, z1⟩ := own2 O4
          obtain ⟨y0, y1⟩ := own2 H4.out.1
          have hK2 := hK w4
          unfold cbV at hK2
          simp only at hK2
          clear hK O4 P4 hw4 hby
          by_cases hz : clash (c1, c2) (p1, p2) = 0
          · rw [hz] at hK2
            have hno : ¬ DisjP l n := fun hd => by
              have := hd k hlt t hlt2
              rw [HX.out.2.2.1, HY.out.2.2.2] at this
              exact this hz
            have HN := Lib.hid hno
            clear hno hz
            go_wp2_with fail
            refine hK2.mono ?_
            rintro e w5 ⟨rfl, P5⟩
            have HP5 := Lib.hid (H4.out.2.trans P5)
            clear hK2 z0 z1 y0 y1 P5
            go_wp2
            go_ret2
            exact ⟨⟨false, rfl, by simp only [Bool.false_eq_true, false_iff]; exact HN.out⟩, HP5.out⟩
          · obtain ⟨cl, hcl⟩ : ∃ z, clash (c1, c2) (p1, p2) = z := ⟨_, rfl⟩
            rw [hcl] at hK2 hz
            have hzi : ¬ (cl : Int) = 0 := by omega
            go_wp2_with fail
            refine hK2.mono ?_
            rintro e w5 ⟨rfl, P5⟩
            have HP5 := Lib.hid (And.intro (H4.out.1.on P5) (H4.out.2.trans P5))
            have HZ := Lib.hid (And.intro hcl hz)
            clear hK2 z0 z1 y0 y1 P5 hcl
            go_wp2
            go_roundw
            case rel =>
              refine ⟨t + 1, by omega, by go_num, fun j hj => ?_, HP5.out.1, HP5.out.2⟩
              by_cases hjt : j = t
              · subst hjt
                rw [HY.out.2.2.2, HZ.out.1]
                exact HZ.out.2
              · exact HY.out.2.2.1 j (by omega)
            all_goals (show _ - ((t : Int) + 1).toNat < _ - (t : Int).toNat; omega)
        · have htk : t = k := by omega
          subst htk
          have HY := Lib.hid (And.intro hon hcl)
          clear hon hcl hO
          go_wp2
          go_roundw
          case rel =>
            refine ⟨t + 1, by omega, by go_num, fun i hi j hj => ?_, HY.out.1⟩
            by_cases hit : i = t
            · subst hit
              rw [HX.out.2.2.1]
              exact HY.out.2 j hj
            · exact HX.out.2.2.2.1 i (by omega) j hj
          all_goals (show _ - ((t : Int) + 1).toNat < _ - (t : Int).toNat; omega)
    · have hkn : k = n := by omega
      subst hkn
      have HX := Lib.hid (And.intro hon hdj)
      clear hon hdj
      go_wp2
      go_ret2
      exact ⟨⟨true, rfl, by simp only [true_iff]; exact HX.out.2⟩, HX.out.1⟩
end Go.Proofs.Ythamjboppnlpdaa.Cu
