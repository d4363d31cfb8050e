/-
  Package cube: the errors of Covers and Count.
-/
import Derived.Test.YthamjboppnlpdaaDd
namespace Go.Proofs.Ythamjboppnlpdaa.Cu
open Go.RowKit Go.Proofs.Ythamjboppnlpdaa.Sb
set_option linter.unusedVariables false
set_option maxRecDepth 100000
set_option maxHeartbeats 4000000 in
theorem covers_bad1 (w : World) (A : Option Addr) (n cc : Nat) (xs : List Cz) (h : RdC w A n cc xs) (c1 c2 : Int) (hx : chkB n xs ≠ 0) :
    Calls Try.prog 35 #[.slice A n cc, .agg #[.int .i64 c1, .int .i64 c2]] w fun e w' => e = .returned (.tuple #[.bool false, errV (chkB n xs)]) ∧ On w w' := by
  obtain ⟨w0, hw0⟩ : ∃ w0, w.alloc (.cells #[.int .i64 c1, .int .i64 c2] 23) = w0 := ⟨_, rfl⟩
  obtain ⟨O0, P0⟩ := box1 rfl hw0
  have hCL := checkList_any w0 A n cc xs (h.on P0)
  obtain ⟨x, hxx⟩ : ∃ z, chkB n xs = z := ⟨_, rfl⟩
  rw [hxx] at hCL hx ⊢
  rw [errV_pos _ hx] at hCL ⊢
  have HP := Lib.hid P0
  clear h P0 O0 hx hxx
  go_enter Try.func35, Try.ntmps35
  go_wp2_with fail
  refine hCL.mono ?_
  rintro e w1 ⟨rfl, P1⟩
  clear hCL
  go_wp2
  go_ret2
  exact ⟨rfl, HP.out.trans P1⟩
set_option maxHeartbeats 4000000 in
theorem covers_bad2 (w : World) (A : Option Addr) (n cc : Nat) (xs : List Cz) (h : RdC w A n cc xs) (c1 c2 : Int) (h0 : chkB n xs = 0) (hx : chkC (c1, c2) ≠ 0) :
    Calls Try.prog 35 #[.slice A n cc, .agg #[.int .i64 c1, .int .i64 c2]] w fun e w' => e = .returned (.tuple #[.bool false, errV (chkC (c1, c2))]) ∧ On w w' := by
  obtain ⟨w0, hw0⟩ : ∃ w0, w.alloc (.cells #[.int .i64 c1, .int .i64 c2] 23) = w0 := ⟨_, rfl⟩
  obtain ⟨O0, P0⟩ := box1 rfl hw0
  have hCL := checkList_any w0 A n cc xs (h.on P0)
  rw [h0, errV_zero] at hCL
  have e1 : chkL [(c1, c2)] = chkC (c1, c2) := by
    show (if chkC (c1, c2) = 0 then 0 else chkC (c1, c2)) = _
    rw [if_neg hx]
  obtain ⟨x, hxx⟩ : ∃ z, chkC (c1, c2) = z := ⟨_, rfl⟩
  rw [hxx] at e1 hx ⊢
  have HP := Lib.hid (And.intro P0 (And.intro O0 e1))
  have he := errV_pos _ hx
  rw [he]
  clear h P0 O0 hxx e1 h0
  go_enter Try.func35, Try.ntmps35
  go_wp2_with fail
  refine hCL.mono ?_
  rintro e w1 ⟨rfl, P1⟩
  clear hCL
  have O1 := HP.out.2.1.on P1
  obtain ⟨r0, r1⟩ := own2 O1
  obtain ⟨w2, hw2⟩ : ∃ w2, w1.alloc (.cells #[.int .i64 c1, .int .i64 c2] 23) = w2 := ⟨_, rfl⟩
  obtain ⟨O2, P2⟩ := box1 rfl hw2
  have hC := check_any w2 _ 1 1 _ (rdc_one O2)
  rw [HP.out.2.2, he] at hC
  have H2 := Lib.hid ((HP.out.1.trans P1).trans P2)
  clear O1 O2 P1 P2 he hx
  go_wp2_with fail
  refine hC.mono ?_
  rintro e w3 ⟨rfl, P3⟩
  clear hC r0 r1
  go_wp2
  go_ret2
  exact ⟨rfl, H2.out.trans P3⟩
set_option maxHeartbeats 4000000 in
theorem count_bad1 (w : World) (A : Option Addr) (n cc : Nat) (xs : List Cz) (h : RdC w A n cc xs) (v : Int) (hx : chkB n xs ≠ 0) :
    Calls Try.prog 36 #[.slice A n cc, .int .i64 v] w fun e w' => e = .returned (.tuple #[.int .i64 0, errV (chkB n xs)]) ∧ On w w' := by
  obtain ⟨w0, hw0⟩ : ∃ w0, w.alloc (.cells #[.int .i64 v] 3) = w0 := ⟨_, rfl⟩
  obtain ⟨O0, P0⟩ := ibox rfl hw0
  have hCL := checkList_any w0 A n cc xs (h.on P0)
  obtain ⟨x, hxx⟩ : ∃ z, chkB n xs = z := ⟨_, rfl⟩
  rw [hxx] at hCL hx ⊢
  rw [errV_pos _ hx] at hCL ⊢
  have HP := Lib.hid P0
  clear h P0 O0 hx hxx
  go_enter Try.func36, Try.ntmps36
  go_wp2_with fail
  refine hCL.mono ?_
  rintro e w1 ⟨rfl, P1⟩
  clear hCL
  go_wp2
  go_ret2
  exact ⟨rfl, HP.out.trans P1⟩
set_option maxHeartbeats 16000000 in
theorem count_bad2 (w : World) (A : Option Addr) (n cc : Nat) (l : List Cb) (h : RdC w A n cc (zl l)) (hl : ∀ x ∈ l, OkC x) (hn : n ≤ 1024) (v : Int) (hx : withE l v ≠ 0) :
    Calls Try.prog 36 #[.slice A n cc, .int .i64 v] w fun e w' => e = .returned (.tuple #[.int .i64 0, errV (withE l v)]) ∧ On w w' := by
  have hnl : l.length = n := by have := h.len; rwa [zl_len] at this
  have hcap := h.cap
  have hmax := h.max
  obtain ⟨w0, hw0⟩ : ∃ w0, w.alloc (.cells #[.int .i64 v] 3) = w0 := ⟨_, rfl⟩
  obtain ⟨V0, P0⟩ := ibox rfl hw0
  have hCL := checkList_any w0 A n cc (zl l) (h.on P0)
  rw [chkB_ok hn hl, errV_zero] at hCL
  unfold withE at hx ⊢
  by_cases hb : v < 0 ∨ 24 < v
  · rw [if_pos hb]
    rw [errV_pos 3 (by decide)]
    have HP := Lib.hid (And.intro P0 V0)
    clear h P0 V0 hx hl hnl
    by_cases h1 : v < 0
    · go_enter Try.func36, Try.ntmps36
      go_wp2_with fail
      refine hCL.mono ?_
      rintro e w1 ⟨rfl, P1⟩
      clear hCL
      have v0 := own1 (HP.out.2.on P1)
      go_wp2
      go_ret2
      exact ⟨rfl, HP.out.1.trans P1⟩
    · have h2 : 24 < v := by omega
      go_enter Try.func36, Try.ntmps36
      go_wp2_with fail
      refine hCL.mono ?_
      rintro e w1 ⟨rfl, P1⟩
      clear hCL
      have v0 := own1 (HP.out.2.on P1)
      go_wp2
      go_ret2
      exact ⟨rfl, HP.out.1.trans P1⟩
  · rw [if_neg hb] at hx ⊢
    obtain ⟨k, rfl⟩ : ∃ k : Nat, v = (k : Int) := ⟨v.toNat, by omega⟩
    have hk24 : k ≤ 24 := by omega
    have hk64 : k < 64 := by omega
    rw [Int.toNat_natCast] at hx ⊢
    have hnf : ¬ ∀ d ∈ l, evs d < 2 ^ k := fun hf => by rw [if_pos hf] at hx; exact hx rfl
    rw [if_neg hnf, errV_pos 10 (by decide)]
    have hs := shl1 k
    have hEv := fun W x (hx : x ∈ l) => events_ok W x (hl x hx)
    have HG := Lib.hid (And.intro P0 (And.intro V0 (And.intro (h.on P0) (And.intro hEv (And.intro hnf (And.intro hnl hs))))))
    clear h hl P0 V0 hEv hnf hnl hs hb hx
    go_enter Try.func36, Try.ntmps36
    go_wp2_with fail
    refine hCL.mono ?_
    rintro e w1 ⟨rfl, P1⟩
    clear hCL
    have v0 := own1 (HG.out.2.1.on P1)
    have HP1 := Lib.hid P1
    clear P1
    go_wp2
    go_loopw [24] (fun i wr => ∃ j : Nat, j ≤ n ∧ i = .int .i64 (j : Int) ∧ (∀ t, t < j → evs (l.getD t (0, 0)) < 2 ^ k) ∧ On w1 wr) (fun i _ => n - (intOf i).toNat)
    case atStart => exact ⟨0, by omega, rfl, fun t ht => by omega, On.refl _⟩
    case round =>
      obtain ⟨j, hj, rfl, hgood, hon⟩ := hrel
      have hon0 := HP1.out.trans hon
      by_cases hlt : j < n
      · have hjl : j < l.length := by rw [HG.out.2.2.2.2.2.1]; exact hlt
        have hm := getD_mem (d := (0, 0)) hjl
        have hEv := fun W => HG.out.2.2.2.1 W _ hm
        obtain ⟨ad, rfl, hb, hc0, hc1⟩ := (HG.out.2.2.1.on hon0).at_ hlt
        rw [zl_cell] at hc0 hc1
        simp only at hc0 hc1
        obtain ⟨⟨x, y⟩, hx⟩ : ∃ z, l.getD j (0, 0) = z := ⟨_, rfl⟩
        rw [hx] at hc0 hc1 hEv
        simp only at hc0 hc1
        have hdv : ((evs (x, y) : Nat) : Int) / 2 ^ k = ((evs (x, y) / 2 ^ k : Nat) : Int) := by rw [HG.out.2.2.2.2.2.2, ← Int.natCast_ediv]
        have hzz : evs (x, y) / 2 ^ k = 0 ↔ evs (x, y) < 2 ^ k := Nat.div_eq_zero_iff.trans ⟨fun h => h.resolve_left (by have := Nat.two_pow_pos k; omega), fun h => .inr h⟩
        obtain ⟨zz, hz⟩ : ∃ z, evs (x, y) / 2 ^ k = z := ⟨_, rfl⟩
        rw [hz] at hdv hzz
        obtain ⟨ev, hev⟩ : ∃ z, evs (x, y) = z := ⟨_, rfl⟩
        rw [hev] at hdv hEv hzz
        unfold cbV at hEv
        simp only at hEv
        have Z0 : Own (wr.alloc (.cells #[.int .i64 0, .int .i64 0] 23)) wr.heap.size 23 #[.int .i64 0, .int .i64 0] := Own.new _ _ _
        obtain ⟨k0, k1⟩ := own2 Z0
        have f0 := Z0.frozen 0
        have f1 := Z0.frozen 1
        have HE := Lib.hid (And.intro hEv (And.intro hon (And.intro hdv (And.intro hgood (And.intro hx (And.intro hev hzz))))))
        have HV := Lib.hid (HG.out.2.1.on hon0)
        clear hEv hon hon0 hdv hev hx hm hjl v0 hgood hzz hz
        go_upto_region 9 with fail
        clear k0 k1 f0 f1 Z0 hc0 hc1
        obtain ⟨w2, hw2⟩ : ∃ z, wr.alloc (.cells #[.int .i64 (x : Int), .int .i64 (y : Int)] 23) = z := ⟨_, rfl⟩
        obtain ⟨O2, P2⟩ := box1 rfl hw2
        rw [hw2]
        obtain ⟨bx, hbx⟩ : ∃ z, wr.heap.size = z := ⟨_, rfl⟩
        rw [hbx] at O2 ⊢
        have V2 := HV.out.on P2
        have hS0 : ∀ W, On w2 W → On w2 W ∧ W.cell? ⟨bx, 0, none⟩ = some (.int .i64 (x : Int)) ∧ W.cell? ⟨bx, 1, none⟩ = some (.int .i64 (y : Int)) ∧ W.cell? ⟨w.heap.size, 0, none⟩ = some (.int .i64 (k : Int)) := fun W k => ⟨k, (own2 (O2.on k)).1, (own2 (O2.on k)).2, own1 (V2.on k)⟩
        have HS := Lib.hid hS0
        have HP2 := Lib.hid P2
        have hS6 := hS0 w2 (On.refl _)
        have hdv := HE.out.2.2.1
        clear hS0 O2 P2 V2 hw2 hbx
        go_region_held3 (fun W => On w2 W ∧ W.cell? ⟨bx, 0, none⟩ = some (.int .i64 (x : Int)) ∧ W.cell? ⟨bx, 1, none⟩ = some (.int .i64 (y : Int)) ∧ W.cell? ⟨w.heap.size, 0, none⟩ = some (.int .i64 (k : Int)))
          (first | exact HS.out _ (On.refl _).drew | exact HS.out _ (On.refl _) | assumption | (go_split_ands; exact HS.out _ (On.trans (by assumption) PA)))
          (first
            | (go_at_call 60; (with_reducible refine (HE.out.1 _).mono ?_); rintro e wA ⟨rfl, PA⟩))
        rename_i hHe
        have hOn := (HE.out.2.1.trans HP2.out).trans hHe.1
        have HON := Lib.hid hOn
        clear hHe hOn hdv
        by_cases hz0 : zz = 0
        · subst hz0
          go_wp2
          go_roundw
          case rel =>
            refine ⟨j + 1, by omega, by go_num, fun t ht => ?_, HON.out⟩
            by_cases e : t = j
            · subst e
              rw [HE.out.2.2.2.2.1, HE.out.2.2.2.2.2.1]
              exact HE.out.2.2.2.2.2.2.1 rfl
            · exact HE.out.2.2.2.1 t (by omega)
          case measure => simp [intOf] <;> omega
        · have hzi : ((zz : Int) != 0) = true := by rw [bne_iff_ne]; omega
          go_wp2
          go_ret2
          exact ⟨rfl, HG.out.1.trans (HP1.out.trans HON.out)⟩
      · obtain rfl : j = n := by omega
        exact absurd (fun d hd => by
          obtain ⟨t, ht, rfl⟩ := List.getElem_of_mem hd
          have := hgood t (by rw [← HG.out.2.2.2.2.2.1]; exact ht)
          rwa [List.getD_eq_getElem?_getD, List.getElem?_eq_getElem ht] at this) HG.out.2.2.2.2.1
end Go.Proofs.Ythamjboppnlpdaa.Cu
