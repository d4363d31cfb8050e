/-
  The specification of cubes: CheckList, Within, Size; the law's valid.
-/
import Derived.Test.YthamjboppnlpdaaDc
namespace Go.Proofs.Ythamjboppnlpdaa.Cu
open Go.RowKit Go.Proofs.Ythamjboppnlpdaa.Sb
set_option linter.unusedVariables false
set_option maxRecDepth 100000
set_option maxHeartbeats 8000000 in
theorem rchecklist_any (w : World) (A : Option Addr) (n c : Nat) (xs : List Cz) (h : RdC w A n c xs) :
    Calls Try.prog 31 #[.slice A n c] w fun e w' => e = .returned (.int .i64 (chkB n xs : Nat)) ∧ On w w' := by
  have hn := h.len
  have hcap := h.cap
  have hmax := h.max
  unfold chkB
  by_cases hbig : 1024 < n
  · rw [if_pos hbig]
    go_enter Try.func31, Try.ntmps31
    go_wp2
    go_ret
    exact ⟨rfl, On.refl _⟩
  · rw [if_neg hbig]
    obtain ⟨er, her⟩ : ∃ er, chkL xs = er := ⟨_, rfl⟩
    rw [her]
    have HR := Lib.hid (And.intro h (And.intro hn her))
    clear h hn her
    go_enter Try.func31, Try.ntmps31
    go_wp2
    go_loopw [3] (fun i wr => ∃ j : Nat, j ≤ n ∧ i = .int .i64 (j : Int) ∧ chkL (xs.drop j) = er ∧ On w wr) (fun i _ => n - (intOf i).toNat)
    case atStart => exact ⟨0, by omega, rfl, by rw [List.drop_zero]; exact HR.out.2.2, On.refl _⟩
    case round =>
      obtain ⟨j, hj, rfl, hgood, hon⟩ := hrel
      by_cases hlt : j < n
      · have hd := chkL_drop (xs := xs) (j := j) (by rw [HR.out.2.1]; exact hlt)
        obtain ⟨ad, rfl, hb, hc0, hc1⟩ := (HR.out.1.on hon).at_ hlt
        rw [hgood] at hd
        obtain ⟨⟨x1, x2⟩, hx⟩ : ∃ x, xs.getD j (0, 0) = x := ⟨_, rfl⟩
        rw [hx] at hc0 hc1 hd
        simp only at hc0 hc1
        have hC := rcheck_any wr (x1, x2)
        unfold czV at hC
        simp only at hC
        obtain ⟨x, hxx⟩ : ∃ x, chkC (x1, x2) = x := ⟨_, rfl⟩
        rw [hxx] at hC hd
        have HD := Lib.hid (And.intro hd hon)
        clear hgood hx hon hxx hd
        by_cases he : x = 0
        · subst he
          go_wp2_with fail
          refine hC.mono ?_
          rintro e w4 ⟨rfl, P4⟩
          clear hC
          go_wp2
          go_roundw
          case rel => exact ⟨j + 1, by omega, by go_num, by have := HD.out.1; rw [if_pos trivial] at this; exact this.symm, HD.out.2.trans P4⟩
          case measure => simp [intOf] <;> omega
        · have hei : ((x : Int) != 0) = true := by rw [bne_iff_ne]; omega
          go_wp2_with fail
          refine hC.mono ?_
          rintro e w4 ⟨rfl, P4⟩
          clear hC
          go_wp2
          go_ret
          exact ⟨by have := HD.out.1; rw [if_neg he] at this; rw [this]; rfl, HD.out.2.trans P4⟩
      · obtain rfl : j = n := by omega
        have e : xs.drop j = [] := List.drop_of_length_le (by rw [HR.out.2.1]; omega)
        rw [e] at hgood
        have hg : er = 0 := hgood.symm
        subst hg
        clear hgood e
        go_wp2
        go_ret
        exact ⟨rfl, hon⟩
/-- the number of the error of a list over so many events -/
def withE (l : List Cb) (v : Int) : Nat := if v < 0 ∨ 24 < v then 3 else if ∀ d ∈ l, evs d < 2 ^ v.toNat then 0 else 10
set_option maxHeartbeats 8000000 in
theorem rwithin_ok (w : World) (A : Option Addr) (n c : Nat) (l : List Cb) (h : RdC w A n c (zl l)) (ho : ∀ x ∈ l, OkC x) (hn1 : n ≤ 2000) (v : Int) :
    Calls Try.prog 37 #[.slice A n c, .int .i64 v] w fun e w' => e = .returned (.int .i64 (withE l v : Nat)) ∧ On w w' := by
  have hn : l.length = n := by have := h.len; rwa [zl_len] at this
  have hcap := h.cap
  have hmax := h.max
  unfold withE
  by_cases hbad : v < 0 ∨ 24 < v
  · rw [if_pos hbad]
    by_cases h1 : v < 0
    · go_enter Try.func37, Try.ntmps37
      go_wp2
      go_ret
      exact ⟨rfl, On.refl _⟩
    · have h2 : 24 < v := by omega
      go_enter Try.func37, Try.ntmps37
      go_wp2
      go_ret
      exact ⟨rfl, On.refl _⟩
  · rw [if_neg hbad]
    obtain ⟨k, rfl⟩ : ∃ k : Nat, v = (k : Int) := ⟨v.toNat, by omega⟩
    have hk24 : k ≤ 24 := by omega
    have hk64 : k < 64 := by omega
    rw [Int.toNat_natCast]
    obtain ⟨er, her⟩ : ∃ er, (if ∀ d ∈ l, evs d < 2 ^ k then 0 else 10 : Nat) = er := ⟨_, rfl⟩
    rw [her]
    have hs := shl1 k
    have HR := Lib.hid (And.intro h (And.intro hn (And.intro ho (And.intro her hs))))
    clear h hn ho her hs hbad
    go_enter Try.func37, Try.ntmps37
    go_wp2
    go_loopw [5] (fun i wr => ∃ j : Nat, j ≤ n ∧ i = .int .i64 (j : Int) ∧ (∀ t, t < j → evs (l.getD t (0, 0)) < 2 ^ k) ∧ On w wr) (fun i _ => n - (intOf i).toNat)
    case atStart => exact ⟨0, by omega, rfl, fun t ht => by omega, On.refl _⟩
    case round =>
      obtain ⟨j, hj, rfl, hgood, hon⟩ := hrel
      by_cases hlt : j < n
      · have hjl : j < l.length := by rw [HR.out.2.1]; exact hlt
        have hm := getD_mem (d := (0, 0)) hjl
        have hok := HR.out.2.2.1 _ hm
        obtain ⟨ad, rfl, hb, hc0, hc1⟩ := (HR.out.1.on hon).at_ hlt
        rw [zl_cell] at hc0 hc1
        simp only at hc0 hc1
        obtain ⟨⟨x, y⟩, hx⟩ : ∃ z, l.getD j (0, 0) = z := ⟨_, rfl⟩
        rw [hx] at hc0 hc1 hok hm
        simp only at hc0 hc1
        have o1 := or_nat x y (lt63 hok.1) (lt63 hok.2.1)
        have hev : x ||| y = evs (x, y) := rfl
        rw [hev] at o1
        have hdv : ((evs (x, y) : Nat) : Int) / 2 ^ k = ((evs (x, y) / 2 ^ k : Nat) : Int) := by rw [HR.out.2.2.2.2, ← Int.natCast_ediv]
        have hzz : evs (x, y) / 2 ^ k = 0 ↔ evs (x, y) < 2 ^ k := Nat.div_eq_zero_iff.trans ⟨fun h => h.resolve_left (by have := Nat.two_pow_pos k; omega), fun h => .inr h⟩
        obtain ⟨zz, hz⟩ : ∃ z, evs (x, y) / 2 ^ k = z := ⟨_, rfl⟩
        rw [hz] at hdv hzz
        obtain ⟨ev, hevv⟩ : ∃ z, evs (x, y) = z := ⟨_, rfl⟩
        rw [hevv] at hdv hzz o1
        have HX := Lib.hid (And.intro hgood (And.intro hon (And.intro hx (And.intro hevv (And.intro hzz hm)))))
        clear hgood hon hx hevv hzz hok hm hev hz hjl
        by_cases hz0 : zz = 0
        · subst hz0
          have hdv0 : (ev : Int) / 2 ^ k = 0 := hdv
          go_wp2_with fail
          go_quiet (fail)
          all_goals go_wp2
          go_roundw
          case rel =>
            refine ⟨j + 1, by omega, by go_num, fun t ht => ?_, On.drewN HX.out.2.1 _⟩
            by_cases e : t = j
            · subst e
              rw [HX.out.2.2.1, HX.out.2.2.2.1]
              exact HX.out.2.2.2.2.1.1 trivial
            · exact HX.out.1 t (by omega)
          case measure => simp [intOf] <;> omega
        · have hzi : ((zz : Int) != 0) = true := by rw [bne_iff_ne]; omega
          go_wp2_with fail
          go_quiet (fail)
          all_goals go_wp2
          go_ret
          refine ⟨?_, On.drewN HX.out.2.1 _⟩
          have hbad : ¬ ∀ d ∈ l, evs d < 2 ^ k := fun hall => by
            have := hall _ HX.out.2.2.2.2.2
            rw [HX.out.2.2.2.1] at this
            exact hz0 (HX.out.2.2.2.2.1.2 this)
          have := HR.out.2.2.2.1
          rw [if_neg hbad] at this
          rw [← this]
          rfl
      · obtain rfl : j = n := by omega
        have hall : ∀ d ∈ l, evs d < 2 ^ k := fun d hd => by
          obtain ⟨t, ht, rfl⟩ := List.getElem_of_mem hd
          have := hgood t (by rw [← HR.out.2.1]; exact ht)
          rwa [List.getD_eq_getElem?_getD, List.getElem?_eq_getElem ht] at this
        have hz := HR.out.2.2.2.1
        rw [if_pos hall] at hz
        subst hz
        clear hgood hall
        go_wp2
        go_ret
        exact ⟨rfl, hon⟩
theorem pc_evs {a : Cb} (h : OkC a) : pc a.1 + pc a.2 = pc (evs a) := by
  have := pc_add a.1 a.2
  rw [h.2.2, pc_zero] at this
  unfold evs
  omega
set_option maxHeartbeats 8000000 in
theorem rsize_ok (w : World) (a : Cb) (ha : OkC a) :
    Calls Try.prog 43 #[cbV a] w fun e w' => e = .returned (.int .i64 (pc (evs a) : Nat)) ∧ On w w' := by
  have h1 := fun W => rbits_ok W a.1 ha.1
  have h2 := fun W => rbits_ok W a.2 ha.2.1
  rw [← pc_evs ha]
  have l1 := pc_le a.1
  have l2 := pc_le a.2
  obtain ⟨a1, a2⟩ := a
  unfold cbV
  simp only at h1 h2 l1 l2 ⊢
  obtain ⟨p1, hp1⟩ : ∃ z, pc a1 = z := ⟨_, rfl⟩
  obtain ⟨p2, hp2⟩ : ∃ z, pc a2 = z := ⟨_, rfl⟩
  rw [hp1] at h1 l1 ⊢
  rw [hp2] at h2 l2 ⊢
  clear ha hp1 hp2
  obtain ⟨pm, hpm⟩ : ∃ z, p1 + p2 = z := ⟨_, rfl⟩
  have hsum2 : ((p1 : Int) + (p2 : Int)) = (pm : Int) := by omega
  have hsum : IntKind.i64.wrap ((p1 : Int) + (p2 : Int)) = (p1 : Int) + (p2 : Int) := by rw [IntKind.wrap_i64]; omega
  rw [hpm]
  have HSUM := Lib.hid hsum2
  clear hsum2 hpm l1 l2
  obtain ⟨q, hq⟩ : ∃ q, w.heap.size = q := ⟨_, rfl⟩
  obtain ⟨w0, hw0⟩ : ∃ w0, w.alloc (.cells #[.int .i64 (a1 : Int), .int .i64 (a2 : Int)] 23) = w0 := ⟨_, rfl⟩
  obtain ⟨O0, P0⟩ := box1 hq hw0
  have hS0 : ∀ W, On w0 W → On w0 W ∧ W.cell? ⟨q, 0, none⟩ = some (.int .i64 (a1 : Int)) ∧ W.cell? ⟨q, 1, none⟩ = some (.int .i64 (a2 : Int)) := fun W k => ⟨k, (own2 (O0.on k)).1, (own2 (O0.on k)).2⟩
  have HS := Lib.hid hS0
  have HK := Lib.hid (And.intro h1 (And.intro h2 P0))
  clear h1 h2 P0 O0 hS0
  go_enter Try.func43, Try.ntmps43
  subst hq
  have hS6 := HS.out w0 (On.refl _)
  go_wp2
  go_region_held3 (fun W => On w0 W ∧ W.cell? ⟨w.heap.size, 0, none⟩ = some (.int .i64 (a1 : Int)) ∧ W.cell? ⟨w.heap.size, 1, none⟩ = some (.int .i64 (a2 : Int)))
    (first | exact HS.out _ (On.refl _).drew | exact HS.out _ (On.refl _) | assumption)
    (first
      | (go_at_call 51; (with_reducible refine (HK.out.1 _).mono ?_); rintro e wA ⟨rfl, rfl⟩)
      | (go_at_call 51; (with_reducible refine (HK.out.2.1 _).mono ?_); rintro e wA ⟨rfl, rfl⟩))
  rename_i hHe
  have hOn := HK.out.2.2.trans hHe.1
  clear hHe
  go_wp2
  go_ret
  refine ⟨?_, hOn⟩
  simp [HSUM.out]
set_option maxHeartbeats 4000000 in
theorem valid12_any (w : World) (A : Option Addr) (n c : Nat) (xs : List Cz) (h : RdC w A n c xs) :
    Calls Try.prog 41 #[.slice A n c] w fun e w' => e = .returned (.bool (decide (n ≤ 12 ∧ chkL xs = 0))) ∧ On w w' := by
  have hcap := h.cap
  have hmax := h.max
  have hC := rchecklist_any w A n c xs h
  unfold chkB at hC
  clear h
  by_cases hn : n ≤ 12
  · rw [if_neg (by omega)] at hC
    obtain ⟨x, hx⟩ : ∃ x, chkL xs = x := ⟨_, rfl⟩
    rw [hx] at hC ⊢
    clear hx
    have hd : decide (n ≤ 12 ∧ x = 0) = decide (x = 0) := by simp [hn]
    rw [hd]
    clear hd
    go_enter Try.func41, Try.ntmps41
    go_wp2_with fail
    refine hC.mono ?_
    rintro e w1 ⟨rfl, P1⟩
    clear hC
    go_wp2
    go_ret
    refine ⟨?_, P1⟩
    simp [beqz]
  · have hd : decide (n ≤ 12 ∧ chkL xs = 0) = false := by simp [hn]
    rw [hd]
    clear hd hC
    go_enter Try.func41, Try.ntmps41
    go_wp2
    go_ret
    refine ⟨?_, On.refl _⟩
    simp
theorem is4_any (w : World) : Calls Try.prog 42 #[errV 4, .int .i64 4] w fun e w' => e = .returned (.bool true) ∧ w = w' := by
  rw [errV_pos 4 (by decide)]
  have hta : ∀ W, (Instr.typeAssert (.iface 62 (.int .i64 4)) 27 62 true).run Try.prog W = .ok (.tuple #[.int .i64 4, .bool true]) W := fun _ => by kernel_rfl
  have e4 : ((4 : Nat) : Int) = 4 := rfl
  rw [e4]
  go_enter Try.func42, Try.ntmps42
  go_wp2
  go_ret
  exact ⟨rfl, rfl⟩
end Go.Proofs.Ythamjboppnlpdaa.Cu
