/-
  Package cube: the function that Count passes to gaps.
-/
import Derived.Test.YthamjboppnlpdaaCx
import Derived.Deep.RegionWith
namespace Go.Proofs.Ythamjboppnlpdaa.Cu
open Go.RowKit Go.Proofs.Ythamjboppnlpdaa.Sb
set_option linter.unusedVariables false
set_option maxRecDepth 100000
/-! ## Count -/
set_option maxHeartbeats 16000000 in
theorem count1_ok (w : World) (c : Cb) (hc : OkC c) (v : Nat) (hv : v ≤ 24) (hfit : evs c < 2 ^ v) (k : Int) (g gv : Nat) (hne : gv ≠ g) (hg : Own w g 3 #[.int .i64 (IntKind.i64.wrap k)]) (hgv : Own w gv 3 #[.int .i64 (v : Int)]) :
    Calls Try.prog 61 #[cbV c, .pointer (some ⟨g, 0, none⟩), .pointer (some ⟨gv, 0, none⟩)] w fun e w' => e = .returned (.bool true) ∧ w.grownBy w' (some g) ∧ Own w' g 3 #[.int .i64 (IntKind.i64.wrap (k - (2 ^ (v - pc (evs c)) : Nat)))] ∧ Own w' gv 3 #[.int .i64 (v : Int)] := by
  have hL := fun W => literals_ok W c hc
  have hpf := pc_fit hv hfit
  have hs := shl1 (v - pc (evs c))
  have hp24 : 2 ^ (v - pc (evs c)) ≤ 16777216 := by
    have : (2 : Nat) ^ (v - pc (evs c)) ≤ 2 ^ 24 := Nat.pow_le_pow_right (by decide) (by omega)
    exact this
  obtain ⟨p, hp⟩ : ∃ p, pc (evs c) = p := ⟨_, rfl⟩
  rw [hp] at hL hpf hs hp24 ⊢
  obtain ⟨c1, c2⟩ := c
  obtain ⟨q, hq⟩ : ∃ q, w.heap.size = q := ⟨_, rfl⟩
  obtain ⟨w0, hw0⟩ : ∃ w0, w.alloc (.cells #[.int .i64 (c1 : Int), .int .i64 (c2 : Int)] 23) = w0 := ⟨_, rfl⟩
  obtain ⟨O0, P0⟩ := box1 hq hw0
  have G0 := hg.on P0
  have V0 := hgv.on P0
  have hgq : g < q := by rw [← hq]; exact hg.lt
  unfold cbV at *
  simp only at hL ⊢
  clear hc hfit hp
  obtain ⟨pw, hpw⟩ : ∃ z, 2 ^ (v - p) = z := ⟨_, rfl⟩
  rw [hpw] at hs hp24 ⊢
  have hw : IntKind.i64.wrap (IntKind.i64.wrap k - (pw : Int)) = IntKind.i64.wrap (k - (pw : Int)) := by rw [IntKind.wrap_i64, IntKind.wrap_i64, IntKind.wrap_i64]; omega
  obtain ⟨ik, hik⟩ : ∃ z, IntKind.i64.wrap k = z := ⟨_, rfl⟩
  obtain ⟨ik2, hik2⟩ : ∃ z, IntKind.i64.wrap (k - (pw : Int)) = z := ⟨_, rfl⟩
  rw [hik] at hw G0
  rw [hik2] at hw ⊢
  obtain ⟨d, hd⟩ : ∃ d, v - p = d := ⟨_, rfl⟩
  have hvp : ((v : Int) - (p : Int)) = (d : Int) := by omega
  have hd24 : d ≤ 24 := by omega
  have hd64 : d < 64 := by omega
  have hwd : IntKind.i64.wrap (d : Int) = (d : Int) := by rw [IntKind.wrap_i64]; omega
  rw [hd] at hs
  have hwp : IntKind.i64.wrap (pw : Int) = (pw : Int) := by rw [IntKind.wrap_i64]; omega
  clear hd hpf hp24
  have hS0 : ∀ W, On w0 W → On w0 W ∧ W.cell? ⟨q, 0, none⟩ = some (.int .i64 (c1 : Int)) ∧ W.cell? ⟨q, 1, none⟩ = some (.int .i64 (c2 : Int)) ∧ W.cell? ⟨gv, 0, none⟩ = some (.int .i64 (v : Int)) ∧ W.cell? ⟨g, 0, none⟩ = some (.int .i64 ik) ∧ W.frozen? ⟨g, 0, none⟩ = false := fun W k => ⟨k, (own2 (O0.on k)).1, (own2 (O0.on k)).2, by rw [(V0.on k).cell]; rfl, by rw [(G0.on k).cell]; rfl, (G0.on k).frozen 0⟩
  have HS := Lib.hid hS0
  have HL := Lib.hid hL
  have HQ := Lib.hid (And.intro P0 (And.intro G0 (And.intro V0 (And.intro hgq hne))))
  clear hL P0 O0 G0 V0 hg hgv hS0 hik hik2 hpw
  go_enter Try.func61, Try.ntmps61
  subst hq
  have hS6 := HS.out w0 (On.refl _)
  obtain ⟨_, d0, d1, d2, d3, d4⟩ := hS6
  go_wp2
  go_region_with ((go_at_call 62; (with_reducible refine (HL.out _).mono ?_); rintro e wA ⟨rfl, PA⟩; have hA := HS.out wA (On.trans (On.refl _).drew PA); obtain ⟨hA0, hA1, hA2, hA3, hA4, hA5⟩ := hA))
  all_goals
    have GA := HQ.out.2.1.on hA0
    have VA := HQ.out.2.2.1.on hA0
    have G1 := GA.set_ 0 (.int .i64 ik2)
    have V1 := VA.far (p := ⟨g, 0, none⟩) (by show gv ≠ g; exact HQ.out.2.2.2.2) (.int .i64 ik2)
    have GR := gr_trans (gr_on (HQ.out.1.trans hA0)) (cell_gr (p := ⟨g, 0, none⟩) rfl (.int .i64 ik2)) (.inl rfl)
    have HF := Lib.hid (And.intro GR (And.intro G1 V1))
    clear GA VA G1 V1 GR
    go_wp2
    go_ret
    exact ⟨rfl, HF.out.1, HF.out.2.1, HF.out.2.2⟩
end Go.Proofs.Ythamjboppnlpdaa.Cu
