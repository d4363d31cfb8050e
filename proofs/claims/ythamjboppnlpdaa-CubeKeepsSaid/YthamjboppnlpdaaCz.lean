/-
  Package cube: Count of accepted lists.
-/
import Derived.Test.YthamjboppnlpdaaCy
namespace Go.Proofs.Ythamjboppnlpdaa.Cu
open Go.RowKit Go.Proofs.Ythamjboppnlpdaa.Sb
set_option linter.unusedVariables false
set_option maxRecDepth 100000
theorem U_le (v : Nat) (l : List Cb) (c : Cb) : U v l c ≤ 2 ^ v := by
  unfold U
  have := List.countP_le_length (p := fun s => holdsC c s && unc l s) (l := List.range (2 ^ v))
  rwa [List.length_range] at this
theorem wrap_small (p : Nat) (h : p ≤ 16777216) : wrap64 (p : Int) = (p : Int) := by unfold wrap64; omega
theorem wrap_smalli (p : Nat) (h : p ≤ 16777216) : IntKind.i64.wrap (p : Int) = (p : Int) := by rw [IntKind.wrap_i64]; omega
theorem wrap_less (p u : Nat) (h : p ≤ 16777216) (hu : u ≤ p) : IntKind.i64.wrap ((p : Int) - (u : Int)) = ((p - u : Nat) : Int) := by rw [IntKind.wrap_i64]; omega
theorem ibox {w w0 : World} {q : Nat} {a : Value} {t : TypeId} (hq : w.heap.size = q) (h : w.alloc (.cells #[a] t) = w0) : Own w0 q t #[a] ∧ On w w0 := by
  subst hq; subst h
  exact ⟨Own.new _ _ _, (On.refl w).alloc _⟩
theorem own1 {w : World} {p : Nat} {t : TypeId} {a : Value} (h : Own w p t #[a]) : w.cell? ⟨p, 0, none⟩ = some a := by rw [h.cell]; rfl
theorem okC_00 : OkC (0, 0) := ⟨by decide, by decide, by decide⟩
set_option maxHeartbeats 16000000 in
theorem count_ok (w : World) (A : Option Addr) (n cc : Nat) (l : List Cb) (h : RdC w A n cc (zl l)) (hl : ∀ x ∈ l, OkC x) (hn : n ≤ 1024) (v : Nat) (hv : v ≤ 24) (hfit : ∀ x ∈ l, evs x < 2 ^ v) :
    Calls Try.prog 36 #[.slice A n cc, .int .i64 (v : Int)] w fun e w' => e = .returned (.tuple #[.int .i64 ((2 ^ v - U v l (0, 0) : Nat) : Int), .nilIface]) ∧ On w w' := by
  have hnl : l.length = n := by have := h.len; rwa [zl_len] at this
  have hcap := h.cap
  have hmax := h.max
  obtain ⟨q, hq⟩ : ∃ q, w.heap.size = q := ⟨_, rfl⟩
  obtain ⟨w0, hw0⟩ : ∃ w0, w.alloc (.cells #[.int .i64 (v : Int)] 3) = w0 := ⟨_, rfl⟩
  obtain ⟨V0, P0⟩ := ibox hq hw0
  have hCL := checkList_any w0 A n cc (zl l) (h.on P0)
  rw [chkB_ok hn hl, errV_zero] at hCL
  have hUl := U_le v l (0, 0)
  have hp24 : 2 ^ v ≤ 16777216 := by
    have : (2 : Nat) ^ v ≤ 2 ^ 24 := Nat.pow_le_pow_right (by decide) hv
    exact this
  have hs := shl1 v
  have hG := fun (W : World) (gc : Nat) (hne : q ≠ gc) (k : Int) (R : RdC W A n cc (zl l)) (hgc : gc < W.heap.size) (hS : Own W gc 3 #[.int .i64 (IntKind.i64.wrap k)] ∧ Own W q 3 #[.int .i64 (v : Int)]) =>
    gaps_gen v hv 61 #[.pointer (some ⟨gc, 0, none⟩), .pointer (some ⟨q, 0, none⟩)] (some gc) true (fun W k => Own W gc 3 #[.int .i64 (IntKind.i64.wrap k)] ∧ Own W q 3 #[.int .i64 (v : Int)]) (fun _ _ _ a b => ⟨a.1.on b, a.2.on b⟩) enter_count1
      (fun W c k oc fc hr sk => (count1_ok W c oc v hv fc k gc q hne sk.1 sk.2).mono fun e w' ⟨h1, h2, h3, h4⟩ => ⟨h1, h2, h3, h4⟩) 25 (0, 0) (by omega) okC_00 (by rw [show evs (0, 0) = 0 from rfl]; exact Nat.two_pow_pos v) l (fun x hx => ⟨hl x hx, hfit x hx⟩) W A n cc k R (by omega) (fun g e => by injection e with e; omega) hS
  obtain ⟨uu, hu⟩ : ∃ u, U v l (0, 0) = u := ⟨_, rfl⟩
  rw [hu] at hG hUl ⊢
  have hEv := fun W x (hx : x ∈ l) => events_ok W x (hl x hx)
  have hdv : ∀ x ∈ l, ((evs x : Nat) : Int) / 2 ^ v = 0 := fun x hx => by
    rw [hs, ← Int.natCast_ediv, Nat.div_eq_of_lt (hfit x hx)]; rfl
  obtain ⟨p2, hp2⟩ : ∃ z, 2 ^ v = z := ⟨_, rfl⟩
  rw [hp2] at hUl hp24 hs ⊢
  have HG := Lib.hid (And.intro hG (And.intro P0 (And.intro V0 (And.intro (h.on P0) (And.intro hEv (And.intro hdv hnl))))))
  have HU := Lib.hid (And.intro hUl (And.intro hp24 hs))
  clear hu hG P0 V0 h hl hfit hEv hdv hUl hp24 hs hp2 hnl
  have hv64 : v < 64 := by omega
  go_enter Try.func36, Try.ntmps36
  subst hq
  go_wp2_with fail
  refine hCL.mono ?_
  rintro e w1 ⟨rfl, P1⟩
  clear hCL
  have v0 := own1 (HG.out.2.2.1.on P1)
  have HP1 := Lib.hid P1
  clear P1
  go_wp2
  go_loopw [24] (fun i wr => ∃ j : Nat, j ≤ n ∧ i = .int .i64 (j : Int) ∧ On w1 wr) (fun i _ => n - (intOf i).toNat)
  case atStart => exact ⟨0, by omega, rfl, On.refl _⟩
  case round =>
    obtain ⟨j, hj, rfl, hon⟩ := hrel
    have hon0 := HP1.out.trans hon
    by_cases hlt : j < n
    · have hjl : j < l.length := by rw [HG.out.2.2.2.2.2.2]; exact hlt
      have hm := getD_mem (d := (0, 0)) hjl
      have hdv := HG.out.2.2.2.2.2.1 _ hm
      have hEv := fun W => HG.out.2.2.2.2.1 W _ hm
      obtain ⟨ad, rfl, hb, hc0, hc1⟩ := (HG.out.2.2.2.1.on hon0).at_ hlt
      rw [zl_cell] at hc0 hc1
      simp only at hc0 hc1
      obtain ⟨⟨x, y⟩, hx⟩ : ∃ z, l.getD j (0, 0) = z := ⟨_, rfl⟩
      rw [hx] at hc0 hc1 hdv hEv
      simp only at hc0 hc1
      obtain ⟨ev, hev⟩ : ∃ z, evs (x, y) = z := ⟨_, rfl⟩
      rw [hev] at hdv hEv
      unfold cbV at hEv
      simp only at hEv
      have Z0 : Own (wr.alloc (.cells #[.int .i64 0, .int .i64 0] 23)) wr.heap.size 23 #[.int .i64 0, .int .i64 0] := Own.new _ _ _
      obtain ⟨k0, k1⟩ := own2 Z0
      have f0 := Z0.frozen 0
      have f1 := Z0.frozen 1
      have HE := Lib.hid (And.intro hEv (And.intro hon hdv))
      have HV := Lib.hid (HG.out.2.2.1.on hon0)
      clear hEv hon hon0 hdv hev hx hm hjl v0
      go_upto_region 9 with fail
      clear k0 k1 f0 f1 Z0 hc0 hc1
      obtain ⟨w2, hw2⟩ : ∃ z, wr.alloc (.cells #[.int .i64 (x : Int), .int .i64 (y : Int)] 23) = z := ⟨_, rfl⟩
      obtain ⟨O2, P2⟩ := box1 rfl hw2
      rw [hw2]
      obtain ⟨bx, hbx⟩ : ∃ z, wr.heap.size = z := ⟨_, rfl⟩
      rw [hbx] at O2 ⊢
      have V2 := HV.out.on P2
      have hS0 : ∀ W, On w2 W → On w2 W ∧ W.cell? ⟨bx, 0, none⟩ = some (.int .i64 (x : Int)) ∧ W.cell? ⟨bx, 1, none⟩ = some (.int .i64 (y : Int)) ∧ W.cell? ⟨w.heap.size, 0, none⟩ = some (.int .i64 (v : Int)) := fun W k => ⟨k, (own2 (O2.on k)).1, (own2 (O2.on k)).2, own1 (V2.on k)⟩
      have HS := Lib.hid hS0
      have HP2 := Lib.hid P2
      have hS6 := hS0 w2 (On.refl _)
      have hdv := HE.out.2.2
      clear hS0 O2 P2 V2 hw2 hbx
      go_region_held3 (fun W => On w2 W ∧ W.cell? ⟨bx, 0, none⟩ = some (.int .i64 (x : Int)) ∧ W.cell? ⟨bx, 1, none⟩ = some (.int .i64 (y : Int)) ∧ W.cell? ⟨w.heap.size, 0, none⟩ = some (.int .i64 (v : Int)))
        (first | exact HS.out _ (On.refl _).drew | exact HS.out _ (On.refl _) | assumption | (go_split_ands; exact HS.out _ (On.trans (by assumption) PA)))
        (first
          | (go_at_call 60; (with_reducible refine (HE.out.1 _).mono ?_); rintro e wA ⟨rfl, PA⟩))
      rename_i hHe
      have hOn := (HE.out.2.1.trans HP2.out).trans hHe.1
      have HON := Lib.hid hOn
      clear hHe hOn hdv
      go_wp2
      go_roundw
      case rel => exact ⟨j + 1, by omega, by go_num, HON.out⟩
      case measure => simp [intOf] <;> omega
    · obtain rfl : j = n := by omega
      obtain ⟨w2, hw2⟩ : ∃ z, z = wr := ⟨_, rfl⟩
      subst hw2
      have V2 := HG.out.2.2.1.on hon0
      have v2 := own1 V2
      have hs := HU.out.2.2
      have hqs := V2.lt
      have Z0 : Own (w2.alloc (.cells #[.int .i64 0] 3)) w2.heap.size 3 #[.int .i64 0] := Own.new _ _ _
      have k0 := own1 Z0
      have f0 := Z0.frozen 0
      have HV2 := Lib.hid (And.intro V2 hon0)
      have hwp := wrap_small p2 HU.out.2.1
      have hwpi := wrap_smalli p2 HU.out.2.1
      have hwr := wrap_less p2 uu HU.out.2.1 HU.out.1
      have HWR := Lib.hid (And.intro hwpi hwr)
      clear V2 hon hon0 v0 hwpi hwr
      go_upto_region 13 with fail
      clear k0 f0 Z0 v2 hs hwp
      obtain ⟨w3, hw3⟩ : ∃ z, w2.alloc (.cells #[.int .i64 (p2 : Int)] 3) = z := ⟨_, rfl⟩
      obtain ⟨O3, P3⟩ := ibox rfl hw3
      rw [hw3]
      obtain ⟨gc, hgc⟩ : ∃ z, w2.heap.size = z := ⟨_, rfl⟩
      rw [hgc] at O3 hqs ⊢
      have hs3 := O3.lt
      have hGG := HG.out.1 w3 gc (by omega) (p2 : Int) ((HG.out.2.2.2.1.on HV2.out.2).on P3) hs3 ⟨by rw [HWR.out.1]; exact O3, HV2.out.1.on P3⟩
      have HP3 := Lib.hid (And.intro ((HG.out.2.1.trans HV2.out.2).trans P3) hgc)
      unfold cbV at hGG
      clear hw3 O3 P3 hgc
      go_wp2_with fail
      refine hGG.mono ?_
      rintro e w4 ⟨rfl, G4, k', S4, hk⟩
      clear hGG
      have hkk := hk trivial
      subst hkk
      have o4 := S4.1
      rw [HWR.out.2] at o4
      have c4 := own1 o4
      have HP4 := Lib.hid (on_gr HP3.out.1 G4 (fun g e => by injection e with e; omega))
      clear S4 hk o4 G4
      go_wp2
      go_ret2
      exact ⟨rfl, HP4.out⟩
end Go.Proofs.Ythamjboppnlpdaa.Cu
