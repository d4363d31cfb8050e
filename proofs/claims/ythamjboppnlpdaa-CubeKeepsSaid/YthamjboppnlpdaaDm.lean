/-
  events, literals: also no fewer draws; cmp.Or of three ints.
-/
import Derived.Test.YthamjboppnlpdaaDd
namespace Go.Proofs.Ythamjboppnlpdaa.Cu
open Go.RowKit Go.Proofs.Ythamjboppnlpdaa.Sb
set_option linter.unusedVariables false
set_option maxRecDepth 100000
/-- w' goes on from w, and no fewer orders have been drawn -/
def Gw (w w' : World) : Prop := On w w' ∧ w.drawn ≤ w'.drawn
theorem Gw.refl (w : World) : Gw w w := ⟨On.refl w, Nat.le_refl _⟩
theorem Gw.trans {a b c : World} (h : Gw a b) (k : Gw b c) : Gw a c := ⟨h.1.trans k.1, Nat.le_trans h.2 k.2⟩
theorem Gw.drew {a b : World} (h : Gw a b) : Gw a b.drew := ⟨h.1.drew, Nat.le_succ_of_le h.2⟩
theorem Gw.alloc {a b : World} (h : Gw a b) (o : Obj) : Gw a (b.alloc o) := ⟨h.1.alloc o, h.2⟩
set_option maxHeartbeats 2000000 in
theorem events_g (w : World) (a : Cb) (ha : OkC a) :
    Calls Try.prog 60 #[cbV a] w fun e w' => e = .returned (.int .i64 (evs a : Nat)) ∧ Gw w w' := by
  have h1 := or_nat a.1 a.2 (lt63 ha.1) (lt63 ha.2.1)
  unfold evs cbV
  obtain ⟨ay, an⟩ := a
  simp only at h1 ⊢
  obtain ⟨q, hq⟩ : ∃ q, w.heap.size = q := ⟨_, rfl⟩
  obtain ⟨w0, hw0⟩ : ∃ w0, w.alloc (.cells #[.int .i64 (ay : Int), .int .i64 (an : Int)] 23) = w0 := ⟨_, rfl⟩
  obtain ⟨O0, P0⟩ := box1 hq hw0
  have hd : w0.drawn = w.drawn := by rw [← hw0]; rfl
  obtain ⟨r0, r1⟩ := own2 O0
  have HP := Lib.hid (show Gw w w0 from ⟨P0, by omega⟩)
  clear P0 O0 ha hd
  go_enter Try.func60, Try.ntmps60
  subst hq
  go_wp2
  go_ret
  exact ⟨rfl, HP.out⟩
set_option maxHeartbeats 2000000 in
theorem literals_g (w : World) (a : Cb) (ha : OkC a) :
    Calls Try.prog 62 #[cbV a] w fun e w' => e = .returned (.int .i64 (pc (evs a) : Nat)) ∧ Gw w w' := by
  have hE := fun W => events_g W a ha
  have hN := fun W => count_any W (evs a : Nat)
  rw [cut_nat _ (evs_lt ha)] at hN
  obtain ⟨k, hk⟩ : ∃ k, evs a = k := ⟨_, rfl⟩
  rw [hk] at hE hN ⊢
  obtain ⟨p, hp⟩ : ∃ p, pc k = p := ⟨_, rfl⟩
  rw [hp] at hN ⊢
  unfold cbV at *
  obtain ⟨ay, an⟩ := a
  simp only at hE ⊢
  clear ha hk hp
  obtain ⟨q, hq⟩ : ∃ q, w.heap.size = q := ⟨_, rfl⟩
  obtain ⟨w0, hw0⟩ : ∃ w0, w.alloc (.cells #[.int .i64 (ay : Int), .int .i64 (an : Int)] 23) = w0 := ⟨_, rfl⟩
  obtain ⟨O0, P0⟩ := box1 hq hw0
  have hd : w0.drawn = w.drawn := by rw [← hw0]; rfl
  obtain ⟨r0, r1⟩ := own2 O0
  have HP := Lib.hid (show Gw w w0 from ⟨P0, by omega⟩)
  clear P0 O0 hd
  have hE0 := hE w0
  clear hE
  go_enter Try.func62, Try.ntmps62
  subst hq
  go_wp2_with fail
  refine hE0.mono ?_
  rintro e w1 ⟨rfl, P1⟩
  clear hE0
  go_wp2_with fail
  refine (hN _).mono ?_
  rintro e w2 ⟨rfl, rfl⟩
  go_wp2
  go_ret
  exact ⟨rfl, HP.out.trans P1⟩
/-- the first that is not zero -/
def or3 (a b c : Int) : Int := if a ≠ 0 then a else if b ≠ 0 then b else c
set_option maxHeartbeats 2000000 in
theorem or3_any (w : World) (g : Nat) (a b c : Int) (h0 : w.cell? ⟨g, 0, none⟩ = some (.int .i64 a)) (h1 : w.cell? ⟨g, 1, none⟩ = some (.int .i64 b)) (h2 : w.cell? ⟨g, 2, none⟩ = some (.int .i64 c)) :
    Calls Try.prog 69 #[.slice (some ⟨g, 0, none⟩) 3 3] w fun e w' => e = .returned (.int .i64 (or3 a b c)) ∧ w = w' := by
  go_enter Try.func69, Try.ntmps69
  go_wp2
  go_loopw [8] (fun i wr => ∃ k : Nat, k ≤ 3 ∧ i = .int .i64 (k : Int) ∧ w = wr ∧ (0 < k → a = 0) ∧ (1 < k → b = 0) ∧ (2 < k → c = 0)) (fun i _ => 3 - (intOf i).toNat)
  case atStart => exact ⟨0, by omega, rfl, rfl, by omega, by omega, by omega⟩
  case round =>
    obtain ⟨k, hk, rfl, rfl, ha, hb, hc⟩ := hrel
    have hk4 : k = 0 ∨ k = 1 ∨ k = 2 ∨ k = 3 := by omega
    rcases hk4 with rfl | rfl | rfl | rfl
    · by_cases hz : a = 0
      · subst hz
        go_wp2
        go_roundw
        case rel => exact ⟨1, by omega, by go_num, by first | trivial | rfl, fun _ => by first | trivial | rfl, by omega, by omega⟩
        all_goals (first | decide | (simp [intOf]; omega))
      · have hzb : (a != 0) = true := by rw [bne_iff_ne]; exact hz
        go_wp2
        go_ret
        exact ⟨by unfold or3; rw [if_pos hz]; rfl, rfl⟩
    · have ha0 := ha (by omega)
      by_cases hz : b = 0
      · subst hz
        go_wp2
        go_roundw
        case rel => exact ⟨2, by omega, by go_num, by first | trivial | rfl, fun _ => ha0, fun _ => by first | trivial | rfl, by omega⟩
        all_goals (first | decide | (simp [intOf]; omega))
      · have hzb : (b != 0) = true := by rw [bne_iff_ne]; exact hz
        go_wp2
        go_ret
        exact ⟨by unfold or3; rw [if_neg (by simp [ha0]), if_pos hz]; rfl, rfl⟩
    · have ha0 := ha (by omega)
      have hb0 := hb (by omega)
      by_cases hz : c = 0
      · subst hz
        go_wp2
        go_roundw
        case rel => exact ⟨3, by omega, by go_num, by first | trivial | rfl, fun _ => ha0, fun _ => hb0, fun _ => by first | trivial | rfl⟩
        all_goals (first | decide | (simp [intOf]; omega))
      · have hzb : (c != 0) = true := by rw [bne_iff_ne]; exact hz
        go_wp2
        go_ret
        exact ⟨by unfold or3; rw [if_neg (by simp [ha0]), if_neg (by simp [hb0])]; rfl, rfl⟩
    · have ha0 := ha (by omega)
      have hb0 := hb (by omega)
      have hc0 := hc (by omega)
      go_wp2
      go_ret
      exact ⟨by unfold or3; rw [if_neg (by simp [ha0]), if_neg (by simp [hb0]), hc0]; rfl, rfl⟩
theorem or3_new (w : World) (t : TypeId) (a b c : Int) :
    Calls Try.prog 69 #[.slice (some ⟨w.heap.size, 0, none⟩) 3 3] (w.alloc (.cells #[.int .i64 a, .int .i64 b, .int .i64 c] t)) fun e w' => e = .returned (.int .i64 (or3 a b c)) ∧ w.alloc (.cells #[.int .i64 a, .int .i64 b, .int .i64 c] t) = w' := by
  have O := Own.new w t #[.int .i64 a, .int .i64 b, .int .i64 c]
  refine or3_any _ _ a b c ?_ ?_ ?_
  · rw [O.cell]; rfl
  · rw [O.cell]; rfl
  · rw [O.cell]; rfl
/-- by which cubes are sorted -/
def cmpC (a b : Cb) : Int := or3 (cmpI (pc (evs a) : Nat) (pc (evs b) : Nat)) (cmpI (a.1 : Nat) (b.1 : Nat)) (cmpI (a.2 : Nat) (b.2 : Nat))
set_option maxHeartbeats 8000000 in
theorem compare_g (w : World) (a b : Cb) (ha : OkC a) (hb : OkC b) :
    Calls Try.prog 56 #[cbV a, cbV b] w fun e w' => e = .returned (.int .i64 (cmpC a b)) ∧ Gw w w' := by
  have hL1 := fun W => literals_g W a ha
  have hL2 := fun W => literals_g W b hb
  unfold cmpC
  obtain ⟨p1, hp1⟩ : ∃ z, pc (evs a) = z := ⟨_, rfl⟩
  obtain ⟨p2, hp2⟩ : ∃ z, pc (evs b) = z := ⟨_, rfl⟩
  rw [hp1] at hL1 ⊢
  rw [hp2] at hL2 ⊢
  obtain ⟨a1, a2⟩ := a
  obtain ⟨b1, b2⟩ := b
  have hI1 := fun W => cmpi_any W (p1 : Int) (p2 : Int)
  have hI2 := fun W => cmpi_any W (a1 : Int) (b1 : Int)
  have hI3 := fun W => cmpi_any W (a2 : Int) (b2 : Int)
  simp only at hL1 hL2 ⊢
  obtain ⟨r1, hr1⟩ : ∃ r, cmpI (p1 : Int) (p2 : Int) = r := ⟨_, rfl⟩
  obtain ⟨r2, hr2⟩ : ∃ r, cmpI (a1 : Int) (b1 : Int) = r := ⟨_, rfl⟩
  obtain ⟨r3, hr3⟩ : ∃ r, cmpI (a2 : Int) (b2 : Int) = r := ⟨_, rfl⟩
  rw [hr1] at hI1 ⊢
  rw [hr2] at hI2 ⊢
  rw [hr3] at hI3 ⊢
  unfold cbV at *
  simp only at hL1 hL2 ⊢
  clear ha hb hp1 hp2 hr1 hr2 hr3
  obtain ⟨q, hq⟩ : ∃ q, w.heap.size = q := ⟨_, rfl⟩
  obtain ⟨w0, hw0⟩ : ∃ w0, (w.alloc (.cells #[.int .i64 (a1 : Int), .int .i64 (a2 : Int)] 23)).alloc (.cells #[.int .i64 (b1 : Int), .int .i64 (b2 : Int)] 23) = w0 := ⟨_, rfl⟩
  obtain ⟨O0, E0, P0⟩ := box2 hq hw0
  have hd : w0.drawn = w.drawn := by rw [← hw0]; rfl
  have hS0 : ∀ W, Gw w0 W → Gw w0 W ∧ W.cell? ⟨q, 0, none⟩ = some (.int .i64 (a1 : Int)) ∧ W.cell? ⟨q, 1, none⟩ = some (.int .i64 (a2 : Int)) ∧ W.cell? ⟨q + 1, 0, none⟩ = some (.int .i64 (b1 : Int)) ∧ W.cell? ⟨q + 1, 1, none⟩ = some (.int .i64 (b2 : Int)) := fun W k => ⟨k, (own2 (O0.on k.1)).1, (own2 (O0.on k.1)).2, (own2 (E0.on k.1)).1, (own2 (E0.on k.1)).2⟩
  have HS := Lib.hid hS0
  have HK := Lib.hid (And.intro hL1 (And.intro hL2 (And.intro hI1 (And.intro hI2 (And.intro hI3 (show Gw w w0 from ⟨P0, by omega⟩))))))
  clear hL1 hL2 hI1 hI2 hI3 O0 E0 hS0 P0 hd
  go_enter Try.func56, Try.ntmps56
  subst hq
  have hS6 := HS.out w0 (Gw.refl _)
  go_wp2
  go_region_held3 (fun W => Gw w0 W ∧ W.cell? ⟨w.heap.size, 0, none⟩ = some (.int .i64 (a1 : Int)) ∧ W.cell? ⟨w.heap.size, 1, none⟩ = some (.int .i64 (a2 : Int)) ∧ W.cell? ⟨w.heap.size + 1, 0, none⟩ = some (.int .i64 (b1 : Int)) ∧ W.cell? ⟨w.heap.size + 1, 1, none⟩ = some (.int .i64 (b2 : Int)))
    (first | exact HS.out _ (Gw.refl _).drew | exact HS.out _ (Gw.refl _) | assumption | (go_split_ands; exact HS.out _ (Gw.trans (by assumption) PA)) | (go_split_ands; exact HS.out _ (Gw.alloc (by assumption) _)))
    (first
      | (go_at_call 62; (with_reducible refine (HK.out.1 _).mono ?_); rintro e wA ⟨rfl, PA⟩)
      | (go_at_call 62; (with_reducible refine (HK.out.2.1 _).mono ?_); rintro e wA ⟨rfl, PA⟩)
      | (go_at_call 70; (with_reducible refine (HK.out.2.2.1 _).mono ?_); rintro e wA ⟨rfl, rfl⟩)
      | (go_at_call 70; (with_reducible refine (HK.out.2.2.2.1 _).mono ?_); rintro e wA ⟨rfl, rfl⟩)
      | (go_at_call 70; (with_reducible refine (HK.out.2.2.2.2.1 _).mono ?_); rintro e wA ⟨rfl, rfl⟩)
      | (go_at_call 69; (refine (or3_new _ _ _ _ _).mono ?_); rintro e wA ⟨rfl, rfl⟩))
  rename_i hHe
  have hOn := hHe.1
  clear hHe
  go_wp2
  go_ret
  exact ⟨rfl, HK.out.2.2.2.2.2.trans hOn⟩
end Go.Proofs.Ythamjboppnlpdaa.Cu
