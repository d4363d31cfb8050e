/-
  The specification of families: Plus, Product, Same; the statement FamilyJoins, walked.
-/
import Derived.Test.YtibkpglgeincdaaSg3
import Derived.Test.YtibkpglgeincdaaSf9
namespace Go.Proofs.Ytibkpglgeincdaa.Sb
open Go.RowKit
set_option linter.unusedVariables false
set_option maxRecDepth 100000
set_option maxHeartbeats 2000000 in
theorem rplus_all (w : World) (A : Option Addr) (n c : Nat) (l : List Int) (h : Rd w A n c (VI l)) (B : Option Addr) (m d : Nat) (k : List Int) (h2 : Rd w B m d (VI k)) :
    Calls Try.prog 14 #[.slice A n c, .slice B m d] w (GivesK w (plusR l k).1 (plusR l k).2) := by
  have hB := rboth_any w A n c l h B m d k h2
  unfold plusR
  by_cases hb : both l k = 0
  · rw [if_pos hb]
    rw [hb] at hB
    obtain ⟨h3, h4⟩ := both_zero hb
    obtain ⟨e1, o1, l1⟩ := lerr_nats l h3
    obtain ⟨e2, o2, l2⟩ := lerr_nats k h4
    rw [e1] at h
    rw [e2] at h2
    generalize natsOf l = a at *
    generalize natsOf k = b at *
    have hn : a.length = n := by have := h.len; rw [ints_len] at this; exact this
    have hm : b.length = m := by have := h2.len; rw [ints_len] at this; exact this
    have hn2 : n ≤ 1024 := by omega
    have hm2 : m ≤ 1024 := by omega
    have H := Lib.hid h
    have H2 := Lib.hid h2
    clear h h2 e1 e2 hb h3 h4 hn hm l1 l2
    have row0 := row_made w 3 #[] 0 rfl (by omega)
    have ROW0 := Lib.hid row0
    clear row0
    go_enter Try.func14, Try.ntmps14
    go_wp2_with (first
      | (refine hB.mono ?_; rintro e w' ⟨rfl, rfl⟩)
      | (at_builtin; refine wpList_app rfl (.tmp 13) (.tmp 14) 22 rfl w.heap.size 3 (.int .i64 0) 8 Try.underlying22 infoi rfl (by decide) (.slice (some ⟨w.heap.size, 0, none⟩) 0 0) 0 [] rfl ROW0.out A n c (VI (ints a)) rfl (H.out.alloc _) (VI_one _) (by omega) (by simp) ?_; intro v5 w5 hown5 hgrow5 _)
      | (at_builtin; refine wpList_app rfl (.tmp 15) (.tmp 16) 22 rfl w.heap.size 3 (.int .i64 0) 8 Try.underlying22 infoi rfl (by decide) v5 (0 + n) ([] ++ VI (ints a)) rfl hown5 B m d (VI (ints b)) rfl (H2.out.on (on_row ((On.refl w).alloc _) ROW0.out (Nat.le_refl _) hgrow5)) (VI_one _) (by omega) (on_row ((On.refl w).alloc _) ROW0.out (Nat.le_refl _) hgrow5).size ?_; intro v6 w6 hown6 hgrow6 _)
      | fail)
    have P5 := on_row ((On.refl w).alloc _) ROW0.out (Nat.le_refl _) hgrow5
    have P6 := on_row P5 hown5 (Nat.le_refl _) hgrow6
    obtain ⟨A6, c6, rfl⟩ := row_form hown6
    have R6 := rd_of_row hown6
    have e6 : [] ++ VI (ints a) ++ VI (ints b) = VI (ints (a ++ b)) := by simp [VI, ints]
    rw [e6] at R6
    have hL := rleast_any w6 A6 (0 + n + m) c6 (a ++ b) R6 (o1.append o2) (by omega)
    clear hB hown5 hown6 hgrow5 hgrow6 e6 R6
    refine hL.mono ?_
    rintro e w7 ⟨A7, n7, c7, rfl, R7, P7⟩
    have hI := rlimited_any w7 A7 n7 c7 _ R7
    clear hL
    go_wp2_with fail
    refine hI.mono ?_
    rintro e w8 ⟨A8, n8, c8, rfl, R8, P8⟩
    have P := (P6.trans P7).trans P8
    clear hI R7 P5 P6 P7 P8
    go_wp2
    go_ret2
    exact ⟨_, _, _, rfl, R8, P⟩
  · rw [if_neg hb]
    generalize both l k = E at *
    have h0 : ¬ (E : Int) = 0 := by omega
    go_enter Try.func14, Try.ntmps14
    go_wp2_with fail
    refine hB.mono ?_
    rintro e w' ⟨rfl, rfl⟩
    go_wp2
    go_ret2
    exact ⟨none, 0, 0, rfl, Rd.nil_ _, On.refl _⟩
set_option maxHeartbeats 2000000 in
theorem rsame_all (w : World) (A : Option Addr) (n c : Nat) (l : List Int) (h : Rd w A n c (VI l)) (B : Option Addr) (m d : Nat) (k : List Int) (h2 : Rd w B m d (VI k)) :
    Calls Try.prog 16 #[.slice A n c, .slice B m d] w fun e w' => e = .returned (.tuple #[.bool (sameR l k).1, .int .i64 ((sameR l k).2 : Nat)]) ∧ On w w' := by
  have hB := rboth_any w A n c l h B m d k h2
  unfold sameR
  by_cases hb : both l k = 0
  · rw [if_pos hb]
    rw [hb] at hB
    obtain ⟨h3, h4⟩ := both_zero hb
    obtain ⟨e1, o1, l1⟩ := lerr_nats l h3
    obtain ⟨e2, o2, l2⟩ := lerr_nats k h4
    rw [e1] at h
    rw [e2] at h2
    generalize natsOf l = a at *
    generalize natsOf k = b at *
    have hn : a.length = n := by have := h.len; rw [ints_len] at this; exact this
    have hm : b.length = m := by have := h2.len; rw [ints_len] at this; exact this
    have hL1 := rleast_any w A n c a h o1 (by omega)
    have hL2 := fun W hW => rleast_any W B m d b hW o2 (by omega)
    have H2 := Lib.hid h2
    generalize minL a = ma at *
    generalize minL b = mb at *
    clear h h2 e1 e2 hb h3 h4 hn hm l1 l2
    show Calls _ _ _ _ fun e w' => e = .returned (.tuple #[.bool (decide (ma = mb)), .int .i64 0]) ∧ On w w'
    obtain ⟨t, ht⟩ : ∃ b, decide (ma = mb) = b := ⟨_, rfl⟩
    rw [ht]
    have HT := Lib.hid ht
    clear ht
    go_enter Try.func16, Try.ntmps16
    go_wp2_with fail
    refine hB.mono ?_
    rintro e w' ⟨rfl, rfl⟩
    clear hB
    go_wp2_with fail
    refine hL1.mono ?_
    rintro e w1 ⟨A1, n1, c1, rfl, R1, P1⟩
    clear hL1
    go_wp2_with fail
    refine (hL2 _ (H2.out.on P1)).mono ?_
    rintro e w2 ⟨B1, m1, d1, rfl, R2, P2⟩
    have hE := ints_any w2 A1 n1 c1 _ B1 m1 d1 _ (R1.on P2) R2
    have ed : decide (ints ma = ints mb) = decide (ma = mb) := by
      by_cases e : ma = mb
      · rw [decide_eq_true e, decide_eq_true (ints_inj.2 e)]
      · rw [decide_eq_false e, decide_eq_false fun e2 => e (ints_inj.1 e2)]
    rw [ed, HT.out] at hE
    clear hL2 ed
    go_wp2_with fail
    refine hE.mono ?_
    rintro e w3 ⟨rfl, P3⟩
    go_wp2
    go_ret2
    exact ⟨rfl, (P1.trans P2).trans P3⟩
  · rw [if_neg hb]
    generalize both l k = E at *
    have h0 : ¬ (E : Int) = 0 := by omega
    go_enter Try.func16, Try.ntmps16
    go_wp2_with fail
    refine hB.mono ?_
    rintro e w' ⟨rfl, rfl⟩
    go_wp2
    go_ret2
    exact ⟨rfl, On.refl _⟩
end Go.Proofs.Ytibkpglgeincdaa.Sb
