/-
  Prob: the specification's and the program's.
-/
import Derived.Test.YtikmjlaeadockaaGreatZcmp
namespace Go.Proofs.YtikmjlaeadockaaGreat
open Go.RowKit
set_option linter.unusedVariables false
namespace Num
def probB (s : Bool) (xs ys : List Nat) : Bool := fitB s xs ys && (!decide (raw s xs ys < 0) && decide (raw s xs ys ≤ 1))
theorem prob_neg {s : Bool} {xs ys : List Nat} (h : fitB s xs ys = true) : decide (raw s xs ys < 0) = s := by
  have h1 : FitP s xs ys := of_decide_eq_true h
  rcases h1 with ⟨rfl, rfl, rfl⟩ | ⟨⟨a, b⟩, ⟨c, d⟩, e⟩
  · rw [raw_nil]; rfl
  · rw [raw_fit h a, fr_sign _ _ _ (val_pos d c) (val_pos b a)]
theorem prob_le {xs ys : List Nat} (h : fitB false xs ys = true) : raw false xs ys ≤ 1 ↔ cmpI (val xs) (val ys) ≤ 0 := by
  have h1 : FitP false xs ys := of_decide_eq_true h
  rcases h1 with ⟨rfl, rfl, _⟩ | ⟨⟨a, b⟩, ⟨c, d⟩, e⟩
  · rw [raw_nil]; constructor <;> intro <;> decide
  · rw [raw_fit h a, Rat.le_iff, fr_num _ _ _ (val_pos d c), fr_den _ _ _ (val_pos d c), e]
    have hx := val_pos b a
    unfold cmpI
    have e1 : ((1 : Rat).num) = 1 := rfl
    have e2 : ((1 : Rat).den) = 1 := rfl
    rw [e1, e2]
    simp only [sgn, Nat.div_one, Bool.false_eq_true, if_false]
    constructor
    · intro h
      split
      · decide
      · split
        · decide
        · omega
    · intro h
      split at h
      · omega
      · split at h
        · omega
        · omega
theorem probB_no {s : Bool} {xs ys : List Nat} (h : fitB s xs ys = false) : probB s xs ys = false := by unfold probB; rw [h]; rfl
theorem probB_neg {s : Bool} {xs ys : List Nat} (h : raw s xs ys < 0) : probB s xs ys = false := by unfold probB; rw [decide_eq_true h]; simp
theorem probB_gt {s : Bool} {xs ys : List Nat} (h : ¬ raw s xs ys ≤ 1) : probB s xs ys = false := by unfold probB; rw [decide_eq_false h]; simp
theorem probB_yes {s : Bool} {xs ys : List Nat} (h : fitB s xs ys = true) (h1 : ¬ raw s xs ys < 0) (h2 : raw s xs ys ≤ 1) : probB s xs ys = true := by unfold probB; rw [h, decide_eq_false h1, decide_eq_true h2]; rfl
theorem rsg_lt0 {r : Rat} (h : r < 0) : rsg r = -1 := by unfold rsg; grind
theorem rsg_nlt0 {r : Rat} (h : ¬ r < 0) : rsg r = 1 ∨ rsg r = 0 := by unfold rsg; grind
theorem rsg_le' {x y : Rat} (h : x ≤ y) : rsg (x - y) = -1 ∨ rsg (x - y) = 0 := by unfold rsg; grind
theorem rsg_nle {x y : Rat} (h : ¬ x ≤ y) : rsg (x - y) = 1 := by unfold rsg; grind
set_option maxRecDepth 100000 in
set_option maxHeartbeats 1600000 in
theorem sprob_no (w : World) (b : Bool) (A A' : Option Addr) (n c n' c' : Nat) (xs ys : List Nat) (R : Rd w A n c xs) (R' : Rd w A' n' c' ys) (hn : n ≤ 12) (hn' : n' ≤ 12) (hf : fitB b xs ys = false) :
    Calls Tryz.prog 34 #[.agg #[.bool b, .slice A n c, .slice A' n' c']] w fun e w' => e = .returned (.bool false) ∧ On w w' := by
  have HF := Lib.hid hf
  obtain ⟨r, hr⟩ : ∃ x, raw b xs ys = x := ⟨_, rfl⟩
  have F : Fld w (.agg #[.bool b, .slice A n c, .slice A' n' c']) r 12 := Fld.mk3 R R' hn hn' hr
  clear hr hf
  have B : On w (w.alloc (.cells #[.bool b, .slice A n c, .slice A' n' c'] 24)) := On.alloc (On.refl w) _
  have OB1 : w.heap.size ≤ w.heap.size ∧ Own (w.alloc (.cells #[.bool b, .slice A n c, .slice A' n' c'] 24)) (w.heap.size) 24 #[.bool b, .slice A n c, .slice A' n' c'] := ⟨by omega, (Own.at_ w (w.heap.size) (by simp) 24 #[.bool b, .slice A n c, .slice A' n' c'])⟩
  go_enter Tryz.func34, Tryz.ntmps34
  go_wp2
  refine wp_region_facts (by kernel_rfl) w [Fact.eq (.agg #[.bool b, .slice A n c, .slice A' n' c']), Fact.eq (.bool false), Fact.eq (.bool false), Fact.eq (undef), Fact.eq (undef), Fact.eq (undef), Fact.eq (.bool false), Fact.eq (.bool false), Fact.eq (undef), Fact.eq (undef), Fact.eq (undef), Fact.eq (undef), Fact.eq (.bool false), Fact.eq (.bool false)] [Fact.any] [⟨14, 1, 24, 14, #[.bool b, .slice A n c, .slice A' n' c']⟩] [w.heap.size] [none, none, some 2, some 3, some 4, some 5, some 6, some 7, some 8, some 9, some 10, some 11, some 12, some 13, some 14, some 15] (by kernel_rfl) (by kernel_rfl) (by kernel_rfl) rfl B ?_ ?_ ?_ ?_ ?_
  · exact ⟨fun _ => ⟨by simp, rfl, OB1⟩, trivial⟩
  · exact .inl ⟨Nat.le_refl _, trivial⟩
  · exact ⟨⟨noWords_R _ _ _ _ _ _ _, (.inl (Nat.le_refl _)), (.inl (Nat.le_refl _))⟩, trivial⟩
  · refine ⟨?_, ?_, ?_, ?_, ?_, ?_, ?_, ?_, ?_, ?_, ?_, ?_, ?_, ?_, trivial⟩
    · exact .inr fun a w hp => ob_yes rfl (ob_loadR (hp.box (k := 0) rfl (Nat.le_refl _) (.inl (Nat.le_refl _)) (by kernel_rfl) rfl).1 (hp.box (k := 0) rfl (Nat.le_refl _) (.inl (Nat.le_refl _)) (by kernel_rfl) rfl).2 rfl)
    · refine .inr fun a w hp => ob_yes rfl ?_
      have h3 : a.tmps.getD 3 undef = .agg #[.bool b, .slice A n c, .slice A' n' c'] := (hp.fact 0 3 (by kernel_rfl) rfl)
      unfold Does
      go_simp
      refine (rvalid_any _ _ _ _ _ _ _ _ _ _ (R.on hp.on) (R'.on hp.on) (by omega) (by omega)).mono ?_
      rintro e w' ⟨rfl, P8⟩
      rw [HF.out]
      exact ⟨_, rfl, P8, rfl⟩
    · exact .inr fun a w hp => ob_yes rfl (ob_move (hp.fact 1 4 (by kernel_rfl) rfl))
    · exact .inr fun a w hp => ob_no (wanted_no (P := Tryz.prog) (j := 2) (d := 5) (b := false) rfl rfl (hp.fact 2 5 (by kernel_rfl) rfl)) rfl
    · exact .inr fun a w hp => ob_no (wanted_no (P := Tryz.prog) (j := 2) (d := 5) (b := false) rfl rfl (hp.fact 2 5 (by kernel_rfl) rfl)) rfl
    · exact .inr fun a w hp => ob_no (wanted_no (P := Tryz.prog) (j := 2) (d := 5) (b := false) rfl rfl (hp.fact 2 5 (by kernel_rfl) rfl)) rfl
    · refine .inr fun a w hp => ob_yes rfl ?_
      have h5 : a.tmps.getD 5 undef = .bool false := (hp.fact 2 5 (by kernel_rfl) rfl)
      have h8 : a.tmps.getD 8 undef = undef := (hp.fact 5 8 (by kernel_rfl) rfl)
      unfold Does
      go_simp
      exact ⟨_, rfl, On.refl _, rfl⟩
    · exact .inr fun a w hp => ob_yes rfl (ob_move (hp.fact 6 9 (by kernel_rfl) rfl))
    · exact .inr fun a w hp => ob_no (wanted_no (P := Tryz.prog) (j := 7) (d := 10) (b := false) rfl rfl (hp.fact 7 10 (by kernel_rfl) rfl)) rfl
    · exact .inr fun a w hp => ob_no (wanted_no (P := Tryz.prog) (j := 7) (d := 10) (b := false) rfl rfl (hp.fact 7 10 (by kernel_rfl) rfl)) rfl
    · exact .inr fun a w hp => ob_no (wanted_no (P := Tryz.prog) (j := 7) (d := 10) (b := false) rfl rfl (hp.fact 7 10 (by kernel_rfl) rfl)) rfl
    · exact .inr fun a w hp => ob_no (wanted_no (P := Tryz.prog) (j := 7) (d := 10) (b := false) rfl rfl (hp.fact 7 10 (by kernel_rfl) rfl)) rfl
    · refine .inr fun a w hp => ob_yes rfl ?_
      have h10 : a.tmps.getD 10 undef = .bool false := (hp.fact 7 10 (by kernel_rfl) rfl)
      have h14 : a.tmps.getD 14 undef = undef := (hp.fact 11 14 (by kernel_rfl) rfl)
      unfold Does
      go_simp
      exact ⟨_, rfl, On.refl _, rfl⟩
    · exact .inr fun a w hp => ob_yes rfl (ob_assign (hp.fact 12 15 (by kernel_rfl) rfl))
  · intro f wr hon hk hf hb hap
    obtain ⟨q0, qz⟩ := hb
    clear qz
    have O1 : Own wr (w.heap.size) 24 #[.bool b, .slice A n c, .slice A' n' c'] := q0
    have c1_0 : wr.cell? ⟨w.heap.size, 0, none⟩ = some (.bool b) := O1.cell 0
    have z1_0 := O1.frozen 0
    have c1_1 : wr.cell? ⟨w.heap.size, 1, none⟩ = some (.slice A n c) := O1.cell 1
    have z1_1 := O1.frozen 1
    have c1_2 : wr.cell? ⟨w.heap.size, 2, none⟩ = some (.slice A' n' c') := O1.cell 2
    have z1_2 := O1.frozen 2
    clear q0
    have e2 : f 2 = .bool false := hf 13 2 rfl
    clear hf hap
    simp only [fillL, e2]
    clear e2
    go_wp2
    go_ret
    exact ⟨rfl, hon⟩
set_option maxRecDepth 100000 in
set_option maxHeartbeats 1600000 in
theorem sprob_neg (w : World) (b : Bool) (A A' : Option Addr) (n c n' c' : Nat) (xs ys : List Nat) (R : Rd w A n c xs) (R' : Rd w A' n' c' ys) (hn : n ≤ 12) (hn' : n' ≤ 12) (hf : fitB b xs ys = true) (hc : raw b xs ys < 0) :
    Calls Tryz.prog 34 #[.agg #[.bool b, .slice A n c, .slice A' n' c']] w fun e w' => e = .returned (.bool false) ∧ On w w' := by
  have HF := Lib.hid hf
  obtain ⟨r, hr⟩ : ∃ x, raw b xs ys = x := ⟨_, rfl⟩
  have F : Fld w (.agg #[.bool b, .slice A n c, .slice A' n' c']) r 12 := Fld.mk3 R R' hn hn' hr
  rw [hr] at hc
  have Hkc : Hid (rsg r = -1) := Lib.hid (rsg_lt0 hc)
  clear hc
  clear hr hf
  have B : On w (w.alloc (.cells #[.bool b, .slice A n c, .slice A' n' c'] 24)) := On.alloc (On.refl w) _
  have OB1 : w.heap.size ≤ w.heap.size ∧ Own (w.alloc (.cells #[.bool b, .slice A n c, .slice A' n' c'] 24)) (w.heap.size) 24 #[.bool b, .slice A n c, .slice A' n' c'] := ⟨by omega, (Own.at_ w (w.heap.size) (by simp) 24 #[.bool b, .slice A n c, .slice A' n' c'])⟩
  go_enter Tryz.func34, Tryz.ntmps34
  go_wp2
  refine wp_region_facts (by kernel_rfl) w [Fact.eq (.agg #[.bool b, .slice A n c, .slice A' n' c']), Fact.eq (.bool true), Fact.eq (.bool true), Fact.eq (.agg #[.bool b, .slice A n c, .slice A' n' c']), Fact.eq (.int .i64 (-1)), Fact.eq (.bool false), Fact.eq (.bool false), Fact.eq (.bool false), Fact.eq (undef), Fact.eq (undef), Fact.eq (undef), Fact.eq (undef), Fact.eq (.bool false), Fact.eq (.bool false)] [Fact.any] [⟨14, 1, 24, 14, #[.bool b, .slice A n c, .slice A' n' c']⟩] [w.heap.size] [none, none, some 2, some 3, some 4, some 5, some 6, some 7, some 8, some 9, some 10, some 11, some 12, some 13, some 14, some 15] (by kernel_rfl) (by kernel_rfl) (by kernel_rfl) rfl B ?_ ?_ ?_ ?_ ?_
  · exact ⟨fun _ => ⟨by simp, rfl, OB1⟩, trivial⟩
  · exact .inl ⟨Nat.le_refl _, trivial⟩
  · exact ⟨⟨noWords_R _ _ _ _ _ _ _, (.inl (Nat.le_refl _)), (.inl (Nat.le_refl _))⟩, trivial⟩
  · refine ⟨?_, ?_, ?_, ?_, ?_, ?_, ?_, ?_, ?_, ?_, ?_, ?_, ?_, ?_, trivial⟩
    · exact .inr fun a w hp => ob_yes rfl (ob_loadR (hp.box (k := 0) rfl (Nat.le_refl _) (.inl (Nat.le_refl _)) (by kernel_rfl) rfl).1 (hp.box (k := 0) rfl (Nat.le_refl _) (.inl (Nat.le_refl _)) (by kernel_rfl) rfl).2 rfl)
    · refine .inr fun a w hp => ob_yes rfl ?_
      have h3 : a.tmps.getD 3 undef = .agg #[.bool b, .slice A n c, .slice A' n' c'] := (hp.fact 0 3 (by kernel_rfl) rfl)
      unfold Does
      go_simp
      refine (rvalid_any _ _ _ _ _ _ _ _ _ _ (R.on hp.on) (R'.on hp.on) (by omega) (by omega)).mono ?_
      rintro e w' ⟨rfl, P8⟩
      rw [HF.out]
      exact ⟨_, rfl, P8, rfl⟩
    · exact .inr fun a w hp => ob_yes rfl (ob_move (hp.fact 1 4 (by kernel_rfl) rfl))
    · exact .inr fun a w hp => ob_yes (wanted_yes (P := Tryz.prog) (j := 2) (d := 5) (b := true) rfl rfl (hp.fact 2 5 (by kernel_rfl) rfl)) (ob_loadR (hp.box (k := 0) rfl (Nat.le_refl _) (.inl (Nat.le_refl _)) (by kernel_rfl) rfl).1 (hp.box (k := 0) rfl (Nat.le_refl _) (.inl (Nat.le_refl _)) (by kernel_rfl) rfl).2 rfl)
    · refine .inr fun a w hp => ob_yes (wanted_yes (P := Tryz.prog) (j := 2) (d := 5) (b := true) rfl rfl (hp.fact 2 5 (by kernel_rfl) rfl)) ?_
      have h6 : a.tmps.getD 6 undef = .agg #[.bool b, .slice A n c, .slice A' n' c'] := (hp.fact 3 6 (by kernel_rfl) rfl)
      unfold Does
      go_simp
      refine (ssign_any _ _ r 12 (F.on hp.on) (by decide) (by decide)).mono ?_
      rintro e w' ⟨rfl, P8⟩
      rw [Hkc.out]
      exact ⟨_, rfl, P8, rfl⟩
    · refine .inr fun a w hp => ob_yes (wanted_yes (P := Tryz.prog) (j := 2) (d := 5) (b := true) rfl rfl (hp.fact 2 5 (by kernel_rfl) rfl)) ?_
      have h7 : a.tmps.getD 7 undef = .int .i64 (-1) := (hp.fact 4 7 (by kernel_rfl) rfl)
      unfold Does
      go_simp
      exact ⟨_, rfl, On.refl _, by show Value.bool _ = Value.bool _; first | rfl | (simp; done)⟩
    · refine .inr fun a w hp => ob_yes rfl ?_
      have h5 : a.tmps.getD 5 undef = .bool true := (hp.fact 2 5 (by kernel_rfl) rfl)
      have h8 : a.tmps.getD 8 undef = .bool false := (hp.fact 5 8 (by kernel_rfl) rfl)
      unfold Does
      go_simp
      exact ⟨_, rfl, On.refl _, rfl⟩
    · exact .inr fun a w hp => ob_yes rfl (ob_move (hp.fact 6 9 (by kernel_rfl) rfl))
    · exact .inr fun a w hp => ob_no (wanted_no (P := Tryz.prog) (j := 7) (d := 10) (b := false) rfl rfl (hp.fact 7 10 (by kernel_rfl) rfl)) rfl
    · exact .inr fun a w hp => ob_no (wanted_no (P := Tryz.prog) (j := 7) (d := 10) (b := false) rfl rfl (hp.fact 7 10 (by kernel_rfl) rfl)) rfl
    · exact .inr fun a w hp => ob_no (wanted_no (P := Tryz.prog) (j := 7) (d := 10) (b := false) rfl rfl (hp.fact 7 10 (by kernel_rfl) rfl)) rfl
    · exact .inr fun a w hp => ob_no (wanted_no (P := Tryz.prog) (j := 7) (d := 10) (b := false) rfl rfl (hp.fact 7 10 (by kernel_rfl) rfl)) rfl
    · refine .inr fun a w hp => ob_yes rfl ?_
      have h10 : a.tmps.getD 10 undef = .bool false := (hp.fact 7 10 (by kernel_rfl) rfl)
      have h14 : a.tmps.getD 14 undef = undef := (hp.fact 11 14 (by kernel_rfl) rfl)
      unfold Does
      go_simp
      exact ⟨_, rfl, On.refl _, rfl⟩
    · exact .inr fun a w hp => ob_yes rfl (ob_assign (hp.fact 12 15 (by kernel_rfl) rfl))
  · intro f wr hon hk hf hb hap
    obtain ⟨q0, qz⟩ := hb
    clear qz
    have O1 : Own wr (w.heap.size) 24 #[.bool b, .slice A n c, .slice A' n' c'] := q0
    have c1_0 : wr.cell? ⟨w.heap.size, 0, none⟩ = some (.bool b) := O1.cell 0
    have z1_0 := O1.frozen 0
    have c1_1 : wr.cell? ⟨w.heap.size, 1, none⟩ = some (.slice A n c) := O1.cell 1
    have z1_1 := O1.frozen 1
    have c1_2 : wr.cell? ⟨w.heap.size, 2, none⟩ = some (.slice A' n' c') := O1.cell 2
    have z1_2 := O1.frozen 2
    clear q0
    have e2 : f 2 = .bool false := hf 13 2 rfl
    clear hf hap
    simp only [fillL, e2]
    clear e2
    go_wp2
    go_ret
    exact ⟨rfl, hon⟩
set_option maxRecDepth 100000 in
set_option maxHeartbeats 1600000 in
theorem sprob_le (w : World) (b : Bool) (A A' : Option Addr) (n c n' c' : Nat) (xs ys : List Nat) (R : Rd w A n c xs) (R' : Rd w A' n' c' ys) (hn : n ≤ 12) (hn' : n' ≤ 12) (hf : fitB b xs ys = true) (hc : ¬ raw b xs ys < 0) (hd : raw b xs ys ≤ 1) :
    Calls Tryz.prog 34 #[.agg #[.bool b, .slice A n c, .slice A' n' c']] w fun e w' => e = .returned (.bool true) ∧ On w w' := by
  have HF := Lib.hid hf
  obtain ⟨r, hr⟩ : ∃ x, raw b xs ys = x := ⟨_, rfl⟩
  have F : Fld w (.agg #[.bool b, .slice A n c, .slice A' n' c']) r 12 := Fld.mk3 R R' hn hn' hr
  rw [hr] at hc
  rw [hr] at hd
  obtain ⟨kc, ekc⟩ : ∃ x, rsg r = x := ⟨_, rfl⟩
  have ckc : kc = 1 ∨ kc = 0 := by rw [← ekc]; exact rsg_nlt0 hc
  have Hkc := Lib.hid ekc
  clear ekc
  obtain ⟨kd, ekd⟩ : ∃ x, rsg (r - 1) = x := ⟨_, rfl⟩
  have ckd : kd = -1 ∨ kd = 0 := by rw [← ekd]; exact rsg_le' hd
  have Hkd := Lib.hid ekd
  clear ekd
  clear hc hd
  clear hr hf
  have B : On w (w.alloc (.cells #[.bool b, .slice A n c, .slice A' n' c'] 24)) := On.alloc (On.refl w) _
  have OB1 : w.heap.size ≤ w.heap.size ∧ Own (w.alloc (.cells #[.bool b, .slice A n c, .slice A' n' c'] 24)) (w.heap.size) 24 #[.bool b, .slice A n c, .slice A' n' c'] := ⟨by omega, (Own.at_ w (w.heap.size) (by simp) 24 #[.bool b, .slice A n c, .slice A' n' c'])⟩
  go_enter Tryz.func34, Tryz.ntmps34
  go_wp2
  refine wp_region_facts (by kernel_rfl) w [Fact.eq (.agg #[.bool b, .slice A n c, .slice A' n' c']), Fact.eq (.bool true), Fact.eq (.bool true), Fact.eq (.agg #[.bool b, .slice A n c, .slice A' n' c']), Fact.eq (.int .i64 kc), Fact.eq (.bool true), Fact.eq (.bool true), Fact.eq (.bool true), Fact.eq (.agg #[.bool b, .slice A n c, .slice A' n' c']), Fact.rat (1) (2), Fact.eq (.int .i64 kd), Fact.eq (.bool true), Fact.eq (.bool true), Fact.eq (.bool true)] [Fact.any] [⟨14, 1, 24, 14, #[.bool b, .slice A n c, .slice A' n' c']⟩] [w.heap.size] [none, none, some 2, some 3, some 4, some 5, some 6, some 7, some 8, some 9, some 10, some 11, some 12, some 13, some 14, some 15] (by kernel_rfl) (by kernel_rfl) (by kernel_rfl) rfl B ?_ ?_ ?_ ?_ ?_
  · exact ⟨fun _ => ⟨by simp, rfl, OB1⟩, trivial⟩
  · exact .inl ⟨Nat.le_refl _, trivial⟩
  · exact ⟨⟨noWords_R _ _ _ _ _ _ _, (.inl (Nat.le_refl _)), (.inl (Nat.le_refl _))⟩, trivial⟩
  · refine ⟨?_, ?_, ?_, ?_, ?_, ?_, ?_, ?_, ?_, ?_, ?_, ?_, ?_, ?_, trivial⟩
    · exact .inr fun a w hp => ob_yes rfl (ob_loadR (hp.box (k := 0) rfl (Nat.le_refl _) (.inl (Nat.le_refl _)) (by kernel_rfl) rfl).1 (hp.box (k := 0) rfl (Nat.le_refl _) (.inl (Nat.le_refl _)) (by kernel_rfl) rfl).2 rfl)
    · refine .inr fun a w hp => ob_yes rfl ?_
      have h3 : a.tmps.getD 3 undef = .agg #[.bool b, .slice A n c, .slice A' n' c'] := (hp.fact 0 3 (by kernel_rfl) rfl)
      unfold Does
      go_simp
      refine (rvalid_any _ _ _ _ _ _ _ _ _ _ (R.on hp.on) (R'.on hp.on) (by omega) (by omega)).mono ?_
      rintro e w' ⟨rfl, P8⟩
      rw [HF.out]
      exact ⟨_, rfl, P8, rfl⟩
    · exact .inr fun a w hp => ob_yes rfl (ob_move (hp.fact 1 4 (by kernel_rfl) rfl))
    · exact .inr fun a w hp => ob_yes (wanted_yes (P := Tryz.prog) (j := 2) (d := 5) (b := true) rfl rfl (hp.fact 2 5 (by kernel_rfl) rfl)) (ob_loadR (hp.box (k := 0) rfl (Nat.le_refl _) (.inl (Nat.le_refl _)) (by kernel_rfl) rfl).1 (hp.box (k := 0) rfl (Nat.le_refl _) (.inl (Nat.le_refl _)) (by kernel_rfl) rfl).2 rfl)
    · refine .inr fun a w hp => ob_yes (wanted_yes (P := Tryz.prog) (j := 2) (d := 5) (b := true) rfl rfl (hp.fact 2 5 (by kernel_rfl) rfl)) ?_
      have h6 : a.tmps.getD 6 undef = .agg #[.bool b, .slice A n c, .slice A' n' c'] := (hp.fact 3 6 (by kernel_rfl) rfl)
      unfold Does
      go_simp
      refine (ssign_any _ _ r 12 (F.on hp.on) (by decide) (by decide)).mono ?_
      rintro e w' ⟨rfl, P8⟩
      rw [Hkc.out]
      exact ⟨_, rfl, P8, rfl⟩
    · refine .inr fun a w hp => ob_yes (wanted_yes (P := Tryz.prog) (j := 2) (d := 5) (b := true) rfl rfl (hp.fact 2 5 (by kernel_rfl) rfl)) ?_
      have h7 : a.tmps.getD 7 undef = .int .i64 kc := (hp.fact 4 7 (by kernel_rfl) rfl)
      unfold Does
      rcases ckc with rfl | rfl
      · go_simp
        exact ⟨_, rfl, On.refl _, by show Value.bool _ = Value.bool _; first | rfl | (simp; done)⟩
      · go_simp
        exact ⟨_, rfl, On.refl _, by show Value.bool _ = Value.bool _; first | rfl | (simp; done)⟩
    · refine .inr fun a w hp => ob_yes rfl ?_
      have h5 : a.tmps.getD 5 undef = .bool true := (hp.fact 2 5 (by kernel_rfl) rfl)
      have h8 : a.tmps.getD 8 undef = .bool true := (hp.fact 5 8 (by kernel_rfl) rfl)
      unfold Does
      go_simp
      exact ⟨_, rfl, On.refl _, rfl⟩
    · exact .inr fun a w hp => ob_yes rfl (ob_move (hp.fact 6 9 (by kernel_rfl) rfl))
    · exact .inr fun a w hp => ob_yes (wanted_yes (P := Tryz.prog) (j := 7) (d := 10) (b := true) rfl rfl (hp.fact 7 10 (by kernel_rfl) rfl)) (ob_loadR (hp.box (k := 0) rfl (Nat.le_refl _) (.inl (Nat.le_refl _)) (by kernel_rfl) rfl).1 (hp.box (k := 0) rfl (Nat.le_refl _) (.inl (Nat.le_refl _)) (by kernel_rfl) rfl).2 rfl)
    · refine .inr fun a w hp => ob_yes (wanted_yes (P := Tryz.prog) (j := 7) (d := 10) (b := true) rfl rfl (hp.fact 7 10 (by kernel_rfl) rfl)) ?_
      unfold Does
      go_simp
      refine (rofr_any _ 1 (by decide) (by decide)).mono ?_
      rintro e w' ⟨u, rfl, I8, P8⟩
      exact ⟨_, rfl, P8, I8⟩
    · refine .inr fun a w hp => ob_yes (wanted_yes (P := Tryz.prog) (j := 7) (d := 10) (b := true) rfl rfl (hp.fact 7 10 (by kernel_rfl) rfl)) ?_
      have h11 : a.tmps.getD 11 undef = .agg #[.bool b, .slice A n c, .slice A' n' c'] := (hp.fact 8 11 (by kernel_rfl) rfl)
      have h12 : IsR w (a.tmps.getD 12 undef) (1) (2) := (hp.fact 9 12 (by kernel_rfl) rfl)
      obtain ⟨v12, e12⟩ : ∃ v, a.tmps.getD 12 undef = v := ⟨_, rfl⟩
      rw [e12] at h12
      unfold Does
      go_simp
      refine (scmp_any _ _ _ r 1 12 (F.on hp.on) ((IsR.fld h12).wide (by decide)) (by decide) (by decide)).mono ?_
      rintro e w' ⟨rfl, P8⟩
      rw [Hkd.out]
      exact ⟨_, rfl, P8, rfl⟩
    · refine .inr fun a w hp => ob_yes (wanted_yes (P := Tryz.prog) (j := 7) (d := 10) (b := true) rfl rfl (hp.fact 7 10 (by kernel_rfl) rfl)) ?_
      have h13 : a.tmps.getD 13 undef = .int .i64 kd := (hp.fact 10 13 (by kernel_rfl) rfl)
      unfold Does
      rcases ckd with rfl | rfl
      · go_simp
        exact ⟨_, rfl, On.refl _, by show Value.bool _ = Value.bool _; first | rfl | (simp; done)⟩
      · go_simp
        exact ⟨_, rfl, On.refl _, by show Value.bool _ = Value.bool _; first | rfl | (simp; done)⟩
    · refine .inr fun a w hp => ob_yes rfl ?_
      have h10 : a.tmps.getD 10 undef = .bool true := (hp.fact 7 10 (by kernel_rfl) rfl)
      have h14 : a.tmps.getD 14 undef = .bool true := (hp.fact 11 14 (by kernel_rfl) rfl)
      unfold Does
      go_simp
      exact ⟨_, rfl, On.refl _, rfl⟩
    · exact .inr fun a w hp => ob_yes rfl (ob_assign (hp.fact 12 15 (by kernel_rfl) rfl))
  · intro f wr hon hk hf hb hap
    obtain ⟨q0, qz⟩ := hb
    clear qz
    have O1 : Own wr (w.heap.size) 24 #[.bool b, .slice A n c, .slice A' n' c'] := q0
    have c1_0 : wr.cell? ⟨w.heap.size, 0, none⟩ = some (.bool b) := O1.cell 0
    have z1_0 := O1.frozen 0
    have c1_1 : wr.cell? ⟨w.heap.size, 1, none⟩ = some (.slice A n c) := O1.cell 1
    have z1_1 := O1.frozen 1
    have c1_2 : wr.cell? ⟨w.heap.size, 2, none⟩ = some (.slice A' n' c') := O1.cell 2
    have z1_2 := O1.frozen 2
    clear q0
    have e2 : f 2 = .bool true := hf 13 2 rfl
    clear hf hap
    simp only [fillL, e2]
    clear e2
    go_wp2
    go_ret
    exact ⟨rfl, hon⟩
set_option maxRecDepth 100000 in
set_option maxHeartbeats 1600000 in
theorem sprob_gt (w : World) (b : Bool) (A A' : Option Addr) (n c n' c' : Nat) (xs ys : List Nat) (R : Rd w A n c xs) (R' : Rd w A' n' c' ys) (hn : n ≤ 12) (hn' : n' ≤ 12) (hf : fitB b xs ys = true) (hc : ¬ raw b xs ys < 0) (hd : ¬ raw b xs ys ≤ 1) :
    Calls Tryz.prog 34 #[.agg #[.bool b, .slice A n c, .slice A' n' c']] w fun e w' => e = .returned (.bool false) ∧ On w w' := by
  have HF := Lib.hid hf
  obtain ⟨r, hr⟩ : ∃ x, raw b xs ys = x := ⟨_, rfl⟩
  have F : Fld w (.agg #[.bool b, .slice A n c, .slice A' n' c']) r 12 := Fld.mk3 R R' hn hn' hr
  rw [hr] at hc
  rw [hr] at hd
  obtain ⟨kc, ekc⟩ : ∃ x, rsg r = x := ⟨_, rfl⟩
  have ckc : kc = 1 ∨ kc = 0 := by rw [← ekc]; exact rsg_nlt0 hc
  have Hkc := Lib.hid ekc
  clear ekc
  have Hkd : Hid (rsg (r - 1) = 1) := Lib.hid (rsg_nle hd)
  clear hc hd
  clear hr hf
  have B : On w (w.alloc (.cells #[.bool b, .slice A n c, .slice A' n' c'] 24)) := On.alloc (On.refl w) _
  have OB1 : w.heap.size ≤ w.heap.size ∧ Own (w.alloc (.cells #[.bool b, .slice A n c, .slice A' n' c'] 24)) (w.heap.size) 24 #[.bool b, .slice A n c, .slice A' n' c'] := ⟨by omega, (Own.at_ w (w.heap.size) (by simp) 24 #[.bool b, .slice A n c, .slice A' n' c'])⟩
  go_enter Tryz.func34, Tryz.ntmps34
  go_wp2
  refine wp_region_facts (by kernel_rfl) w [Fact.eq (.agg #[.bool b, .slice A n c, .slice A' n' c']), Fact.eq (.bool true), Fact.eq (.bool true), Fact.eq (.agg #[.bool b, .slice A n c, .slice A' n' c']), Fact.eq (.int .i64 kc), Fact.eq (.bool true), Fact.eq (.bool true), Fact.eq (.bool true), Fact.eq (.agg #[.bool b, .slice A n c, .slice A' n' c']), Fact.rat (1) (2), Fact.eq (.int .i64 1), Fact.eq (.bool false), Fact.eq (.bool false), Fact.eq (.bool false)] [Fact.any] [⟨14, 1, 24, 14, #[.bool b, .slice A n c, .slice A' n' c']⟩] [w.heap.size] [none, none, some 2, some 3, some 4, some 5, some 6, some 7, some 8, some 9, some 10, some 11, some 12, some 13, some 14, some 15] (by kernel_rfl) (by kernel_rfl) (by kernel_rfl) rfl B ?_ ?_ ?_ ?_ ?_
  · exact ⟨fun _ => ⟨by simp, rfl, OB1⟩, trivial⟩
  · exact .inl ⟨Nat.le_refl _, trivial⟩
  · exact ⟨⟨noWords_R _ _ _ _ _ _ _, (.inl (Nat.le_refl _)), (.inl (Nat.le_refl _))⟩, trivial⟩
  · refine ⟨?_, ?_, ?_, ?_, ?_, ?_, ?_, ?_, ?_, ?_, ?_, ?_, ?_, ?_, trivial⟩
    · exact .inr fun a w hp => ob_yes rfl (ob_loadR (hp.box (k := 0) rfl (Nat.le_refl _) (.inl (Nat.le_refl _)) (by kernel_rfl) rfl).1 (hp.box (k := 0) rfl (Nat.le_refl _) (.inl (Nat.le_refl _)) (by kernel_rfl) rfl).2 rfl)
    · refine .inr fun a w hp => ob_yes rfl ?_
      have h3 : a.tmps.getD 3 undef = .agg #[.bool b, .slice A n c, .slice A' n' c'] := (hp.fact 0 3 (by kernel_rfl) rfl)
      unfold Does
      go_simp
      refine (rvalid_any _ _ _ _ _ _ _ _ _ _ (R.on hp.on) (R'.on hp.on) (by omega) (by omega)).mono ?_
      rintro e w' ⟨rfl, P8⟩
      rw [HF.out]
      exact ⟨_, rfl, P8, rfl⟩
    · exact .inr fun a w hp => ob_yes rfl (ob_move (hp.fact 1 4 (by kernel_rfl) rfl))
    · exact .inr fun a w hp => ob_yes (wanted_yes (P := Tryz.prog) (j := 2) (d := 5) (b := true) rfl rfl (hp.fact 2 5 (by kernel_rfl) rfl)) (ob_loadR (hp.box (k := 0) rfl (Nat.le_refl _) (.inl (Nat.le_refl _)) (by kernel_rfl) rfl).1 (hp.box (k := 0) rfl (Nat.le_refl _) (.inl (Nat.le_refl _)) (by kernel_rfl) rfl).2 rfl)
    · refine .inr fun a w hp => ob_yes (wanted_yes (P := Tryz.prog) (j := 2) (d := 5) (b := true) rfl rfl (hp.fact 2 5 (by kernel_rfl) rfl)) ?_
      have h6 : a.tmps.getD 6 undef = .agg #[.bool b, .slice A n c, .slice A' n' c'] := (hp.fact 3 6 (by kernel_rfl) rfl)
      unfold Does
      go_simp
      refine (ssign_any _ _ r 12 (F.on hp.on) (by decide) (by decide)).mono ?_
      rintro e w' ⟨rfl, P8⟩
      rw [Hkc.out]
      exact ⟨_, rfl, P8, rfl⟩
    · refine .inr fun a w hp => ob_yes (wanted_yes (P := Tryz.prog) (j := 2) (d := 5) (b := true) rfl rfl (hp.fact 2 5 (by kernel_rfl) rfl)) ?_
      have h7 : a.tmps.getD 7 undef = .int .i64 kc := (hp.fact 4 7 (by kernel_rfl) rfl)
      unfold Does
      rcases ckc with rfl | rfl
      · go_simp
        exact ⟨_, rfl, On.refl _, by show Value.bool _ = Value.bool _; first | rfl | (simp; done)⟩
      · go_simp
        exact ⟨_, rfl, On.refl _, by show Value.bool _ = Value.bool _; first | rfl | (simp; done)⟩
    · refine .inr fun a w hp => ob_yes rfl ?_
      have h5 : a.tmps.getD 5 undef = .bool true := (hp.fact 2 5 (by kernel_rfl) rfl)
      have h8 : a.tmps.getD 8 undef = .bool true := (hp.fact 5 8 (by kernel_rfl) rfl)
      unfold Does
      go_simp
      exact ⟨_, rfl, On.refl _, rfl⟩
    · exact .inr fun a w hp => ob_yes rfl (ob_move (hp.fact 6 9 (by kernel_rfl) rfl))
    · exact .inr fun a w hp => ob_yes (wanted_yes (P := Tryz.prog) (j := 7) (d := 10) (b := true) rfl rfl (hp.fact 7 10 (by kernel_rfl) rfl)) (ob_loadR (hp.box (k := 0) rfl (Nat.le_refl _) (.inl (Nat.le_refl _)) (by kernel_rfl) rfl).1 (hp.box (k := 0) rfl (Nat.le_refl _) (.inl (Nat.le_refl _)) (by kernel_rfl) rfl).2 rfl)
    · refine .inr fun a w hp => ob_yes (wanted_yes (P := Tryz.prog) (j := 7) (d := 10) (b := true) rfl rfl (hp.fact 7 10 (by kernel_rfl) rfl)) ?_
      unfold Does
      go_simp
      refine (rofr_any _ 1 (by decide) (by decide)).mono ?_
      rintro e w' ⟨u, rfl, I8, P8⟩
      exact ⟨_, rfl, P8, I8⟩
    · refine .inr fun a w hp => ob_yes (wanted_yes (P := Tryz.prog) (j := 7) (d := 10) (b := true) rfl rfl (hp.fact 7 10 (by kernel_rfl) rfl)) ?_
      have h11 : a.tmps.getD 11 undef = .agg #[.bool b, .slice A n c, .slice A' n' c'] := (hp.fact 8 11 (by kernel_rfl) rfl)
      have h12 : IsR w (a.tmps.getD 12 undef) (1) (2) := (hp.fact 9 12 (by kernel_rfl) rfl)
      obtain ⟨v12, e12⟩ : ∃ v, a.tmps.getD 12 undef = v := ⟨_, rfl⟩
      rw [e12] at h12
      unfold Does
      go_simp
      refine (scmp_any _ _ _ r 1 12 (F.on hp.on) ((IsR.fld h12).wide (by decide)) (by decide) (by decide)).mono ?_
      rintro e w' ⟨rfl, P8⟩
      rw [Hkd.out]
      exact ⟨_, rfl, P8, rfl⟩
    · refine .inr fun a w hp => ob_yes (wanted_yes (P := Tryz.prog) (j := 7) (d := 10) (b := true) rfl rfl (hp.fact 7 10 (by kernel_rfl) rfl)) ?_
      have h13 : a.tmps.getD 13 undef = .int .i64 1 := (hp.fact 10 13 (by kernel_rfl) rfl)
      unfold Does
      go_simp
      exact ⟨_, rfl, On.refl _, by show Value.bool _ = Value.bool _; first | rfl | (simp; done)⟩
    · refine .inr fun a w hp => ob_yes rfl ?_
      have h10 : a.tmps.getD 10 undef = .bool true := (hp.fact 7 10 (by kernel_rfl) rfl)
      have h14 : a.tmps.getD 14 undef = .bool false := (hp.fact 11 14 (by kernel_rfl) rfl)
      unfold Does
      go_simp
      exact ⟨_, rfl, On.refl _, rfl⟩
    · exact .inr fun a w hp => ob_yes rfl (ob_assign (hp.fact 12 15 (by kernel_rfl) rfl))
  · intro f wr hon hk hf hb hap
    obtain ⟨q0, qz⟩ := hb
    clear qz
    have O1 : Own wr (w.heap.size) 24 #[.bool b, .slice A n c, .slice A' n' c'] := q0
    have c1_0 : wr.cell? ⟨w.heap.size, 0, none⟩ = some (.bool b) := O1.cell 0
    have z1_0 := O1.frozen 0
    have c1_1 : wr.cell? ⟨w.heap.size, 1, none⟩ = some (.slice A n c) := O1.cell 1
    have z1_1 := O1.frozen 1
    have c1_2 : wr.cell? ⟨w.heap.size, 2, none⟩ = some (.slice A' n' c') := O1.cell 2
    have z1_2 := O1.frozen 2
    clear q0
    have e2 : f 2 = .bool false := hf 13 2 rfl
    clear hf hap
    simp only [fillL, e2]
    clear e2
    go_wp2
    go_ret
    exact ⟨rfl, hon⟩
theorem sprob_any (w : World) (b : Bool) (A A' : Option Addr) (n c n' c' : Nat) (xs ys : List Nat) (R : Rd w A n c xs) (R' : Rd w A' n' c' ys) (hn : n ≤ 12) (hn' : n' ≤ 12) :
    Calls Tryz.prog 34 #[.agg #[.bool b, .slice A n c, .slice A' n' c']] w fun e w' => e = .returned (.bool (probB b xs ys)) ∧ On w w' := by
  cases hf : fitB b xs ys
  · rw [probB_no hf]; exact sprob_no w b A A' n c n' c' xs ys R R' hn hn' hf
  · by_cases hc : raw b xs ys < 0
    · rw [probB_neg hc]; exact sprob_neg w b A A' n c n' c' xs ys R R' hn hn' hf hc
    · by_cases hd : raw b xs ys ≤ 1
      · rw [probB_yes hf hc hd]; exact sprob_le w b A A' n c n' c' xs ys R R' hn hn' hf hc hd
      · rw [probB_gt hd]; exact sprob_gt w b A A' n c n' c' xs ys R R' hn hn' hf hc hd
set_option maxRecDepth 100000 in
set_option maxHeartbeats 1600000 in
theorem rprob_no (w : World) (b : Bool) (A A' : Option Addr) (n c n' c' : Nat) (xs ys : List Nat) (R : Rd w A n c xs) (R' : Rd w A' n' c' ys) (hn : n ≤ 12) (hn' : n' ≤ 12) (hf : fitB b xs ys = false) :
    Calls Tryz.prog 33 #[.agg #[.bool b, .slice A n c, .slice A' n' c']] w fun e w' => e = .returned (.bool false) ∧ On w w' := by
  have HF := Lib.hid hf
  clear hf
  have B : On w (w.alloc (.cells #[.bool b, .slice A n c, .slice A' n' c'] 24)) := On.alloc (On.refl w) _
  have OB1 : w.heap.size ≤ w.heap.size ∧ Own (w.alloc (.cells #[.bool b, .slice A n c, .slice A' n' c'] 24)) (w.heap.size) 24 #[.bool b, .slice A n c, .slice A' n' c'] := ⟨by omega, (Own.at_ w (w.heap.size) (by simp) 24 #[.bool b, .slice A n c, .slice A' n' c'])⟩
  go_enter Tryz.func33, Tryz.ntmps33
  go_wp2_with fail
  refine (valid_any _ _ _ _ _ _ _ _ _ _ (R.on B) (R'.on B) (by omega) (by omega)).mono ?_
  rintro e w1 ⟨rfl, P1⟩
  rw [HF.out]
  replace OB1 := And.intro OB1.1 (OB1.2.on P1)
  replace B := B.trans P1
  have y1_0 : w1.cell? ⟨w.heap.size, 0, none⟩ = some (.bool b) := OB1.2.cell 0
  have y1_1 : w1.cell? ⟨w.heap.size, 1, none⟩ = some (.slice A n c) := OB1.2.cell 1
  have y1_2 : w1.cell? ⟨w.heap.size, 2, none⟩ = some (.slice A' n' c') := OB1.2.cell 2
  have y1_f0 := OB1.2.frozen 0
  have y1_f1 := OB1.2.frozen 1
  have y1_f2 := OB1.2.frozen 2
  go_wp2
  go_ret
  exact ⟨rfl, B⟩
set_option maxRecDepth 100000 in
set_option maxHeartbeats 1600000 in
theorem rprob_neg (w : World) (b : Bool) (A A' : Option Addr) (n c n' c' : Nat) (xs ys : List Nat) (R : Rd w A n c xs) (R' : Rd w A' n' c' ys) (hn : n ≤ 12) (hn' : n' ≤ 12) (hf : fitB b xs ys = true) (hc : raw b xs ys < 0) :
    Calls Tryz.prog 33 #[.agg #[.bool b, .slice A n c, .slice A' n' c']] w fun e w' => e = .returned (.bool false) ∧ On w w' := by
  have HF := Lib.hid hf
  have hb : b = true := by rw [← prob_neg hf]; exact decide_eq_true hc
  subst hb
  clear hc
  clear hf
  have B : On w (w.alloc (.cells #[.bool true, .slice A n c, .slice A' n' c'] 24)) := On.alloc (On.refl w) _
  have OB1 : w.heap.size ≤ w.heap.size ∧ Own (w.alloc (.cells #[.bool true, .slice A n c, .slice A' n' c'] 24)) (w.heap.size) 24 #[.bool true, .slice A n c, .slice A' n' c'] := ⟨by omega, (Own.at_ w (w.heap.size) (by simp) 24 #[.bool true, .slice A n c, .slice A' n' c'])⟩
  go_enter Tryz.func33, Tryz.ntmps33
  go_wp2_with fail
  refine (valid_any _ _ _ _ _ _ _ _ _ _ (R.on B) (R'.on B) (by omega) (by omega)).mono ?_
  rintro e w1 ⟨rfl, P1⟩
  rw [HF.out]
  replace OB1 := And.intro OB1.1 (OB1.2.on P1)
  replace B := B.trans P1
  have y1_0 : w1.cell? ⟨w.heap.size, 0, none⟩ = some (.bool true) := OB1.2.cell 0
  have y1_1 : w1.cell? ⟨w.heap.size, 1, none⟩ = some (.slice A n c) := OB1.2.cell 1
  have y1_2 : w1.cell? ⟨w.heap.size, 2, none⟩ = some (.slice A' n' c') := OB1.2.cell 2
  have y1_f0 := OB1.2.frozen 0
  have y1_f1 := OB1.2.frozen 1
  have y1_f2 := OB1.2.frozen 2
  go_wp2
  go_ret
  exact ⟨rfl, B⟩
set_option maxRecDepth 100000 in
set_option maxHeartbeats 1600000 in
theorem rprob_le (w : World) (b : Bool) (A A' : Option Addr) (n c n' c' : Nat) (xs ys : List Nat) (R : Rd w A n c xs) (R' : Rd w A' n' c' ys) (hn : n ≤ 12) (hn' : n' ≤ 12) (hf : fitB b xs ys = true) (hc : ¬ raw b xs ys < 0) (hd : raw b xs ys ≤ 1) :
    Calls Tryz.prog 33 #[.agg #[.bool b, .slice A n c, .slice A' n' c']] w fun e w' => e = .returned (.bool true) ∧ On w w' := by
  have HF := Lib.hid hf
  have hb : b = false := by rw [← prob_neg hf]; exact decide_eq_false hc
  subst hb
  rw [prob_le hf] at hd
  obtain ⟨kd, ekd⟩ : ∃ x, cmpI (val xs) (val ys) = x := ⟨_, rfl⟩
  rw [ekd] at hd
  have Hkd := Lib.hid ekd
  clear ekd
  clear hc
  clear hf
  have B : On w (w.alloc (.cells #[.bool false, .slice A n c, .slice A' n' c'] 24)) := On.alloc (On.refl w) _
  have OB1 : w.heap.size ≤ w.heap.size ∧ Own (w.alloc (.cells #[.bool false, .slice A n c, .slice A' n' c'] 24)) (w.heap.size) 24 #[.bool false, .slice A n c, .slice A' n' c'] := ⟨by omega, (Own.at_ w (w.heap.size) (by simp) 24 #[.bool false, .slice A n c, .slice A' n' c'])⟩
  go_enter Tryz.func33, Tryz.ntmps33
  go_wp2_with fail
  refine (valid_any _ _ _ _ _ _ _ _ _ _ (R.on B) (R'.on B) (by omega) (by omega)).mono ?_
  rintro e w1 ⟨rfl, P1⟩
  rw [HF.out]
  replace OB1 := And.intro OB1.1 (OB1.2.on P1)
  replace B := B.trans P1
  have y1_0 : w1.cell? ⟨w.heap.size, 0, none⟩ = some (.bool false) := OB1.2.cell 0
  have y1_1 : w1.cell? ⟨w.heap.size, 1, none⟩ = some (.slice A n c) := OB1.2.cell 1
  have y1_2 : w1.cell? ⟨w.heap.size, 2, none⟩ = some (.slice A' n' c') := OB1.2.cell 2
  have y1_f0 := OB1.2.frozen 0
  have y1_f1 := OB1.2.frozen 1
  have y1_f2 := OB1.2.frozen 2
  go_wp2_with fail
  refine (cmp_any _ _ _ _ _ _ _ _ _ (R.on B) (R'.on B)).mono ?_
  rintro e w2 ⟨rfl, P2⟩
  rw [Hkd.out]
  replace B := B.trans P2
  go_wp2
  go_ret
  exact ⟨rfl, B⟩
set_option maxRecDepth 100000 in
set_option maxHeartbeats 1600000 in
theorem rprob_gt (w : World) (b : Bool) (A A' : Option Addr) (n c n' c' : Nat) (xs ys : List Nat) (R : Rd w A n c xs) (R' : Rd w A' n' c' ys) (hn : n ≤ 12) (hn' : n' ≤ 12) (hf : fitB b xs ys = true) (hc : ¬ raw b xs ys < 0) (hd : ¬ raw b xs ys ≤ 1) :
    Calls Tryz.prog 33 #[.agg #[.bool b, .slice A n c, .slice A' n' c']] w fun e w' => e = .returned (.bool false) ∧ On w w' := by
  have HF := Lib.hid hf
  have hb : b = false := by rw [← prob_neg hf]; exact decide_eq_false hc
  subst hb
  rw [prob_le hf] at hd
  obtain ⟨kd, ekd⟩ : ∃ x, cmpI (val xs) (val ys) = x := ⟨_, rfl⟩
  rw [ekd] at hd
  have Hkd := Lib.hid ekd
  clear ekd
  clear hc
  clear hf
  have B : On w (w.alloc (.cells #[.bool false, .slice A n c, .slice A' n' c'] 24)) := On.alloc (On.refl w) _
  have OB1 : w.heap.size ≤ w.heap.size ∧ Own (w.alloc (.cells #[.bool false, .slice A n c, .slice A' n' c'] 24)) (w.heap.size) 24 #[.bool false, .slice A n c, .slice A' n' c'] := ⟨by omega, (Own.at_ w (w.heap.size) (by simp) 24 #[.bool false, .slice A n c, .slice A' n' c'])⟩
  go_enter Tryz.func33, Tryz.ntmps33
  go_wp2_with fail
  refine (valid_any _ _ _ _ _ _ _ _ _ _ (R.on B) (R'.on B) (by omega) (by omega)).mono ?_
  rintro e w1 ⟨rfl, P1⟩
  rw [HF.out]
  replace OB1 := And.intro OB1.1 (OB1.2.on P1)
  replace B := B.trans P1
  have y1_0 : w1.cell? ⟨w.heap.size, 0, none⟩ = some (.bool false) := OB1.2.cell 0
  have y1_1 : w1.cell? ⟨w.heap.size, 1, none⟩ = some (.slice A n c) := OB1.2.cell 1
  have y1_2 : w1.cell? ⟨w.heap.size, 2, none⟩ = some (.slice A' n' c') := OB1.2.cell 2
  have y1_f0 := OB1.2.frozen 0
  have y1_f1 := OB1.2.frozen 1
  have y1_f2 := OB1.2.frozen 2
  go_wp2_with fail
  refine (cmp_any _ _ _ _ _ _ _ _ _ (R.on B) (R'.on B)).mono ?_
  rintro e w2 ⟨rfl, P2⟩
  rw [Hkd.out]
  replace B := B.trans P2
  go_wp2
  go_ret
  exact ⟨congrArg (fun x => Ending.returned (.bool x)) (decide_eq_false (by omega)), B⟩
theorem rprob_any (w : World) (b : Bool) (A A' : Option Addr) (n c n' c' : Nat) (xs ys : List Nat) (R : Rd w A n c xs) (R' : Rd w A' n' c' ys) (hn : n ≤ 12) (hn' : n' ≤ 12) :
    Calls Tryz.prog 33 #[.agg #[.bool b, .slice A n c, .slice A' n' c']] w fun e w' => e = .returned (.bool (probB b xs ys)) ∧ On w w' := by
  cases hf : fitB b xs ys
  · rw [probB_no hf]; exact rprob_no w b A A' n c n' c' xs ys R R' hn hn' hf
  · by_cases hc : raw b xs ys < 0
    · rw [probB_neg hc]; exact rprob_neg w b A A' n c n' c' xs ys R R' hn hn' hf hc
    · by_cases hd : raw b xs ys ≤ 1
      · rw [probB_yes hf hc hd]; exact rprob_le w b A A' n c n' c' xs ys R R' hn hn' hf hc hd
      · rw [probB_gt hd]; exact rprob_gt w b A A' n c n' c' xs ys R R' hn hn' hf hc hd
end Num
end Go.Proofs.YtikmjlaeadockaaGreat
