/-
  parseWhole and parseBroken.
-/
import Derived.Test.YtkchpagjkgmpmaaRcom
namespace Go.Proofs.Ytkchpagjkgmpmaa
open Go.RowKit
set_option linter.unusedVariables false
namespace Num
/-- what a text of a whole number or of a fraction is worth -/
def WholeR (neg : Bool) (l : List Nat) : Option Rat := if TextOk l ∧ ¬ (neg = true ∧ dv l = 0) then some (fr neg (dv l) 1) else none
def BrokenR (neg : Bool) (a b : List Nat) : Option Rat := if TextOk a ∧ TextOk b ∧ 2 ≤ dv b ∧ dv a ≠ 0 ∧ Nat.gcd (dv a) (dv b) = 1 then some (fr neg (dv a) (dv b)) else none
/-- a fraction, or ErrForm -/
def OptPost (w : World) (o : Option Rat) (L : Nat) (e : Ending) (w' : World) : Prop := match o with
  | some r => RatPost2 w r L .nilIface e w'
  | none => RatNo w 2 e w'
theorem textB_iff (s : ByteArray) : textB s = decide (TextOk (bl s)) := rfl
theorem nb_lt_two (v : Nat) : decide (((nb v : Nat) : Int) < 2) = decide (v < 2) := by
  have h := nb_le_iff v 1
  by_cases hv : v < 2
  · rw [decide_eq_true hv]; exact decide_eq_true (by have := h.2 (by simpa using hv); omega)
  · rw [decide_eq_false hv]; exact decide_eq_false (fun e => hv (by have := h.1 (by omega); simpa using this))
set_option maxRecDepth 100000 in
set_option maxHeartbeats 1600000 in
theorem pwhole_no (w : World) (neg : Bool) (s : ByteArray) (hs : s.size ≤ 300) (h : textB s = false) :
    Calls Try.prog 47 #[.bool neg, .string s] w (RatNo w 2) := by
  have B := (On.refl w).alloc (.cells #[.bool false, .slice none 0 0, .slice none 0 0] 24)
  have O := Own.new w 24 #[.bool false, .slice none 0 0, .slice none 0 0]
  have z0 : (w.alloc (.cells #[.bool false, .slice none 0 0, .slice none 0 0] 24)).cell? ⟨w.heap.size, 0, none⟩ = some (.bool false) := O.cell 0
  have z1 : (w.alloc (.cells #[.bool false, .slice none 0 0, .slice none 0 0] 24)).cell? ⟨w.heap.size, 1, none⟩ = some (.slice none 0 0) := O.cell 1
  have z2 : (w.alloc (.cells #[.bool false, .slice none 0 0, .slice none 0 0] 24)).cell? ⟨w.heap.size, 2, none⟩ = some (.slice none 0 0) := O.cell 2
  have zf0 := O.frozen 0
  have zf1 := O.frozen 1
  have zf2 := O.frozen 2
  go_enter Try.func47, Try.ntmps47
  go_wp2_with fail
  refine (parse_bad _ _ (by omega) h).mono ?_
  rintro e w1 ⟨rfl, rfl⟩
  go_wp2
  have hon := on3 (g := w.heap.size) B (by omega) (.bool false) (.slice none 0 0) (.slice none 0 0)
  have hon3 := on3 (g := w.heap.size) (B) (by omega) (.bool false) (.slice none 0 0) (.slice none 0 0)
  exact bodyPost_ret (v := .tuple #[.agg #[.bool false, .slice none 0 0, .slice none 0 0], .iface 52 (.int .i64 2)]) (by simp [results, Try.results47, go_sem, z0, z1, z2]) rfl ⟨rfl, by first | exact B | exact hon3⟩
set_option maxRecDepth 100000 in
set_option maxHeartbeats 1600000 in
theorem pwhole_zero (w : World) (s : ByteArray) (hs : s.size ≤ 300) (h : textB s = true) (hz : dv (bl s) = 0) :
    Calls Try.prog 47 #[.bool true, .string s] w (RatNo w 2) := by
  have B := (On.refl w).alloc (.cells #[.bool false, .slice none 0 0, .slice none 0 0] 24)
  have HO := Lib.hid (Own.new w 24 #[.bool false, .slice none 0 0, .slice none 0 0])
  have HZ := Lib.hid hz
  clear hz
  go_enter Try.func47, Try.ntmps47
  go_wp2_with fail
  refine (parse_good _ _ (by omega) h).mono ?_
  rintro e w1 ⟨A, n, c, rfl, N, P⟩
  have hn0 : n = 0 := (nm_zero_iff N).2 HZ.out
  subst hn0
  obtain ⟨xs, R, _⟩ := id N
  have hm := R.max
  have z0 : w1.cell? ⟨w.heap.size, 0, none⟩ = some (.bool false) := (HO.out.on P).cell 0
  have z1 : w1.cell? ⟨w.heap.size, 1, none⟩ = some (.slice none 0 0) := (HO.out.on P).cell 1
  have z2 : w1.cell? ⟨w.heap.size, 2, none⟩ = some (.slice none 0 0) := (HO.out.on P).cell 2
  have zf0 := (HO.out.on P).frozen 0
  have zf1 := (HO.out.on P).frozen 1
  have zf2 := (HO.out.on P).frozen 2
  go_wp2
  have hon3 := on3 (g := w.heap.size) (B.trans P) (by omega) (.bool false) (.slice none 0 0) (.slice none 0 0)
  exact bodyPost_ret (v := .tuple #[.agg #[.bool false, .slice none 0 0, .slice none 0 0], .iface 52 (.int .i64 2)]) (by simp [results, Try.results47, go_sem, z0, z1, z2]) rfl ⟨rfl, by first | exact B.trans P | exact hon3⟩
set_option maxRecDepth 100000 in
set_option maxHeartbeats 1600000 in
theorem pwhole_yes (w : World) (neg : Bool) (s : ByteArray) (hs : s.size ≤ 300) (h : textB s = true) (hz : ¬ (neg = true ∧ dv (bl s) = 0)) :
    Calls Try.prog 47 #[.bool neg, .string s] w (RatPost2 w (fr neg (dv (bl s)) 1) 40 .nilIface) := by
  have B := (On.refl w).alloc (.cells #[.bool false, .slice none 0 0, .slice none 0 0] 24)
  have HO := Lib.hid (Own.new w 24 #[.bool false, .slice none 0 0, .slice none 0 0])
  obtain ⟨q, hq⟩ : ∃ x, fr neg (dv (bl s)) 1 = x := ⟨_, rfl⟩
  rw [hq]
  have HQ := Lib.hid hq
  have hcase : (neg = false) ∨ (neg = true ∧ dv (bl s) ≠ 0) := by cases neg; exact .inl rfl; exact .inr ⟨rfl, fun e => hz ⟨rfl, e⟩⟩
  clear hq hz
  rcases hcase with rfl | ⟨rfl, hz⟩
  · go_enter Try.func47, Try.ntmps47
    go_wp2_with fail
    refine (parse_good _ _ (by omega) h).mono ?_
    rintro e w1 ⟨A, n, c, rfl, N, P⟩
    obtain ⟨xs, R, CX, VX, LX⟩ := id N
    have HV := Lib.hid VX
    clear VX N
    go_wp2_with fail
    refine (of_any _ 1 (by omega)).mono ?_
    rintro e w2 ⟨A2, n2, c2, rfl, N2, P2⟩
    obtain ⟨ys, R2, _, VY, LY⟩ := N2
    have HY : Hid (val ys = 1) := Lib.hid VY
    clear VY
    go_wp2_with fail
    refine (lowest_any _ _ _ _ _ _ _ _ 40 _ _ (R.on P2) R2 (by rw [HY.out]; decide) (by omega) (by omega) (by omega) (by omega)).mono ?_
    rintro e w3 ⟨v, rfl, I, P3⟩
    rw [HV.out, HY.out, HQ.out] at I
    obtain ⟨Q1, Qn, Qc, _, Q2, Qm, Qd, _, rfl, _⟩ := id I
    have z0 : w3.cell? ⟨w.heap.size, 0, none⟩ = some (.bool false) := (((HO.out.on P).on P2).on P3).cell 0
    have z1 : w3.cell? ⟨w.heap.size, 1, none⟩ = some (.slice none 0 0) := (((HO.out.on P).on P2).on P3).cell 1
    have z2 : w3.cell? ⟨w.heap.size, 2, none⟩ = some (.slice none 0 0) := (((HO.out.on P).on P2).on P3).cell 2
    have zf0 := (((HO.out.on P).on P2).on P3).frozen 0
    have zf1 := (((HO.out.on P).on P2).on P3).frozen 1
    have zf2 := (((HO.out.on P).on P2).on P3).frozen 2
    go_wp2
    have BB_ := ((B.trans P).trans P2).trans P3
    have hon := on3 (g := w.heap.size) BB_ (by omega) (.bool (decide (q < 0))) (.slice Q1 Qn Qc) (.slice Q2 Qm Qd)
    exact bodyPost_ret (v := .tuple #[.agg #[.bool (decide (q < 0)), .slice Q1 Qn Qc, .slice Q2 Qm Qd], .nilIface]) (by simp [results, Try.results47, go_sem, z0, z1, z2]) rfl ⟨_, rfl, isR_put I (((HO.out.on P).on P2).on P3) _ _ _, hon⟩
  · have HZ := Lib.hid hz
    clear hz
    go_enter Try.func47, Try.ntmps47
    go_wp2_with fail
    refine (parse_good _ _ (by omega) h).mono ?_
    rintro e w1 ⟨A, n, c, rfl, N, P⟩
    obtain ⟨xs, R, CX, VX, LX⟩ := id N
    have hb0 : ((n : Int) == 0) = false := by have := mt (nm_zero_iff N).1 HZ.out; simp; omega
    have hm := R.max
    have hc := R.cap
    have HV := Lib.hid VX
    clear VX N
    go_wp2_with fail
    refine (of_any _ 1 (by omega)).mono ?_
    rintro e w2 ⟨A2, n2, c2, rfl, N2, P2⟩
    obtain ⟨ys, R2, _, VY, LY⟩ := N2
    have HY : Hid (val ys = 1) := Lib.hid VY
    clear VY
    go_wp2_with fail
    refine (lowest_any _ _ _ _ _ _ _ _ 40 _ _ (R.on P2) R2 (by rw [HY.out]; decide) (by omega) (by omega) (by omega) (by omega)).mono ?_
    rintro e w3 ⟨v, rfl, I, P3⟩
    rw [HV.out, HY.out, HQ.out] at I
    obtain ⟨Q1, Qn, Qc, _, Q2, Qm, Qd, _, rfl, _⟩ := id I
    have z0 : w3.cell? ⟨w.heap.size, 0, none⟩ = some (.bool false) := (((HO.out.on P).on P2).on P3).cell 0
    have z1 : w3.cell? ⟨w.heap.size, 1, none⟩ = some (.slice none 0 0) := (((HO.out.on P).on P2).on P3).cell 1
    have z2 : w3.cell? ⟨w.heap.size, 2, none⟩ = some (.slice none 0 0) := (((HO.out.on P).on P2).on P3).cell 2
    have zf0 := (((HO.out.on P).on P2).on P3).frozen 0
    have zf1 := (((HO.out.on P).on P2).on P3).frozen 1
    have zf2 := (((HO.out.on P).on P2).on P3).frozen 2
    go_wp2
    have BB_ := ((B.trans P).trans P2).trans P3
    have hon := on3 (g := w.heap.size) BB_ (by omega) (.bool (decide (q < 0))) (.slice Q1 Qn Qc) (.slice Q2 Qm Qd)
    exact bodyPost_ret (v := .tuple #[.agg #[.bool (decide (q < 0)), .slice Q1 Qn Qc, .slice Q2 Qm Qd], .nilIface]) (by simp [results, Try.results47, go_sem, z0, z1, z2]) rfl ⟨_, rfl, isR_put I (((HO.out.on P).on P2).on P3) _ _ _, hon⟩
theorem pwhole_any (w : World) (neg : Bool) (s : ByteArray) (hs : s.size ≤ 300) :
    Calls Try.prog 47 #[.bool neg, .string s] w (OptPost w (WholeR neg (bl s)) 40) := by
  by_cases h : TextOk (bl s)
  · by_cases hz : neg = true ∧ dv (bl s) = 0
    · have e : WholeR neg (bl s) = none := by unfold WholeR; rw [if_neg (fun e => e.2 hz)]
      rw [e]
      obtain ⟨rfl, hz⟩ := hz
      exact pwhole_zero w s hs (decide_eq_true h) hz
    · have e : WholeR neg (bl s) = some (fr neg (dv (bl s)) 1) := by unfold WholeR; rw [if_pos ⟨h, hz⟩]
      rw [e]
      exact pwhole_yes w neg s hs (decide_eq_true h) hz
  · have e : WholeR neg (bl s) = none := by unfold WholeR; rw [if_neg (fun e => h e.1)]
    rw [e]
    exact pwhole_no w neg s hs (decide_eq_false h)
set_option maxRecDepth 100000 in
set_option maxHeartbeats 1600000 in
theorem pbroken_00 (w : World) (neg : Bool) (s p : ByteArray) (hs : s.size ≤ 300) (hp : p.size ≤ 300) (ha : textB s = false) (hb : textB p = false) :
    Calls Try.prog 46 #[.bool neg, .string s, .string p] w (RatNo w 2) := by
  have B := (On.refl w).alloc (.cells #[.bool false, .slice none 0 0, .slice none 0 0] 24)
  have HO := Lib.hid (Own.new w 24 #[.bool false, .slice none 0 0, .slice none 0 0])
  go_enter Try.func46, Try.ntmps46
  go_wp2_with fail
  refine (parse_bad _ _ (by omega) ha).mono ?_
  rintro e w1 ⟨rfl, rfl⟩
  have P1 := On.refl (w.alloc (.cells #[.bool false, .slice none 0 0, .slice none 0 0] 24))
  go_wp2_with fail
  refine (parse_bad _ _ (by omega) hb).mono ?_
  rintro e w2 ⟨rfl, rfl⟩
  have P2 := On.refl (w.alloc (.cells #[.bool false, .slice none 0 0, .slice none 0 0] 24))
  have z0 : (w.alloc (.cells #[.bool false, .slice none 0 0, .slice none 0 0] 24)).cell? ⟨w.heap.size, 0, none⟩ = some (.bool false) := ((HO.out.on P1).on P2).cell 0
  have z1 : (w.alloc (.cells #[.bool false, .slice none 0 0, .slice none 0 0] 24)).cell? ⟨w.heap.size, 1, none⟩ = some (.slice none 0 0) := ((HO.out.on P1).on P2).cell 1
  have z2 : (w.alloc (.cells #[.bool false, .slice none 0 0, .slice none 0 0] 24)).cell? ⟨w.heap.size, 2, none⟩ = some (.slice none 0 0) := ((HO.out.on P1).on P2).cell 2
  have zf0 := ((HO.out.on P1).on P2).frozen 0
  have zf1 := ((HO.out.on P1).on P2).frozen 1
  have zf2 := ((HO.out.on P1).on P2).frozen 2
  go_wp2
  have hon3 := on3 (g := w.heap.size) (((B.trans P1).trans P2)) (by omega) (.bool false) (.slice none 0 0) (.slice none 0 0)
  exact bodyPost_ret (v := .tuple #[.agg #[.bool false, .slice none 0 0, .slice none 0 0], .iface 52 (.int .i64 2)]) (by simp [results, Try.results46, go_sem, z0, z1, z2]) rfl ⟨rfl, by first | exact ((B.trans P1).trans P2) | exact hon3⟩
set_option maxRecDepth 100000 in
set_option maxHeartbeats 1600000 in
theorem pbroken_01 (w : World) (neg : Bool) (s p : ByteArray) (hs : s.size ≤ 300) (hp : p.size ≤ 300) (ha : textB s = false) (hb : textB p = true) :
    Calls Try.prog 46 #[.bool neg, .string s, .string p] w (RatNo w 2) := by
  have B := (On.refl w).alloc (.cells #[.bool false, .slice none 0 0, .slice none 0 0] 24)
  have HO := Lib.hid (Own.new w 24 #[.bool false, .slice none 0 0, .slice none 0 0])
  go_enter Try.func46, Try.ntmps46
  go_wp2_with fail
  refine (parse_bad _ _ (by omega) ha).mono ?_
  rintro e w1 ⟨rfl, rfl⟩
  have P1 := On.refl (w.alloc (.cells #[.bool false, .slice none 0 0, .slice none 0 0] 24))
  go_wp2_with fail
  refine (parse_good _ _ (by omega) hb).mono ?_
  rintro e w2 ⟨A', n', c', rfl, N', P2⟩
  have z0 : w2.cell? ⟨w.heap.size, 0, none⟩ = some (.bool false) := ((HO.out.on P1).on P2).cell 0
  have z1 : w2.cell? ⟨w.heap.size, 1, none⟩ = some (.slice none 0 0) := ((HO.out.on P1).on P2).cell 1
  have z2 : w2.cell? ⟨w.heap.size, 2, none⟩ = some (.slice none 0 0) := ((HO.out.on P1).on P2).cell 2
  have zf0 := ((HO.out.on P1).on P2).frozen 0
  have zf1 := ((HO.out.on P1).on P2).frozen 1
  have zf2 := ((HO.out.on P1).on P2).frozen 2
  go_wp2
  have hon3 := on3 (g := w.heap.size) (((B.trans P1).trans P2)) (by omega) (.bool false) (.slice none 0 0) (.slice none 0 0)
  exact bodyPost_ret (v := .tuple #[.agg #[.bool false, .slice none 0 0, .slice none 0 0], .iface 52 (.int .i64 2)]) (by simp [results, Try.results46, go_sem, z0, z1, z2]) rfl ⟨rfl, by first | exact ((B.trans P1).trans P2) | exact hon3⟩
set_option maxRecDepth 100000 in
set_option maxHeartbeats 1600000 in
theorem pbroken_10 (w : World) (neg : Bool) (s p : ByteArray) (hs : s.size ≤ 300) (hp : p.size ≤ 300) (ha : textB s = true) (hb : textB p = false) :
    Calls Try.prog 46 #[.bool neg, .string s, .string p] w (RatNo w 2) := by
  have B := (On.refl w).alloc (.cells #[.bool false, .slice none 0 0, .slice none 0 0] 24)
  have HO := Lib.hid (Own.new w 24 #[.bool false, .slice none 0 0, .slice none 0 0])
  go_enter Try.func46, Try.ntmps46
  go_wp2_with fail
  refine (parse_good _ _ (by omega) ha).mono ?_
  rintro e w1 ⟨A, n, c, rfl, N, P1⟩
  go_wp2_with fail
  refine (parse_bad _ _ (by omega) hb).mono ?_
  rintro e w2 ⟨rfl, rfl⟩
  have P2 := On.refl w2
  have z0 : w2.cell? ⟨w.heap.size, 0, none⟩ = some (.bool false) := ((HO.out.on P1).on P2).cell 0
  have z1 : w2.cell? ⟨w.heap.size, 1, none⟩ = some (.slice none 0 0) := ((HO.out.on P1).on P2).cell 1
  have z2 : w2.cell? ⟨w.heap.size, 2, none⟩ = some (.slice none 0 0) := ((HO.out.on P1).on P2).cell 2
  have zf0 := ((HO.out.on P1).on P2).frozen 0
  have zf1 := ((HO.out.on P1).on P2).frozen 1
  have zf2 := ((HO.out.on P1).on P2).frozen 2
  go_wp2
  have hon3 := on3 (g := w.heap.size) (((B.trans P1).trans P2)) (by omega) (.bool false) (.slice none 0 0) (.slice none 0 0)
  exact bodyPost_ret (v := .tuple #[.agg #[.bool false, .slice none 0 0, .slice none 0 0], .iface 52 (.int .i64 2)]) (by simp [results, Try.results46, go_sem, z0, z1, z2]) rfl ⟨rfl, by first | exact ((B.trans P1).trans P2) | exact hon3⟩
set_option maxRecDepth 100000 in
set_option maxHeartbeats 1600000 in
theorem pbroken_low (w : World) (neg : Bool) (s p : ByteArray) (hs : s.size ≤ 300) (hp : p.size ≤ 300) (ha : textB s = true) (hb : textB p = true) (hl : dv (bl p) < 2) :
    Calls Try.prog 46 #[.bool neg, .string s, .string p] w (RatNo w 2) := by
  have hl2 : ((nb (dv (bl p)) : Nat) : Int) < 2 := of_decide_eq_true ((nb_lt_two _).trans (decide_eq_true hl))
  have HL := Lib.hid hl2
  clear hl hl2
  have B := (On.refl w).alloc (.cells #[.bool false, .slice none 0 0, .slice none 0 0] 24)
  have HO := Lib.hid (Own.new w 24 #[.bool false, .slice none 0 0, .slice none 0 0])
  go_enter Try.func46, Try.ntmps46
  go_wp2_with fail
  refine (parse_good _ _ (by omega) ha).mono ?_
  rintro e w1 ⟨A, n, c, rfl, N, P1⟩
  go_wp2_with fail
  refine (parse_good _ _ (by omega) hb).mono ?_
  rintro e w2 ⟨A', n', c', rfl, N', P2⟩
  obtain ⟨ys, R', _, V', L'⟩ := N'
  have HV := Lib.hid V'
  clear V'
  go_wp2_with fail
  refine (bits_any _ _ _ _ _ R' (by omega)).mono ?_
  rintro e w' ⟨rfl, rfl⟩
  rw [HV.out]
  have hl2 := HL.out
  have z0 : w2.cell? ⟨w.heap.size, 0, none⟩ = some (.bool false) := ((HO.out.on P1).on P2).cell 0
  have z1 : w2.cell? ⟨w.heap.size, 1, none⟩ = some (.slice none 0 0) := ((HO.out.on P1).on P2).cell 1
  have z2 : w2.cell? ⟨w.heap.size, 2, none⟩ = some (.slice none 0 0) := ((HO.out.on P1).on P2).cell 2
  have zf0 := ((HO.out.on P1).on P2).frozen 0
  have zf1 := ((HO.out.on P1).on P2).frozen 1
  have zf2 := ((HO.out.on P1).on P2).frozen 2
  go_wp2
  have hon3 := on3 (g := w.heap.size) (((B.trans P1).trans P2)) (by omega) (.bool false) (.slice none 0 0) (.slice none 0 0)
  exact bodyPost_ret (v := .tuple #[.agg #[.bool false, .slice none 0 0, .slice none 0 0], .iface 52 (.int .i64 2)]) (by simp [results, Try.results46, go_sem, z0, z1, z2]) rfl ⟨rfl, by first | exact ((B.trans P1).trans P2) | exact hon3⟩
set_option maxRecDepth 100000 in
set_option maxHeartbeats 1600000 in
theorem pbroken_bad (w : World) (neg : Bool) (s p : ByteArray) (hs : s.size ≤ 300) (hp : p.size ≤ 300) (ha : textB s = true) (hb : textB p = true) (hl : 2 ≤ dv (bl p)) (hv : ¬ (dv (bl s) ≠ 0 ∧ Nat.gcd (dv (bl s)) (dv (bl p)) = 1)) :
    Calls Try.prog 46 #[.bool neg, .string s, .string p] w (RatNo w 2) := by
  have hl2 : ¬ ((nb (dv (bl p)) : Nat) : Int) < 2 := of_decide_eq_false ((nb_lt_two _).trans (decide_eq_false (by omega)))
  have HL := Lib.hid hl2
  have HP := Lib.hid hl
  have HV0 := Lib.hid hv
  clear hl hl2 hv
  have B := (On.refl w).alloc (.cells #[.bool false, .slice none 0 0, .slice none 0 0] 24)
  have HO := Lib.hid (Own.new w 24 #[.bool false, .slice none 0 0, .slice none 0 0])
  go_enter Try.func46, Try.ntmps46
  go_wp2_with fail
  refine (parse_good _ _ (by omega) ha).mono ?_
  rintro e w1 ⟨A, n, c, rfl, N, P1⟩
  go_wp2_with fail
  refine (parse_good _ _ (by omega) hb).mono ?_
  rintro e w2 ⟨A', n', c', rfl, N', P2⟩
  obtain ⟨xs, R, C, V, L0⟩ := N
  obtain ⟨ys, R', C', V', L'⟩ := N'
  have HV := Lib.hid V
  have HV' := Lib.hid V'
  clear V V'
  have hfit : fitB neg xs ys = false := by
    refine fitB_no _ (fun h => ?_) (fun h => ?_)
    · refine HV0.out ⟨?_, by rw [← HV.out, ← HV'.out]; exact h.2.2⟩
      rw [← HV.out]
      have := val_pos h.1.2 h.1.1
      omega
    · have := HP.out
      rw [← HV'.out, h.2] at this
      exact absurd this (by decide)
  have HF := Lib.hid hfit
  clear hfit
  have R2 := R.on P2
  go_wp2_with fail
  refine (bits_any _ _ _ _ _ R' (by omega)).mono ?_
  rintro e w' ⟨rfl, rfl⟩
  rw [HV'.out]
  have hl2 := HL.out
  go_wp2_with fail
  have PA := (On.refl w2).alloc (.cells #[.bool neg, .slice A n c, .slice A' n' c'] 24)
  have OA := Own.new w2 24 #[.bool neg, .slice A n c, .slice A' n' c']
  refine (valid_any _ _ _ _ _ _ _ _ _ _ (R2.on PA) (R'.on PA) (by omega) (by omega)).mono ?_
  rintro e w3 ⟨rfl, P3⟩
  rw [HF.out]
  have z0 : w3.cell? ⟨w.heap.size, 0, none⟩ = some (.bool false) := ((((HO.out.on P1).on P2).on PA).on P3).cell 0
  have z1 : w3.cell? ⟨w.heap.size, 1, none⟩ = some (.slice none 0 0) := ((((HO.out.on P1).on P2).on PA).on P3).cell 1
  have z2 : w3.cell? ⟨w.heap.size, 2, none⟩ = some (.slice none 0 0) := ((((HO.out.on P1).on P2).on PA).on P3).cell 2
  have zf0 := ((((HO.out.on P1).on P2).on PA).on P3).frozen 0
  have zf1 := ((((HO.out.on P1).on P2).on PA).on P3).frozen 1
  have zf2 := ((((HO.out.on P1).on P2).on PA).on P3).frozen 2
  go_wp2
  have hon3 := on3 (g := w.heap.size) (((((B.trans P1).trans P2).trans PA).trans P3)) (by omega) (.bool false) (.slice none 0 0) (.slice none 0 0)
  exact bodyPost_ret (v := .tuple #[.agg #[.bool false, .slice none 0 0, .slice none 0 0], .iface 52 (.int .i64 2)]) (by simp [results, Try.results46, go_sem, z0, z1, z2]) rfl ⟨rfl, by first | exact ((((B.trans P1).trans P2).trans PA).trans P3) | exact hon3⟩
set_option maxRecDepth 100000 in
set_option maxHeartbeats 1600000 in
theorem pbroken_yes (w : World) (neg : Bool) (s p : ByteArray) (hs : s.size ≤ 300) (hp : p.size ≤ 300) (ha : textB s = true) (hb : textB p = true) (hl : 2 ≤ dv (bl p)) (hv : dv (bl s) ≠ 0 ∧ Nat.gcd (dv (bl s)) (dv (bl p)) = 1) :
    Calls Try.prog 46 #[.bool neg, .string s, .string p] w (RatPost2 w (fr neg (dv (bl s)) (dv (bl p))) 40 .nilIface) := by
  have hl2 : ¬ ((nb (dv (bl p)) : Nat) : Int) < 2 := of_decide_eq_false ((nb_lt_two _).trans (decide_eq_false (by omega)))
  have HL := Lib.hid hl2
  have HP := Lib.hid hl
  have HV0 := Lib.hid hv
  clear hl hl2 hv
  have B := (On.refl w).alloc (.cells #[.bool false, .slice none 0 0, .slice none 0 0] 24)
  have HO := Lib.hid (Own.new w 24 #[.bool false, .slice none 0 0, .slice none 0 0])
  go_enter Try.func46, Try.ntmps46
  go_wp2_with fail
  refine (parse_good _ _ (by omega) ha).mono ?_
  rintro e w1 ⟨A, n, c, rfl, N, P1⟩
  go_wp2_with fail
  refine (parse_good _ _ (by omega) hb).mono ?_
  rintro e w2 ⟨A', n', c', rfl, N', P2⟩
  obtain ⟨xs, R, C, V, L0⟩ := N
  obtain ⟨ys, R', C', V', L'⟩ := N'
  have HV := Lib.hid V
  have HV' := Lib.hid V'
  clear V V'
  have hfit : fitB neg xs ys = true := by
    have q1 : 0 < val xs := by rw [HV.out]; have := HV0.out.1; omega
    have q2 : 0 < val ys := by rw [HV'.out]; have := HP.out; omega
    refine fitB_yes _ ⟨?_, C⟩ ⟨?_, C'⟩ (by rw [HV.out, HV'.out]; exact HV0.out.2)
    · rcases Nat.eq_zero_or_pos xs.length with h | h
      · rw [List.eq_nil_of_length_eq_zero h] at q1; cases q1
      · exact h
    · rcases Nat.eq_zero_or_pos ys.length with h | h
      · rw [List.eq_nil_of_length_eq_zero h] at q2; cases q2
      · exact h
  have HF := Lib.hid hfit
  clear hfit
  have R2 := R.on P2
  go_wp2_with fail
  refine (bits_any _ _ _ _ _ R' (by omega)).mono ?_
  rintro e w' ⟨rfl, rfl⟩
  rw [HV'.out]
  have hl2 := HL.out
  go_wp2_with fail
  have PA := (On.refl w2).alloc (.cells #[.bool neg, .slice A n c, .slice A' n' c'] 24)
  have OA := Own.new w2 24 #[.bool neg, .slice A n c, .slice A' n' c']
  refine (valid_any _ _ _ _ _ _ _ _ _ _ (R2.on PA) (R'.on PA) (by omega) (by omega)).mono ?_
  rintro e w3 ⟨rfl, P3⟩
  rw [HF.out]
  have z0 : w3.cell? ⟨w.heap.size, 0, none⟩ = some (.bool false) := ((((HO.out.on P1).on P2).on PA).on P3).cell 0
  have z1 : w3.cell? ⟨w.heap.size, 1, none⟩ = some (.slice none 0 0) := ((((HO.out.on P1).on P2).on PA).on P3).cell 1
  have z2 : w3.cell? ⟨w.heap.size, 2, none⟩ = some (.slice none 0 0) := ((((HO.out.on P1).on P2).on PA).on P3).cell 2
  have zf0 := ((((HO.out.on P1).on P2).on PA).on P3).frozen 0
  have zf1 := ((((HO.out.on P1).on P2).on PA).on P3).frozen 1
  have zf2 := ((((HO.out.on P1).on P2).on PA).on P3).frozen 2
  have y0 : w3.cell? ⟨w2.heap.size, 0, none⟩ = some (.bool neg) := (OA.on P3).cell 0
  have y1 : w3.cell? ⟨w2.heap.size, 1, none⟩ = some (.slice A n c) := (OA.on P3).cell 1
  have y2 : w3.cell? ⟨w2.heap.size, 2, none⟩ = some (.slice A' n' c') := (OA.on P3).cell 2
  go_wp2
  have hon := on3 (g := w.heap.size) ((((B.trans P1).trans P2).trans PA).trans P3) (by omega) (.bool neg) (.slice A n c) (.slice A' n' c')
  have hx0 : 0 < xs.length := by
    rcases Nat.eq_zero_or_pos xs.length with h | h
    · have := HV0.out.1
      rw [← HV.out, List.eq_nil_of_length_eq_zero h] at this
      exact absurd rfl this
    · exact h
  obtain ⟨_, _, p1, p2, p3⟩ := fit_parts HF.out hx0
  have II : IsR w3 (.agg #[.bool neg, .slice A n c, .slice A' n' c']) (fr neg (val xs) (val ys)) 40 := isR_one ((R2.on PA).on P3) ((R'.on PA).on P3) C C' (by omega) (by omega) p1 p2 p3
  rw [HV.out, HV'.out] at II
  exact bodyPost_ret (v := .tuple #[.agg #[.bool neg, .slice A n c, .slice A' n' c'], .nilIface]) (by simp [results, Try.results46, go_sem, z0, z1, z2]) rfl ⟨_, rfl, isR_put II ((((HO.out.on P1).on P2).on PA).on P3) _ _ _, hon⟩
theorem pbroken_any (w : World) (neg : Bool) (s p : ByteArray) (hs : s.size ≤ 300) (hp : p.size ≤ 300) :
    Calls Try.prog 46 #[.bool neg, .string s, .string p] w (OptPost w (BrokenR neg (bl s) (bl p)) 40) := by
  have no : ¬ (TextOk (bl s) ∧ TextOk (bl p) ∧ 2 ≤ dv (bl p) ∧ dv (bl s) ≠ 0 ∧ Nat.gcd (dv (bl s)) (dv (bl p)) = 1) → BrokenR neg (bl s) (bl p) = none := fun h => by unfold BrokenR; rw [if_neg h]
  by_cases ha : TextOk (bl s)
  · by_cases hb : TextOk (bl p)
    · by_cases hl : 2 ≤ dv (bl p)
      · by_cases hv : dv (bl s) ≠ 0 ∧ Nat.gcd (dv (bl s)) (dv (bl p)) = 1
        · have e : BrokenR neg (bl s) (bl p) = some (fr neg (dv (bl s)) (dv (bl p))) := by unfold BrokenR; rw [if_pos ⟨ha, hb, hl, hv⟩]
          rw [e]
          exact pbroken_yes w neg s p hs hp (decide_eq_true ha) (decide_eq_true hb) hl hv
        · rw [no (fun e => hv e.2.2.2)]
          exact pbroken_bad w neg s p hs hp (decide_eq_true ha) (decide_eq_true hb) hl hv
      · rw [no (fun e => hl e.2.2.1)]
        exact pbroken_low w neg s p hs hp (decide_eq_true ha) (decide_eq_true hb) (by omega)
    · rw [no (fun e => hb e.2.1)]
      exact pbroken_10 w neg s p hs hp (decide_eq_true ha) (decide_eq_false hb)
  · rw [no (fun e => ha e.1)]
    by_cases hb : TextOk (bl p)
    · exact pbroken_01 w neg s p hs hp (decide_eq_false ha) (decide_eq_true hb)
    · exact pbroken_00 w neg s p hs hp (decide_eq_false ha) (decide_eq_false hb)
end Num
end Go.Proofs.Ytkchpagjkgmpmaa
