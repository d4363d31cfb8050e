/-
  RationalMakes, walked.
-/
import Derived.Test.YtkpeliokhmigoaaRatq
namespace Go.Proofs.Ytkpeliokhmigoaa
open Go.RowKit
set_option linter.unusedVariables false
namespace Num
/-- a program's fraction and error, the specification's, and that they agree -/
def Twin (q : Rat) (L : Nat) (er : Value) (z : Int) (P R : World → (Ending → World → Prop) → Prop) : Prop :=
  (∀ w, P w (RatPost2 w q L er)) ∧ (∀ w, R w (RatPost2 w q L (.int .i64 z))) ∧ ∀ w, Calls Try.prog 20 #[er] w fun e w' => e = .returned (.int .i64 z) ∧ w = w'
theorem post_zero {w : World} {L : Nat} {er : Value} {e : Ending} {w' : World} (h : e = .returned (.tuple #[.agg #[.bool false, .slice none 0 0, .slice none 0 0], er]) ∧ On w w') : RatPost2 w 0 L er e w' := ⟨_, h.1, isR_zero _ _, h.2⟩
theorem make_twin (x y : Int) (h0 : -9223372036854775808 ≤ x) (h1 : x ≤ 9223372036854775807) (k0 : -9223372036854775808 ≤ y) (k1 : y ≤ 9223372036854775807) : ∃ q er z, Twin q 2 er z (fun w Q => Calls Try.prog 11 #[.int .i64 x, .int .i64 y] w Q) (fun w Q => Calls Try.prog 12 #[.int .i64 x, .int .i64 y] w Q) := by
  by_cases hy : y = 0
  · subst hy
    exact ⟨0, _, 8, fun w => (make_zero w x h0 h1).mono fun e w' h => post_zero h, fun w => (rmake_zero w x h0 h1).mono fun e w' h => post_zero h, fun w => num_err w 8⟩
  · exact ⟨_, _, 0, fun w => make_any w x y h0 h1 k0 k1 hy, fun w => rmake_any w x y h0 h1 k0 k1 hy, fun w => num_nil w⟩
theorem from_twin (s : Bool) (A A' : Option Addr) (n c n' c' : Nat) (xs ys : List Nat) (hn : n ≤ 12) (hn' : n' ≤ 12) : ∃ q er z, Twin q 12 er z (fun w Q => Rd w A n c xs → Rd w A' n' c' ys → Calls Try.prog 13 #[.bool s, .slice A n c, .slice A' n' c'] w Q) (fun w Q => Rd w A n c xs → Rd w A' n' c' ys → Calls Try.prog 14 #[.bool s, .slice A n c, .slice A' n' c'] w Q) := by
  rcases Nat.eq_zero_or_pos (val ys) with hy | hy
  · exact ⟨0, _, 8, fun w h k => (from_zero w s A A' n c n' c' xs ys h k hy (by omega)).mono fun e w' h => post_zero h, fun w h k => (rfrom_zero w s A A' n c n' c' xs ys h k hy (by omega)).mono fun e w' h => post_zero h, fun w => num_err w 8⟩
  · exact ⟨_, _, 0, fun w h k => from_any w s A A' n c n' c' 12 xs ys h k hy hn hn' (by decide) (by decide), fun w h k => rfrom_any w s A A' n c n' c' 12 xs ys h k hy hn hn' (by decide) (by decide), fun w => num_nil w⟩
set_option maxHeartbeats 3200000 in
theorem makes_large (w : World) (hx : MX w) (s : Bool) (A A' : Option Addr) (n c n' c' : Nat) (xs ys : List Nat) (h : Rd w A n c xs) (k : Rd w A' n' c' ys) (x y : Int) (hl : 12 < n ∨ 12 < n') :
    Calls Try.prog 3 #[.agg #[.bool s, .slice A n c, .slice A' n' c'], .int .i64 x, .int .i64 y] w fun e w' => e = .returned (.bool true) ∧ On w w' := by
  have B := (On.refl w).alloc (.cells #[.bool s, .slice A n c, .slice A' n' c'] 24)
  have HO := Lib.hid (Own.new w 24 #[.bool s, .slice A n c, .slice A' n' c'])
  go_enter Try.func3, Try.ntmps3
  go_wp2_with fail
  refine (awake02 _ (hx.on B)).mono ?_
  rintro e w1 ⟨rfl, P1⟩
  have a0 : w1.cell? ⟨w.heap.size, 0, none⟩ = some (.bool s) := (HO.out.on P1).cell 0
  have af0 := (HO.out.on P1).frozen 0
  have a1 : w1.cell? ⟨w.heap.size, 1, none⟩ = some (.slice A n c) := (HO.out.on P1).cell 1
  have af1 := (HO.out.on P1).frozen 1
  have a2 : w1.cell? ⟨w.heap.size, 2, none⟩ = some (.slice A' n' c') := (HO.out.on P1).cell 2
  have af2 := (HO.out.on P1).frozen 2
  go_wp2_with fail
  have B1 := (On.refl w1).alloc (.cells #[.bool s, .slice A n c, .slice A' n' c'] 24)
  have HO1 := Own.new w1 24 #[.bool s, .slice A n c, .slice A' n' c']
  have hlens := rlens_one (w1.alloc (.cells #[.bool s, .slice A n c, .slice A' n' c'] 24)) w1.heap.size s A A' n c n' c' xs ys (((h.on B).on P1).on B1) (((k.on B).on P1).on B1) (by have := HO1.lt; exact this) (HO1.cell 0) (HO1.cell 1) (HO1.cell 2)
  refine (rlarge_yes _ _ 1 1 _ hlens rfl (by decide) (by decide) (by decide) 0 _ rfl hl).mono ?_
  rintro e w2 ⟨rfl, P2⟩
  have PP := ((B.trans P1).trans B1).trans P2
  clear hlens HO1 HO
  clear a0 af0 a1 af1 a2 af2
  go_wp2_with fail
  refine (awake02 _ (hx.on PP)).mono ?_
  rintro e w3 ⟨rfl, P3⟩
  go_wp2
  go_ret
  exact ⟨rfl, PP.trans P3⟩
set_option maxHeartbeats 6400000 in
theorem makes_small (w : World) (hx : MX w) (s : Bool) (A A' : Option Addr) (n c n' c' : Nat) (xs ys : List Nat) (h : Rd w A n c xs) (k : Rd w A' n' c' ys) (x y : Int) (h0 : -9223372036854775808 ≤ x) (h1 : x ≤ 9223372036854775807) (k0 : -9223372036854775808 ≤ y) (k1 : y ≤ 9223372036854775807) (hn : n ≤ 12) (hn' : n' ≤ 12) :
    Calls Try.prog 3 #[.agg #[.bool s, .slice A n c, .slice A' n' c'], .int .i64 x, .int .i64 y] w fun e w' => e = .returned (.bool true) ∧ On w w' := by
  obtain ⟨q, er, z, t1, t2, t3⟩ := make_twin x y h0 h1 k0 k1
  obtain ⟨r, fr_, u, s1, s2, s3⟩ := from_twin s A A' n c n' c' xs ys hn hn'
  obtain ⟨b, hb⟩ : ∃ b, fitB s xs ys = b := ⟨_, rfl⟩
  have HB := Lib.hid hb
  clear hb
  have B := (On.refl w).alloc (.cells #[.bool s, .slice A n c, .slice A' n' c'] 24)
  have HO := Lib.hid (Own.new w 24 #[.bool s, .slice A n c, .slice A' n' c'])
  go_enter Try.func3, Try.ntmps3
  go_wp2_with fail
  refine (awake02 _ (hx.on B)).mono ?_
  rintro e w1 ⟨rfl, P1⟩
  have a0 : w1.cell? ⟨w.heap.size, 0, none⟩ = some (.bool s) := (HO.out.on P1).cell 0
  have af0 := (HO.out.on P1).frozen 0
  have a1 : w1.cell? ⟨w.heap.size, 1, none⟩ = some (.slice A n c) := (HO.out.on P1).cell 1
  have af1 := (HO.out.on P1).frozen 1
  have a2 : w1.cell? ⟨w.heap.size, 2, none⟩ = some (.slice A' n' c') := (HO.out.on P1).cell 2
  have af2 := (HO.out.on P1).frozen 2
  go_wp2_with fail
  have B1 := (On.refl w1).alloc (.cells #[.bool s, .slice A n c, .slice A' n' c'] 24)
  have HO1 := Own.new w1 24 #[.bool s, .slice A n c, .slice A' n' c']
  have hlens := rlens_one (w1.alloc (.cells #[.bool s, .slice A n c, .slice A' n' c'] 24)) w1.heap.size s A A' n c n' c' xs ys (((h.on B).on P1).on B1) (((k.on B).on P1).on B1) (by have := HO1.lt; exact this) (HO1.cell 0) (HO1.cell 1) (HO1.cell 2)
  refine (rlarge_no _ _ 1 1 _ hlens rfl (by decide) (by decide) (by decide) (by simp; exact ⟨hn, hn'⟩)).mono ?_
  rintro e w2 ⟨rfl, P2⟩
  have Q2 := (P1.trans B1).trans P2
  clear hlens HO1 P1 B1 P2
  clear a0 af0 a1 af1 a2 af2
  go_wp2_with fail
  refine (t1 _).mono ?_
  rintro e w3 ⟨vx, rfl, IX, P3⟩
  obtain ⟨X1, Xn, Xc, _, X2, Xm, Xd, _, rfl, _⟩ := id IX
  go_wp2_with fail
  have BX := (On.refl w3).alloc (.cells #[.bool (decide (q < 0)), .slice X1 Xn Xc, .slice X2 Xm Xd] 24)
  have OX := Lib.hid (Own.new w3 24 #[.bool (decide (q < 0)), .slice X1 Xn Xc, .slice X2 Xm Xd])
  refine (t2 _).mono ?_
  rintro e w4 ⟨vy, rfl, IY, P4⟩
  obtain ⟨Y1, Yn, Yc, _, Y2, Ym, Yd, _, rfl, _⟩ := id IY
  have BY := (On.refl w4).alloc (.cells #[.bool (decide (q < 0)), .slice Y1 Yn Yc, .slice Y2 Ym Yd] 24)
  have OY := Lib.hid (Own.new w4 24 #[.bool (decide (q < 0)), .slice Y1 Yn Yc, .slice Y2 Ym Yd])
  have Q4 := ((Q2.trans P3).trans BX).trans (P4.trans BY)
  have a0 : (w4.alloc (.cells #[.bool (decide (q < 0)), .slice Y1 Yn Yc, .slice Y2 Ym Yd] 24)).cell? ⟨w.heap.size, 0, none⟩ = some (.bool s) := (HO.out.on Q4).cell 0
  have af0 := (HO.out.on Q4).frozen 0
  have a1 : (w4.alloc (.cells #[.bool (decide (q < 0)), .slice Y1 Yn Yc, .slice Y2 Ym Yd] 24)).cell? ⟨w.heap.size, 1, none⟩ = some (.slice A n c) := (HO.out.on Q4).cell 1
  have af1 := (HO.out.on Q4).frozen 1
  have a2 : (w4.alloc (.cells #[.bool (decide (q < 0)), .slice Y1 Yn Yc, .slice Y2 Ym Yd] 24)).cell? ⟨w.heap.size, 2, none⟩ = some (.slice A' n' c') := (HO.out.on Q4).cell 2
  have af2 := (HO.out.on Q4).frozen 2
  go_wp2_with fail
  refine (s1 _ ((h.on B).on Q4) ((k.on B).on Q4)).mono ?_
  rintro e w5 ⟨vz, rfl, IZ, P5⟩
  obtain ⟨Z1, Zn, Zc, _, Z2, Zm, Zd, _, rfl, _⟩ := id IZ
  have BZ := (On.refl w5).alloc (.cells #[.bool (decide (r < 0)), .slice Z1 Zn Zc, .slice Z2 Zm Zd] 24)
  have OZ := Lib.hid (Own.new w5 24 #[.bool (decide (r < 0)), .slice Z1 Zn Zc, .slice Z2 Zm Zd])
  have Q5 := Q4.trans (P5.trans BZ)
  clear a0 af0 a1 af1 a2 af2
  have a0 : (w5.alloc (.cells #[.bool (decide (r < 0)), .slice Z1 Zn Zc, .slice Z2 Zm Zd] 24)).cell? ⟨w.heap.size, 0, none⟩ = some (.bool s) := (HO.out.on Q5).cell 0
  have af0 := (HO.out.on Q5).frozen 0
  have a1 : (w5.alloc (.cells #[.bool (decide (r < 0)), .slice Z1 Zn Zc, .slice Z2 Zm Zd] 24)).cell? ⟨w.heap.size, 1, none⟩ = some (.slice A n c) := (HO.out.on Q5).cell 1
  have af1 := (HO.out.on Q5).frozen 1
  have a2 : (w5.alloc (.cells #[.bool (decide (r < 0)), .slice Z1 Zn Zc, .slice Z2 Zm Zd] 24)).cell? ⟨w.heap.size, 2, none⟩ = some (.slice A' n' c') := (HO.out.on Q5).cell 2
  have af2 := (HO.out.on Q5).frozen 2
  go_wp2_with fail
  refine (s2 _ ((h.on B).on Q5) ((k.on B).on Q5)).mono ?_
  rintro e w6 ⟨vw, rfl, IW, P6⟩
  obtain ⟨W1, Wn, Wc, _, W2, Wm, Wd, _, rfl, _⟩ := id IW
  have BW := (On.refl w6).alloc (.cells #[.bool (decide (r < 0)), .slice W1 Wn Wc, .slice W2 Wm Wd] 24)
  have OW := Lib.hid (Own.new w6 24 #[.bool (decide (r < 0)), .slice W1 Wn Wc, .slice W2 Wm Wd])
  have Q6 := Lib.hid (Q5.trans (P6.trans BW))
  have IXr := ((((IX.on BX).on (P4.trans BY)).on (P5.trans BZ)).on (P6.trans BW))
  have IYr := (((IY.on BY).on (P5.trans BZ)).on (P6.trans BW))
  have IZr := ((IZ.on BZ).on (P6.trans BW))
  have IWr := (IW.on BW)
  have hr := (h.on B).on Q6.out
  have kr := (k.on B).on Q6.out
  have OAr := HO.out.on Q6.out
  have OXr := (((OX.out.on (P4.trans BY)).on (P5.trans BZ)).on (P6.trans BW))
  have OYr := ((OY.out.on (P5.trans BZ)).on (P6.trans BW))
  have OZr := (OZ.out.on (P6.trans BW))
  have OWr := OW.out
  have Qr := B.trans Q6.out
  clear a0 af0 a1 af1 a2 af2
  clear Q6 IX IY IZ IW BX BY BZ P3 P4 P5 P6 Q2 Q4 Q5 OX OY OZ OW BW HO B t1 t2 s1 s2 h k hx
  go_wp2_with fail
  obtain ⟨wr, hwr⟩ : ∃ wr, w6.alloc (.cells #[.bool (decide (r < 0)), .slice W1 Wn Wc, .slice W2 Wm Wd] 24) = wr := ⟨_, rfl⟩
  rw [hwr] at IXr IYr IZr IWr hr kr OAr OXr OYr OZr OWr Qr ⊢
  clear hwr
  have ca0 : wr.cell? ⟨w.heap.size, 0, none⟩ = some (.bool s) := OAr.cell 0
  have ca1 : wr.cell? ⟨w.heap.size, 1, none⟩ = some (.slice A n c) := OAr.cell 1
  have ca2 : wr.cell? ⟨w.heap.size, 2, none⟩ = some (.slice A' n' c') := OAr.cell 2
  have cx0 : wr.cell? ⟨w3.heap.size, 0, none⟩ = some (.bool (decide (q < 0))) := OXr.cell 0
  have cx1 : wr.cell? ⟨w3.heap.size, 1, none⟩ = some (.slice X1 Xn Xc) := OXr.cell 1
  have cx2 : wr.cell? ⟨w3.heap.size, 2, none⟩ = some (.slice X2 Xm Xd) := OXr.cell 2
  have cy0 : wr.cell? ⟨w4.heap.size, 0, none⟩ = some (.bool (decide (q < 0))) := OYr.cell 0
  have cy1 : wr.cell? ⟨w4.heap.size, 1, none⟩ = some (.slice Y1 Yn Yc) := OYr.cell 1
  have cy2 : wr.cell? ⟨w4.heap.size, 2, none⟩ = some (.slice Y2 Ym Yd) := OYr.cell 2
  have cz0 : wr.cell? ⟨w5.heap.size, 0, none⟩ = some (.bool (decide (r < 0))) := OZr.cell 0
  have cz1 : wr.cell? ⟨w5.heap.size, 1, none⟩ = some (.slice Z1 Zn Zc) := OZr.cell 1
  have cz2 : wr.cell? ⟨w5.heap.size, 2, none⟩ = some (.slice Z2 Zm Zd) := OZr.cell 2
  have cv0 : wr.cell? ⟨w6.heap.size, 0, none⟩ = some (.bool (decide (r < 0))) := OWr.cell 0
  have cv1 : wr.cell? ⟨w6.heap.size, 1, none⟩ = some (.slice W1 Wn Wc) := OWr.cell 1
  have cv2 : wr.cell? ⟨w6.heap.size, 2, none⟩ = some (.slice W2 Wm Wd) := OWr.cell 2
  have hbb : (b == b) = true := by cases b <;> rfl
  have HQr := Lib.hid Qr
  clear OAr OXr OYr OZr OWr Qr
  go_region_held3 (fun W => On wr W ∧ W.cell? ⟨w.heap.size, 0, none⟩ = some (.bool s) ∧ W.cell? ⟨w.heap.size, 1, none⟩ = some (.slice A n c) ∧ W.cell? ⟨w.heap.size, 2, none⟩ = some (.slice A' n' c') ∧ W.cell? ⟨w3.heap.size, 0, none⟩ = some (.bool (decide (q < 0))) ∧ W.cell? ⟨w3.heap.size, 1, none⟩ = some (.slice X1 Xn Xc) ∧ W.cell? ⟨w3.heap.size, 2, none⟩ = some (.slice X2 Xm Xd) ∧ W.cell? ⟨w4.heap.size, 0, none⟩ = some (.bool (decide (q < 0))) ∧ W.cell? ⟨w4.heap.size, 1, none⟩ = some (.slice Y1 Yn Yc) ∧ W.cell? ⟨w4.heap.size, 2, none⟩ = some (.slice Y2 Ym Yd) ∧ W.cell? ⟨w5.heap.size, 0, none⟩ = some (.bool (decide (r < 0))) ∧ W.cell? ⟨w5.heap.size, 1, none⟩ = some (.slice Z1 Zn Zc) ∧ W.cell? ⟨w5.heap.size, 2, none⟩ = some (.slice Z2 Zm Zd) ∧ W.cell? ⟨w6.heap.size, 0, none⟩ = some (.bool (decide (r < 0))) ∧ W.cell? ⟨w6.heap.size, 1, none⟩ = some (.slice W1 Wn Wc) ∧ W.cell? ⟨w6.heap.size, 2, none⟩ = some (.slice W2 Wm Wd))
    (first
      | exact ⟨(On.refl wr).drew, ca0, ca1, ca2, cx0, cx1, cx2, cy0, cy1, cy2, cz0, cz1, cz2, cv0, cv1, cv2⟩
      | exact ⟨On.refl wr, ca0, ca1, ca2, cx0, cx1, cx2, cy0, cy1, cy2, cz0, cz1, cz2, cv0, cv1, cv2⟩
      | assumption
      | (go_split_ands; refine ⟨?_, ?_, ?_, ?_, ?_, ?_, ?_, ?_, ?_, ?_, ?_, ?_, ?_, ?_, ?_, ?_⟩ <;> assumption)
      | (go_split_ands; exact ⟨On.trans (by assumption) P7, cell_later (On.below P7) (by assumption), cell_later (On.below P7) (by assumption), cell_later (On.below P7) (by assumption), cell_later (On.below P7) (by assumption), cell_later (On.below P7) (by assumption), cell_later (On.below P7) (by assumption), cell_later (On.below P7) (by assumption), cell_later (On.below P7) (by assumption), cell_later (On.below P7) (by assumption), cell_later (On.below P7) (by assumption), cell_later (On.below P7) (by assumption), cell_later (On.below P7) (by assumption), cell_later (On.below P7) (by assumption), cell_later (On.below P7) (by assumption), cell_later (On.below P7) (by assumption)⟩)
      | (go_split_ands; exact ⟨On.trans (by assumption) P8, cell_later (On.below P8) (by assumption), cell_later (On.below P8) (by assumption), cell_later (On.below P8) (by assumption), cell_later (On.below P8) (by assumption), cell_later (On.below P8) (by assumption), cell_later (On.below P8) (by assumption), cell_later (On.below P8) (by assumption), cell_later (On.below P8) (by assumption), cell_later (On.below P8) (by assumption), cell_later (On.below P8) (by assumption), cell_later (On.below P8) (by assumption), cell_later (On.below P8) (by assumption), cell_later (On.below P8) (by assumption), cell_later (On.below P8) (by assumption), cell_later (On.below P8) (by assumption)⟩)
      | (go_split_ands; exact ⟨On.trans (by assumption) P9, cell_later (On.below P9) (by assumption), cell_later (On.below P9) (by assumption), cell_later (On.below P9) (by assumption), cell_later (On.below P9) (by assumption), cell_later (On.below P9) (by assumption), cell_later (On.below P9) (by assumption), cell_later (On.below P9) (by assumption), cell_later (On.below P9) (by assumption), cell_later (On.below P9) (by assumption), cell_later (On.below P9) (by assumption), cell_later (On.below P9) (by assumption), cell_later (On.below P9) (by assumption), cell_later (On.below P9) (by assumption), cell_later (On.below P9) (by assumption), cell_later (On.below P9) (by assumption)⟩)
      | (go_split_ands; exact ⟨On.trans (by assumption) P10, cell_later (On.below P10) (by assumption), cell_later (On.below P10) (by assumption), cell_later (On.below P10) (by assumption), cell_later (On.below P10) (by assumption), cell_later (On.below P10) (by assumption), cell_later (On.below P10) (by assumption), cell_later (On.below P10) (by assumption), cell_later (On.below P10) (by assumption), cell_later (On.below P10) (by assumption), cell_later (On.below P10) (by assumption), cell_later (On.below P10) (by assumption), cell_later (On.below P10) (by assumption), cell_later (On.below P10) (by assumption), cell_later (On.below P10) (by assumption), cell_later (On.below P10) (by assumption)⟩)
      | (go_split_ands; exact ⟨On.trans (by assumption) P11, cell_later (On.below P11) (by assumption), cell_later (On.below P11) (by assumption), cell_later (On.below P11) (by assumption), cell_later (On.below P11) (by assumption), cell_later (On.below P11) (by assumption), cell_later (On.below P11) (by assumption), cell_later (On.below P11) (by assumption), cell_later (On.below P11) (by assumption), cell_later (On.below P11) (by assumption), cell_later (On.below P11) (by assumption), cell_later (On.below P11) (by assumption), cell_later (On.below P11) (by assumption), cell_later (On.below P11) (by assumption), cell_later (On.below P11) (by assumption), cell_later (On.below P11) (by assumption)⟩)
      | (go_split_ands; exact ⟨On.trans (by assumption) P12, cell_later (On.below P12) (by assumption), cell_later (On.below P12) (by assumption), cell_later (On.below P12) (by assumption), cell_later (On.below P12) (by assumption), cell_later (On.below P12) (by assumption), cell_later (On.below P12) (by assumption), cell_later (On.below P12) (by assumption), cell_later (On.below P12) (by assumption), cell_later (On.below P12) (by assumption), cell_later (On.below P12) (by assumption), cell_later (On.below P12) (by assumption), cell_later (On.below P12) (by assumption), cell_later (On.below P12) (by assumption), cell_later (On.below P12) (by assumption), cell_later (On.below P12) (by assumption)⟩)
      | (go_split_ands; exact ⟨On.trans (by assumption) P14, cell_later (On.below P14) (by assumption), cell_later (On.below P14) (by assumption), cell_later (On.below P14) (by assumption), cell_later (On.below P14) (by assumption), cell_later (On.below P14) (by assumption), cell_later (On.below P14) (by assumption), cell_later (On.below P14) (by assumption), cell_later (On.below P14) (by assumption), cell_later (On.below P14) (by assumption), cell_later (On.below P14) (by assumption), cell_later (On.below P14) (by assumption), cell_later (On.below P14) (by assumption), cell_later (On.below P14) (by assumption), cell_later (On.below P14) (by assumption), cell_later (On.below P14) (by assumption)⟩))
    (first
      | (go_at_call 15; refine (valid_any _ _ _ _ _ _ _ _ _ _ (hr.on ?_) (kr.on ?_) (by omega) (by omega)).mono ?_; (first | assumption | (go_split_ands; assumption)); (first | assumption | (go_split_ands; assumption)); rintro e w' ⟨rfl, P7⟩; rw [HB.out])
      | (go_at_call 16; refine (rvalid_any _ _ _ _ _ _ _ _ _ _ (hr.on ?_) (kr.on ?_) (by omega) (by omega)).mono ?_; (first | assumption | (go_split_ands; assumption)); (first | assumption | (go_split_ands; assumption)); rintro e w' ⟨rfl, P8⟩; rw [HB.out])
      | (go_at_call 18; refine (ofr_any _ _ h0 h1).mono ?_; rintro e w' ⟨v9, rfl, I9, P9⟩)
      | (go_at_call 19; refine (rofr_any _ _ h0 h1).mono ?_; rintro e w' ⟨v10, rfl, I10, P10⟩)
      | (go_at_call 20; with_reducible refine (t3 _).mono ?_; rintro e w' ⟨rfl, rfl⟩)
      | (go_at_call 20; with_reducible refine (s3 _).mono ?_; rintro e w' ⟨rfl, rfl⟩)
      | (go_at_call 17; with_reducible refine (rat_same _ _ _ _ 2 2 (I9.on P10) I10).mono ?_; rintro e w' ⟨rfl, P11⟩)
      | (go_at_call 17; with_reducible refine (rat_same _ _ _ _ 2 2 (IXr.on ?_) (IYr.on ?_)).mono ?_; (first | assumption | (go_split_ands; assumption)); (first | assumption | (go_split_ands; assumption)); rintro e w' ⟨rfl, P12⟩)
      | (go_at_call 17; with_reducible refine (rat_same _ _ _ _ 12 12 (IZr.on ?_) (IWr.on ?_)).mono ?_; (first | assumption | (go_split_ands; assumption)); (first | assumption | (go_split_ands; assumption)); rintro e w' ⟨rfl, P14⟩))
  all_goals
    rename_i hHe
    have hfin := HQr.out.trans hHe.1
    go_wp2
    go_ret
    exact ⟨by simp, hfin⟩
theorem makes_any (w : World) (hx : MX w) (s : Bool) (A A' : Option Addr) (n c n' c' : Nat) (xs ys : List Nat) (h : Rd w A n c xs) (k : Rd w A' n' c' ys) (x y : Int) (h0 : -9223372036854775808 ≤ x) (h1 : x ≤ 9223372036854775807) (k0 : -9223372036854775808 ≤ y) (k1 : y ≤ 9223372036854775807) :
    Calls Try.prog 3 #[.agg #[.bool s, .slice A n c, .slice A' n' c'], .int .i64 x, .int .i64 y] w fun e w' => e = .returned (.bool true) ∧ On w w' := by
  by_cases hl : 12 < n ∨ 12 < n'
  · exact makes_large w hx s A A' n c n' c' xs ys h k x y hl
  · exact makes_small w hx s A A' n c n' c' xs ys h k x y h0 h1 k0 k1 (by omega) (by omega)
end Num
end Go.Proofs.Ytkpeliokhmigoaa
