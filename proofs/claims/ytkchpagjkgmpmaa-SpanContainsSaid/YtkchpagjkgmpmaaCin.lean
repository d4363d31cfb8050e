/-
  A number of a span; what products, quotients, moves into 0..1 do with parts of spans; boxes of bytes; Contains and Inside of longer lists.
-/
import Derived.Test.YtkchpagjkgmpmaaSmm
import Derived.Test.YtkchpagjkgmpmaaSpg
namespace Go.Proofs.Ytkchpagjkgmpmaa
open Go.RowKit
set_option linter.unusedVariables false
namespace Num
theorem le_rmax_iff (x y z : Rat) : z ≤ rmax x y ↔ z ≤ x ∨ z ≤ y := by unfold rmax; split <;> grind
theorem prodLo_le (a b c d z : Rat) : prodLo a b c d ≤ z ↔ a * c ≤ z ∨ a * d ≤ z ∨ b * c ≤ z ∨ b * d ≤ z := by
  show rmin (rmin (rmin (a * c) (a * d)) (b * c)) (b * d) ≤ z ↔ _
  rw [rmin_le_iff, rmin_le_iff, rmin_le_iff, or_assoc, or_assoc]
theorem le_prodLo (a b c d z : Rat) : z ≤ prodLo a b c d ↔ z ≤ a * c ∧ z ≤ a * d ∧ z ≤ b * c ∧ z ≤ b * d := by
  show z ≤ rmin (rmin (rmin (a * c) (a * d)) (b * c)) (b * d) ↔ _
  rw [le_rmin_iff, le_rmin_iff, le_rmin_iff, and_assoc, and_assoc]
theorem prodHi_le (a b c d z : Rat) : prodHi a b c d ≤ z ↔ a * c ≤ z ∧ a * d ≤ z ∧ b * c ≤ z ∧ b * d ≤ z := by
  show rmax (rmax (rmax (a * c) (a * d)) (b * c)) (b * d) ≤ z ↔ _
  rw [rmax_le_iff, rmax_le_iff, rmax_le_iff, and_assoc, and_assoc]
theorem le_prodHi (a b c d z : Rat) : z ≤ prodHi a b c d ↔ z ≤ a * c ∨ z ≤ a * d ∨ z ≤ b * c ∨ z ≤ b * d := by
  show z ≤ rmax (rmax (rmax (a * c) (a * d)) (b * c)) (b * d) ↔ _
  rw [le_rmax_iff, le_rmax_iff, le_rmax_iff, or_assoc, or_assoc]
theorem mul_le_l {x y t : Rat} (h : x ≤ y) (k : 0 ≤ t) : x * t ≤ y * t := Rat.mul_le_mul_of_nonneg_right h k
theorem mul_le_n {x y t : Rat} (h : x ≤ y) (k : t ≤ 0) : y * t ≤ x * t := by
  have h1 : 0 ≤ -t := by grind
  have := Rat.mul_le_mul_of_nonneg_right h h1
  grind
/-- x t lies between a t and b t -/
theorem mul_between {a x b t : Rat} (h : a ≤ x) (k : x ≤ b) : (a * t ≤ x * t ∧ x * t ≤ b * t) ∨ (b * t ≤ x * t ∧ x * t ≤ a * t) := by
  rcases Rat.le_total (a := 0) (b := t) with c | c
  · exact .inl ⟨mul_le_l h c, mul_le_l k c⟩
  · exact .inr ⟨mul_le_n k c, mul_le_n h c⟩
theorem prodLo_mul {a b c d x y : Rat} (h1 : a ≤ x) (h2 : x ≤ b) (k1 : c ≤ y) (k2 : y ≤ d) : prodLo a b c d ≤ x * y := by
  rw [prodLo_le]
  have A := mul_between (t := y) h1 h2
  have C := mul_between (t := a) k1 k2
  have D := mul_between (t := b) k1 k2
  rw [Rat.mul_comm c a, Rat.mul_comm y a, Rat.mul_comm d a] at C
  rw [Rat.mul_comm c b, Rat.mul_comm y b, Rat.mul_comm d b] at D
  rcases A with ⟨A, _⟩ | ⟨A, _⟩
  · rcases C with ⟨C, _⟩ | ⟨C, _⟩
    · exact .inl (Rat.le_trans C A)
    · exact .inr (.inl (Rat.le_trans C A))
  · rcases D with ⟨D, _⟩ | ⟨D, _⟩
    · exact .inr (.inr (.inl (Rat.le_trans D A)))
    · exact .inr (.inr (.inr (Rat.le_trans D A)))
theorem mul_prodHi {a b c d x y : Rat} (h1 : a ≤ x) (h2 : x ≤ b) (k1 : c ≤ y) (k2 : y ≤ d) : x * y ≤ prodHi a b c d := by
  rw [le_prodHi]
  have A := mul_between (t := y) h1 h2
  have C := mul_between (t := a) k1 k2
  have D := mul_between (t := b) k1 k2
  rw [Rat.mul_comm c a, Rat.mul_comm y a, Rat.mul_comm d a] at C
  rw [Rat.mul_comm c b, Rat.mul_comm y b, Rat.mul_comm d b] at D
  rcases A with ⟨_, A⟩ | ⟨_, A⟩
  · rcases D with ⟨_, D⟩ | ⟨_, D⟩
    · exact .inr (.inr (.inr (Rat.le_trans A D)))
    · exact .inr (.inr (.inl (Rat.le_trans A D)))
  · rcases C with ⟨_, C⟩ | ⟨_, C⟩
    · exact .inr (.inl (Rat.le_trans A C))
    · exact .inl (Rat.le_trans A C)
/-- parts of spans give a part of the product -/
theorem prodLo_in {a b c d a' b' c' d' : Rat} (h1 : a ≤ a') (h2 : b' ≤ b) (k1 : c ≤ c') (k2 : d' ≤ d) (h : a' ≤ b') (k : c' ≤ d') : prodLo a b c d ≤ prodLo a' b' c' d' := by
  have x1 := Rat.le_trans h h2
  have x2 := Rat.le_trans h1 h
  have y1 := Rat.le_trans k k2
  have y2 := Rat.le_trans k1 k
  rw [le_prodLo]
  exact ⟨prodLo_mul h1 x1 k1 y1, prodLo_mul h1 x1 y2 k2, prodLo_mul x2 h2 k1 y1, prodLo_mul x2 h2 y2 k2⟩
theorem prodHi_in {a b c d a' b' c' d' : Rat} (h1 : a ≤ a') (h2 : b' ≤ b) (k1 : c ≤ c') (k2 : d' ≤ d) (h : a' ≤ b') (k : c' ≤ d') : prodHi a' b' c' d' ≤ prodHi a b c d := by
  have x1 := Rat.le_trans h h2
  have x2 := Rat.le_trans h1 h
  have y1 := Rat.le_trans k k2
  have y2 := Rat.le_trans k1 k
  rw [prodHi_le]
  exact ⟨mul_prodHi h1 x1 k1 y1, mul_prodHi h1 x1 y2 k2, mul_prodHi x2 h2 k1 y1, mul_prodHi x2 h2 y2 k2⟩
theorem prod_le (a b c d : Rat) (h : a ≤ b) (k : c ≤ d) : prodLo a b c d ≤ prodHi a b c d :=
  Rat.le_trans (prodLo_mul (Rat.le_refl (a := a)) h (Rat.le_refl (a := c)) k) (mul_prodHi Rat.le_refl h Rat.le_refl k)
/-- of one sign -/
theorem inv_le_inv {a b : Rat} (h : a ≤ b) (z : ¬ (a ≤ 0 ∧ 0 ≤ b)) : b⁻¹ ≤ a⁻¹ := by
  have ha : a ≠ 0 := by grind
  have hb : b ≠ 0 := by grind
  have hs : 0 < a * b := by
    by_cases c : 0 < a
    · exact Rat.mul_pos c (by grind)
    · have := Rat.mul_pos (a := -a) (b := -b) (by grind) (by grind)
      grind
  have hi : 0 ≤ (a * b)⁻¹ := Rat.le_of_lt (Rat.inv_pos.2 hs)
  have e1 : a * (a * b)⁻¹ = b⁻¹ := by rw [Rat.inv_mul_rev, Rat.mul_comm b⁻¹, ← Rat.mul_assoc, Rat.mul_inv_cancel _ ha, Rat.one_mul]
  have e2 : b * (a * b)⁻¹ = a⁻¹ := by rw [Rat.inv_mul_rev, ← Rat.mul_assoc, Rat.mul_inv_cancel _ hb, Rat.one_mul]
  have := Rat.mul_le_mul_of_nonneg_right h hi
  rwa [e1, e2] at this
theorem no_zero_part {c d c' d' : Rat} (z : ¬ (c ≤ 0 ∧ 0 ≤ d)) (k1 : c ≤ c') (k2 : d' ≤ d) : ¬ (c' ≤ 0 ∧ 0 ≤ d') := by grind
theorem clip_mono {x y : Rat} (h : x ≤ y) : clipR x ≤ clipR y := by unfold clipR rmax rmin; grind
theorem rmin_mono {x y a b : Rat} (h : x ≤ y) (k : a ≤ b) : rmin x a ≤ rmin y b := by unfold rmin; grind
theorem rmax_mono {x y a b : Rat} (h : x ≤ y) (k : a ≤ b) : rmax x a ≤ rmax y b := by unfold rmax; grind
/-- the k-th of 255 parts -/
def part (lo hi f : Rat) : Rat := lo + f * (hi - lo)
theorem part_lo {lo hi f : Rat} (h : lo ≤ hi) (f0 : 0 ≤ f) : lo ≤ part lo hi f := by
  have := Rat.mul_nonneg f0 (b := hi - lo) (by grind)
  unfold part; grind
theorem part_hi {lo hi f : Rat} (h : lo ≤ hi) (f1 : f ≤ 1) : part lo hi f ≤ hi := by
  have := Rat.mul_nonneg (a := 1 - f) (by grind) (b := hi - lo) (by grind)
  unfold part; grind
theorem part_mono {lo hi f g : Rat} (h : lo ≤ hi) (k : f ≤ g) : part lo hi f ≤ part lo hi g := by
  have := Rat.mul_le_mul_of_nonneg_right k (c := hi - lo) (by grind)
  unfold part; grind
theorem fr_part {k : Int} (h : 0 ≤ k) : fr (decide (k < 0) != decide ((255 : Int) < 0)) k.natAbs (255 : Int).natAbs = (k : Rat) * (255 : Rat)⁻¹ := by
  have e : (decide (k < 0) != decide ((255 : Int) < 0)) = false := by rw [decide_eq_false (by omega)]; rfl
  rw [e]
  show mkRat (k.natAbs : Int) 255 = _
  rw [show (k.natAbs : Int) = k by omega, Rat.mkRat_eq_div, Rat.div_def]
  rfl
theorem part_f0 {k : Int} (h : 0 ≤ k) : (0 : Rat) ≤ (k : Rat) * (255 : Rat)⁻¹ := Rat.mul_nonneg (Rat.intCast_nonneg.2 h) (by decide +kernel)
theorem part_f1 {k : Int} (h : k ≤ 255) : (k : Rat) * (255 : Rat)⁻¹ ≤ 1 := by
  have : (k : Rat) ≤ (255 : Int) := Rat.intCast_le_intCast.2 h
  have := Rat.mul_le_mul_of_nonneg_right this (c := (255 : Rat)⁻¹) (by decide +kernel)
  exact Rat.le_trans this (by decide +kernel)
theorem part_fm {k l : Int} (h : k ≤ l) : (k : Rat) * (255 : Rat)⁻¹ ≤ (l : Rat) * (255 : Rat)⁻¹ := Rat.mul_le_mul_of_nonneg_right (Rat.intCast_le_intCast.2 h) (by decide +kernel)
theorem add_le2 {x y a b : Rat} (h : x ≤ y) (k : a ≤ b) : x + a ≤ y + b := by grind
theorem not_le2 {x y : Rat} (h : x ≤ y) : 1 - y ≤ 1 - x := by grind
theorem noWords_2 (x y : Int) : NoWords 39 #[.int .u8 x, .int .u8 y] := by
  refine ⟨fun e => absurd e (by decide), fun k x e => ?_⟩
  match k with
  | 0 => cases e
  | 1 => cases e
  | k + 2 => simp at e
theorem noWords_4 (x y z u : Int) : NoWords 54 #[.int .u8 x, .int .u8 y, .int .u8 z, .int .u8 u] := by
  refine ⟨fun e => absurd e (by decide), fun k x e => ?_⟩
  match k with
  | 0 => cases e
  | 1 => cases e
  | 2 => cases e
  | 3 => cases e
  | k + 4 => simp at e
theorem run_loadY {w : World} {g k : Nat} {x : Value} (h : w.cell? ⟨g, k, none⟩ = some x) :
    (Instr.loadAt 5 (.pointer (some ⟨g, k, none⟩))).run Try.prog w = .ok x w := by
  go_simp
section
variable {Q : Exit → Act → World → Prop} {F : Nat → Value → World → Prop} {i : Nat} {a : Act} {w : World}
set_option maxRecDepth 100000 in
theorem ob_loadY {d : Option Tmp} {s ty j : Nat} {pos : String} {after : Array Edge} {gu : Option (Nat × Bool)} {g t : Nat} {cur : Array Value} {x : Value} (hs : a.tmps.getD s undef = .pointer (some ⟨g, j, none⟩)) (ho : Own w g t cur) (hx : cur[j]? = some x) (hf : F i x w) :
    Does Try.prog Q F i ⟨d, .load 5 (.tmp s), ty, pos, after, gu⟩ a w :=
  does_value (do_value (by rw [show a.eval (.tmp s) = _ from hs]; exact run_loadY ((ho.cell j).trans hx))) hf
set_option maxRecDepth 100000 in
theorem run_index2 {w : World} {g j : Nat} (hj : j < 2) : (Instr.indexAt 39 (.pointer (some ⟨g, 0, none⟩)) (.int .i64 (j : Int))).run Try.prog w = .ok (.pointer (some ⟨g, j, none⟩)) w := by
  go_simp
  intro h
  omega
set_option maxRecDepth 100000 in
theorem ob_index2 {d : Option Tmp} {s ty j : Nat} {pos : String} {after : Array Edge} {gu : Option (Nat × Bool)} {g : Nat} (hs : a.tmps.getD s undef = .pointer (some ⟨g, 0, none⟩)) (hj : j < 2) (hf : F i (.pointer (some ⟨g, j, none⟩)) w) :
    Does Try.prog Q F i ⟨d, .indexAddr 39 (.tmp s) (.const (.int .i64 (j : Int))), ty, pos, after, gu⟩ a w := by
  refine does_value (do_value (v := .pointer (some ⟨g, j, none⟩)) ?_) hf
  rw [show a.eval (.tmp s) = _ from hs]
  exact run_index2 hj
set_option maxRecDepth 100000 in
theorem run_index4 {w : World} {g j : Nat} (hj : j < 4) : (Instr.indexAt 54 (.pointer (some ⟨g, 0, none⟩)) (.int .i64 (j : Int))).run Try.prog w = .ok (.pointer (some ⟨g, j, none⟩)) w := by
  go_simp
  intro h
  omega
set_option maxRecDepth 100000 in
theorem ob_index4 {d : Option Tmp} {s ty j : Nat} {pos : String} {after : Array Edge} {gu : Option (Nat × Bool)} {g : Nat} (hs : a.tmps.getD s undef = .pointer (some ⟨g, 0, none⟩)) (hj : j < 4) (hf : F i (.pointer (some ⟨g, j, none⟩)) w) :
    Does Try.prog Q F i ⟨d, .indexAddr 54 (.tmp s) (.const (.int .i64 (j : Int))), ty, pos, after, gu⟩ a w := by
  refine does_value (do_value (v := .pointer (some ⟨g, j, none⟩)) ?_) hf
  rw [show a.eval (.tmp s) = _ from hs]
  exact run_index4 hj
end
set_option maxRecDepth 100000 in
set_option maxHeartbeats 1600000 in
theorem in_any' (w : World) (v : Value) (lo hi K : Rat) (k : Int) (h : IsS w v lo hi 6) (h0 : 0 ≤ k) (h1 : k ≤ 255) (hK : (k : Rat) * (255 : Rat)⁻¹ = K) :
    Calls Try.prog 19 #[v, .int .u8 k] w (RatPost w (part lo hi K) 53) := by
  have HK := Lib.hid hK
  clear hK
  obtain ⟨ba0, Aa0, na0, ca0, Ba0, ma0, oa0, bb0, Ab0, nb0, cb0, Bb0, mb0, ob0, rfl, IL0, IH0⟩ := h
  have B : On w ((w.alloc (.cells #[.bool ba0, .slice Aa0 na0 ca0, .slice Ba0 ma0 oa0, .bool bb0, .slice Ab0 nb0 cb0, .slice Bb0 mb0 ob0] 38)).alloc (.cells #[.bool false, .slice none 0 0, .slice none 0 0] 24)) := On.alloc (On.alloc (On.refl w) _) _
  have OB2 : w.heap.size ≤ w.heap.size ∧ Own ((w.alloc (.cells #[.bool ba0, .slice Aa0 na0 ca0, .slice Ba0 ma0 oa0, .bool bb0, .slice Ab0 nb0 cb0, .slice Bb0 mb0 ob0] 38)).alloc (.cells #[.bool false, .slice none 0 0, .slice none 0 0] 24)) (w.heap.size) 38 #[.bool ba0, .slice Aa0 na0 ca0, .slice Ba0 ma0 oa0, .bool bb0, .slice Ab0 nb0 cb0, .slice Bb0 mb0 ob0] := ⟨by omega, ((Own.at_ w (w.heap.size) (by simp) 38 #[.bool ba0, .slice Aa0 na0 ca0, .slice Ba0 ma0 oa0, .bool bb0, .slice Ab0 nb0 cb0, .slice Bb0 mb0 ob0]).alloc (.cells #[.bool false, .slice none 0 0, .slice none 0 0] 24))⟩
  have OB4 : w.heap.size ≤ w.heap.size + 1 ∧ Own ((w.alloc (.cells #[.bool ba0, .slice Aa0 na0 ca0, .slice Ba0 ma0 oa0, .bool bb0, .slice Ab0 nb0 cb0, .slice Bb0 mb0 ob0] 38)).alloc (.cells #[.bool false, .slice none 0 0, .slice none 0 0] 24)) (w.heap.size + 1) 24 #[.bool false, .slice none 0 0, .slice none 0 0] := ⟨by omega, (Own.at_ (w.alloc (.cells #[.bool ba0, .slice Aa0 na0 ca0, .slice Ba0 ma0 oa0, .bool bb0, .slice Ab0 nb0 cb0, .slice Bb0 mb0 ob0] 38)) (w.heap.size + 1) (by simp) 24 #[.bool false, .slice none 0 0, .slice none 0 0])⟩
  go_enter Try.func19, Try.ntmps19
  go_wp2_with fail
  refine (make_any _ k 255 (by omega) (by omega) (by decide) (by decide) (by decide)).mono ?_
  rintro e w1 ⟨u, rfl, I, P1⟩
  rw [fr_part h0, HK.out] at I
  clear HK h0 h1
  obtain ⟨s5, P5_, Pn5, Pc5, R5_, Rn5, Rc5, rfl⟩ := isR_form I
  replace OB2 := And.intro OB2.1 (OB2.2.on P1)
  replace OB4 := And.intro OB4.1 (OB4.2.on P1)
  replace B := B.trans P1
  have hg5 : w.heap.size + 1 < w1.heap.size := OB4.2.lt
  have PA := (On.refl w1).alloc (.cells #[.bool s5, .slice P5_ Pn5 Pc5, .slice R5_ Rn5 Rc5] 24)
  have B0_5 := B.size
  replace OB2 := And.intro OB2.1 (OB2.2.on PA)
  replace OB4 := And.intro OB4.1 (OB4.2.on PA)
  replace B := B.trans PA
  replace I := I.on PA
  have OB5 : w.heap.size ≤ w1.heap.size ∧ _ := ⟨B0_5, Own.new w1 24 #[.bool s5, .slice P5_ Pn5 Pc5, .slice R5_ Rn5 Rc5]⟩
  clear PA P1
  go_wp2
  refine wp_region_facts (by kernel_rfl) w [Fact.eq (.pointer (some ⟨w.heap.size, 0, none⟩)), Fact.eq (.agg #[.bool ba0, .slice Aa0 na0 ca0, .slice Ba0 ma0 oa0]), Fact.eq (.agg #[.bool s5, .slice P5_ Pn5 Pc5, .slice R5_ Rn5 Rc5]), Fact.eq (.pointer (some ⟨w.heap.size, 3, none⟩)), Fact.eq (.agg #[.bool bb0, .slice Ab0 nb0 cb0, .slice Bb0 mb0 ob0]), Fact.eq (.pointer (some ⟨w.heap.size, 0, none⟩)), Fact.eq (.agg #[.bool ba0, .slice Aa0 na0 ca0, .slice Ba0 ma0 oa0]), Fact.rat (hi - lo) (13), Fact.rat (K * (hi - lo)) (26), Fact.rat (lo + K * (hi - lo)) (53), Fact.any] [Fact.any, Fact.rat (lo + K * (hi - lo)) (53), Fact.any] [⟨11, 2, 38, 11, #[.bool ba0, .slice Aa0 na0 ca0, .slice Ba0 ma0 oa0, .bool bb0, .slice Ab0 nb0 cb0, .slice Bb0 mb0 ob0]⟩, ⟨11, 4, 24, 10, #[.bool false, .slice none 0 0, .slice none 0 0]⟩, ⟨11, 5, 24, 11, #[.bool s5, .slice P5_ Pn5 Pc5, .slice R5_ Rn5 Rc5]⟩] [w.heap.size, w.heap.size + 1, w1.heap.size] [none, none, none, none, none, none, none, none, none, none, none, none, none, some 13, some 14, some 15, some 16, some 17, some 18, some 19, some 20, some 21, some 22] (by kernel_rfl) (by kernel_rfl) (by kernel_rfl) rfl B ?_ ?_ ?_ ?_ ?_
  · exact ⟨fun _ => ⟨by simp, rfl, OB2⟩, fun _ => ⟨by simp, rfl, OB4⟩, fun _ => ⟨by simp, rfl, OB5⟩, trivial⟩
  · exact .inr (by simp <;> omega)
  · exact ⟨⟨noWords_S _ _ _ _ _ _ _ _ _ _ _ _ _ _, (.inl (Nat.le_refl _)), (.inl (Nat.le_refl _))⟩, ⟨noWords_R _ _ _ _ _ _ _, (.inl (Nat.le_refl _)), (.inr (store_ob (j := 9) (noWords_R _ _ _ _ _ _ _) rfl rfl rfl (by kernel_rfl) rfl rfl rfl))⟩, ⟨noWords_R _ _ _ _ _ _ _, (.inl (Nat.le_refl _)), (.inl (Nat.le_refl _))⟩, trivial⟩
  · refine ⟨?_, ?_, ?_, ?_, ?_, ?_, ?_, ?_, ?_, ?_, ?_, trivial⟩
    · exact .inr fun a w hp => ob_yes rfl (ob_fieldS0 (hp.box (k := 0) rfl (Nat.le_refl _) (.inl (Nat.le_refl _)) (by kernel_rfl) rfl).1 rfl)
    · exact .inr fun a w hp => ob_yes rfl (ob_loadLo (hp.fact 0 13 (by kernel_rfl) rfl) (hp.box (k := 0) rfl (Nat.le_refl _) (.inl (Nat.le_refl _)) (by kernel_rfl) rfl).2 rfl)
    · exact .inr fun a w hp => ob_yes rfl (ob_loadR (hp.box (k := 2) rfl (Nat.le_refl _) (.inl (Nat.le_refl _)) (by kernel_rfl) rfl).1 (hp.box (k := 2) rfl (Nat.le_refl _) (.inl (Nat.le_refl _)) (by kernel_rfl) rfl).2 rfl)
    · exact .inr fun a w hp => ob_yes rfl (ob_fieldS1 (hp.box (k := 0) rfl (Nat.le_refl _) (.inl (Nat.le_refl _)) (by kernel_rfl) rfl).1 rfl)
    · exact .inr fun a w hp => ob_yes rfl (ob_loadHi (hp.fact 3 16 (by kernel_rfl) rfl) (hp.box (k := 0) rfl (Nat.le_refl _) (.inl (Nat.le_refl _)) (by kernel_rfl) rfl).2 rfl)
    · exact .inr fun a w hp => ob_yes rfl (ob_fieldS0 (hp.box (k := 0) rfl (Nat.le_refl _) (.inl (Nat.le_refl _)) (by kernel_rfl) rfl).1 rfl)
    · exact .inr fun a w hp => ob_yes rfl (ob_loadLo (hp.fact 5 18 (by kernel_rfl) rfl) (hp.box (k := 0) rfl (Nat.le_refl _) (.inl (Nat.le_refl _)) (by kernel_rfl) rfl).2 rfl)
    · refine .inr fun a w hp => ob_yes rfl ?_
      have h17 : a.tmps.getD 17 undef = .agg #[.bool bb0, .slice Ab0 nb0 cb0, .slice Bb0 mb0 ob0] := (hp.fact 4 17 (by kernel_rfl) rfl)
      have h19 : a.tmps.getD 19 undef = .agg #[.bool ba0, .slice Aa0 na0 ca0, .slice Ba0 ma0 oa0] := (hp.fact 6 19 (by kernel_rfl) rfl)
      unfold Does
      go_simp
      refine (subr_any _ _ _ hi lo 6 (IsR.fld (IH0.on hp.on)) (IsR.fld (IL0.on hp.on)) (by decide) (by decide)).mono ?_
      rintro e w' ⟨u, rfl, I8, P8⟩
      exact ⟨_, rfl, P8, I8⟩
    · refine .inr fun a w hp => ob_yes rfl ?_
      have h15 : a.tmps.getD 15 undef = .agg #[.bool s5, .slice P5_ Pn5 Pc5, .slice R5_ Rn5 Rc5] := (hp.fact 2 15 (by kernel_rfl) rfl)
      have h20 : IsR w (a.tmps.getD 20 undef) (hi - lo) (13) := (hp.fact 7 20 (by kernel_rfl) rfl)
      obtain ⟨v20, e20⟩ : ∃ v, a.tmps.getD 20 undef = v := ⟨_, rfl⟩
      rw [e20] at h20
      unfold Does
      go_simp
      refine (mulr_any _ _ _ K (hi - lo) 13 ((IsR.fld (I.kept hp.kept)).wide (by decide)) (IsR.fld h20) (by decide) (by decide)).mono ?_
      rintro e w' ⟨u, rfl, I8, P8⟩
      exact ⟨_, rfl, P8, I8⟩
    · refine .inr fun a w hp => ob_yes rfl ?_
      have h14 : a.tmps.getD 14 undef = .agg #[.bool ba0, .slice Aa0 na0 ca0, .slice Ba0 ma0 oa0] := (hp.fact 1 14 (by kernel_rfl) rfl)
      have h21 : IsR w (a.tmps.getD 21 undef) (K * (hi - lo)) (26) := (hp.fact 8 21 (by kernel_rfl) rfl)
      obtain ⟨v21, e21⟩ : ∃ v, a.tmps.getD 21 undef = v := ⟨_, rfl⟩
      rw [e21] at h21
      unfold Does
      go_simp
      refine (addr_any _ _ _ lo (K * (hi - lo)) 26 ((IsR.fld (IL0.on hp.on)).wide (by decide)) (IsR.fld h21) (by decide) (by decide)).mono ?_
      rintro e w' ⟨u, rfl, I8, P8⟩
      exact ⟨_, rfl, P8, I8⟩
    · exact .inl rfl
  · intro f wr hon hk hf hb hap
    obtain ⟨q0, q1, q2, qz⟩ := hb
    clear qz
    have O2 : Own wr (w.heap.size) 38 #[.bool ba0, .slice Aa0 na0 ca0, .slice Ba0 ma0 oa0, .bool bb0, .slice Ab0 nb0 cb0, .slice Bb0 mb0 ob0] := q0
    have c2_0 : wr.cell? ⟨w.heap.size, 0, none⟩ = some (.bool ba0) := O2.cell 0
    have z2_0 := O2.frozen 0
    have c2_1 : wr.cell? ⟨w.heap.size, 1, none⟩ = some (.slice Aa0 na0 ca0) := O2.cell 1
    have z2_1 := O2.frozen 1
    have c2_2 : wr.cell? ⟨w.heap.size, 2, none⟩ = some (.slice Ba0 ma0 oa0) := O2.cell 2
    have z2_2 := O2.frozen 2
    have c2_3 : wr.cell? ⟨w.heap.size, 3, none⟩ = some (.bool bb0) := O2.cell 3
    have z2_3 := O2.frozen 3
    have c2_4 : wr.cell? ⟨w.heap.size, 4, none⟩ = some (.slice Ab0 nb0 cb0) := O2.cell 4
    have z2_4 := O2.frozen 4
    have c2_5 : wr.cell? ⟨w.heap.size, 5, none⟩ = some (.slice Bb0 mb0 ob0) := O2.cell 5
    have z2_5 := O2.frozen 5
    clear q0
    obtain ⟨cur4, O4, I4⟩ : ∃ cur, Own wr (w.heap.size + 1) 24 cur ∧ IsR wr (.agg cur) (lo + K * (hi - lo)) (53) := q1
    obtain ⟨sl4, P4, Pn4, Pc4, R4, Rn4, Rc4, hz4⟩ := isR_form I4
    injection hz4 with hz4
    subst hz4
    have c4_0 : wr.cell? ⟨w.heap.size + 1, 0, none⟩ = some (.bool sl4) := O4.cell 0
    have z4_0 := O4.frozen 0
    have c4_1 : wr.cell? ⟨w.heap.size + 1, 1, none⟩ = some (.slice P4 Pn4 Pc4) := O4.cell 1
    have z4_1 := O4.frozen 1
    have c4_2 : wr.cell? ⟨w.heap.size + 1, 2, none⟩ = some (.slice R4 Rn4 Rc4) := O4.cell 2
    have z4_2 := O4.frozen 2
    have O5 : Own wr (w1.heap.size) 24 #[.bool s5, .slice P5_ Pn5 Pc5, .slice R5_ Rn5 Rc5] := q2
    have c5_0 : wr.cell? ⟨w1.heap.size, 0, none⟩ = some (.bool s5) := O5.cell 0
    have z5_0 := O5.frozen 0
    have c5_1 : wr.cell? ⟨w1.heap.size, 1, none⟩ = some (.slice P5_ Pn5 Pc5) := O5.cell 1
    have z5_1 := O5.frozen 1
    have c5_2 : wr.cell? ⟨w1.heap.size, 2, none⟩ = some (.slice R5_ Rn5 Rc5) := O5.cell 2
    have z5_2 := O5.frozen 2
    clear q2
    clear hf hap
    simp only [fillL]
    go_wp2
    exact bodyPost_ret (v := .agg #[.bool sl4, .slice P4 Pn4 Pc4, .slice R4 Rn4 Rc4]) (by simp [results, Try.results19, go_sem, c4_0, c4_1, c4_2]) rfl ⟨_, rfl, I4, hon⟩
theorem in_any (w : World) (v : Value) (lo hi : Rat) (k : Int) (h : IsS w v lo hi 6) (h0 : 0 ≤ k) (h1 : k ≤ 255) :
    Calls Try.prog 19 #[v, .int .u8 k] w (RatPost w (part lo hi ((k : Rat) * (255 : Rat)⁻¹)) 53) := in_any' w v lo hi _ k h h0 h1 rfl
set_option maxRecDepth 100000 in
set_option maxHeartbeats 1600000 in
theorem spcont_big (w : World) (v v' : Value) (lo hi x : Rat) (L : Nat) (h : Sp w v lo hi L) (k : Fld w v' x L) (hL2 : 2 ≤ L) (hL : L ≤ 2000) :
    Calls Try.prog 20 #[v, v'] w fun e w' => e = .returned (.bool (decide (lo ≤ x) && decide (x ≤ hi))) ∧ On w w' := by
  obtain ⟨q, hq⟩ : ∃ q, (decide (lo ≤ x) && decide (x ≤ hi)) = q := ⟨_, rfl⟩
  rw [hq]
  have HQ := Lib.hid hq
  clear hq
  obtain ⟨ba0, Aa0, na0, ca0, Ba0, ma0, oa0, bb0, Ab0, nb0, cb0, Bb0, mb0, ob0, rfl⟩ := h.form
  obtain ⟨b1, A1, n1, c1, D1, m1, e1, rfl⟩ := fld_form k
  have B : On w ((w.alloc (.cells #[.bool ba0, .slice Aa0 na0 ca0, .slice Ba0 ma0 oa0, .bool bb0, .slice Ab0 nb0 cb0, .slice Bb0 mb0 ob0] 38)).alloc (.cells #[.bool b1, .slice A1 n1 c1, .slice D1 m1 e1] 24)) := On.alloc (On.alloc (On.refl w) _) _
  have OB2 : w.heap.size ≤ w.heap.size ∧ Own ((w.alloc (.cells #[.bool ba0, .slice Aa0 na0 ca0, .slice Ba0 ma0 oa0, .bool bb0, .slice Ab0 nb0 cb0, .slice Bb0 mb0 ob0] 38)).alloc (.cells #[.bool b1, .slice A1 n1 c1, .slice D1 m1 e1] 24)) (w.heap.size) 38 #[.bool ba0, .slice Aa0 na0 ca0, .slice Ba0 ma0 oa0, .bool bb0, .slice Ab0 nb0 cb0, .slice Bb0 mb0 ob0] := ⟨by omega, ((Own.at_ w (w.heap.size) (by simp) 38 #[.bool ba0, .slice Aa0 na0 ca0, .slice Ba0 ma0 oa0, .bool bb0, .slice Ab0 nb0 cb0, .slice Bb0 mb0 ob0]).alloc (.cells #[.bool b1, .slice A1 n1 c1, .slice D1 m1 e1] 24))⟩
  have OB3 : w.heap.size ≤ w.heap.size + 1 ∧ Own ((w.alloc (.cells #[.bool ba0, .slice Aa0 na0 ca0, .slice Ba0 ma0 oa0, .bool bb0, .slice Ab0 nb0 cb0, .slice Bb0 mb0 ob0] 38)).alloc (.cells #[.bool b1, .slice A1 n1 c1, .slice D1 m1 e1] 24)) (w.heap.size + 1) 24 #[.bool b1, .slice A1 n1 c1, .slice D1 m1 e1] := ⟨by omega, (Own.at_ (w.alloc (.cells #[.bool ba0, .slice Aa0 na0 ca0, .slice Ba0 ma0 oa0, .bool bb0, .slice Ab0 nb0 cb0, .slice Bb0 mb0 ob0] 38)) (w.heap.size + 1) (by simp) 24 #[.bool b1, .slice A1 n1 c1, .slice D1 m1 e1])⟩
  go_enter Try.func20, Try.ntmps20
  go_wp2
  refine wp_region_facts (by kernel_rfl) w [Fact.eq (.agg #[.bool ba0, .slice Aa0 na0 ca0, .slice Ba0 ma0 oa0, .bool bb0, .slice Ab0 nb0 cb0, .slice Bb0 mb0 ob0]), Fact.sp (lo) (hi) (L), Fact.eq (.agg #[.bool b1, .slice A1 n1 c1, .slice D1 m1 e1]), Fact.eq (.bool q), Fact.eq (.bool q)] [Fact.any, Fact.any] [⟨5, 2, 38, 5, #[.bool ba0, .slice Aa0 na0 ca0, .slice Ba0 ma0 oa0, .bool bb0, .slice Ab0 nb0 cb0, .slice Bb0 mb0 ob0]⟩, ⟨5, 3, 24, 5, #[.bool b1, .slice A1 n1 c1, .slice D1 m1 e1]⟩] [w.heap.size, w.heap.size + 1] [none, none, none, none, some 4, some 5, some 6, some 7, some 8] (by kernel_rfl) (by kernel_rfl) (by kernel_rfl) rfl B ?_ ?_ ?_ ?_ ?_
  · exact ⟨fun _ => ⟨by simp, rfl, OB2⟩, fun _ => ⟨by simp, rfl, OB3⟩, trivial⟩
  · exact .inl ⟨Nat.le_refl _, Nat.le_refl _, trivial⟩
  · exact ⟨⟨noWords_S _ _ _ _ _ _ _ _ _ _ _ _ _ _, (.inl (Nat.le_refl _)), (.inl (Nat.le_refl _))⟩, ⟨noWords_R _ _ _ _ _ _ _, (.inl (Nat.le_refl _)), (.inl (Nat.le_refl _))⟩, trivial⟩
  · refine ⟨?_, ?_, ?_, ?_, ?_, trivial⟩
    · exact .inr fun a w hp => ob_yes rfl (ob_loadSp (hp.box (k := 0) rfl (Nat.le_refl _) (.inl (Nat.le_refl _)) (by kernel_rfl) rfl).1 (hp.box (k := 0) rfl (Nat.le_refl _) (.inl (Nat.le_refl _)) (by kernel_rfl) rfl).2 rfl)
    · refine .inr fun a w hp => ob_yes rfl ?_
      have h5 : a.tmps.getD 5 undef = .agg #[.bool ba0, .slice Aa0 na0 ca0, .slice Ba0 ma0 oa0, .bool bb0, .slice Ab0 nb0 cb0, .slice Bb0 mb0 ob0] := (hp.fact 0 5 (by kernel_rfl) rfl)
      unfold Does
      go_simp
      refine (svalue_any _ _ _ _ L (h.on hp.on) (by omega)).mono ?_
      rintro e w' ⟨u, rfl, I8, P8⟩
      exact ⟨_, rfl, P8, I8⟩
    · exact .inr fun a w hp => ob_yes rfl (ob_loadR (hp.box (k := 1) rfl (Nat.le_refl _) (.inl (Nat.le_refl _)) (by kernel_rfl) rfl).1 (hp.box (k := 1) rfl (Nat.le_refl _) (.inl (Nat.le_refl _)) (by kernel_rfl) rfl).2 rfl)
    · refine .inr fun a w hp => ob_yes rfl ?_
      have h6 : IsS w (a.tmps.getD 6 undef) (lo) (hi) (L) := (hp.fact 1 6 (by kernel_rfl) rfl)
      obtain ⟨v6, e6⟩ : ∃ v, a.tmps.getD 6 undef = v := ⟨_, rfl⟩
      rw [e6] at h6
      have h7 : a.tmps.getD 7 undef = .agg #[.bool b1, .slice A1 n1 c1, .slice D1 m1 e1] := (hp.fact 2 7 (by kernel_rfl) rfl)
      unfold Does
      go_simp
      refine (scont_any _ _ _ lo hi x L h6 (k.on hp.on) (by omega)).mono ?_
      rintro e w' ⟨rfl, P8⟩
      rw [HQ.out]
      exact ⟨_, rfl, P8, rfl⟩
    · exact .inr fun a w hp => ob_yes rfl (ob_assign (hp.fact 3 8 (by kernel_rfl) rfl))
  · intro f wr hon hk hf hb hap
    obtain ⟨q0, q1, qz⟩ := hb
    clear qz
    have O2 : Own wr (w.heap.size) 38 #[.bool ba0, .slice Aa0 na0 ca0, .slice Ba0 ma0 oa0, .bool bb0, .slice Ab0 nb0 cb0, .slice Bb0 mb0 ob0] := q0
    have c2_0 : wr.cell? ⟨w.heap.size, 0, none⟩ = some (.bool ba0) := O2.cell 0
    have z2_0 := O2.frozen 0
    have c2_1 : wr.cell? ⟨w.heap.size, 1, none⟩ = some (.slice Aa0 na0 ca0) := O2.cell 1
    have z2_1 := O2.frozen 1
    have c2_2 : wr.cell? ⟨w.heap.size, 2, none⟩ = some (.slice Ba0 ma0 oa0) := O2.cell 2
    have z2_2 := O2.frozen 2
    have c2_3 : wr.cell? ⟨w.heap.size, 3, none⟩ = some (.bool bb0) := O2.cell 3
    have z2_3 := O2.frozen 3
    have c2_4 : wr.cell? ⟨w.heap.size, 4, none⟩ = some (.slice Ab0 nb0 cb0) := O2.cell 4
    have z2_4 := O2.frozen 4
    have c2_5 : wr.cell? ⟨w.heap.size, 5, none⟩ = some (.slice Bb0 mb0 ob0) := O2.cell 5
    have z2_5 := O2.frozen 5
    clear q0
    have O3 : Own wr (w.heap.size + 1) 24 #[.bool b1, .slice A1 n1 c1, .slice D1 m1 e1] := q1
    have c3_0 : wr.cell? ⟨w.heap.size + 1, 0, none⟩ = some (.bool b1) := O3.cell 0
    have z3_0 := O3.frozen 0
    have c3_1 : wr.cell? ⟨w.heap.size + 1, 1, none⟩ = some (.slice A1 n1 c1) := O3.cell 1
    have z3_1 := O3.frozen 1
    have c3_2 : wr.cell? ⟨w.heap.size + 1, 2, none⟩ = some (.slice D1 m1 e1) := O3.cell 2
    have z3_2 := O3.frozen 2
    clear q1
    have e4 : f 4 = .bool q := hf 4 4 rfl
    clear hf hap
    simp only [fillL, e4]
    clear e4
    go_wp2
    go_ret
    exact ⟨rfl, hon⟩
set_option maxRecDepth 100000 in
set_option maxHeartbeats 1600000 in
theorem spins_big (w : World) (v v' : Value) (lo hi lo' hi' : Rat) (L : Nat) (h : Sp w v lo hi L) (k : Sp w v' lo' hi' L) (hL2 : 2 ≤ L) (hL : L ≤ 2000) :
    Calls Try.prog 33 #[v, v'] w fun e w' => e = .returned (.bool (decide (lo' ≤ lo) && decide (hi ≤ hi'))) ∧ On w w' := by
  rw [← inside_eq h.le k.le]
  obtain ⟨q1, hq1⟩ : ∃ q, (decide (lo' ≤ lo) && decide (lo ≤ hi')) = q := ⟨_, rfl⟩
  obtain ⟨q2, hq2⟩ : ∃ q, (decide (lo' ≤ hi) && decide (hi ≤ hi')) = q := ⟨_, rfl⟩
  rw [hq1, hq2]
  have HQ1 := Lib.hid hq1
  have HQ2 := Lib.hid hq2
  clear hq1 hq2
  obtain ⟨ba0, Aa0, na0, ca0, Ba0, ma0, oa0, bb0, Ab0, nb0, cb0, Bb0, mb0, ob0, rfl⟩ := h.form
  obtain ⟨ba1, Aa1, na1, ca1, Ba1, ma1, oa1, bb1, Ab1, nb1, cb1, Bb1, mb1, ob1, rfl⟩ := k.form
  have B : On w ((w.alloc (.cells #[.bool ba0, .slice Aa0 na0 ca0, .slice Ba0 ma0 oa0, .bool bb0, .slice Ab0 nb0 cb0, .slice Bb0 mb0 ob0] 38)).alloc (.cells #[.bool ba1, .slice Aa1 na1 ca1, .slice Ba1 ma1 oa1, .bool bb1, .slice Ab1 nb1 cb1, .slice Bb1 mb1 ob1] 38)) := On.alloc (On.alloc (On.refl w) _) _
  have OB2 : w.heap.size ≤ w.heap.size ∧ Own ((w.alloc (.cells #[.bool ba0, .slice Aa0 na0 ca0, .slice Ba0 ma0 oa0, .bool bb0, .slice Ab0 nb0 cb0, .slice Bb0 mb0 ob0] 38)).alloc (.cells #[.bool ba1, .slice Aa1 na1 ca1, .slice Ba1 ma1 oa1, .bool bb1, .slice Ab1 nb1 cb1, .slice Bb1 mb1 ob1] 38)) (w.heap.size) 38 #[.bool ba0, .slice Aa0 na0 ca0, .slice Ba0 ma0 oa0, .bool bb0, .slice Ab0 nb0 cb0, .slice Bb0 mb0 ob0] := ⟨by omega, ((Own.at_ w (w.heap.size) (by simp) 38 #[.bool ba0, .slice Aa0 na0 ca0, .slice Ba0 ma0 oa0, .bool bb0, .slice Ab0 nb0 cb0, .slice Bb0 mb0 ob0]).alloc (.cells #[.bool ba1, .slice Aa1 na1 ca1, .slice Ba1 ma1 oa1, .bool bb1, .slice Ab1 nb1 cb1, .slice Bb1 mb1 ob1] 38))⟩
  have OB3 : w.heap.size ≤ w.heap.size + 1 ∧ Own ((w.alloc (.cells #[.bool ba0, .slice Aa0 na0 ca0, .slice Ba0 ma0 oa0, .bool bb0, .slice Ab0 nb0 cb0, .slice Bb0 mb0 ob0] 38)).alloc (.cells #[.bool ba1, .slice Aa1 na1 ca1, .slice Ba1 ma1 oa1, .bool bb1, .slice Ab1 nb1 cb1, .slice Bb1 mb1 ob1] 38)) (w.heap.size + 1) 38 #[.bool ba1, .slice Aa1 na1 ca1, .slice Ba1 ma1 oa1, .bool bb1, .slice Ab1 nb1 cb1, .slice Bb1 mb1 ob1] := ⟨by omega, (Own.at_ (w.alloc (.cells #[.bool ba0, .slice Aa0 na0 ca0, .slice Ba0 ma0 oa0, .bool bb0, .slice Ab0 nb0 cb0, .slice Bb0 mb0 ob0] 38)) (w.heap.size + 1) (by simp) 38 #[.bool ba1, .slice Aa1 na1 ca1, .slice Ba1 ma1 oa1, .bool bb1, .slice Ab1 nb1 cb1, .slice Bb1 mb1 ob1])⟩
  go_enter Try.func33, Try.ntmps33
  go_wp2
  refine wp_region_facts (by kernel_rfl) w [Fact.eq (.agg #[.bool ba0, .slice Aa0 na0 ca0, .slice Ba0 ma0 oa0, .bool bb0, .slice Ab0 nb0 cb0, .slice Bb0 mb0 ob0]), Fact.sp (lo) (hi) (L), Fact.eq (.agg #[.bool ba1, .slice Aa1 na1 ca1, .slice Ba1 ma1 oa1, .bool bb1, .slice Ab1 nb1 cb1, .slice Bb1 mb1 ob1]), Fact.sp (lo') (hi') (L), Fact.any, Fact.any] [Fact.sp (lo) (hi) (L), Fact.sp (lo') (hi') (L)] [⟨6, 2, 38, 4, #[.bool ba0, .slice Aa0 na0 ca0, .slice Ba0 ma0 oa0, .bool bb0, .slice Ab0 nb0 cb0, .slice Bb0 mb0 ob0]⟩, ⟨6, 3, 38, 5, #[.bool ba1, .slice Aa1 na1 ca1, .slice Ba1 ma1 oa1, .bool bb1, .slice Ab1 nb1 cb1, .slice Bb1 mb1 ob1]⟩] [w.heap.size, w.heap.size + 1] [none, none, none, none, none, some 5, some 6, some 7, some 8, none, none, none, none, none, none, none, none, none, none] (by kernel_rfl) (by kernel_rfl) (by kernel_rfl) rfl B ?_ ?_ ?_ ?_ ?_
  · exact ⟨fun _ => ⟨by simp, rfl, OB2⟩, fun _ => ⟨by simp, rfl, OB3⟩, trivial⟩
  · exact .inr (by simp <;> omega)
  · exact ⟨⟨noWords_S _ _ _ _ _ _ _ _ _ _ _ _ _ _, (.inl (Nat.le_refl _)), (.inr (store_obS (j := 1) (noWords_S _ _ _ _ _ _ _ _ _ _ _ _ _ _) rfl rfl rfl (by kernel_rfl) rfl rfl rfl))⟩, ⟨noWords_S _ _ _ _ _ _ _ _ _ _ _ _ _ _, (.inl (Nat.le_refl _)), (.inr (store_obS (j := 3) (noWords_S _ _ _ _ _ _ _ _ _ _ _ _ _ _) rfl rfl rfl (by kernel_rfl) rfl rfl rfl))⟩, trivial⟩
  · refine ⟨?_, ?_, ?_, ?_, ?_, ?_, trivial⟩
    · exact .inr fun a w hp => ob_yes rfl (ob_loadSp (hp.box (k := 0) rfl (Nat.le_refl _) (.inr (.inl (by kernel_rfl))) (by kernel_rfl) rfl).1 (hp.box (k := 0) rfl (Nat.le_refl _) (.inr (.inl (by kernel_rfl))) (by kernel_rfl) rfl).2 rfl)
    · refine .inr fun a w hp => ob_yes rfl ?_
      have h5 : a.tmps.getD 5 undef = .agg #[.bool ba0, .slice Aa0 na0 ca0, .slice Ba0 ma0 oa0, .bool bb0, .slice Ab0 nb0 cb0, .slice Bb0 mb0 ob0] := (hp.fact 0 5 (by kernel_rfl) rfl)
      unfold Does
      go_simp
      refine (svalue_any _ _ _ _ L (h.on hp.on) (by omega)).mono ?_
      rintro e w' ⟨u, rfl, I8, P8⟩
      exact ⟨_, rfl, P8, I8⟩
    · exact .inr fun a w hp => ob_yes rfl (ob_loadSp (hp.box (k := 1) rfl (Nat.le_refl _) (.inr (.inl (by kernel_rfl))) (by kernel_rfl) rfl).1 (hp.box (k := 1) rfl (Nat.le_refl _) (.inr (.inl (by kernel_rfl))) (by kernel_rfl) rfl).2 rfl)
    · refine .inr fun a w hp => ob_yes rfl ?_
      have h7 : a.tmps.getD 7 undef = .agg #[.bool ba1, .slice Aa1 na1 ca1, .slice Ba1 ma1 oa1, .bool bb1, .slice Ab1 nb1 cb1, .slice Bb1 mb1 ob1] := (hp.fact 2 7 (by kernel_rfl) rfl)
      unfold Does
      go_simp
      refine (svalue_any _ _ _ _ L (k.on hp.on) (by omega)).mono ?_
      rintro e w' ⟨u, rfl, I8, P8⟩
      exact ⟨_, rfl, P8, I8⟩
    · exact .inl rfl
    · exact .inl rfl
  · intro f wr hon hk hf hb hap
    obtain ⟨q0, q1, qz⟩ := hb
    clear qz
    obtain ⟨cur2, O2, I2⟩ : ∃ cur, Own wr (w.heap.size) 38 cur ∧ IsS wr (.agg cur) (lo) (hi) (L) := q0
    obtain ⟨sl2, P2, Pn2, Pc2, R2, Rn2, Rc2, sh2, U2, Un2, Uc2, V2, Vn2, Vc2, hz2, IL2, IH2⟩ := id I2
    injection hz2 with hz2
    subst hz2
    have c2_0 : wr.cell? ⟨w.heap.size, 0, none⟩ = some (.bool sl2) := O2.cell 0
    have z2_0 := O2.frozen 0
    have c2_1 : wr.cell? ⟨w.heap.size, 1, none⟩ = some (.slice P2 Pn2 Pc2) := O2.cell 1
    have z2_1 := O2.frozen 1
    have c2_2 : wr.cell? ⟨w.heap.size, 2, none⟩ = some (.slice R2 Rn2 Rc2) := O2.cell 2
    have z2_2 := O2.frozen 2
    have c2_3 : wr.cell? ⟨w.heap.size, 3, none⟩ = some (.bool sh2) := O2.cell 3
    have z2_3 := O2.frozen 3
    have c2_4 : wr.cell? ⟨w.heap.size, 4, none⟩ = some (.slice U2 Un2 Uc2) := O2.cell 4
    have z2_4 := O2.frozen 4
    have c2_5 : wr.cell? ⟨w.heap.size, 5, none⟩ = some (.slice V2 Vn2 Vc2) := O2.cell 5
    have z2_5 := O2.frozen 5
    obtain ⟨cur3, O3, I3⟩ : ∃ cur, Own wr (w.heap.size + 1) 38 cur ∧ IsS wr (.agg cur) (lo') (hi') (L) := q1
    obtain ⟨sl3, P3, Pn3, Pc3, R3, Rn3, Rc3, sh3, U3, Un3, Uc3, V3, Vn3, Vc3, hz3, IL3, IH3⟩ := id I3
    injection hz3 with hz3
    subst hz3
    have c3_0 : wr.cell? ⟨w.heap.size + 1, 0, none⟩ = some (.bool sl3) := O3.cell 0
    have z3_0 := O3.frozen 0
    have c3_1 : wr.cell? ⟨w.heap.size + 1, 1, none⟩ = some (.slice P3 Pn3 Pc3) := O3.cell 1
    have z3_1 := O3.frozen 1
    have c3_2 : wr.cell? ⟨w.heap.size + 1, 2, none⟩ = some (.slice R3 Rn3 Rc3) := O3.cell 2
    have z3_2 := O3.frozen 2
    have c3_3 : wr.cell? ⟨w.heap.size + 1, 3, none⟩ = some (.bool sh3) := O3.cell 3
    have z3_3 := O3.frozen 3
    have c3_4 : wr.cell? ⟨w.heap.size + 1, 4, none⟩ = some (.slice U3 Un3 Uc3) := O3.cell 4
    have z3_4 := O3.frozen 4
    have c3_5 : wr.cell? ⟨w.heap.size + 1, 5, none⟩ = some (.slice V3 Vn3 Vc3) := O3.cell 5
    have z3_5 := O3.frozen 5
    clear hf hap
    simp only [fillL]
    have OB2 : w.heap.size ≤ w.heap.size ∧ Own wr (w.heap.size) 38 #[.bool sl2, .slice P2 Pn2 Pc2, .slice R2 Rn2 Rc2, .bool sh2, .slice U2 Un2 Uc2, .slice V2 Vn2 Vc2] := ⟨by omega, O2⟩
    clear c2_0 z2_0 c2_1 z2_1 c2_2 z2_2 c2_3 z2_3 c2_4 z2_4 c2_5 z2_5 O2
    have OB3 : w.heap.size ≤ w.heap.size + 1 ∧ Own wr (w.heap.size + 1) 38 #[.bool sl3, .slice P3 Pn3 Pc3, .slice R3 Rn3 Rc3, .bool sh3, .slice U3 Un3 Uc3, .slice V3 Vn3 Vc3] := ⟨by omega, O3⟩
    clear c3_0 z3_0 c3_1 z3_1 c3_2 z3_2 c3_3 z3_3 c3_4 z3_4 c3_5 z3_5 O3
    clear B
    have B := hon
    clear hon hk h k
    have y2_0 : wr.cell? ⟨w.heap.size, 0, none⟩ = some (.bool sl2) := OB2.2.cell 0
    have y2_1 : wr.cell? ⟨w.heap.size, 1, none⟩ = some (.slice P2 Pn2 Pc2) := OB2.2.cell 1
    have y2_2 : wr.cell? ⟨w.heap.size, 2, none⟩ = some (.slice R2 Rn2 Rc2) := OB2.2.cell 2
    have y2_3 : wr.cell? ⟨w.heap.size, 3, none⟩ = some (.bool sh2) := OB2.2.cell 3
    have y2_4 : wr.cell? ⟨w.heap.size, 4, none⟩ = some (.slice U2 Un2 Uc2) := OB2.2.cell 4
    have y2_5 : wr.cell? ⟨w.heap.size, 5, none⟩ = some (.slice V2 Vn2 Vc2) := OB2.2.cell 5
    have y2_f0 := OB2.2.frozen 0
    have y2_f1 := OB2.2.frozen 1
    have y2_f2 := OB2.2.frozen 2
    have y2_f3 := OB2.2.frozen 3
    have y2_f4 := OB2.2.frozen 4
    have y2_f5 := OB2.2.frozen 5
    have y3_0 : wr.cell? ⟨w.heap.size + 1, 0, none⟩ = some (.bool sl3) := OB3.2.cell 0
    have y3_1 : wr.cell? ⟨w.heap.size + 1, 1, none⟩ = some (.slice P3 Pn3 Pc3) := OB3.2.cell 1
    have y3_2 : wr.cell? ⟨w.heap.size + 1, 2, none⟩ = some (.slice R3 Rn3 Rc3) := OB3.2.cell 2
    have y3_3 : wr.cell? ⟨w.heap.size + 1, 3, none⟩ = some (.bool sh3) := OB3.2.cell 3
    have y3_4 : wr.cell? ⟨w.heap.size + 1, 4, none⟩ = some (.slice U3 Un3 Uc3) := OB3.2.cell 4
    have y3_5 : wr.cell? ⟨w.heap.size + 1, 5, none⟩ = some (.slice V3 Vn3 Vc3) := OB3.2.cell 5
    have y3_f0 := OB3.2.frozen 0
    have y3_f1 := OB3.2.frozen 1
    have y3_f2 := OB3.2.frozen 2
    have y3_f3 := OB3.2.frozen 3
    have y3_f4 := OB3.2.frozen 4
    have y3_f5 := OB3.2.frozen 5
    go_wp2_with fail
    refine (scont_any _ _ _ lo' hi' lo L I3 (IsR.fld IL2) (by omega)).mono ?_
    rintro e w1 ⟨rfl, P1⟩
    rw [HQ1.out]
    clear y2_0 y2_f0 y2_1 y2_f1 y2_2 y2_f2 y2_3 y2_f3 y2_4 y2_f4 y2_5 y2_f5
    clear y3_0 y3_f0 y3_1 y3_f1 y3_2 y3_f2 y3_3 y3_f3 y3_4 y3_f4 y3_5 y3_f5
    replace OB2 := And.intro OB2.1 (OB2.2.on P1)
    replace OB3 := And.intro OB3.1 (OB3.2.on P1)
    replace B := B.trans P1
    have y2_0 : w1.cell? ⟨w.heap.size, 0, none⟩ = some (.bool sl2) := OB2.2.cell 0
    have y2_1 : w1.cell? ⟨w.heap.size, 1, none⟩ = some (.slice P2 Pn2 Pc2) := OB2.2.cell 1
    have y2_2 : w1.cell? ⟨w.heap.size, 2, none⟩ = some (.slice R2 Rn2 Rc2) := OB2.2.cell 2
    have y2_3 : w1.cell? ⟨w.heap.size, 3, none⟩ = some (.bool sh2) := OB2.2.cell 3
    have y2_4 : w1.cell? ⟨w.heap.size, 4, none⟩ = some (.slice U2 Un2 Uc2) := OB2.2.cell 4
    have y2_5 : w1.cell? ⟨w.heap.size, 5, none⟩ = some (.slice V2 Vn2 Vc2) := OB2.2.cell 5
    have y2_f0 := OB2.2.frozen 0
    have y2_f1 := OB2.2.frozen 1
    have y2_f2 := OB2.2.frozen 2
    have y2_f3 := OB2.2.frozen 3
    have y2_f4 := OB2.2.frozen 4
    have y2_f5 := OB2.2.frozen 5
    have y3_0 : w1.cell? ⟨w.heap.size + 1, 0, none⟩ = some (.bool sl3) := OB3.2.cell 0
    have y3_1 : w1.cell? ⟨w.heap.size + 1, 1, none⟩ = some (.slice P3 Pn3 Pc3) := OB3.2.cell 1
    have y3_2 : w1.cell? ⟨w.heap.size + 1, 2, none⟩ = some (.slice R3 Rn3 Rc3) := OB3.2.cell 2
    have y3_3 : w1.cell? ⟨w.heap.size + 1, 3, none⟩ = some (.bool sh3) := OB3.2.cell 3
    have y3_4 : w1.cell? ⟨w.heap.size + 1, 4, none⟩ = some (.slice U3 Un3 Uc3) := OB3.2.cell 4
    have y3_5 : w1.cell? ⟨w.heap.size + 1, 5, none⟩ = some (.slice V3 Vn3 Vc3) := OB3.2.cell 5
    have y3_f0 := OB3.2.frozen 0
    have y3_f1 := OB3.2.frozen 1
    have y3_f2 := OB3.2.frozen 2
    have y3_f3 := OB3.2.frozen 3
    have y3_f4 := OB3.2.frozen 4
    have y3_f5 := OB3.2.frozen 5
    cases q1
    · go_wp2
      go_ret
      exact ⟨rfl, B⟩
    · go_wp2_with fail
      refine (scont_any _ _ _ lo' hi' hi L (I3.on P1) (IsR.fld (IH2.on P1)) (by omega)).mono ?_
      rintro e w2 ⟨rfl, P2⟩
      rw [HQ2.out]
      go_wp2
      go_ret
      exact ⟨by simp, B.trans P2⟩
end Num
end Go.Proofs.Ytkchpagjkgmpmaa
