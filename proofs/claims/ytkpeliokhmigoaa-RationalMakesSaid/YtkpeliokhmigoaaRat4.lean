/-
  isZero; Text.
-/
import Derived.Test.YtkpeliokhmigoaaRat3
import Derived.Test.YtkpeliokhmigoaaPar2
namespace Go.Proofs.Ytkpeliokhmigoaa
open Go.RowKit
set_option linter.unusedVariables false
namespace Num
theorem nil_iff {xs : List Nat} (C : Clean xs) : xs = [] ↔ val xs = 0 := by
  constructor
  · rintro rfl; rfl
  · intro h
    rcases Nat.eq_zero_or_pos xs.length with h0 | h0
    · exact List.eq_nil_of_length_eq_zero h0
    · have := val_pos C h0; omega
theorem rat_zero_iff (r : Rat) : r.num.natAbs = 0 ↔ r = 0 := by rw [← Rat.num_eq_zero]; omega
theorem len_zero_iff {w : World} {A : Option Addr} {n c : Nat} {xs : List Nat} {r : Rat} (h : Rd w A n c xs) (C : Clean xs) (hv : val xs = r.num.natAbs) : n = 0 ↔ r = 0 := by
  rw [← rat_zero_iff, ← hv, ← nil_iff C, ← h.len, List.length_eq_zero_iff]
set_option maxHeartbeats 400000 in
theorem iszero_any (w : World) (v : Value) (r : Rat) (L : Nat) (h : IsR w v r L) :
    Calls Try.prog 56 #[v] w fun e w' => e = .returned (.bool (decide (r = 0))) ∧ On w w' := by
  obtain ⟨A, n, c, xs, A', n', c', ys, rfl, R, R', C, C', h1, h2, h3, h4⟩ := h
  have hz := len_zero_iff R C h3
  have hd : decide (r = 0) = ((n : Int) == 0) := by
    rw [Bool.eq_iff_iff, decide_eq_true_iff, ← hz]; simp
  have HD := Lib.hid hd
  have hc := R.cap
  have hm := R.max
  clear hz hd h3 h4
  go_enter Try.func56, Try.ntmps56
  go_wp2
  all_goals (go_ret; exact ⟨by rw [HD.out]; first | rfl | simp_all, (On.refl w).alloc _⟩)
/-- the text of a fraction -/
def sgt (r : Rat) : List Nat := if r < 0 then [45] else []
def RTx (r : Rat) (bs : List Nat) : Prop := ∃ b1 b2, IsText r.num.natAbs b1 ∧ IsText r.den b2 ∧ bs = sgt r ++ b1 ++ (if r.den = 1 then [] else 47 :: b2)
theorem RTx.unique {r : Rat} {a b : List Nat} (h : RTx r a) (k : RTx r b) : a = b := by
  obtain ⟨a1, a2, h1, h2, rfl⟩ := h
  obtain ⟨c1, c2, k1, k2, rfl⟩ := k
  rw [h1.unique k1, h2.unique k2]
theorem exists_text (v : Nat) : ∃ bs, IsText v bs := by
  induction v using Nat.strongRecOn with
  | ind v ih =>
    rcases Nat.lt_or_ge v 10 with h | h
    · rcases Nat.eq_zero_or_pos v with h0 | h0
      · exact ⟨[48], .inl ⟨h0, rfl⟩⟩
      · exact ⟨[48 + v], .inr ⟨[48 + v], rfl, fun b hb => by simp at hb; omega, by simp [dvb], by simp, by simp [gw]; omega⟩⟩
    · obtain ⟨bs, hb⟩ := ih (v / 10) (by omega)
      rcases hb with ⟨h0, _⟩ | ⟨ds, _, d1, d2, d3, d4⟩
      · omega
      · refine ⟨((48 + v % 10) :: ds).reverse, .inr ⟨(48 + v % 10) :: ds, rfl, ?_, ?_, by simp, ?_⟩⟩
        · intro b hb
          rcases List.mem_cons.1 hb with rfl | hb
          · omega
          · exact d1 b hb
        · simp only [dvb]; rw [d2]; omega
        · have e : ((48 + v % 10) :: ds).length - 1 = (ds.length - 1) + 1 := by simp; omega
          rw [e, gw_cons]; exact d4
theorem sgt_no {r : Rat} (h : decide (r < 0) = false) : sgt r = [] := by unfold sgt; rw [if_neg (of_decide_eq_false h)]
theorem sgt_yes {r : Rat} (h : decide (r < 0) = true) : sgt r = [45] := by unfold sgt; rw [if_pos (of_decide_eq_true h)]
/-- what a call of Text says -/
def TextR (w : World) (r : Rat) (e : Ending) (w' : World) : Prop := ∃ bs, e = .returned (.string (str bs)) ∧ RTx r bs ∧ On w w'
theorem str_app (a b : List Nat) : str a ++ str b = str (a ++ b) := by
  apply ByteArray.ext
  simp [str]
theorem str_len (bs : List Nat) : (str bs).size = bs.length := by simp [str, ByteArray.size]
theorem text_size {v n : Nat} {bs : List Nat} (h : IsText v bs) (hn : 0 < n) (hv : v < BB ^ n) : bs.length ≤ 10 * n := by
  rcases h with ⟨_, rfl⟩ | ⟨ds, rfl, d1, d2, d3, d4⟩
  · simp; omega
  · rw [List.length_reverse]
    have h1 := dvb_take_succ ds (ds.length - 1) (by omega)
    rw [show ds.length - 1 + 1 = ds.length from by omega, List.take_length, d2] at h1
    have h2 := d1.get (k := ds.length - 1) (by omega)
    have h3 : 10 ^ (ds.length - 1) * 1 ≤ 10 ^ (ds.length - 1) * (gw ds (ds.length - 1) - 48) := Nat.mul_le_mul_left _ (by omega)
    have h5 := pow_ten_bb n
    have h4 : 10 ^ (ds.length - 1) < 10 ^ (10 * n) := by omega
    have := (Nat.pow_lt_pow_iff_right (by decide : 1 < 10)).1 h4
    omega
set_option maxRecDepth 100000 in
set_option maxHeartbeats 1000000 in
theorem textr_any (w : World) (s : Bool) (A A' : Option Addr) (n c n' c' L : Nat) (xs ys : List Nat) (h : Rd w A n c xs) (k : Rd w A' n' c' ys) (hn : n ≤ L) (hn' : n' ≤ L) (hL1 : 1 ≤ L) (hL : L ≤ 5000) :
    Calls Try.prog 23 #[.agg #[.bool s, .slice A n c, .slice A' n' c']] w (TextR w (raw s xs ys)) := by
  obtain ⟨r, hr⟩ : ∃ r, raw s xs ys = r := ⟨_, rfl⟩
  rw [hr]
  have HR := Lib.hid hr
  clear hr
  have B := (On.refl w).alloc (.cells #[.bool s, .slice A n c, .slice A' n' c'] 24)
  have O1 := Own.new w 24 #[.bool s, .slice A n c, .slice A' n' c']
  have HO1 := Lib.hid O1
  clear O1
  have h1 := h.on B
  have k1 := k.on B
  go_enter Try.func23, Try.ntmps23
  go_wp2_with fail
  refine (value_any _ _ _ _ _ _ _ _ L _ _ h1 k1 hn hn' hL).mono ?_
  rintro e w2 ⟨v, rfl, I, P2⟩
  rw [HR.out] at I
  obtain ⟨A1, n1, c1, us, A2, n2, c2, vs, rfl, R1, R2, C1, C2, l1, l2, V1, V2⟩ := I
  have O1 := HO1.out.on P2
  have a0 : w2.cell? ⟨w.heap.size, 0, none⟩ = some (.bool s) := O1.cell 0
  have af0 := O1.frozen 0
  have a1 : w2.cell? ⟨w.heap.size, 1, none⟩ = some (.slice A n c) := O1.cell 1
  have af1 := O1.frozen 1
  have a2 : w2.cell? ⟨w.heap.size, 2, none⟩ = some (.slice A' n' c') := O1.cell 2
  have af2 := O1.frozen 2
  have R1' := R1.only' (only3 (.bool (decide (r < 0))) (.slice A1 n1 c1) (.slice A2 n2 c2)) (rat_far R1 O1)
  have R2' := R2.only' (only3 (.bool (decide (r < 0))) (.slice A1 n1 c1) (.slice A2 n2 c2)) (rat_far R2 O1)
  have hon := on3 (g := w.heap.size) (B.trans P2) (by omega) (.bool (decide (r < 0))) (.slice A1 n1 c1) (.slice A2 n2 c2)
  have OB := ((O1.set_ 0 (.bool (decide (r < 0)))).set_ 1 (.slice A1 n1 c1)).set_ 2 (.slice A2 n2 c2)
  have HV1 := Lib.hid V1
  have HV2 := Lib.hid V2
  clear R1 R2 V1 V2
  obtain ⟨b, hb⟩ : ∃ b, decide (r < 0) = b := ⟨_, rfl⟩
  rw [hb] at hon OB R1' R2' ⊢
  go_wp2_with fail
  obtain ⟨wx, hwx⟩ : ∃ wx, (((w2.setCell ⟨w.heap.size, 0, none⟩ (.bool b)).setCell ⟨w.heap.size, 1, none⟩ (.slice A1 n1 c1)).setCell ⟨w.heap.size, 2, none⟩ (.slice A2 n2 c2)) = wx := ⟨_, rfl⟩
  rw [hwx] at hon OB R1' R2' ⊢
  have OB' : Own wx w.heap.size 24 #[.bool b, .slice A1 n1 c1, .slice A2 n2 c2] := OB
  have HB := Lib.hid hb
  clear hwx hb OB a0 a1 a2 af0 af1 af2
  refine (text_any _ _ _ _ _ R1' (by omega)).mono ?_
  rintro e w3 ⟨tx, rfl, IT, P3⟩
  rw [HV1.out] at IT
  have HIT := Lib.hid IT
  have O3 := OB'.on P3
  have b0 : w3.cell? ⟨w.heap.size, 0, none⟩ = some (.bool b) := O3.cell 0
  have bf0 := O3.frozen 0
  have b1 : w3.cell? ⟨w.heap.size, 1, none⟩ = some (.slice A1 n1 c1) := O3.cell 1
  have bf1 := O3.frozen 1
  have b2 : w3.cell? ⟨w.heap.size, 2, none⟩ = some (.slice A2 n2 c2) := O3.cell 2
  have bf2 := O3.frozen 2
  have I3 : IsR w3 (.agg #[.bool b, .slice A1 n1 c1, .slice A2 n2 c2]) r L := by rw [← HB.out]; exact ⟨A1, n1, c1, us, A2, n2, c2, vs, rfl, R1'.on P3, R2'.on P3, C1, C2, l1, l2, HV1.out, HV2.out⟩
  have hb1l : tx.length ≤ 50000 := by
    have h1 := text_size HIT.out (show 0 < L by omega) (by rw [← HV1.out]; have := val_lt R1'.ok; rw [R1'.len] at this; exact Nat.lt_of_lt_of_le this (Nat.pow_le_pow_right BB_pos l1))
    omega
  have hs1 : (str tx).size ≤ 50000 := by rw [str_len]; exact hb1l
  have HI3 := Lib.hid I3
  clear IT I3 hb1l
  cases b
  · clear b0 b1 b2 bf0 bf1 bf2
    have b0 : w3.cell? ⟨w.heap.size, 0, none⟩ = some (.bool false) := O3.cell 0
    have bf0 := O3.frozen 0
    have b1 : w3.cell? ⟨w.heap.size, 1, none⟩ = some (.slice A1 n1 c1) := O3.cell 1
    have bf1 := O3.frozen 1
    have b2 : w3.cell? ⟨w.heap.size, 2, none⟩ = some (.slice A2 n2 c2) := O3.cell 2
    have bf2 := O3.frozen 2
    have HX : Hid (str tx = str (sgt r ++ tx)) := Lib.hid (by rw [sgt_no HB.out]; rfl)
    go_wp2_with fail
    refine (iszero_any _ _ _ _ HI3.out).mono ?_
    rintro e w4 ⟨rfl, P4⟩
    have O4 := O3.on P4
    have b0 : w4.cell? ⟨w.heap.size, 0, none⟩ = some (.bool false) := O4.cell 0
    have bf0 := O4.frozen 0
    have b1 : w4.cell? ⟨w.heap.size, 1, none⟩ = some (.slice A1 n1 c1) := O4.cell 1
    have bf1 := O4.frozen 1
    have b2 : w4.cell? ⟨w.heap.size, 2, none⟩ = some (.slice A2 n2 c2) := O4.cell 2
    have bf2 := O4.frozen 2
    have R4 := R2'.on (P3.trans P4)
    by_cases hz : r = 0
    · have hzd : decide (r = 0) = true := decide_eq_true hz
      rw [hzd]
      have HZ := Lib.hid hz
      clear hz hzd
      go_wp2
      go_ret
      obtain ⟨t2, ht2⟩ := exists_text r.den
      exact ⟨sgt r ++ tx, by rw [← HX.out]; rfl, ⟨tx, t2, HIT.out, ht2, by rw [if_pos (by rw [HZ.out]; rfl), List.append_nil]⟩, (hon.trans P3).trans P4⟩
    · have hzd : decide (r = 0) = false := decide_eq_false hz
      rw [hzd]
      have hvd : val vs = r.den := by rw [HV2.out, dn_ne hz]
      have HVD := Lib.hid hvd
      clear hz hzd hvd
      go_wp2_with fail
      refine (isone_any _ _ _ _ _ R4).mono ?_
      rintro e w' ⟨rfl, rfl⟩
      rw [val_one R4.ok C2, HVD.out]
      by_cases h1d : r.den = 1
      · have hdd : decide (r.den = 1) = true := decide_eq_true h1d
        rw [hdd]
        have HD := Lib.hid h1d
        clear h1d hdd
        go_wp2
        go_ret
        obtain ⟨t2, ht2⟩ := exists_text r.den
        exact ⟨sgt r ++ tx, by rw [← HX.out]; rfl, ⟨tx, t2, HIT.out, ht2, by rw [if_pos HD.out, List.append_nil]⟩, (hon.trans P3).trans P4⟩
      · have hdd : decide (r.den = 1) = false := decide_eq_false h1d
        rw [hdd]
        have HD := Lib.hid h1d
        clear h1d hdd
        go_wp2_with fail
        refine (text_any _ _ _ _ _ R4 (by omega)).mono ?_
        rintro e w5 ⟨ty, rfl, IY, P5⟩
        rw [HVD.out] at IY
        have HIY := Lib.hid IY
        have hb2l : ty.length ≤ 50000 := by
          have h1 := text_size HIY.out (show 0 < L by omega) (by rw [← HVD.out]; have := val_lt R4.ok; rw [R4.len] at this; exact Nat.lt_of_lt_of_le this (Nat.pow_le_pow_right BB_pos l2))
          omega
        have hs2 : (str ty).size ≤ 50000 := by rw [str_len]; exact hb2l
        have hc2 : str tx ++ (⟨#[47]⟩ : ByteArray) ++ str ty = str (sgt r ++ tx ++ (47 :: ty)) := by
          rw [HX.out, show (⟨#[47]⟩ : ByteArray) = str [47] from rfl, str_app, str_app, List.append_assoc]; rfl
        have HC2 := Lib.hid hc2
        clear IY hc2 hb2l
        go_wp2
        go_ret
        exact ⟨_, by rw [← HC2.out]; rfl, ⟨tx, ty, HIT.out, HIY.out, by rw [if_neg HD.out]⟩, ((hon.trans P3).trans P4).trans P5⟩
  · clear b0 b1 b2 bf0 bf1 bf2
    have b0 : w3.cell? ⟨w.heap.size, 0, none⟩ = some (.bool true) := O3.cell 0
    have bf0 := O3.frozen 0
    have b1 : w3.cell? ⟨w.heap.size, 1, none⟩ = some (.slice A1 n1 c1) := O3.cell 1
    have bf1 := O3.frozen 1
    have b2 : w3.cell? ⟨w.heap.size, 2, none⟩ = some (.slice A2 n2 c2) := O3.cell 2
    have bf2 := O3.frozen 2
    obtain ⟨X, hX⟩ : ∃ X, (⟨#[45]⟩ : ByteArray) ++ str tx = X := ⟨_, rfl⟩
    have hXs : X.size ≤ 50001 := by
      rw [← hX, show (⟨#[45]⟩ : ByteArray) = str [45] from rfl, str_app, str_len]
      rw [str_len] at hs1
      simp; omega
    have HX : Hid (X = str (sgt r ++ tx)) := Lib.hid (by rw [← hX, show (⟨#[45]⟩ : ByteArray) = str [45] from rfl, str_app, sgt_yes HB.out])
    go_wp2_with fail
    refine (iszero_any _ _ _ _ HI3.out).mono ?_
    rintro e w4 ⟨rfl, P4⟩
    have O4 := O3.on P4
    have b0 : w4.cell? ⟨w.heap.size, 0, none⟩ = some (.bool true) := O4.cell 0
    have bf0 := O4.frozen 0
    have b1 : w4.cell? ⟨w.heap.size, 1, none⟩ = some (.slice A1 n1 c1) := O4.cell 1
    have bf1 := O4.frozen 1
    have b2 : w4.cell? ⟨w.heap.size, 2, none⟩ = some (.slice A2 n2 c2) := O4.cell 2
    have bf2 := O4.frozen 2
    have R4 := R2'.on (P3.trans P4)
    by_cases hz : r = 0
    · have hzd : decide (r = 0) = true := decide_eq_true hz
      rw [hzd]
      have HZ := Lib.hid hz
      clear hz hzd
      go_wp2
      go_ret
      obtain ⟨t2, ht2⟩ := exists_text r.den
      exact ⟨sgt r ++ tx, by rw [← HX.out]; rfl, ⟨tx, t2, HIT.out, ht2, by rw [if_pos (by rw [HZ.out]; rfl), List.append_nil]⟩, (hon.trans P3).trans P4⟩
    · have hzd : decide (r = 0) = false := decide_eq_false hz
      rw [hzd]
      have hvd : val vs = r.den := by rw [HV2.out, dn_ne hz]
      have HVD := Lib.hid hvd
      clear hz hzd hvd
      go_wp2_with fail
      refine (isone_any _ _ _ _ _ R4).mono ?_
      rintro e w' ⟨rfl, rfl⟩
      rw [val_one R4.ok C2, HVD.out]
      by_cases h1d : r.den = 1
      · have hdd : decide (r.den = 1) = true := decide_eq_true h1d
        rw [hdd]
        have HD := Lib.hid h1d
        clear h1d hdd
        go_wp2
        go_ret
        obtain ⟨t2, ht2⟩ := exists_text r.den
        exact ⟨sgt r ++ tx, by rw [← HX.out]; rfl, ⟨tx, t2, HIT.out, ht2, by rw [if_pos HD.out, List.append_nil]⟩, (hon.trans P3).trans P4⟩
      · have hdd : decide (r.den = 1) = false := decide_eq_false h1d
        rw [hdd]
        have HD := Lib.hid h1d
        clear h1d hdd
        go_wp2_with fail
        refine (text_any _ _ _ _ _ R4 (by omega)).mono ?_
        rintro e w5 ⟨ty, rfl, IY, P5⟩
        rw [HVD.out] at IY
        have HIY := Lib.hid IY
        have hb2l : ty.length ≤ 50000 := by
          have h1 := text_size HIY.out (show 0 < L by omega) (by rw [← HVD.out]; have := val_lt R4.ok; rw [R4.len] at this; exact Nat.lt_of_lt_of_le this (Nat.pow_le_pow_right BB_pos l2))
          omega
        have hs2 : (str ty).size ≤ 50000 := by rw [str_len]; exact hb2l
        have hc2 : X ++ (⟨#[47]⟩ : ByteArray) ++ str ty = str (sgt r ++ tx ++ (47 :: ty)) := by
          rw [HX.out, show (⟨#[47]⟩ : ByteArray) = str [47] from rfl, str_app, str_app, List.append_assoc]; rfl
        have HC2 := Lib.hid hc2
        clear IY hc2 hb2l
        go_wp2
        go_ret
        exact ⟨_, by rw [← HC2.out]; rfl, ⟨tx, ty, HIT.out, HIY.out, by rw [if_neg HD.out]⟩, ((hon.trans P3).trans P4).trans P5⟩
end Num
end Go.Proofs.Ytkpeliokhmigoaa
