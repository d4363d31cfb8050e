/-
  Cmp and what it calls: it compares what two lists of words are worth.
-/
import Derived.Test.YtkpeliokhmigoaaSmall
import Derived.Test.YtkpeliokhmigoaaShelf
import Derived.Laws.BitsAllLaws
namespace Go.Proofs.Ytkpeliokhmigoaa
open Go.RowKit
set_option linter.unusedVariables false
namespace Num
theorem or64 (x y : Nat) (hx : x < 4294967296) (hy : y < 4294967296) : bits .or .u64 ((x : Int) * 4294967296) (y : Int) = ((y + 4294967296 * x : Nat) : Int) := by
  have h := u64_or_nat (x * 4294967296) y (by omega) (by omega)
  rw [show ((x : Int) * 4294967296) = ((x * 4294967296 : Nat) : Int) from by omega, h, nat_join 32 (x * 4294967296) y (by omega) (by omega)]
  omega
set_option maxHeartbeats 400000 in
/-- to64: what a number of at most two words is worth -/
theorem to64_any (w : World) (A : Option Addr) (n c : Nat) (xs : List Nat) (h : Rd w A n c xs) (hn : n ≤ 2) :
    Calls Try.prog 84 #[.slice A n c] w fun e w' => e = .returned (.int .u64 (val xs : Nat)) ∧ w = w' := by
  have h0 := h.ok.get 0
  have h1 := h.ok.get 1
  have hv : val xs = gw xs 0 + 4294967296 * gw xs 1 := by
    have hl := h.len
    rcases xs with _ | ⟨x, _ | ⟨y, _ | ⟨z, r⟩⟩⟩
    · simp [val, gw]
    · simp [val, gw]
    · simp [val, gw, BB]
    · simp at hl; omega
  have HV := Lib.hid hv
  clear hv
  go_enter Try.func84, Try.ntmps84
  go_wp2_with fail
  refine (at_any _ _ _ _ _ h _ (by omega) (by omega)).mono ?_
  rintro e w' ⟨rfl, rfl⟩
  go_wp2_with fail
  refine (at_any _ _ _ _ _ h _ (by omega) (by omega)).mono ?_
  rintro e w' ⟨rfl, rfl⟩
  go_wp2
  go_ret
  exact ⟨ret_int ((or64 _ _ h1 h0).trans (by rw [HV.out])), rfl⟩
def cmpI (a b : Nat) : Int := if a < b then -1 else if a = b then 0 else 1
theorem cmpI_lt {a b : Nat} (h : a < b) : cmpI a b = -1 := by unfold cmpI; rw [if_pos h]
theorem cmpI_eq {a b : Nat} (h : a = b) : cmpI a b = 0 := by unfold cmpI; rw [if_neg (by omega), if_pos h]
theorem cmpI_gt {a b : Nat} (h : b < a) : cmpI a b = 1 := by unfold cmpI; rw [if_neg (by omega), if_neg (by omega)]
theorem compareInt_nat (a b : Nat) : Lib.compareInt (a : Int) (b : Int) = cmpI a b := by
  unfold Lib.compareInt cmpI
  by_cases h1 : a < b
  · rw [if_pos (by omega), if_pos h1]
  · by_cases h2 : a = b
    · subst h2; simp
    · rw [if_neg (by omega), if_neg h1, if_neg h2, if_pos (by omega)]
set_option maxHeartbeats 400000 in
theorem cmp32_any (w : World) (x y : Nat) :
    Calls Try.prog 99 #[.int .u32 (x : Int), .int .u32 (y : Int)] w fun e w' => e = .returned (.int .i64 (cmpI x y)) ∧ w' = w := by
  rcases Nat.lt_trichotomy x y with h | h | h
  · have H := Lib.hid (cmpI_lt h)
    go_enter Try.func99, Try.ntmps99
    go_wp2
    all_goals (go_ret; exact ⟨by rw [H.out]; rfl, rfl⟩)
  · subst h
    have H := Lib.hid (cmpI_eq (rfl : x = x))
    go_enter Try.func99, Try.ntmps99
    go_wp2
    all_goals (go_ret; exact ⟨by rw [H.out]; rfl, rfl⟩)
  · have H := Lib.hid (cmpI_gt h)
    go_enter Try.func99, Try.ntmps99
    go_wp2
    all_goals (go_ret; exact ⟨by rw [H.out]; rfl, rfl⟩)

def CmpPost (w : World) (a b : Nat) (e : Ending) (w' : World) : Prop := e = .returned (.int .i64 (cmpI a b)) ∧ On w w'

/-- at a word that differs, those above being the same -/
theorem cmp_word {xs ys : List Nat} (hx : Ok xs) (hy : Ok ys) (k : Nat) (hl : k < xs.length) (hl' : k < ys.length) (hd : val (xs.drop (k + 1)) = val (ys.drop (k + 1))) (hne : gw xs k ≠ gw ys k) : cmpI (gw xs k) (gw ys k) = cmpI (val xs) (val ys) := by
  rcases Nat.lt_or_gt_of_ne hne with h | h
  · rw [cmpI_lt h, cmpI_lt (val_lt_of_word hx k hl hl' hd h)]
  · rw [cmpI_gt h, cmpI_gt (val_lt_of_word hy k hl' hl hd.symm h)]
set_option maxHeartbeats 400000 in
theorem cmp_any (w : World) (A A' : Option Addr) (n c n' c' : Nat) (xs ys : List Nat) (h : Rd w A n c xs) (k : Rd w A' n' c' ys) :
    Calls Try.prog 77 #[.slice A n c, .slice A' n' c'] w (CmpPost w (val xs) (val ys)) := by
  have T := h.take (k := tl xs) (by rw [← h.len]; exact tl_le xs)
  have T' := k.take (k := tl ys) (by rw [← k.len]; exact tl_le ys)
  have C := clean_take xs
  have C' := clean_take ys
  have V := Lib.hid (val_take_tl xs)
  have V' := Lib.hid (val_take_tl ys)
  have O := T.ok
  have O' := T'.ok
  have M := T.cap
  have M' := T'.cap
  have X := T.max
  have X' := T'.max
  have L := T.len
  have L' := T'.len
  generalize hzs : xs.take (tl xs) = zs at T C V O L
  generalize hus : ys.take (tl ys) = us at T' C' V' O' L'
  clear hzs hus
  rw [← V.out, ← V'.out]
  go_enter Try.func77, Try.ntmps77
  go_wp2_with fail
  refine (trim_any _ _ _ _ _ h).mono ?_
  rintro e w' ⟨rfl, rfl⟩
  go_wp2_with fail
  refine (trim_any _ _ _ _ _ k).mono ?_
  rintro e w' ⟨rfl, rfl⟩
  clear h k V V'
  generalize tl xs = m at *
  generalize tl ys = m' at *
  clear xs ys
  by_cases hm : m = m'
  · subst hm
    have HL := Lib.hid L
    have HL' := Lib.hid L'
    clear L L'
    go_wp2
    go_loopw [5] (fun i wr => ∃ k : Nat, k ≤ m ∧ i = .int .i64 ((k : Int) - 1) ∧ On w wr ∧ val (zs.drop k) = val (us.drop k)) (fun i _ => (intOf i + 1).toNat)
    case atStart => exact ⟨m, Nat.le_refl _, rfl, On.refl _, by rw [List.drop_of_length_le (Nat.le_of_eq HL.out), List.drop_of_length_le (Nat.le_of_eq HL'.out)]⟩
    case round =>
      obtain ⟨k, hk, rfl, hon, hd⟩ := hrel
      have HD := Lib.hid hd
      clear hd
      rcases k with _ | k
      · go_wp2
        go_ret
        have h0 := HD.out
        simp only [List.drop_zero] at h0
        exact ⟨by rw [cmpI_eq h0]; rfl, hon⟩
      · obtain ⟨ad, rfl, hb, hc⟩ := (T.on hon).at_ k (by omega)
        obtain ⟨ad', rfl, hb', hc'⟩ := (T'.on hon).at_ k (by omega)
        rw [show ((k + 1 : Nat) : Int) - 1 = (k : Int) from by omega]
        by_cases hne : gw zs k = gw us k
        · have H0 := Lib.hid hne
          rw [← hne] at hc'
          clear hne
          go_wp2
          go_quiet (fail)
          go_wp2
          refine ⟨⟨k, by omega, rfl, hon.drewN nq, ?_⟩, by simp [intOf]⟩
          rw [val_drop zs k (by rw [HL.out]; omega), val_drop us k (by rw [HL'.out]; omega), HD.out, H0.out]
        · have hb1 : (((gw zs k : Nat) : Int) != ((gw us k : Nat) : Int)) = true := by rw [bne_iff_ne]; omega
          have H0 := Lib.hid hne
          clear hne
          go_wp2
          go_quiet (fail)
          go_wp2
          have hon2 : On w (wr.drewN nq) := hon.drewN nq
          have hc2 : (wr.drewN nq).cell? (ad.add k) = some (.int .u32 ((gw zs k : Nat) : Int)) := hc
          have hc3 : (wr.drewN nq).cell? (ad'.add k) = some (.int .u32 ((gw us k : Nat) : Int)) := hc'
          clear hc hc' hb hb' hon
          generalize wr.drewN nq = wo at *
          go_quiet ((go_at_call 99; exact Calls.quiet_of_same (cmp32_any _ _ _)))
          go_wp2
          go_ret
          exact ⟨ret_int (cmp_word O O' k (by rw [HL.out]; omega) (by rw [HL'.out]; omega) HD.out H0.out), hon2.drewN _⟩
  · have hb1 : ((m : Int) != (m' : Int)) = true := by rw [bne_iff_ne]; omega
    have hcm : cmpI m m' = cmpI (val zs) (val us) := by
      rcases Nat.lt_or_gt_of_ne hm with h | h
      · rw [cmpI_lt h, cmpI_lt (val_lt_of_len O C' (by omega))]
      · rw [cmpI_gt h, cmpI_gt (val_lt_of_len O' C (by omega))]
    have HC := Lib.hid hcm
    clear hcm hm L L'
    go_wp2_with fail
    refine (Try.cmp_Compare_int _ _ _).mono ?_
    rintro e w' ⟨rfl, rfl⟩
    go_wp2
    go_ret
    exact ⟨ret_int (by rw [← HC.out, ← compareInt_nat]), On.refl _⟩
end Num
end Go.Proofs.Ytkpeliokhmigoaa
