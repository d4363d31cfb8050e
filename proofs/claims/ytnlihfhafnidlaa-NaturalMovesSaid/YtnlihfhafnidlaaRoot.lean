/-
  Root, by Newton's method; gcd64.
-/
import Derived.Test.YtnlihfhafnidlaaDiv
import Derived.Deep.LoopGhost
namespace Go.Proofs.Ytnlihfhafnidlaa
open Go.RowKit
set_option linter.unusedVariables false
namespace Num
/-- what a call of Div says for the numbers that P takes in -/
def DivSpec (P : Nat → Nat → Prop) : Prop := ∀ (w : World) (A A' : Option Addr) (n c n' c' : Nat) (xs ys : List Nat), Rd w A n c xs → Rd w A' n' c' ys → Clean xs → Clean ys → P (val xs) (val ys) → 0 < val ys → n ≤ 10000 → n' ≤ 10000 →
  Calls Try.prog 34 #[.slice A n c, .slice A' n' c'] w (QR w (val xs) (val ys) n (max n' 2))
/-- the root, rounded down -/
def RootPost (w : World) (v L : Nat) (e : Ending) (w' : World) : Prop := ∃ r, r * r ≤ v ∧ v < (r + 1) * (r + 1) ∧ Gives w r L e w'
theorem amgm (x y : Nat) : 4 * (x * y) ≤ (x + y) * (x + y) := by
  rcases Nat.le_total x y with h | h
  · obtain ⟨d, rfl⟩ := Nat.le.dest h
    have e : (x + (x + d)) * (x + (x + d)) = 4 * (x * (x + d)) + d * d := by grind
    omega
  · obtain ⟨d, rfl⟩ := Nat.le.dest h
    have e : (y + d + y) * (y + d + y) = 4 * ((y + d) * y) + d * d := by grind
    omega
theorem newton (v r : Nat) (hr : 0 < r) : v < ((r + v / r) / 2 + 1) * ((r + v / r) / 2 + 1) := by
  have h1 : v < r * (v / r + 1) := by have := Nat.div_add_mod v r; have := Nat.mod_lt v hr; rw [Nat.mul_add]; omega
  generalize v / r = q at *
  have h2 : 4 * (r * (q + 1)) ≤ (r + q + 1) * (r + q + 1) := amgm r (q + 1)
  have h3 : r + q + 1 ≤ 2 * ((r + q) / 2 + 1) := by omega
  have h4 : (r + q + 1) * (r + q + 1) ≤ (2 * ((r + q) / 2 + 1)) * (2 * ((r + q) / 2 + 1)) := Nat.mul_le_mul h3 h3
  generalize (r + q) / 2 + 1 = z at *
  rw [Nat.mul_mul_mul_comm] at h4
  omega
theorem root_le (v r : Nat) (h : r ≤ (r + v / r) / 2) : r * r ≤ v := by
  have h1 : r ≤ v / r := by omega
  have := Nat.mul_le_mul_left r h1
  have h2 := Nat.mul_div_le v r
  omega
theorem sq_lt {a b : Nat} (h : a * a < b * b) : a < b := by
  apply Nat.lt_of_not_le; intro hle
  have := Nat.mul_le_mul hle hle
  omega
theorem root_unique {v r s : Nat} (h1 : r * r ≤ v) (h2 : v < (r + 1) * (r + 1)) (h3 : s * s ≤ v) (h4 : v < (s + 1) * (s + 1)) : r = s := by
  have := sq_lt (Nat.lt_of_le_of_lt h1 h4)
  have := sq_lt (Nat.lt_of_le_of_lt h3 h2)
  omega
set_option maxHeartbeats 1000000 in
theorem root_of (P : Nat → Nat → Prop) (hdiv : DivSpec P) (w : World) (A : Option Addr) (n c : Nat) (xs : List Nat) (h : Rd w A n c xs) (hn : n ≤ 1000) (hP : ∀ r, r ≤ 2 ^ ((nb (val xs) + 1) / 2) → P (val xs) r) :
    Calls Try.prog 40 #[.slice A n c] w (RootPost w (val xs) n) := by
  have T := h.take (k := tl xs) (by rw [← h.len]; exact tl_le xs)
  have C := clean_take xs
  have V := Lib.hid (val_take_tl xs)
  have hm : tl xs ≤ n := by rw [← h.len]; exact tl_le xs
  have HH := Lib.hid hdiv
  have HP := Lib.hid hP
  clear hdiv hP
  rw [← V.out] at HP ⊢
  go_enter Try.func40, Try.ntmps40
  go_wp2_with fail
  refine (trim_any _ _ _ _ _ h).mono ?_
  rintro e w' ⟨rfl, rfl⟩
  rcases Nat.eq_zero_or_pos (tl xs) with h0 | h0
  · have hv : val xs = 0 := val_of_tl_zero xs h0
    rw [h0]
    have HV := Lib.hid hv
    clear h0 hv
    go_wp2
    go_ret
    exact ⟨0, by omega, by rw [V.out, HV.out]; decide, none, 0, 0, rfl, ⟨[], Rd.nil_, clean_nil, rfl, by omega⟩, On.refl _⟩
  · generalize hzs : xs.take (tl xs) = zs at *
    generalize tl xs = m at *
    clear hzs
    have hb1 : ((m : Int) == 0) = false := by simp; omega
    go_wp2_with fail
    have T1 := T.alloc (.cells #[.int .u32 1] 30)
    have R1 : Rd (w.alloc (.cells #[.int .u32 1] 30)) (some ⟨w.heap.size, 0, none⟩) 1 1 [1] := rd_one w 30 1 (by decide)
    have hon1 : On w (w.alloc (.cells #[.int .u32 1] 30)) := (On.refl w).alloc _
    generalize w.alloc (.cells #[.int .u32 1] 30) = w1 at *
    refine (bits_any _ _ _ _ _ T1 (by omega)).mono ?_
    rintro e w' ⟨rfl, rfl⟩
    have hnb : nb (val zs) ≤ 32 * m := by
      rw [nb_le_iff, Nat.pow_mul]
      have := val_lt T.ok
      rw [T.len] at this
      exact this
    have hv0 : 0 < val zs := val_pos C (by rw [T.len]; exact h0)
    generalize hb : nb (val zs) = b at *
    have HB := Lib.hid hb
    clear hb
    go_wp2_with fail
    refine (shl_any _ _ _ _ _ R1 (by omega) _ (by omega) (by omega)).mono ?_
    rintro e w2 ⟨g, cur, ys, rfl, hg, ho, hh, hl, hvy, hon2⟩
    rw [show ((b : Int) + 1) / 2 = (((b + 1) / 2 : Nat) : Int) from by omega, Int.toNat_natCast] at hl hvy
    have hl' : tl ys ≤ n + 3 := by have := tl_le ys; omega
    rw [show ((b : Int) + 1) / 2 = (((b + 1) / 2 : Nat) : Int) from by omega, Int.toNat_natCast]
    have R2 := Rd.own (n := 1 + (b + 1) / 2 / 32 + 1) (c := 1 + (b + 1) / 2 / 32 + 1) ho hh hl (Nat.le_refl _) (by omega)
    have hv1 : val ys = 2 ^ ((b + 1) / 2) := by rw [hvy]; simp [val]
    have HL := Lib.hid hl'
    have HV := Lib.hid hv1
    clear hl hl' hvy hv1
    go_wp2_with fail
    refine (trim_any _ _ _ _ _ R2).mono ?_
    rintro e w' ⟨rfl, rfl⟩
    have N2 := nm_trim R2 (L := n + 3) HL.out
    rw [HV.out] at N2
    have T2 := T1.on hon2
    have hon := hon1.trans hon2
    clear R2 ho hh R1 T1 hon1 hon2
    have hr0 : 0 < 2 ^ ((b + 1) / 2) := Nat.pow_pos (by decide)
    have hr1 : val zs < (2 ^ ((b + 1) / 2) + 1) * (2 ^ ((b + 1) / 2) + 1) := by
      have h1 := nb_lt (val zs)
      rw [HB.out] at h1
      have h2 : 2 ^ b ≤ 2 ^ ((b + 1) / 2) * 2 ^ ((b + 1) / 2) := by rw [← Nat.pow_add]; exact Nat.pow_le_pow_right (by decide) (by omega)
      have h3 : 2 ^ ((b + 1) / 2) * 2 ^ ((b + 1) / 2) ≤ (2 ^ ((b + 1) / 2) + 1) * (2 ^ ((b + 1) / 2) + 1) := Nat.mul_le_mul (by omega) (by omega)
      omega
    have HR1 := Lib.hid hr1
    clear hr1
    generalize hr : 2 ^ ((b + 1) / 2) = r0 at *
    clear hr
    go_wp2
    go_loopg [3] r0 (fun r s wr => 0 < r ∧ r ≤ r0 ∧ val zs < (r + 1) * (r + 1) ∧ On w wr ∧ ∃ (A' : Option Addr) (n' c' : Nat), s = .slice A' n' c' ∧ Nm wr A' n' c' r (n + 3))
    case atStart => exact ⟨hr0, Nat.le_refl _, HR1.out, hon, _, _, _, rfl, N2⟩
    case round =>
      obtain ⟨g0, gle, hlt, honr, A', n', c', rfl, us, RU, CU, VU, LU⟩ := hrel
      subst VU
      have TR := T.on honr
      have H1 := Lib.hid hlt
      clear hlt
      go_wp2_with fail
      refine (HH.out _ _ _ _ _ _ _ _ _ TR RU C CU (HP.out _ gle) g0 (by omega) (by omega)).mono ?_
      rintro e w3 ⟨A3, n3, c3, A4, n4, c4, rfl, ⟨qs, RQ, CQ, VQ, LQ⟩, _, hon3⟩
      have RU3 := RU.on hon3
      go_wp2_with fail
      refine (add_any _ _ _ _ _ _ _ (n + 3) _ _ RU3 RQ (Nat.le_trans (tl_le _) (by rw [RU3.len]; exact LU)) (Nat.le_trans (tl_le _) (by rw [RQ.len]; omega)) (by omega)).mono ?_
      rintro e w4 ⟨A5, n5, c5, rfl, ⟨ss, RS, CS, VS, LS⟩, hon4⟩
      go_wp2_with fail
      refine (shr_any _ _ _ _ _ RS (by omega) _ (by omega) (by omega)).mono ?_
      rintro e w5 ⟨A6, n6, c6, rfl, ⟨ts, RT, CT, VT, LT⟩, hon5⟩
      have RU5 := (RU3.on hon4).on hon5
      have hval : val ts = (val us + val zs / val us) / 2 := by rw [VT, VS, VQ]; rfl
      have HT := Lib.hid hval
      clear VT VS VQ hval
      go_wp2_with fail
      refine (cmp_any _ _ _ _ _ _ _ _ _ RT RU5).mono ?_
      rintro e w6 ⟨rfl, hon6⟩
      have hon' : On w w6 := ((honr.trans hon3).trans (hon4.trans hon5)).trans hon6
      by_cases hc : (val us + val zs / val us) / 2 < val us
      · rw [cmpI_lt (by rw [HT.out]; exact hc)]
        have HC := Lib.hid hc
        clear hc
        go_wp2
        go_roundg (val ts)
        case measure => rw [HT.out]; exact HC.out
        case rel =>
          have hl6 := clean_len CT n' (by have h1 := val_lt RU.ok; rw [RU.len] at h1; have := HC.out; rw [HT.out]; omega)
          rw [RT.len] at hl6
          refine ⟨?_, ?_, ?_, hon', A6, n6, c6, rfl, ts, RT.on hon6, CT, rfl, by omega⟩
          · rw [HT.out]
            have := newton (val zs) (val us) g0
            rcases Nat.eq_zero_or_pos ((val us + val zs / val us) / 2) with h | h
            · rw [h] at this; omega
            · exact h
          · have := HC.out; rw [HT.out]; omega
          · rw [HT.out]; exact newton (val zs) (val us) g0
      · have hge : 0 ≤ cmpI (val ts) (val us) := by
          rw [HT.out]
          rcases Nat.lt_or_eq_of_le (Nat.le_of_not_lt hc) with h | h
          · rw [cmpI_gt h]; decide
          · rw [cmpI_eq h.symm]; decide
        have HC := Lib.hid hc
        clear hc
        generalize cmpI (val ts) (val us) = ci at *
        go_wp2
        go_ret
        have hrl := root_le (val zs) (val us) (Nat.le_of_not_lt HC.out)
        refine ⟨val us, hrl, H1.out, _, _, _, rfl, ⟨us, RU5.on hon6, CU, rfl, ?_⟩, hon'⟩
        have hlen := clean_len CU m (by
          have h1 := val_lt T.ok
          rw [T.len] at h1
          have h2 : val us * 1 ≤ val us * val us := Nat.mul_le_mul_left _ g0
          omega)
        rw [RU.len] at hlen
        omega
end Num
end Go.Proofs.Ytnlihfhafnidlaa
