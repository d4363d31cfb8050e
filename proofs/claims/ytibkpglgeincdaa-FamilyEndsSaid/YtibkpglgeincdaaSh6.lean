/-
  The statement FamilyEnds, walked: antichains between which all sets lie.
-/
import Derived.Test.YtibkpglgeincdaaSh3
import Derived.Test.YtibkpglgeincdaaSh4
import Derived.Test.YtibkpglgeincdaaSh5
import Derived.Test.YtibkpglgeincdaaSfb
namespace Go.Proofs.Ytibkpglgeincdaa.Sb
open Go.RowKit
set_option linter.unusedVariables false
set_option maxRecDepth 100000
theorem cov_take {l : List Nat} {q : Nat} (h : q < l.length) (s : Nat) : cov (l.take (q + 1)) s = (cov (l.take q) s || (l.getD q 0 &&& s == l.getD q 0)) := by
  rw [take_get h, cov_append, cov_one]
theorem inn_take {l : List Nat} {q : Nat} (h : q < l.length) (s : Nat) : inn (l.take (q + 1)) s = (inn (l.take q) s || (l.getD q 0 &&& s == s)) := by
  unfold inn
  rw [take_get h, List.any_append]
  simp [Nat.and_comm]
theorem under_all {k : List Nat} (hk : Ok k) {s : Nat} (hs : s ∈ k) : cov (minL k) s = true := by
  rw [cov_min hk, cov_iff]; exact ⟨s, hs, sub_refl s⟩
theorem over_all {k : List Nat} (hk : Ok k) {s : Nat} (hs : s ∈ k) : inn (maxL k) s = true := by
  obtain ⟨y, hy, h⟩ := max_above hk 24 s hs (by omega)
  exact (inn_iff _ _).2 ⟨y, hy, h⟩
theorem sum_take {l : List Nat} {q : Nat} (h : q < l.length) : (l.take (q + 1)).sum = (l.take q).sum + l.getD q 0 := by
  rw [take_get h, List.sum_append]; simp
theorem sum_take_le (l : List Nat) (q : Nat) : (l.take q).sum ≤ l.sum := by
  have : l.sum = (l.take q).sum + (l.drop q).sum := by rw [← List.sum_append, List.take_append_drop]
  omega
theorem maxL_len30 {k : List Nat} (h : k.length ≤ 30) : (maxL k).length ≤ 30 := Nat.le_trans (maxL_len k) h
theorem minL_len30 {k : List Nat} (h : k.length ≤ 30) : (minL k).length ≤ 30 := Nat.le_trans (minL_len k) h
set_option maxHeartbeats 16000000 in
theorem ends_law (w : World) (A : Option Addr) (n c : Nat) (l : List Int) (h : Rd w A n c (VI l)) :
    Calls Try.prog 8 #[.slice A n c] w fun e w' => e = .returned (.bool true) ∧ On w w' := by
  have hV := lvalid1 w A n c l h
  have PP := (On.refl w).alloc (.cells #[.slice A n c] 22)
  have hA := fun W => awake_any W
  by_cases hok : okS l = true
  · rw [hok] at hV
    obtain ⟨k, rfl, hk, hlk⟩ := okS_iff l hok
    have hn : k.length = n := by have := h.len; rw [ints_len] at this; exact this
    have Ra := h.on PP
    have bm := minL_len30 hlk
    have bM := maxL_len30 hlk
    have om := minL_ok hk
    have oM := maxL_ok hk
    have capn := h.cap
    have maxn := h.max
    have HN := Lib.hid hn
    have cm := chk_min hk
    have cM := chk_max hk
    have mm := minL_min hk
    have MM := maxL_max hk
    have un := fun s (hs : s ∈ k) => under_all hk hs
    have ov := fun s (hs : s ∈ k) => over_all hk hs
    have sm : sortU (minL k) = minL k := (minL_sorted k).symm
    have hMin := fun W hW => Minimal_ok W A n c k hW hk (by omega)
    have hMax := fun W hW => Maximal_ok W A n c k hW hk (by omega)
    have szsum := szs_sum (sortU (minL k))
    rw [sm] at szsum
    obtain ⟨lo, hlo⟩ : ∃ lo, minL k = lo := ⟨_, rfl⟩
    obtain ⟨hi, hhi⟩ : ∃ hi, maxL k = hi := ⟨_, rfl⟩
    simp only [hlo] at hMin un bm om cm mm sm szsum
    simp only [hhi] at hMax ov bM oM cM MM
    have HUN := Lib.hid un
    have HOV := Lib.hid ov
    have HSZ := Lib.hid szsum
    clear hok h hn un ov hlo hhi szsum
    go_enter Try.func8, Try.ntmps8
    go_wp2_with fail
    refine hV.mono ?_
    rintro e w1 ⟨rfl, rfl⟩
    generalize w.alloc (.cells #[.slice A n c] 22) = w1 at *
    clear hV
    go_wp2_with fail
    refine (hA _).mono ?_
    rintro e w2 ⟨rfl, P2⟩
    replace Ra := Ra.on P2
    replace PP := PP.trans P2
    clear hA P2
    go_wp2_with fail
    refine (hMin _ Ra).mono ?_
    rintro e w3 ⟨A3, n3, c3, rfl, R3, P3⟩
    replace Ra := Ra.on P3
    replace PP := PP.trans P3
    clear hMin P3
    go_wp2_with fail
    refine (hMax _ Ra).mono ?_
    rintro e w4 ⟨A4, n4, c4, rfl, R4, P4⟩
    replace Ra := Ra.on P4
    replace R3 := R3.on P4
    replace PP := PP.trans P4
    clear hMax P4
    have hMin2 := Minimal_ok w4 A3 n3 c3 lo R3 om (by omega)
    rw [mm] at hMin2
    go_wp2_with fail
    refine hMin2.mono ?_
    rintro e w5 ⟨A5, n5, c5, rfl, R5, P5⟩
    replace Ra := Ra.on P5
    replace R3 := R3.on P5
    replace R4 := R4.on P5
    replace PP := PP.trans P5
    clear hMin2 P5
    have hMax2 := Maximal_ok w5 A4 n4 c4 hi R4 oM (by omega)
    rw [MM] at hMax2
    go_wp2_with fail
    refine hMax2.mono ?_
    rintro e w6 ⟨A6, n6, c6, rfl, R6, P6⟩
    replace Ra := Ra.on P6
    replace R3 := R3.on P6
    replace R4 := R4.on P6
    replace R5 := R5.on P6
    replace PP := PP.trans P6
    clear hMax2 P6
    have I1 := ints_any _ _ _ _ _ _ _ _ _ R3 R5
    rw [decide_eq_true rfl] at I1
    go_wp2_with fail
    refine I1.mono ?_
    rintro e w7 ⟨rfl, P7⟩
    replace Ra := Ra.on P7
    replace R3 := R3.on P7
    replace R4 := R4.on P7
    replace R6 := R6.on P7
    replace PP := PP.trans P7
    clear I1 P7 R5
    have I2 := ints_any _ _ _ _ _ _ _ _ _ R4 R6
    rw [decide_eq_true rfl] at I2
    go_wp2_with fail
    refine I2.mono ?_
    rintro e w8 ⟨rfl, P8⟩
    replace Ra := Ra.on P8
    replace R3 := R3.on P8
    replace R4 := R4.on P8
    replace PP := PP.trans P8
    clear I2 P8 R6
    have K1 := Check_ok w8 A3 n3 c3 lo R3 om (by omega)
    rw [cm, errV_zero] at K1
    go_wp2_with fail
    refine K1.mono ?_
    rintro e w9 ⟨rfl, P9⟩
    replace Ra := Ra.on P9
    replace R3 := R3.on P9
    replace R4 := R4.on P9
    replace PP := PP.trans P9
    clear K1 P9
    have K2 := Check_ok w9 A4 n4 c4 hi R4 oM (by omega)
    rw [cM, errV_zero] at K2
    go_wp2_with fail
    refine K2.mono ?_
    rintro e wq ⟨rfl, P10⟩
    replace Ra := Ra.on P10
    replace R3 := R3.on P10
    replace R4 := R4.on P10
    replace PP := PP.trans P10
    clear K2 P10
    have hS := Sizes_ok wq A3 n3 c3 lo R3 om (by omega)
    rw [sm] at hS
    have hn3 : lo.length = n3 := by have := R3.len; rw [ints_len] at this; exact this
    have hn4 : hi.length = n4 := by have := R4.len; rw [ints_len] at this; exact this
    have cap3 := R3.cap
    have max3 := R3.max
    have cap4 := R4.cap
    have max4 := R4.max
    have HRA := Lib.hid Ra
    have HR3 := Lib.hid R3
    have HR4 := Lib.hid R4
    have HN3 := Lib.hid hn3
    have HN4 := Lib.hid hn4
    have b3 : n3 ≤ 30 := by omega
    have HSS := Lib.hid hS
    clear Ra R3 R4 hn3 hn4 hS mm MM cm cM bm bM
    go_wp2
    go_loopw [91] (fun i wr => ∃ j : Nat, j ≤ n ∧ i = .int .i64 (j : Int) ∧ wq = wr) (fun i _ => n - (intOf i).toNat)
    case atStart => exact ⟨0, by omega, rfl, rfl⟩
    case round =>
      obtain ⟨j, hj, rfl, hwq⟩ := hrel
      subst hwq
      by_cases hlt : j < n
      · have hjl : j < k.length := by rw [HN.out]; exact hlt
        obtain ⟨ad, e1, hb, hc⟩ := HRA.out.at_ j _ (ints_get hjl)
        cases e1
        have hsm := getD_mem hjl
        obtain ⟨s, hs⟩ : ∃ s, k.getD j 0 = s := ⟨_, rfl⟩
        rw [hs] at hc hsm
        have hs24 := hk s hsm
        have U := Lib.hid (HUN.out s hsm)
        have V := Lib.hid (HOV.out s hsm)
        clear hs hsm
        go_wp2
        go_loopw [13, 97] (fun b i wr => ∃ q : Nat, q ≤ n3 ∧ i = .int .i64 (q : Int) ∧ b = .bool (cov (lo.take q) s) ∧ wq = wr) (fun _ i _ => n3 - (intOf i).toNat)
        case atStart => exact ⟨0, by omega, rfl, rfl, rfl⟩
        case round =>
          obtain ⟨q, hq, rfl, rfl, hwq⟩ := hrel
          subst hwq
          by_cases hlt2 : q < n3
          · have hql : q < lo.length := by rw [HN3.out]; exact hlt2
            obtain ⟨ad2, e2, hb2, hc2⟩ := HR3.out.at_ q _ (ints_get hql)
            cases e2
            have hst := cov_take hql s
            have hym := om _ (getD_mem hql)
            obtain ⟨y, hy⟩ : ∃ y, lo.getD q 0 = y := ⟨_, rfl⟩
            rw [hy] at hc2 hst hym
            have hand := and_nat y s hym hs24
            obtain ⟨d, hd⟩ : ∃ d, y &&& s = d := ⟨_, rfl⟩
            rw [hd] at hand hst
            obtain ⟨b1, hb1⟩ : ∃ b, cov (lo.take q) s = b := ⟨_, rfl⟩
            rw [hb1] at hst ⊢
            have HST := Lib.hid hst
            clear hy hym hd hb1 hst
            rcases b1 with _ | _
            · by_cases hdy : d = y
              · subst hdy
                go_wp2
                go_roundw
                case rel => exact ⟨q + 1, by omega, by go_num, by rw [HST.out]; simp, trivial⟩
                case measure => simp [intOf]; omega
              · have hdy2 : ¬ (d : Int) = (y : Int) := by omega
                have hdy3 : ((d : Int) == (y : Int)) = false := by simpa using hdy2
                have hdy4 : (d == y) = false := by simpa using hdy
                have H4 := Lib.hid hdy4
                clear hdy4
                go_wp2
                go_roundw
                case rel => exact ⟨q + 1, by omega, by go_num, by rw [HST.out, H4.out]; first | rfl | (rw [hdy3]; rfl), trivial⟩
                case measure => simp [intOf]; omega
            · go_wp2
              go_roundw
              case rel => exact ⟨q + 1, by omega, by go_num, by rw [HST.out]; rfl, trivial⟩
              case measure => simp [intOf]; omega
          · obtain rfl : q = n3 := by omega
            have e0 : lo.take q = lo := List.take_of_length_le (by rw [HN3.out]; omega)
            rw [e0, U.out]
            clear e0
            go_wp2
            go_loopw [14, 112] (fun b i wr => ∃ q : Nat, q ≤ n4 ∧ i = .int .i64 (q : Int) ∧ b = .bool (inn (hi.take q) s) ∧ wq = wr) (fun _ i _ => n4 - (intOf i).toNat)
            case atStart => exact ⟨0, by omega, rfl, rfl, rfl⟩
            case round =>
              obtain ⟨t, ht, rfl, rfl, hwq⟩ := hrel
              subst hwq
              by_cases hlt3 : t < n4
              · have hql : t < hi.length := by rw [HN4.out]; exact hlt3
                obtain ⟨ad2, e2, hb2, hc2⟩ := HR4.out.at_ t _ (ints_get hql)
                cases e2
                have hst := inn_take hql s
                have hym := oM _ (getD_mem hql)
                obtain ⟨y, hy⟩ : ∃ y, hi.getD t 0 = y := ⟨_, rfl⟩
                rw [hy] at hc2 hst hym
                have hand := and_nat y s hym hs24
                obtain ⟨d, hd⟩ : ∃ d, y &&& s = d := ⟨_, rfl⟩
                rw [hd] at hand hst
                obtain ⟨b1, hb1⟩ : ∃ b, inn (hi.take t) s = b := ⟨_, rfl⟩
                rw [hb1] at hst ⊢
                have HST := Lib.hid hst
                clear hy hym hd hb1 hst
                rcases b1 with _ | _
                · by_cases hdy : d = s
                  · subst hdy
                    go_wp2
                    go_roundw
                    case rel => exact ⟨t + 1, by omega, by go_num, by rw [HST.out]; simp, trivial⟩
                    case measure => simp [intOf]; omega
                  · have hdy2 : ¬ (d : Int) = (s : Int) := by omega
                    have hdy3 : ((d : Int) == (s : Int)) = false := by simpa using hdy2
                    have hdy4 : (d == s) = false := by simpa using hdy
                    have H4 := Lib.hid hdy4
                    clear hdy4
                    go_wp2
                    go_roundw
                    case rel => exact ⟨t + 1, by omega, by go_num, by rw [HST.out, H4.out]; first | rfl | (rw [hdy3]; rfl), trivial⟩
                    case measure => simp [intOf]; omega
                · go_wp2
                  go_roundw
                  case rel => exact ⟨t + 1, by omega, by go_num, by rw [HST.out]; rfl, trivial⟩
                  case measure => simp [intOf]; omega
              · obtain rfl : t = n4 := by omega
                have e0 : hi.take t = hi := List.take_of_length_le (by rw [HN4.out]; omega)
                rw [e0, V.out]
                clear e0
                go_wp2
                go_roundw
                case rel => exact ⟨j + 1, by omega, by go_num, trivial⟩
                case measure => simp [intOf]; omega
      · obtain rfl : j = n := by omega
        clear HRA HR4 HUN HOV
        go_wp2_with fail
        refine HSS.out.mono ?_
        rintro e w11 ⟨A7, n7, c7, rfl, R7, P11⟩
        have hn7 : (szs lo).length = n7 := by have := R7.len; rw [ints_len] at this; exact this
        have cap7 := R7.cap
        have max7 := R7.max
        have R3' := HR3.out.on P11
        have PQ := PP.trans P11
        have hsr := rsort_any n3 w11 A3 n3 c3 lo (Nat.le_refl _) R3' om (by omega)
        rw [sm] at hsr
        have szle := szs_len lo
        have HN7 := Lib.hid hn7
        have HR7 := Lib.hid R7
        have HSR := Lib.hid hsr
        clear hn7 R7 R3' hsr P11 PP HSS HR3
        go_wp2
        go_loopw [21, 139] (fun u i wr => ∃ q : Nat, q ≤ n7 ∧ i = .int .i64 (q : Int) ∧ u = .int .i64 ((((szs lo).take q).sum : Nat) : Int) ∧ w11 = wr) (fun _ i _ => n7 - (intOf i).toNat)
        case atStart => exact ⟨0, by omega, rfl, rfl, rfl⟩
        case round =>
          obtain ⟨q, hq, rfl, rfl, hwq⟩ := hrel
          subst hwq
          by_cases hlt2 : q < n7
          · have hql : q < (szs lo).length := by rw [HN7.out]; exact hlt2
            obtain ⟨ad2, e2, hb2, hc2⟩ := HR7.out.at_ q _ (ints_get hql)
            cases e2
            have hst := sum_take hql
            have hle := sum_take_le (szs lo) (q + 1)
            rw [HSZ.out, HN3.out] at hle
            obtain ⟨y, hy⟩ : ∃ y, (szs lo).getD q 0 = y := ⟨_, rfl⟩
            obtain ⟨u, hu⟩ : ∃ u, ((szs lo).take q).sum = u := ⟨_, rfl⟩
            obtain ⟨v, hv⟩ : ∃ v, ((szs lo).take (q + 1)).sum = v := ⟨_, rfl⟩
            rw [hy] at hc2 hst
            rw [hu] at hst ⊢
            rw [hv] at hst hle
            have hw := sum_wr u y v hst (by omega)
            have HV := Lib.hid hv
            clear hst hy hu hv hle
            go_wp2
            go_roundw
            case rel => exact ⟨q + 1, by omega, by go_num, by rw [HV.out]; first | rfl | go_num, trivial⟩
            case measure => simp [intOf]; omega
          · obtain rfl : q = n7 := by omega
            have e0 : ((szs lo).take q).sum = n3 := by rw [List.take_of_length_le (by rw [HN7.out]; omega), HSZ.out, HN3.out]
            rw [e0]
            clear e0 HR7
            go_wp2_with fail
            refine HSR.out.mono ?_
            rintro e w12 ⟨A8, n8, c8, rfl, R8, P12⟩
            have hn8 : n8 = n3 := by have := R8.len; rw [ints_len] at this; rw [← this]; exact HN3.out
            subst hn8
            clear HSR R8
            go_wp2
            go_ret
            exact ⟨rfl, PQ.trans P12⟩
  · have hok2 : okS l = false := by simpa using hok
    rw [hok2] at hV
    clear hok hok2
    go_enter Try.func8, Try.ntmps8
    go_wp2_with fail
    refine hV.mono ?_
    rintro e w1 ⟨rfl, rfl⟩
    generalize w.alloc (.cells #[.slice A n c] 22) = w1 at *
    clear hV
    go_wp2_with fail
    refine (hA _).mono ?_
    rintro e w2 ⟨rfl, P2⟩
    go_wp2
    go_ret
    exact ⟨rfl, PP.trans P2⟩
end Go.Proofs.Ytibkpglgeincdaa.Sb
