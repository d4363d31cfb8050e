/-
  The specification of families: Product; the lists that the statements look at.
-/
import Derived.Test.YtibkpglgeincdaaSg4
namespace Go.Proofs.Ytibkpglgeincdaa.Sb
open Go.RowKit
set_option linter.unusedVariables false
set_option maxRecDepth 100000
theorem uni_bound (a b i j : Nat) (ha : a ≤ 60) (hb : b ≤ 60) (hi : i ≤ a * b) (hj : j ≤ b) : i + j + 1 ≤ 1000000000 ∧ i ≤ 3600 := by
  have : a * b ≤ 60 * 60 := Nat.mul_le_mul ha hb
  omega
set_option maxHeartbeats 8000000 in
theorem rproduct_all (w : World) (A : Option Addr) (n c : Nat) (l : List Int) (h : Rd w A n c (VI l)) (B : Option Addr) (m d : Nat) (k : List Int) (h2 : Rd w B m d (VI k)) (hs1 : lerr l = 0 → l.length ≤ 60) (hs2 : lerr k = 0 → k.length ≤ 60) :
    Calls Try.prog 15 #[.slice A n c, .slice B m d] w (GivesK w (prodR l k).1 (prodR l k).2) := by
  have hB := rboth_any w A n c l h B m d k h2
  unfold prodR
  by_cases hb : both l k = 0
  · rw [if_pos hb]
    rw [hb] at hB
    obtain ⟨h3, h4⟩ := both_zero hb
    have hs3 := hs1 h3
    have hs4 := hs2 h4
    obtain ⟨e1, o1, l1⟩ := lerr_nats l h3
    obtain ⟨e2, o2, l2⟩ := lerr_nats k h4
    rw [e1] at h
    rw [e2] at h2
    rw [e1, ints_length] at hs3
    rw [e2, ints_length] at hs4
    clear hs1 hs2
    generalize natsOf l = a at *
    generalize natsOf k = b at *
    have hn : a.length = n := by have := h.len; rw [ints_len] at this; exact this
    have hm : b.length = m := by have := h2.len; rw [ints_len] at this; exact this
    have capA := h.cap
    have maxA := h.max
    have capB := h2.cap
    have maxB := h2.max
    have HN := Lib.hid hn
    have HM := Lib.hid hm
    have RA := Lib.hid h
    have RB := Lib.hid h2
    clear h h2 e1 e2 hb h3 h4 hn hm l1 l2
    go_enter Try.func15, Try.ntmps15
    go_wp2_with fail
    refine hB.mono ?_
    rintro e w' ⟨rfl, rfl⟩
    clear hB
    go_wp2
    go_loopw [7, 20] (fun v i wr => ∃ q : Nat, q ≤ n ∧ i = .int .i64 (q : Int) ∧ wr.ownsRow w.heap.size 3 1 v (uniTo a b q).length (VI (ints (uniTo a b q))) ∧ On w wr) (fun _ i _ => n - (intOf i).toNat)
    case atStart => exact ⟨0, by omega, rfl, row_nil _ _ _, On.refl _⟩
    case round =>
      obtain ⟨i, hi, rfl, hrow, hon⟩ := hrel
      obtain ⟨wo, hwo⟩ : ∃ wo, wo = wr := ⟨_, rfl⟩
      subst hwo
      have HROW := Lib.hid hrow
      clear hrow
      by_cases hlt : i < n
      · have hjl : i < a.length := by rw [HN.out]; exact hlt
        obtain ⟨ad, e1, hb1, hc⟩ := (RA.out.on hon).at_ i _ (ints_get hjl)
        cases e1
        have hst := uniTo_succ a b i hjl
        have hxm := getD_mem hjl
        obtain ⟨x, hx⟩ : ∃ x, a.getD i 0 = x := ⟨_, rfl⟩
        rw [hx] at hc hst hxm
        have hx24 := o1 x hxm
        have HST := Lib.hid hst
        have hul := uniTo_len a b i
        have HUL := Lib.hid hul
        clear hx hxm hst hul
        go_wp2
        go_loopw [7, 26] (fun v j wr => ∃ q : Nat, q ≤ m ∧ j = .int .i64 (q : Int) ∧ wr.ownsRow w.heap.size 3 1 v (uniTo a b i ++ uniRow x b q).length (VI (ints (uniTo a b i ++ uniRow x b q))) ∧ On w wr) (fun _ j _ => m - (intOf j).toNat)
        case atStart =>
          refine ⟨0, by omega, rfl, ?_, hon⟩
          have e0 : uniRow x b 0 = [] := rfl
          rw [e0, List.append_nil]
          exact HROW.out
        case round =>
          obtain ⟨j, hj, rfl, hrow2, hon2⟩ := hrel
          obtain ⟨A5, c5, rfl⟩ := row_form hrow2
          have HROW2 := Lib.hid hrow2
          clear hrow2
          by_cases hlt2 : j < m
          · have hjl2 : j < b.length := by rw [HM.out]; exact hlt2
            obtain ⟨ad2, e2, hb2, hc2⟩ := (RB.out.on hon2).at_ j _ (ints_get hjl2)
            cases e2
            have hst2 := uniRow_succ x b j hjl2
            have hym := getD_mem hjl2
            obtain ⟨y, hy⟩ : ∃ y, b.getD j 0 = y := ⟨_, rfl⟩
            rw [hy] at hc2 hst2 hym
            have hy24 := o2 y hym
            have hor := or_step x y hx24 hy24
            have hsz := hon2.size
            have hrl := uniRow_len x b j
            have hbnd : (uniTo a b i ++ uniRow x b j).length + 1 ≤ 1000000000 := by
              rw [List.length_append]
              exact (uni_bound a.length b.length _ _ hs3 hs4 HUL.out hrl).1
            obtain ⟨z, hz⟩ : ∃ z, x ||| y = z := ⟨_, rfl⟩
            rw [hz] at hor hst2
            have HST2 := Lib.hid hst2
            have HBND := Lib.hid hbnd
            have HOR := Lib.hid hor
            clear hy hym hst2 hrl hz hy24 hbnd
            go_wp2_with (at_builtin; refine wpList_app rfl (.tmp 30) (.tmp 34) 22 rfl w.heap.size 3 (.int .i64 0) 8 Try.underlying22 infoi rfl (by decide) (.slice A5 (uniTo a b i ++ uniRow x b j).length c5) _ (VI (ints (uniTo a b i ++ uniRow x b j))) rfl (row_alloc HROW2.out _) (some ⟨wr.heap.size, 0, none⟩) 1 1 [.int .i64 (z : Int)] (by first | rfl | (rw [← HOR.out]; rfl)) (by first | exact rd_one _ _ _ | (rw [← HOR.out]; exact rd_one _ _ _)) (by simp [Value.oneCell']) HBND.out (by simp; omega) ?_; intro v' w5 hown5 hgrow5 _)
            refine ⟨⟨j + 1, by omega, by go_num, ?_, ?_⟩, by simp [intOf]; omega⟩
            · rw [HST2.out, ← List.append_assoc, List.length_append (bs := [z]), List.length_singleton, VI_snoc]; exact hown5
            · exact on_row (hon2.alloc _) (row_alloc HROW2.out _) (Nat.le_refl _) hgrow5
          · obtain rfl : j = m := by omega
            have efull : uniTo a b i ++ uniRow x b j = uniTo a b (i + 1) := by
              rw [HST.out, HM.out]
            have HE := Lib.hid efull
            clear efull
            go_wp2
            go_roundw
            case rel =>
              refine ⟨i + 1, by omega, by go_num, ?_, hon2⟩
              rw [← HE.out]; exact HROW2.out
            case measure => simp [intOf]; omega
      · obtain rfl : i = n := by omega
        obtain ⟨A5, c5, rfl⟩ := row_form HROW.out
        have e0 : uniTo a b i = uni a b := by unfold uniTo; rw [List.take_of_length_le (by rw [HN.out]; omega)]
        have r1 := rd_of_row HROW.out
        have hbnd : (uniTo a b i).length ≤ 1000000 := by
          have := uniTo_len a b i
          have := (uni_bound a.length b.length _ 0 hs3 hs4 this (Nat.zero_le _)).2
          omega
        have hL := rleast_any wo A5 _ c5 _ r1 (by rw [e0]; exact uni_ok o1 o2) hbnd
        have E0 := Lib.hid e0
        clear e0 r1 hbnd
        go_wp2_with fail
        refine hL.mono ?_
        rintro e w7 ⟨A7, n7, c7, rfl, R7, P7⟩
        rw [E0.out] at R7
        have hI := rlimited_any w7 A7 n7 c7 _ R7
        clear hL
        go_wp2_with fail
        refine hI.mono ?_
        rintro e w8 ⟨A8, n8, c8, rfl, R8, P8⟩
        have P := (hon.trans P7).trans P8
        clear hI R7 P7 P8
        go_wp2
        go_ret2
        exact ⟨_, _, _, rfl, R8, P⟩
  · rw [if_neg hb]
    generalize both l k = E at *
    have h0 : ¬ (E : Int) = 0 := by omega
    go_enter Try.func15, Try.ntmps15
    go_wp2_with fail
    refine hB.mono ?_
    rintro e w' ⟨rfl, rfl⟩
    go_wp2
    go_ret2
    exact ⟨none, 0, 0, rfl, Rd.nil_ _, On.refl _⟩
/-- lists that are not too long to be tried -/
def fewB (l : List Int) : Bool := !((decide (60 < l.length) && decide (l.length ≤ 1024)) || decide (1200 < l.length))
def fewS (xs : List Sl) : Bool := xs.all fun t => fewB t.l
theorem fewS_take {xs : List Sl} {j : Nat} (h : j < xs.length) : fewS (xs.take (j + 1)) = (fewS (xs.take j) && fewB xs[j].l) := by
  unfold fewS
  rw [List.take_add_one, List.getElem?_eq_getElem h, List.all_append]
  simp
theorem fewS_bad {xs : List Sl} {j : Nat} (h : j < xs.length) (hb : fewB xs[j].l = false) : fewS xs = false := by
  rw [Bool.eq_false_iff]
  intro hall
  unfold fewS at hall
  rw [List.all_eq_true] at hall
  rw [hall xs[j] (List.getElem_mem h)] at hb
  cases hb
theorem fewB_short {l : List Int} (h : fewB l = true) (he : lerr l = 0) : l.length ≤ 60 := by
  obtain ⟨e1, _, l1⟩ := lerr_nats l he
  have l2 : l.length ≤ 1024 := by rw [e1, ints_length]; exact l1
  unfold fewB at h
  rw [decide_eq_true l2] at h
  refine Classical.byContradiction fun hn => ?_
  rw [decide_eq_true (show 60 < l.length by omega)] at h
  cases h
set_option maxHeartbeats 2000000 in
theorem few_any (w : World) (A : Option Addr) (n c : Nat) (xs : List Sl) (h : Rd w A n c (VSl xs)) (hx : ∀ t ∈ xs, RdS w t) :
    Calls Try.prog 9 #[.slice A n c] w fun e w' => e = .returned (.bool (fewS xs)) ∧ w = w' := by
  have hn : xs.length = n := by have := h.len; simpa [VSl] using this
  have hcap := h.cap
  have hmax := h.max
  have HN := Lib.hid hn
  have HX := Lib.hid hx
  have H := Lib.hid h
  clear hn hx h
  obtain ⟨E, hE⟩ : ∃ E, fewS xs = E := ⟨_, rfl⟩
  rw [hE]
  have HE := Lib.hid hE
  clear hE
  go_enter Try.func9, Try.ntmps9
  go_wp2
  go_loopw [7] (fun i wr => ∃ j : Nat, j ≤ n ∧ i = .int .i64 (j : Int) ∧ fewS (xs.take j) = true ∧ w = wr) (fun i _ => n - (intOf i).toNat)
  case atStart => exact ⟨0, by omega, rfl, rfl, rfl⟩
  case round =>
    obtain ⟨j, hj, rfl, hcv, hwq⟩ := hrel
    subst hwq
    have HC := Lib.hid hcv
    clear hcv
    by_cases hlt : j < n
    · have hjl : j < xs.length := by rw [HN.out]; exact hlt
      obtain ⟨ad, e1, hb, hc⟩ := H.out.at_ j _ (VSl_get hjl)
      cases e1
      have hR0 := HX.out xs[j] (List.getElem_mem hjl)
      have hst0 := fewS_take hjl
      have hbad0 := fewS_bad hjl
      obtain ⟨⟨B, m, d, l⟩, ht⟩ : ∃ t, xs[j] = t := ⟨_, rfl⟩
      rw [ht] at hc hR0 hst0 hbad0
      have hR : Rd w B m d (VI l) := hR0
      have hc2 : w.cell? (ad.add j) = some (.slice B m d) := hc
      have hm : l.length = m := by have := hR.len; rw [VI_length] at this; exact this
      have hst : fewS (xs.take (j + 1)) = (fewS (xs.take j) && !((decide (60 < m) && decide (m ≤ 1024)) || decide (1200 < m))) := by rw [← hm]; exact hst0
      have hbad : (!((decide (60 < m) && decide (m ≤ 1024)) || decide (1200 < m))) = false → fewS xs = false := by rw [← hm]; exact hbad0
      have HST := Lib.hid hst
      have HBAD := Lib.hid hbad
      clear hR0 hst0 hbad0 hc ht hst hbad hR hm
      by_cases c1 : 60 < m
      · by_cases c2 : m ≤ 1024
        · obtain rfl : E = false := by
            rw [← HE.out]
            exact HBAD.out (by rw [decide_eq_true c1, decide_eq_true c2]; rfl)
          have c1i : (60 : Int) < (m : Int) := by omega
          have c2i : (m : Int) ≤ 1024 := by omega
          go_wp2
          go_ret
          exact ⟨rfl, rfl⟩
        · by_cases c3 : 1200 < m
          · obtain rfl : E = false := by
              rw [← HE.out]
              exact HBAD.out (by rw [decide_eq_true c3, Bool.or_true]; rfl)
            have c1i : (60 : Int) < (m : Int) := by omega
            have c2i : ¬ (m : Int) ≤ 1024 := by omega
            have c3i : (1200 : Int) < (m : Int) := by omega
            go_wp2
            go_ret
            exact ⟨rfl, rfl⟩
          · have c1i : (60 : Int) < (m : Int) := by omega
            have c2i : ¬ (m : Int) ≤ 1024 := by omega
            have c3i : ¬ (1200 : Int) < (m : Int) := by omega
            go_wp2
            go_roundw
            case rel => exact ⟨j + 1, by omega, by go_num, by rw [HST.out, HC.out, decide_eq_false c2, decide_eq_false c3, Bool.and_false]; rfl, trivial⟩
            case measure => simp [intOf]; omega
      · have c1i : ¬ (60 : Int) < (m : Int) := by omega
        have c3i : ¬ (1200 : Int) < (m : Int) := by omega
        go_wp2
        go_roundw
        case rel => exact ⟨j + 1, by omega, by go_num, by rw [HST.out, HC.out, decide_eq_false c1, decide_eq_false (show ¬ 1200 < m by omega), Bool.false_and]; rfl, trivial⟩
        case measure => simp [intOf]; omega
    · obtain rfl : j = n := by omega
      obtain rfl : E = true := by
        have := HC.out
        rw [List.take_of_length_le (by rw [HN.out]; omega)] at this
        rw [← HE.out, this]
      go_wp2
      go_ret
      exact ⟨rfl, rfl⟩
theorem few1 (w : World) (A : Option Addr) (n c : Nat) (l : List Int) (h : Rd w A n c (VI l)) :
    Calls Try.prog 9 #[.slice (some ⟨w.heap.size, 0, none⟩) 1 1] (w.alloc (.cells #[.slice A n c] 22)) fun e w' => e = .returned (.bool (fewB l)) ∧ w.alloc (.cells #[.slice A n c] 22) = w' := by
  have R := rd_lit w 22 #[.slice A n c] (VSl [⟨A, n, c, l⟩]) 1 rfl rfl (by omega)
  have := few_any _ _ _ _ [⟨A, n, c, l⟩] R (fun t ht => by
    obtain rfl : t = ⟨A, n, c, l⟩ := by simpa using ht
    exact h.alloc _)
  have e : fewS [⟨A, n, c, l⟩] = fewB l := by simp [fewS]
  rw [e] at this
  exact this
theorem few2 (w : World) (A : Option Addr) (n c : Nat) (l : List Int) (h : Rd w A n c (VI l)) (B : Option Addr) (m d : Nat) (k : List Int) (h2 : Rd w B m d (VI k)) :
    Calls Try.prog 9 #[.slice (some ⟨w.heap.size, 0, none⟩) 2 2] (w.alloc (.cells #[.slice A n c, .slice B m d] 22)) fun e w' => e = .returned (.bool (fewB l && fewB k)) ∧ w.alloc (.cells #[.slice A n c, .slice B m d] 22) = w' := by
  have R := rd_lit w 22 #[.slice A n c, .slice B m d] (VSl [⟨A, n, c, l⟩, ⟨B, m, d, k⟩]) 2 rfl rfl (by omega)
  have := few_any _ _ _ _ [⟨A, n, c, l⟩, ⟨B, m, d, k⟩] R (fun t ht => by
    rcases List.mem_cons.1 ht with rfl | ht
    · exact h.alloc _
    · obtain rfl : t = ⟨B, m, d, k⟩ := by simpa using ht
      exact h2.alloc _)
  have e : fewS [⟨A, n, c, l⟩, ⟨B, m, d, k⟩] = (fewB l && fewB k) := by simp [fewS]
  rw [e] at this
  exact this
end Go.Proofs.Ytibkpglgeincdaa.Sb
