/-
  The specification of families: Product; the lists that the statements look at.
-/
import Derived.Test.YtibkpglgeincdaaGreatDoorSg4
namespace Go.Proofs.YtibkpglgeincdaaGreatDoor.Sb
open Go.RowKit
set_option linter.unusedVariables false
set_option maxRecDepth 100000
theorem uni_bound (a b i j : Nat) (ha : a ≤ 60) (hb : b ≤ 60) (hi : i ≤ a * b) (hj : j ≤ b) : i + j + 1 ≤ 1000000000 ∧ i ≤ 3600 := by
  have : a * b ≤ 60 * 60 := Nat.mul_le_mul ha hb
  omega
/-- lists that are not too long to be tried -/
def fewB (l : List Int) : Bool := !((decide (60 < l.length) && decide (l.length ≤ 1024)) || decide (1200 < l.length))
def fewS (xs : List Sl) : Bool := xs.all fun t => fewB t.l
theorem fewS_take {xs : List Sl} {j : Nat} (h : j < xs.length) : fewS (xs.take (j + 1)) = (fewS (xs.take j) && fewB xs[j].l) := by
  unfold fewS
  rw [List.take_add_one, List.getElem?_eq_getElem h, List.all_append]
  simp
theorem fewS_bad {xs : List Sl} {j : Nat} (h : j < xs.length) (hb : fewB xs[j].l = false) : fewS xs = false := by
  rw [Bool.eq_false_iff]
  intro hall
  unfold fewS at hall
  rw [List.all_eq_true] at hall
  rw [hall xs[j] (List.getElem_mem h)] at hb
  cases hb
theorem fewB_short {l : List Int} (h : fewB l = true) (he : lerr l = 0) : l.length ≤ 60 := by
  obtain ⟨e1, _, l1⟩ := lerr_nats l he
  have l2 : l.length ≤ 1024 := by rw [e1, ints_length]; exact l1
  unfold fewB at h
  rw [decide_eq_true l2] at h
  refine Classical.byContradiction fun hn => ?_
  rw [decide_eq_true (show 60 < l.length by omega)] at h
  cases h
set_option maxHeartbeats 2000000 in
theorem few_any (w : World) (A : Option Addr) (n c : Nat) (xs : List Sl) (h : Rd w A n c (VSl xs)) (hx : ∀ t ∈ xs, RdS w t) :
    Calls Tryz.prog 4 #[.slice A n c] w fun e w' => e = .returned (.bool (fewS xs)) ∧ w = w' := by
  have hn : xs.length = n := by have := h.len; simpa [VSl] using this
  have hcap := h.cap
  have hmax := h.max
  have HN := Lib.hid hn
  have HX := Lib.hid hx
  have H := Lib.hid h
  clear hn hx h
  obtain ⟨E, hE⟩ : ∃ E, fewS xs = E := ⟨_, rfl⟩
  rw [hE]
  have HE := Lib.hid hE
  clear hE
  go_enter Tryz.func4, Tryz.ntmps4
  go_wp2
  go_loopw [7] (fun i wr => ∃ j : Nat, j ≤ n ∧ i = .int .i64 (j : Int) ∧ fewS (xs.take j) = true ∧ w = wr) (fun i _ => n - (intOf i).toNat)
  case atStart => exact ⟨0, by omega, rfl, rfl, rfl⟩
  case round =>
    obtain ⟨j, hj, rfl, hcv, hwq⟩ := hrel
    subst hwq
    have HC := Lib.hid hcv
    clear hcv
    by_cases hlt : j < n
    · have hjl : j < xs.length := by rw [HN.out]; exact hlt
      obtain ⟨ad, e1, hb, hc⟩ := H.out.at_ j _ (VSl_get hjl)
      cases e1
      have hR0 := HX.out xs[j] (List.getElem_mem hjl)
      have hst0 := fewS_take hjl
      have hbad0 := fewS_bad hjl
      obtain ⟨⟨B, m, d, l⟩, ht⟩ : ∃ t, xs[j] = t := ⟨_, rfl⟩
      rw [ht] at hc hR0 hst0 hbad0
      have hR : Rd w B m d (VI l) := hR0
      have hc2 : w.cell? (ad.add j) = some (.slice B m d) := hc
      have hm : l.length = m := by have := hR.len; rw [VI_length] at this; exact this
      have hst : fewS (xs.take (j + 1)) = (fewS (xs.take j) && !((decide (60 < m) && decide (m ≤ 1024)) || decide (1200 < m))) := by rw [← hm]; exact hst0
      have hbad : (!((decide (60 < m) && decide (m ≤ 1024)) || decide (1200 < m))) = false → fewS xs = false := by rw [← hm]; exact hbad0
      have HST := Lib.hid hst
      have HBAD := Lib.hid hbad
      clear hR0 hst0 hbad0 hc ht hst hbad hR hm
      by_cases c1 : 60 < m
      · by_cases c2 : m ≤ 1024
        · obtain rfl : E = false := by
            rw [← HE.out]
            exact HBAD.out (by rw [decide_eq_true c1, decide_eq_true c2]; rfl)
          have c1i : (60 : Int) < (m : Int) := by omega
          have c2i : (m : Int) ≤ 1024 := by omega
          go_wp2
          go_ret
          exact ⟨rfl, rfl⟩
        · by_cases c3 : 1200 < m
          · obtain rfl : E = false := by
              rw [← HE.out]
              exact HBAD.out (by rw [decide_eq_true c3, Bool.or_true]; rfl)
            have c1i : (60 : Int) < (m : Int) := by omega
            have c2i : ¬ (m : Int) ≤ 1024 := by omega
            have c3i : (1200 : Int) < (m : Int) := by omega
            go_wp2
            go_ret
            exact ⟨rfl, rfl⟩
          · have c1i : (60 : Int) < (m : Int) := by omega
            have c2i : ¬ (m : Int) ≤ 1024 := by omega
            have c3i : ¬ (1200 : Int) < (m : Int) := by omega
            go_wp2
            go_roundw
            case rel => exact ⟨j + 1, by omega, by go_num, by rw [HST.out, HC.out, decide_eq_false c2, decide_eq_false c3, Bool.and_false]; rfl, trivial⟩
            case measure => simp [intOf]; omega
      · have c1i : ¬ (60 : Int) < (m : Int) := by omega
        have c3i : ¬ (1200 : Int) < (m : Int) := by omega
        go_wp2
        go_roundw
        case rel => exact ⟨j + 1, by omega, by go_num, by rw [HST.out, HC.out, decide_eq_false c1, decide_eq_false (show ¬ 1200 < m by omega), Bool.false_and]; rfl, trivial⟩
        case measure => simp [intOf]; omega
    · obtain rfl : j = n := by omega
      obtain rfl : E = true := by
        have := HC.out
        rw [List.take_of_length_le (by rw [HN.out]; omega)] at this
        rw [← HE.out, this]
      go_wp2
      go_ret
      exact ⟨rfl, rfl⟩
theorem few1 (w : World) (A : Option Addr) (n c : Nat) (l : List Int) (h : Rd w A n c (VI l)) :
    Calls Tryz.prog 4 #[.slice (some ⟨w.heap.size, 0, none⟩) 1 1] (w.alloc (.cells #[.slice A n c] 22)) fun e w' => e = .returned (.bool (fewB l)) ∧ w.alloc (.cells #[.slice A n c] 22) = w' := by
  have R := rd_lit w 22 #[.slice A n c] (VSl [⟨A, n, c, l⟩]) 1 rfl rfl (by omega)
  have := few_any _ _ _ _ [⟨A, n, c, l⟩] R (fun t ht => by
    obtain rfl : t = ⟨A, n, c, l⟩ := by simpa using ht
    exact h.alloc _)
  have e : fewS [⟨A, n, c, l⟩] = fewB l := by simp [fewS]
  rw [e] at this
  exact this
theorem few2 (w : World) (A : Option Addr) (n c : Nat) (l : List Int) (h : Rd w A n c (VI l)) (B : Option Addr) (m d : Nat) (k : List Int) (h2 : Rd w B m d (VI k)) :
    Calls Tryz.prog 4 #[.slice (some ⟨w.heap.size, 0, none⟩) 2 2] (w.alloc (.cells #[.slice A n c, .slice B m d] 22)) fun e w' => e = .returned (.bool (fewB l && fewB k)) ∧ w.alloc (.cells #[.slice A n c, .slice B m d] 22) = w' := by
  have R := rd_lit w 22 #[.slice A n c, .slice B m d] (VSl [⟨A, n, c, l⟩, ⟨B, m, d, k⟩]) 2 rfl rfl (by omega)
  have := few_any _ _ _ _ [⟨A, n, c, l⟩, ⟨B, m, d, k⟩] R (fun t ht => by
    rcases List.mem_cons.1 ht with rfl | ht
    · exact h.alloc _
    · obtain rfl : t = ⟨B, m, d, k⟩ := by simpa using ht
      exact h2.alloc _)
  have e : fewS [⟨A, n, c, l⟩, ⟨B, m, d, k⟩] = (fewB l && fewB k) := by simp [fewS]
  rw [e] at this
  exact this
end Go.Proofs.YtibkpglgeincdaaGreatDoor.Sb
