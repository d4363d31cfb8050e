/-
  What the statements about families share: the lists that they look at, the specification's Error.
-/
import Derived.Test.YtakkbemldccekaaDoorSf8
import Derived.Test.YtakkbemldccekaaDoorSn2
namespace Go.Proofs.YtakkbemldccekaaDoor.Sb
open Go.RowKit
set_option linter.unusedVariables false
set_option maxRecDepth 100000
set_option maxHeartbeats 2000000 in
theorem Error_any (w : World) (A : Option Addr) (n c : Nat) (l : List Int) (h : Rd w A n c (VI l)) :
    Calls Tryd.prog 38 #[.slice A n c] w fun e w' => e = .returned (.int .i64 (lerr l : Nat)) ∧ w = w' := by
  have hm : l.length = n := by have := h.len; rw [VI_length] at this; exact this
  have hcap := h.cap
  have hmax := h.max
  have hV := fun W s => rvalid_any W s
  obtain ⟨E, hE⟩ : ∃ E, lerr l = E := ⟨_, rfl⟩
  rw [hE]
  have HE := Lib.hid hE
  clear hE
  by_cases hbig : 1024 < n
  · obtain rfl : E = 4 := by rw [← HE.out]; unfold lerr; rw [if_pos (by omega)]
    clear hm
    go_enter Tryd.func38, Tryd.ntmps38
    go_wp2
    go_ret
    exact ⟨rfl, rfl⟩
  · have HM := Lib.hid hm
    have H := Lib.hid h
    clear hm h
    go_enter Tryd.func38, Tryd.ntmps38
    go_wp2
    go_loopw [10] (fun i wr => ∃ q : Nat, q ≤ n ∧ i = .int .i64 (q : Int) ∧ okI (l.take q) = true ∧ w = wr) (fun i _ => n - (intOf i).toNat)
    case atStart => exact ⟨0, by omega, rfl, rfl, rfl⟩
    case round =>
      obtain ⟨q, hq, rfl, hok, hwq⟩ := hrel
      subst hwq
      have HO := Lib.hid hok
      clear hok
      by_cases hq2 : q < n
      · have hql : q < l.length := by rw [HM.out]; exact hq2
        obtain ⟨ad2, e2, hb2, hc2⟩ := H.out.at_ q _ (VI_get hql)
        cases e2
        have htk := okI_take hql
        have hbad := okI_bad hql
        obtain ⟨x, hx⟩ : ∃ x, l.getD q 0 = x := ⟨_, rfl⟩
        rw [hx] at hc2 htk hbad
        have hv := fun W => hV W x
        obtain ⟨b, hb3⟩ : ∃ b, decide (0 ≤ x ∧ x < 16777216) = b := ⟨_, rfl⟩
        rw [hb3] at hv htk hbad
        have H1 := Lib.hid htk
        have H2 := Lib.hid hbad
        clear htk hbad hx hb3 hV
        rcases b with _ | _
        · obtain rfl : E = 3 := by rw [← HE.out]; unfold lerr; rw [if_neg (by rw [HM.out]; omega), H2.out rfl]; rfl
          go_wp2_with (refine (hv _).mono ?_; rintro e w' ⟨rfl, rfl⟩)
          go_ret
          exact ⟨rfl, rfl⟩
        · go_wp2_with (refine (hv _).mono ?_; rintro e w' ⟨rfl, rfl⟩)
          go_roundw
          case rel => exact ⟨q + 1, by omega, by go_num, by rw [H1.out, HO.out]; rfl, trivial⟩
          case measure => simp [intOf]; omega
      · obtain rfl : q = n := by omega
        obtain rfl : E = 0 := by
          have := HO.out
          rw [List.take_of_length_le (by rw [HM.out]; omega)] at this
          rw [← HE.out]; unfold lerr
          rw [if_neg (by rw [HM.out]; omega), if_pos this]
        go_wp2
        go_ret
        exact ⟨rfl, rfl⟩
/-- which lists the laws look at -/
def okS (l : List Int) : Bool := decide (l.length ≤ 30) && (lerr l == 0)
def okSs (xs : List Sl) : Bool := xs.all fun t => okS t.l
theorem okSs_take {xs : List Sl} {j : Nat} (h : j < xs.length) : okSs (xs.take (j + 1)) = (okSs (xs.take j) && okS xs[j].l) := by
  unfold okSs
  rw [List.take_add_one, List.getElem?_eq_getElem h, List.all_append]
  simp
theorem okSs_bad {xs : List Sl} {j : Nat} (h : j < xs.length) (hb : okS xs[j].l = false) : okSs xs = false := by
  rw [Bool.eq_false_iff]
  intro hall
  unfold okSs at hall
  rw [List.all_eq_true] at hall
  rw [hall xs[j] (List.getElem_mem h)] at hb
  cases hb
theorem okS_iff (l : List Int) (h : okS l = true) : ∃ k, l = ints k ∧ Ok k ∧ k.length ≤ 30 := by
  unfold okS at h
  rw [Bool.and_eq_true] at h
  have h1 := of_decide_eq_true h.1
  obtain ⟨k, rfl, hk, _⟩ := lerr_zero l (by simpa using h.2)
  exact ⟨k, rfl, hk, by rw [ints_length] at h1; exact h1⟩
end Go.Proofs.YtakkbemldccekaaDoor.Sb
