/-
  Package family: covers, accept.
-/
import Derived.Test.YtakkbemldccekaaDoorSn1
import Derived.Test.YtakkbemldccekaaDoorSf0
namespace Go.Proofs.YtakkbemldccekaaDoor.Sb
open Go.RowKit
set_option linter.unusedVariables false
set_option maxRecDepth 100000
theorem ints_get {k : List Nat} {i : Nat} (h : i < k.length) : (VI (ints k))[i]? = some (.int .i64 ((k.getD i 0 : Nat) : Int)) := by
  simp [VI, ints, h]
theorem ints_len (k : List Nat) : (VI (ints k)).length = k.length := by simp [VI, ints]
theorem getD_mem {k : List Nat} {i : Nat} (h : i < k.length) : k.getD i 0 ∈ k := by
  have : k.getD i 0 = k[i] := by simp [h]
  rw [this]; exact List.getElem_mem h
theorem take_get {k : List Nat} {i : Nat} (h : i < k.length) : k.take (i + 1) = k.take i ++ [k.getD i 0] := by
  rw [List.take_add_one, List.getElem?_eq_getElem h]; simp [h]
theorem cov_one (x s : Nat) : cov [x] s = (x &&& s == x) := by simp [cov]
set_option maxHeartbeats 1000000 in
theorem covers_any (w : World) (A : Option Addr) (n c : Nat) (k : List Nat) (s : Nat) (h : Rd w A n c (VI (ints k))) (hk : Ok k) (hs : s < 16777216) :
    Calls Tryd.prog 55 #[.slice A n c, .int .i64 (s : Int)] w fun e w' => e = .returned (.bool (cov k s)) ∧ w = w' := by
  have hn : k.length = n := by have := h.len; rw [ints_len] at this; exact this
  have hcap := h.cap
  have hmax := h.max
  have HN := Lib.hid hn
  clear hn
  go_enter Tryd.func55, Tryd.ntmps55
  go_wp2
  go_loopw [9] (fun i wr => ∃ j : Nat, j ≤ n ∧ i = .int .i64 (j : Int) ∧ cov (k.take j) s = false ∧ w = wr) (fun i _ => n - (intOf i).toNat)
  case atStart => exact ⟨0, by omega, rfl, rfl, rfl⟩
  case round =>
    obtain ⟨j, hj, rfl, hcv, rfl⟩ := hrel
    have HC := Lib.hid hcv
    clear hcv
    by_cases hlt : j < n
    · have hjl : j < k.length := by rw [HN.out]; exact hlt
      obtain ⟨ad, rfl, hb, hc⟩ := h.at_ j _ (ints_get hjl)
      obtain ⟨x, hx⟩ : ∃ x, k.getD j 0 = x := ⟨_, rfl⟩
      have hx24 : x < 16777216 := by rw [← hx]; exact hk _ (getD_mem hjl)
      have htk := take_get hjl
      rw [hx] at hc htk
      have hS := fun W => subset_any W (x : Int) (s : Int)
      rw [cut_nat x hx24, cut_nat s hs, without_and] at hS
      obtain ⟨b, hb2⟩ : ∃ b, (x &&& s == x) = b := ⟨_, rfl⟩
      have hstep : cov (k.take (j + 1)) s = b := by rw [htk, cov_append, HC.out, cov_one, hb2]; rfl
      have hall : b = true → cov k s = true := fun e => by
        rw [cov_iff]
        refine ⟨x, by rw [← hx]; exact getD_mem hjl, ?_⟩
        rw [e] at hb2
        exact beq_iff_eq.1 hb2
      have H1 := Lib.hid hstep
      have H2 := Lib.hid hall
      rw [hb2] at hS
      clear hx htk hb2 hstep hall hx24
      rcases b with _ | _
      · go_wp2_with (refine (hS _).mono ?_; rintro e w' ⟨rfl, rfl⟩)
        go_roundw
        case rel => exact ⟨j + 1, by omega, by go_num, H1.out, trivial⟩
        case measure => simp [intOf]; omega
      · go_wp2_with (refine (hS _).mono ?_; rintro e w' ⟨rfl, rfl⟩)
        go_ret
        exact ⟨ret_b (by first | exact (H2.out rfl).symm | exact (H2.out trivial).symm), rfl⟩
    · obtain rfl : j = n := by omega
      have hfin : cov k s = false := by
        have := HC.out
        rwa [List.take_of_length_le (by rw [HN.out]; omega)] at this
      have HF := Lib.hid hfin
      clear hfin
      go_wp2
      go_ret
      exact ⟨ret_b HF.out.symm, rfl⟩
/-- the number of a list's error -/
def okI (l : List Int) : Bool := l.all fun x => decide (0 ≤ x ∧ x < 16777216)
def lerr (l : List Int) : Nat := if 1024 < l.length then 4 else if okI l then 0 else 3
/-- the first error of lists -/
def errs : List (List Int) → Nat
  | [] => 0
  | l :: ls => if lerr l = 0 then errs ls else lerr l
theorem okI_ints (l : List Int) (h : okI l = true) : ∃ k, l = ints k ∧ Ok k := by
  induction l with
  | nil => exact ⟨[], rfl, fun x hx => by cases hx⟩
  | cons x l ih =>
    unfold okI at h
    rw [List.all_cons, Bool.and_eq_true] at h
    obtain ⟨k, rfl, hk⟩ := ih h.2
    have hx := of_decide_eq_true h.1
    refine ⟨x.toNat :: k, ?_, Ok.cons (by omega) hk⟩
    simp only [ints, List.map_cons]
    congr 1
    exact (Int.toNat_of_nonneg hx.1).symm
theorem in_range (x : Nat) (h : x < 16777216) : decide ((0 : Int) ≤ (x : Int) ∧ (x : Int) < 16777216) = true := decide_eq_true ⟨by omega, by omega⟩
theorem okI_cons (x : Int) (l : List Int) : okI (x :: l) = (decide (0 ≤ x ∧ x < 16777216) && okI l) := rfl
theorem okI_of {k : List Nat} (h : Ok k) : okI (ints k) = true := by
  induction k with
  | nil => rfl
  | cons x k ih =>
    have e : ints (x :: k) = (x : Int) :: ints k := rfl
    rw [e, okI_cons, in_range x (h x (List.mem_cons_self ..)), ih fun y hy => h y (List.mem_cons_of_mem _ hy)]
    rfl
theorem lerr_zero (l : List Int) (h : lerr l = 0) : ∃ k, l = ints k ∧ Ok k ∧ k.length ≤ 1024 := by
  unfold lerr at h
  split at h
  · omega
  · rename_i h1
    split at h
    · rename_i h2
      obtain ⟨k, rfl, hk⟩ := okI_ints l h2
      exact ⟨k, rfl, hk, by rw [ints_length] at h1; omega⟩
    · omega
theorem lerr_ok {k : List Nat} (h : Ok k) (hl : k.length ≤ 1024) : lerr (ints k) = 0 := by
  unfold lerr
  rw [if_neg (by rw [ints_length]; omega), if_pos (okI_of h)]
/-- a slice of ints, and what it reads as -/
structure Sl where
  A : Option Addr
  n : Nat
  c : Nat
  l : List Int
def VSl (xs : List Sl) : List Value := xs.map fun t => .slice t.A t.n t.c
def RdS (w : World) (t : Sl) : Prop := Rd w t.A t.n t.c (VI t.l)
theorem VSl_get {xs : List Sl} {i : Nat} (h : i < xs.length) : (VSl xs)[i]? = some (.slice xs[i].A xs[i].n xs[i].c) := by simp [VSl, h]
theorem errs_cut (xs : List Sl) (i : Nat) (h : i < xs.length) : errs ((xs.drop i).map (·.l)) = if lerr xs[i].l = 0 then errs ((xs.drop (i + 1)).map (·.l)) else lerr xs[i].l := by
  rw [List.drop_eq_getElem_cons h, List.map_cons, errs]
theorem okI_take {l : List Int} {i : Nat} (h : i < l.length) : okI (l.take (i + 1)) = (okI (l.take i) && decide (0 ≤ l.getD i 0 ∧ l.getD i 0 < 16777216)) := by
  unfold okI
  rw [List.take_add_one, List.getElem?_eq_getElem h, List.all_append]
  simp [h]
theorem okI_bad {l : List Int} {i : Nat} (h : i < l.length) (hb : decide (0 ≤ l.getD i 0 ∧ l.getD i 0 < 16777216) = false) : okI l = false := by
  rw [Bool.eq_false_iff]
  intro hall
  unfold okI at hall
  rw [List.all_eq_true] at hall
  have := hall l[i] (List.getElem_mem h)
  have e : l.getD i 0 = l[i] := by simp [h]
  rw [e, this] at hb
  cases hb
set_option maxHeartbeats 2000000 in
theorem accept_any (w : World) (A : Option Addr) (n c : Nat) (xs : List Sl) (h : Rd w A n c (VSl xs)) (hx : ∀ t ∈ xs, RdS w t) :
    Calls Tryd.prog 53 #[.slice A n c] w fun e w' => e = .returned (errV (errs (xs.map (·.l)))) ∧ w = w' := by
  have hn : xs.length = n := by have := h.len; simpa [VSl] using this
  have hcap := h.cap
  have hmax := h.max
  have HN := Lib.hid hn
  clear hn
  have HX := Lib.hid hx
  clear hx
  have hV := fun W s => valid_any W s
  obtain ⟨E, hE⟩ : ∃ E, errs (xs.map (·.l)) = E := ⟨_, rfl⟩
  rw [hE]
  have HE := Lib.hid hE
  clear hE
  go_enter Tryd.func53, Tryd.ntmps53
  go_wp2
  go_loopw [9] (fun i wr => ∃ j : Nat, j ≤ n ∧ i = .int .i64 (j : Int) ∧ errs ((xs.drop j).map (·.l)) = E ∧ w = wr) (fun i _ => n - (intOf i).toNat)
  case atStart => exact ⟨0, by omega, rfl, by rw [List.drop_zero]; exact HE.out, rfl⟩
  case round =>
    obtain ⟨j, hj, rfl, hcv, rfl⟩ := hrel
    have HC := Lib.hid hcv
    clear hcv
    by_cases hlt : j < n
    · have hjl : j < xs.length := by rw [HN.out]; exact hlt
      obtain ⟨ad, rfl, hb, hc⟩ := h.at_ j _ (VSl_get hjl)
      have hR0 := HX.out xs[j] (List.getElem_mem hjl)
      have hcut0 := errs_cut xs j hjl
      rw [HC.out] at hcut0
      obtain ⟨⟨B, m, d, l⟩, ht⟩ : ∃ t, xs[j] = t := ⟨_, rfl⟩
      rw [ht] at hc hR0 hcut0
      have hR : Rd w B m d (VI l) := hR0
      have hcut : E = if lerr l = 0 then errs ((xs.drop (j + 1)).map (·.l)) else lerr l := hcut0
      have HT := Lib.hid hcut
      clear hcut ht hR0 hcut0
      have hm : l.length = m := by have := hR.len; rw [VI_length] at this; exact this
      have hcap2 := hR.cap
      have hmax2 := hR.max
      by_cases hbig : 1024 < m
      · obtain rfl : E = 4 := by
          have e : lerr l = 4 := by unfold lerr; rw [if_pos (by omega)]
          rw [HT.out, e, if_neg (by decide)]
        clear hm
        go_wp2
        go_ret
        exact ⟨rfl, rfl⟩
      · have HM := Lib.hid hm
        clear hm
        go_wp2
        go_loopw [19] (fun i wr => ∃ q : Nat, q ≤ m ∧ i = .int .i64 (q : Int) ∧ okI (l.take q) = true ∧ w = wr) (fun i _ => m - (intOf i).toNat)
        case atStart => exact ⟨0, by omega, rfl, rfl, rfl⟩
        case round =>
          obtain ⟨q, hq, rfl, hok, hwq⟩ := hrel
          subst hwq
          have HO := Lib.hid hok
          clear hok
          by_cases hq2 : q < m
          · have hql : q < l.length := by rw [HM.out]; exact hq2
            obtain ⟨ad2, rfl, hb2, hc2⟩ := hR.at_ q _ (VI_get hql)
            have htk := okI_take hql
            have hbad := okI_bad hql
            obtain ⟨x, hx⟩ : ∃ x, l.getD q 0 = x := ⟨_, rfl⟩
            rw [hx] at hc2 htk hbad
            have hv := fun W => hV W x
            obtain ⟨b, hb3⟩ : ∃ b, decide (0 ≤ x ∧ x < 16777216) = b := ⟨_, rfl⟩
            rw [hb3] at hv htk hbad
            have H1 := Lib.hid htk
            have H2 := Lib.hid hbad
            clear htk hbad hx hb3 hV
            rcases b with _ | _
            · obtain rfl : E = 3 := by
                have e : lerr l = 3 := by unfold lerr; rw [if_neg (by rw [HM.out]; omega), H2.out rfl]; rfl
                rw [HT.out, e, if_neg (by decide)]
              go_wp2_with (refine (hv _).mono ?_; rintro e w' ⟨rfl, rfl⟩)
              go_ret
              exact ⟨rfl, rfl⟩
            · go_wp2_with (refine (hv _).mono ?_; rintro e w' ⟨rfl, rfl⟩)
              go_roundw
              case rel => exact ⟨q + 1, by omega, by go_num, by rw [H1.out, HO.out]; rfl, trivial⟩
              case measure => simp [intOf]; omega
          · obtain rfl : q = m := by omega
            have hz : lerr l = 0 := by
              have := HO.out
              rw [List.take_of_length_le (by rw [HM.out]; omega)] at this
              unfold lerr
              rw [if_neg (by rw [HM.out]; omega), if_pos this]
            have hnext : errs ((xs.drop (j + 1)).map (·.l)) = E := by rw [HT.out, if_pos hz]
            have HF := Lib.hid hnext
            clear hz hnext
            go_wp2
            go_roundw
            case rel => exact ⟨j + 1, by omega, by go_num, HF.out, trivial⟩
            case measure => simp [intOf]; omega
    · obtain rfl : j = n := by omega
      obtain rfl : E = 0 := by
        rw [← HC.out, List.drop_of_length_le (by rw [HN.out]; omega)]; rfl
      go_wp2
      go_ret
      exact ⟨rfl, rfl⟩
end Go.Proofs.YtakkbemldccekaaDoor.Sb
