/-
  Package family and its specification: Covers, Meets, Restrict, for any lists and any ints.
-/
import Derived.Test.YtakkbemldccekaaDoorSg3
import Derived.Test.YtakkbemldccekaaDoorSfa
namespace Go.Proofs.YtakkbemldccekaaDoor.Sb
open Go.RowKit
set_option linter.unusedVariables false
set_option maxRecDepth 100000
theorem meets_take {k : List Nat} {j : Nat} (h : j < k.length) (s : Nat) : meets (k.take (j + 1)) s = (meets (k.take j) s && !(s &&& k.getD j 0 == 0)) := by
  unfold meets
  rw [take_get h, List.all_append]; simp
theorem meets_bad {k : List Nat} {j : Nat} (h : j < k.length) (s : Nat) (hb : s &&& k.getD j 0 = 0) : meets k s = false := by
  rw [Bool.eq_false_iff]
  intro hall
  unfold meets at hall
  rw [List.all_eq_true] at hall
  have := hall _ (getD_mem h)
  rw [hb] at this
  cases this
/-- is an int a set? -/
def vI (s : Int) : Bool := decide (0 ≤ s ∧ s < 16777216)
theorem vI_nat {s : Int} (h : vI s = true) : ∃ x : Nat, s = (x : Int) ∧ x < 16777216 ∧ s.toNat = x := by
  have := of_decide_eq_true h
  exact ⟨s.toNat, by omega, by omega, rfl⟩
def coversR (l : List Int) (s : Int) : Bool × Nat := if lerr l = 0 then (if vI s then (cov (natsOf l) s.toNat, 0) else (false, 3)) else (false, lerr l)
def meetsR (l : List Int) (s : Int) : Bool × Nat := if lerr l = 0 then (if vI s then (meets (natsOf l) s.toNat, 0) else (false, 3)) else (false, lerr l)
def restrR (l : List Int) (f s : Int) : List Nat × Nat :=
  if lerr l = 0 then (if vI f && vI s then (if f.toNat &&& s.toNat = 0 then (minL (left (natsOf l) f.toNat s.toNat), 0) else ([], 2)) else ([], 3)) else ([], lerr l)
set_option maxHeartbeats 2000000 in
theorem Covers_bad1 (w : World) (A : Option Addr) (n c : Nat) (l : List Int) (h : Rd w A n c (VI l)) (s : Int) (hb : lerr l ≠ 0) :
    Calls Tryd.prog 29 #[.slice A n c, .int .i64 s] w fun e w' => e = .returned (.tuple #[.bool false, errV (lerr l)]) ∧ On w w' := by
  have hA := accept1 w A n c l h
  have P1 := (On.refl w).alloc (.cells #[.slice A n c] 22)
  generalize lerr l = E at *
  rw [errV_pos E hb] at hA ⊢
  clear h
  go_enter Tryd.func29, Tryd.ntmps29
  go_wp2_with fail
  refine hA.mono ?_
  rintro e w1 ⟨rfl, rfl⟩
  generalize w.alloc (.cells #[.slice A n c] 22) = w1 at *
  go_wp2
  go_ret2
  exact ⟨rfl, P1⟩
set_option maxHeartbeats 2000000 in
theorem Covers_bad2 (w : World) (A : Option Addr) (n c : Nat) (l : List Int) (h : Rd w A n c (VI l)) (s : Int) (hz : lerr l = 0) (hv : vI s = false) :
    Calls Tryd.prog 29 #[.slice A n c, .int .i64 s] w fun e w' => e = .returned (.tuple #[.bool false, errV 3]) ∧ On w w' := by
  have hA := accept1 w A n c l h
  rw [hz, errV_zero] at hA
  have P1 := (On.refl w).alloc (.cells #[.slice A n c] 22)
  have hV := fun W => valid_any W s
  unfold vI at hv
  rw [hv] at hV
  rw [errV_pos 3 (by decide)]
  clear h hv
  go_enter Tryd.func29, Tryd.ntmps29
  go_wp2_with fail
  refine hA.mono ?_
  rintro e w1 ⟨rfl, rfl⟩
  generalize w.alloc (.cells #[.slice A n c] 22) = w1 at *
  clear hA
  go_wp2_with fail
  refine (hV _).mono ?_
  rintro e w' ⟨rfl, rfl⟩
  go_wp2
  go_ret2
  exact ⟨rfl, P1⟩
set_option maxHeartbeats 2000000 in
theorem Meets_bad1 (w : World) (A : Option Addr) (n c : Nat) (l : List Int) (h : Rd w A n c (VI l)) (s : Int) (hb : lerr l ≠ 0) :
    Calls Tryd.prog 28 #[.slice A n c, .int .i64 s] w fun e w' => e = .returned (.tuple #[.bool false, errV (lerr l)]) ∧ On w w' := by
  have hA := accept1 w A n c l h
  have P1 := (On.refl w).alloc (.cells #[.slice A n c] 22)
  generalize lerr l = E at *
  rw [errV_pos E hb] at hA ⊢
  clear h
  go_enter Tryd.func28, Tryd.ntmps28
  go_wp2_with fail
  refine hA.mono ?_
  rintro e w1 ⟨rfl, rfl⟩
  generalize w.alloc (.cells #[.slice A n c] 22) = w1 at *
  go_wp2
  go_ret2
  exact ⟨rfl, P1⟩
set_option maxHeartbeats 2000000 in
theorem Meets_bad2 (w : World) (A : Option Addr) (n c : Nat) (l : List Int) (h : Rd w A n c (VI l)) (s : Int) (hz : lerr l = 0) (hv : vI s = false) :
    Calls Tryd.prog 28 #[.slice A n c, .int .i64 s] w fun e w' => e = .returned (.tuple #[.bool false, errV 3]) ∧ On w w' := by
  have hA := accept1 w A n c l h
  rw [hz, errV_zero] at hA
  have P1 := (On.refl w).alloc (.cells #[.slice A n c] 22)
  have hV := fun W => valid_any W s
  unfold vI at hv
  rw [hv] at hV
  rw [errV_pos 3 (by decide)]
  clear h hv
  go_enter Tryd.func28, Tryd.ntmps28
  go_wp2_with fail
  refine hA.mono ?_
  rintro e w1 ⟨rfl, rfl⟩
  generalize w.alloc (.cells #[.slice A n c] 22) = w1 at *
  clear hA
  go_wp2_with fail
  refine (hV _).mono ?_
  rintro e w' ⟨rfl, rfl⟩
  go_wp2
  go_ret2
  exact ⟨rfl, P1⟩
set_option maxHeartbeats 2000000 in
theorem rmeets_bad1 (w : World) (A : Option Addr) (n c : Nat) (l : List Int) (h : Rd w A n c (VI l)) (s : Int) (hb : lerr l ≠ 0) :
    Calls Tryd.prog 51 #[.slice A n c, .int .i64 s] w fun e w' => e = .returned (.tuple #[.bool false, .int .i64 (lerr l : Nat)]) ∧ On w w' := by
  have hA := Error_any w A n c l h
  generalize lerr l = E at *
  have h0 : ¬ (E : Int) = 0 := by omega
  clear h
  go_enter Tryd.func51, Tryd.ntmps51
  go_wp2_with fail
  refine hA.mono ?_
  rintro e w' ⟨rfl, rfl⟩
  go_wp2
  go_ret2
  exact ⟨rfl, On.refl _⟩
set_option maxHeartbeats 2000000 in
theorem rmeets_bad2 (w : World) (A : Option Addr) (n c : Nat) (l : List Int) (h : Rd w A n c (VI l)) (s : Int) (hz : lerr l = 0) (hv : vI s = false) :
    Calls Tryd.prog 51 #[.slice A n c, .int .i64 s] w fun e w' => e = .returned (.tuple #[.bool false, .int .i64 3]) ∧ On w w' := by
  have hA := Error_any w A n c l h
  rw [hz] at hA
  have P1 := On.refl w
  have hV := fun W => rvalid_any W s
  unfold vI at hv
  rw [hv] at hV
  clear h hv
  go_enter Tryd.func51, Tryd.ntmps51
  go_wp2_with fail
  refine hA.mono ?_
  rintro e w1 ⟨rfl, rfl⟩
  clear hA
  go_wp2_with fail
  refine (hV _).mono ?_
  rintro e w' ⟨rfl, rfl⟩
  go_wp2
  go_ret2
  exact ⟨rfl, P1⟩
set_option maxHeartbeats 2000000 in
theorem Meets_ok (w : World) (A : Option Addr) (n c : Nat) (k : List Nat) (h : Rd w A n c (VI (ints k))) (hk : Ok k) (hl : k.length ≤ 1024) (s : Nat) (hs : s < 16777216) :
    Calls Tryd.prog 28 #[.slice A n c, .int .i64 (s : Int)] w fun e w' => e = .returned (.tuple #[.bool (meets k s), .nilIface]) ∧ On w w' := by
  have hn : k.length = n := by have := h.len; rw [ints_len] at this; exact this
  have hA := accept1 w A n c _ h
  rw [lerr_ok hk hl, errV_zero] at hA
  have P1 := (On.refl w).alloc (.cells #[.slice A n c] 22)
  have h1 := h.on P1
  have hcap := h.cap
  have hmax := h.max
  have hV := fun W => valid_any W (s : Int)
  rw [in_range s hs] at hV
  have HN := Lib.hid hn
  obtain ⟨E, hE⟩ : ∃ E, meets k s = E := ⟨_, rfl⟩
  rw [hE]
  have HE := Lib.hid hE
  clear h hn hE
  go_enter Tryd.func28, Tryd.ntmps28
  go_wp2_with fail
  refine hA.mono ?_
  rintro e w1 ⟨rfl, rfl⟩
  generalize w.alloc (.cells #[.slice A n c] 22) = w1 at *
  clear hA
  have H := Lib.hid h1
  clear h1
  go_wp2_with fail
  refine (hV _).mono ?_
  rintro e w' ⟨rfl, rfl⟩
  clear hV
  go_wp2
  go_loopw [21] (fun i wr => ∃ j : Nat, j ≤ n ∧ i = .int .i64 (j : Int) ∧ meets (k.take j) s = true ∧ w1 = wr) (fun i _ => n - (intOf i).toNat)
  case atStart => exact ⟨0, by omega, rfl, rfl, rfl⟩
  case round =>
    obtain ⟨j, hj, rfl, hcv, hwq⟩ := hrel
    subst hwq
    have HC := Lib.hid hcv
    clear hcv
    by_cases hlt : j < n
    · have hjl : j < k.length := by rw [HN.out]; exact hlt
      obtain ⟨ad, e1, hb, hc⟩ := H.out.at_ j _ (ints_get hjl)
      cases e1
      have hst := meets_take hjl s
      have hbad := meets_bad hjl s
      have hxm := getD_mem hjl
      obtain ⟨x, hx⟩ : ∃ x, k.getD j 0 = x := ⟨_, rfl⟩
      rw [hx] at hc hst hxm hbad
      have hand := and_nat s x hs (hk x hxm)
      obtain ⟨d, hd⟩ : ∃ d, s &&& x = d := ⟨_, rfl⟩
      rw [hd] at hand hst hbad
      have HST := Lib.hid hst
      have HBAD := Lib.hid hbad
      clear hx hxm hst hbad hd
      by_cases h0 : d = 0
      · subst h0
        obtain rfl : E = false := by rw [← HE.out]; exact HBAD.out rfl
        go_wp2
        go_ret2
        exact ⟨rfl, P1⟩
      · have hn0 : ¬ (d : Int) = 0 := by omega
        have hs2 : meets (k.take (j + 1)) s = true := by
          rw [HST.out, HC.out, show (d == 0) = false by simpa using h0]; rfl
        have HS2 := Lib.hid hs2
        clear hs2
        go_wp2
        go_roundw
        case rel => exact ⟨j + 1, by omega, by go_num, HS2.out, trivial⟩
        case measure => simp [intOf]; omega
    · obtain rfl : j = n := by omega
      obtain rfl : E = true := by
        have := HC.out
        rw [List.take_of_length_le (by rw [HN.out]; omega)] at this
        rw [← HE.out, this]
      go_wp2
      go_ret2
      exact ⟨rfl, P1⟩
set_option maxHeartbeats 2000000 in
theorem rmeets_ok (w : World) (A : Option Addr) (n c : Nat) (k : List Nat) (h : Rd w A n c (VI (ints k))) (hk : Ok k) (hl : k.length ≤ 1024) (s : Nat) (hs : s < 16777216) :
    Calls Tryd.prog 51 #[.slice A n c, .int .i64 (s : Int)] w fun e w' => e = .returned (.tuple #[.bool (meets k s), .int .i64 0]) ∧ On w w' := by
  have hn : k.length = n := by have := h.len; rw [ints_len] at this; exact this
  have hA := Error_any w A n c _ h
  rw [lerr_ok hk hl] at hA
  have P1 := On.refl w
  have h1 := h.on P1
  have hcap := h.cap
  have hmax := h.max
  have hV := fun W => rvalid_any W (s : Int)
  rw [in_range s hs] at hV
  have HN := Lib.hid hn
  obtain ⟨E, hE⟩ : ∃ E, meets k s = E := ⟨_, rfl⟩
  rw [hE]
  have HE := Lib.hid hE
  clear h hn hE
  go_enter Tryd.func51, Tryd.ntmps51
  go_wp2_with fail
  refine hA.mono ?_
  rintro e w0 ⟨rfl, rfl⟩
  clear hA
  have H := Lib.hid h1
  clear h1
  go_wp2_with fail
  refine (hV _).mono ?_
  rintro e w' ⟨rfl, rfl⟩
  clear hV
  go_wp2
  go_loopw [19] (fun i wr => ∃ j : Nat, j ≤ n ∧ i = .int .i64 (j : Int) ∧ meets (k.take j) s = true ∧ w = wr) (fun i _ => n - (intOf i).toNat)
  case atStart => exact ⟨0, by omega, rfl, rfl, rfl⟩
  case round =>
    obtain ⟨j, hj, rfl, hcv, hwq⟩ := hrel
    subst hwq
    have HC := Lib.hid hcv
    clear hcv
    by_cases hlt : j < n
    · have hjl : j < k.length := by rw [HN.out]; exact hlt
      obtain ⟨ad, e1, hb, hc⟩ := H.out.at_ j _ (ints_get hjl)
      cases e1
      have hst := meets_take hjl s
      have hbad := meets_bad hjl s
      have hxm := getD_mem hjl
      obtain ⟨x, hx⟩ : ∃ x, k.getD j 0 = x := ⟨_, rfl⟩
      rw [hx] at hc hst hxm hbad
      have hand := and_nat x s (hk x hxm) hs
      rw [Nat.and_comm] at hand
      obtain ⟨d, hd⟩ : ∃ d, s &&& x = d := ⟨_, rfl⟩
      rw [hd] at hand hst hbad
      have HST := Lib.hid hst
      have HBAD := Lib.hid hbad
      clear hx hxm hst hbad hd
      by_cases h0 : d = 0
      · subst h0
        obtain rfl : E = false := by rw [← HE.out]; exact HBAD.out rfl
        go_wp2
        go_ret2
        exact ⟨rfl, P1⟩
      · have hn0 : ¬ (d : Int) = 0 := by omega
        have hs2 : meets (k.take (j + 1)) s = true := by
          rw [HST.out, HC.out, show (d == 0) = false by simpa using h0]; rfl
        have HS2 := Lib.hid hs2
        clear hs2
        go_wp2
        go_roundw
        case rel => exact ⟨j + 1, by omega, by go_num, HS2.out, trivial⟩
        case measure => simp [intOf]; omega
    · obtain rfl : j = n := by omega
      obtain rfl : E = true := by
        have := HC.out
        rw [List.take_of_length_le (by rw [HN.out]; omega)] at this
        rw [← HE.out, this]
      go_wp2
      go_ret2
      exact ⟨rfl, P1⟩
theorem Covers_all (w : World) (A : Option Addr) (n c : Nat) (l : List Int) (h : Rd w A n c (VI l)) (s : Int) :
    Calls Tryd.prog 29 #[.slice A n c, .int .i64 s] w fun e w' => e = .returned (.tuple #[.bool (coversR l s).1, errV (coversR l s).2]) ∧ On w w' := by
  unfold coversR
  by_cases hz : lerr l = 0
  · rw [if_pos hz]
    by_cases hv : vI s = true
    · rw [if_pos hv]
      obtain ⟨x, e, hx, ex⟩ := vI_nat hv
      rw [ex]
      subst e
      obtain ⟨e1, o1, l1⟩ := lerr_nats l hz
      rw [e1] at h
      exact Covers_ok w A n c _ h o1 l1 x hx
    · rw [if_neg hv]
      exact Covers_bad2 w A n c l h s hz (by simpa using hv)
  · rw [if_neg hz]
    exact Covers_bad1 w A n c l h s hz
theorem Meets_all (w : World) (A : Option Addr) (n c : Nat) (l : List Int) (h : Rd w A n c (VI l)) (s : Int) :
    Calls Tryd.prog 28 #[.slice A n c, .int .i64 s] w fun e w' => e = .returned (.tuple #[.bool (meetsR l s).1, errV (meetsR l s).2]) ∧ On w w' := by
  unfold meetsR
  by_cases hz : lerr l = 0
  · rw [if_pos hz]
    by_cases hv : vI s = true
    · rw [if_pos hv]
      obtain ⟨x, e, hx, ex⟩ := vI_nat hv
      rw [ex]
      subst e
      obtain ⟨e1, o1, l1⟩ := lerr_nats l hz
      rw [e1] at h
      exact Meets_ok w A n c _ h o1 l1 x hx
    · rw [if_neg hv]
      exact Meets_bad2 w A n c l h s hz (by simpa using hv)
  · rw [if_neg hz]
    exact Meets_bad1 w A n c l h s hz
theorem rmeets_all (w : World) (A : Option Addr) (n c : Nat) (l : List Int) (h : Rd w A n c (VI l)) (s : Int) :
    Calls Tryd.prog 51 #[.slice A n c, .int .i64 s] w fun e w' => e = .returned (.tuple #[.bool (meetsR l s).1, .int .i64 ((meetsR l s).2 : Nat)]) ∧ On w w' := by
  unfold meetsR
  by_cases hz : lerr l = 0
  · rw [if_pos hz]
    by_cases hv : vI s = true
    · rw [if_pos hv]
      obtain ⟨x, e, hx, ex⟩ := vI_nat hv
      rw [ex]
      subst e
      obtain ⟨e1, o1, l1⟩ := lerr_nats l hz
      rw [e1] at h
      exact rmeets_ok w A n c _ h o1 l1 x hx
    · rw [if_neg hv]
      exact rmeets_bad2 w A n c l h s hz (by simpa using hv)
  · rw [if_neg hz]
    exact rmeets_bad1 w A n c l h s hz
end Go.Proofs.YtakkbemldccekaaDoor.Sb
