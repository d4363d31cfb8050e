/-
  Package family and its specification: Covers, Meets, Restrict, for any lists and any ints.
-/
import Derived.Test.YtibkpglgeincdaaSg3
import Derived.Test.YtibkpglgeincdaaSfa
namespace Go.Proofs.Ytibkpglgeincdaa.Sb
open Go.RowKit
set_option linter.unusedVariables false
set_option maxRecDepth 100000
theorem meets_take {k : List Nat} {j : Nat} (h : j < k.length) (s : Nat) : meets (k.take (j + 1)) s = (meets (k.take j) s && !(s &&& k.getD j 0 == 0)) := by
  unfold meets
  rw [take_get h, List.all_append]; simp
theorem meets_bad {k : List Nat} {j : Nat} (h : j < k.length) (s : Nat) (hb : s &&& k.getD j 0 = 0) : meets k s = false := by
  rw [Bool.eq_false_iff]
  intro hall
  unfold meets at hall
  rw [List.all_eq_true] at hall
  have := hall _ (getD_mem h)
  rw [hb] at this
  cases this
/-- is an int a set? -/
def vI (s : Int) : Bool := decide (0 ≤ s ∧ s < 16777216)
theorem vI_nat {s : Int} (h : vI s = true) : ∃ x : Nat, s = (x : Int) ∧ x < 16777216 ∧ s.toNat = x := by
  have := of_decide_eq_true h
  exact ⟨s.toNat, by omega, by omega, rfl⟩
def coversR (l : List Int) (s : Int) : Bool × Nat := if lerr l = 0 then (if vI s then (cov (natsOf l) s.toNat, 0) else (false, 3)) else (false, lerr l)
def meetsR (l : List Int) (s : Int) : Bool × Nat := if lerr l = 0 then (if vI s then (meets (natsOf l) s.toNat, 0) else (false, 3)) else (false, lerr l)
def restrR (l : List Int) (f s : Int) : List Nat × Nat :=
  if lerr l = 0 then (if vI f && vI s then (if f.toNat &&& s.toNat = 0 then (minL (left (natsOf l) f.toNat s.toNat), 0) else ([], 2)) else ([], 3)) else ([], lerr l)
set_option maxHeartbeats 2000000 in
theorem Covers_bad1 (w : World) (A : Option Addr) (n c : Nat) (l : List Int) (h : Rd w A n c (VI l)) (s : Int) (hb : lerr l ≠ 0) :
    Calls Try.prog 19 #[.slice A n c, .int .i64 s] w fun e w' => e = .returned (.tuple #[.bool false, errV (lerr l)]) ∧ On w w' := by
  have hA := accept1 w A n c l h
  have P1 := (On.refl w).alloc (.cells #[.slice A n c] 22)
  generalize lerr l = E at *
  rw [errV_pos E hb] at hA ⊢
  clear h
  go_enter Try.func19, Try.ntmps19
  go_wp2_with fail
  refine hA.mono ?_
  rintro e w1 ⟨rfl, rfl⟩
  generalize w.alloc (.cells #[.slice A n c] 22) = w1 at *
  go_wp2
  go_ret2
  exact ⟨rfl, P1⟩
set_option maxHeartbeats 2000000 in
theorem Covers_bad2 (w : World) (A : Option Addr) (n c : Nat) (l : List Int) (h : Rd w A n c (VI l)) (s : Int) (hz : lerr l = 0) (hv : vI s = false) :
    Calls Try.prog 19 #[.slice A n c, .int .i64 s] w fun e w' => e = .returned (.tuple #[.bool false, errV 3]) ∧ On w w' := by
  have hA := accept1 w A n c l h
  rw [hz, errV_zero] at hA
  have P1 := (On.refl w).alloc (.cells #[.slice A n c] 22)
  have hV := fun W => valid_any W s
  unfold vI at hv
  rw [hv] at hV
  rw [errV_pos 3 (by decide)]
  clear h hv
  go_enter Try.func19, Try.ntmps19
  go_wp2_with fail
  refine hA.mono ?_
  rintro e w1 ⟨rfl, rfl⟩
  generalize w.alloc (.cells #[.slice A n c] 22) = w1 at *
  clear hA
  go_wp2_with fail
  refine (hV _).mono ?_
  rintro e w' ⟨rfl, rfl⟩
  go_wp2
  go_ret2
  exact ⟨rfl, P1⟩
set_option maxHeartbeats 2000000 in
theorem rcovers_bad1 (w : World) (A : Option Addr) (n c : Nat) (l : List Int) (h : Rd w A n c (VI l)) (s : Int) (hb : lerr l ≠ 0) :
    Calls Try.prog 22 #[.slice A n c, .int .i64 s] w fun e w' => e = .returned (.tuple #[.bool false, .int .i64 (lerr l : Nat)]) ∧ On w w' := by
  have hA := Error_any w A n c l h
  generalize lerr l = E at *
  have h0 : ¬ (E : Int) = 0 := by omega
  clear h
  go_enter Try.func22, Try.ntmps22
  go_wp2_with fail
  refine hA.mono ?_
  rintro e w' ⟨rfl, rfl⟩
  go_wp2
  go_ret2
  exact ⟨rfl, On.refl _⟩
set_option maxHeartbeats 2000000 in
theorem rcovers_bad2 (w : World) (A : Option Addr) (n c : Nat) (l : List Int) (h : Rd w A n c (VI l)) (s : Int) (hz : lerr l = 0) (hv : vI s = false) :
    Calls Try.prog 22 #[.slice A n c, .int .i64 s] w fun e w' => e = .returned (.tuple #[.bool false, .int .i64 3]) ∧ On w w' := by
  have hA := Error_any w A n c l h
  rw [hz] at hA
  have P1 := On.refl w
  have hV := fun W => rvalid_any W s
  unfold vI at hv
  rw [hv] at hV
  clear h hv
  go_enter Try.func22, Try.ntmps22
  go_wp2_with fail
  refine hA.mono ?_
  rintro e w1 ⟨rfl, rfl⟩
  clear hA
  go_wp2_with fail
  refine (hV _).mono ?_
  rintro e w' ⟨rfl, rfl⟩
  go_wp2
  go_ret2
  exact ⟨rfl, P1⟩
set_option maxHeartbeats 2000000 in
theorem Meets_bad1 (w : World) (A : Option Addr) (n c : Nat) (l : List Int) (h : Rd w A n c (VI l)) (s : Int) (hb : lerr l ≠ 0) :
    Calls Try.prog 20 #[.slice A n c, .int .i64 s] w fun e w' => e = .returned (.tuple #[.bool false, errV (lerr l)]) ∧ On w w' := by
  have hA := accept1 w A n c l h
  have P1 := (On.refl w).alloc (.cells #[.slice A n c] 22)
  generalize lerr l = E at *
  rw [errV_pos E hb] at hA ⊢
  clear h
  go_enter Try.func20, Try.ntmps20
  go_wp2_with fail
  refine hA.mono ?_
  rintro e w1 ⟨rfl, rfl⟩
  generalize w.alloc (.cells #[.slice A n c] 22) = w1 at *
  go_wp2
  go_ret2
  exact ⟨rfl, P1⟩
set_option maxHeartbeats 2000000 in
theorem Meets_bad2 (w : World) (A : Option Addr) (n c : Nat) (l : List Int) (h : Rd w A n c (VI l)) (s : Int) (hz : lerr l = 0) (hv : vI s = false) :
    Calls Try.prog 20 #[.slice A n c, .int .i64 s] w fun e w' => e = .returned (.tuple #[.bool false, errV 3]) ∧ On w w' := by
  have hA := accept1 w A n c l h
  rw [hz, errV_zero] at hA
  have P1 := (On.refl w).alloc (.cells #[.slice A n c] 22)
  have hV := fun W => valid_any W s
  unfold vI at hv
  rw [hv] at hV
  rw [errV_pos 3 (by decide)]
  clear h hv
  go_enter Try.func20, Try.ntmps20
  go_wp2_with fail
  refine hA.mono ?_
  rintro e w1 ⟨rfl, rfl⟩
  generalize w.alloc (.cells #[.slice A n c] 22) = w1 at *
  clear hA
  go_wp2_with fail
  refine (hV _).mono ?_
  rintro e w' ⟨rfl, rfl⟩
  go_wp2
  go_ret2
  exact ⟨rfl, P1⟩
set_option maxHeartbeats 2000000 in
theorem rmeets_bad1 (w : World) (A : Option Addr) (n c : Nat) (l : List Int) (h : Rd w A n c (VI l)) (s : Int) (hb : lerr l ≠ 0) :
    Calls Try.prog 23 #[.slice A n c, .int .i64 s] w fun e w' => e = .returned (.tuple #[.bool false, .int .i64 (lerr l : Nat)]) ∧ On w w' := by
  have hA := Error_any w A n c l h
  generalize lerr l = E at *
  have h0 : ¬ (E : Int) = 0 := by omega
  clear h
  go_enter Try.func23, Try.ntmps23
  go_wp2_with fail
  refine hA.mono ?_
  rintro e w' ⟨rfl, rfl⟩
  go_wp2
  go_ret2
  exact ⟨rfl, On.refl _⟩
set_option maxHeartbeats 2000000 in
theorem rmeets_bad2 (w : World) (A : Option Addr) (n c : Nat) (l : List Int) (h : Rd w A n c (VI l)) (s : Int) (hz : lerr l = 0) (hv : vI s = false) :
    Calls Try.prog 23 #[.slice A n c, .int .i64 s] w fun e w' => e = .returned (.tuple #[.bool false, .int .i64 3]) ∧ On w w' := by
  have hA := Error_any w A n c l h
  rw [hz] at hA
  have P1 := On.refl w
  have hV := fun W => rvalid_any W s
  unfold vI at hv
  rw [hv] at hV
  clear h hv
  go_enter Try.func23, Try.ntmps23
  go_wp2_with fail
  refine hA.mono ?_
  rintro e w1 ⟨rfl, rfl⟩
  clear hA
  go_wp2_with fail
  refine (hV _).mono ?_
  rintro e w' ⟨rfl, rfl⟩
  go_wp2
  go_ret2
  exact ⟨rfl, P1⟩
set_option maxHeartbeats 2000000 in
theorem Restrict_bad1 (w : World) (A : Option Addr) (n c : Nat) (l : List Int) (h : Rd w A n c (VI l)) (f s : Int) (hb : lerr l ≠ 0) :
    Calls Try.prog 21 #[.slice A n c, .int .i64 f, .int .i64 s] w fun e w' => e = .returned (.tuple #[.slice none 0 0, errV (lerr l)]) ∧ On w w' := by
  have hA := accept1 w A n c l h
  have P1 := (On.refl w).alloc (.cells #[.slice A n c] 22)
  generalize lerr l = E at *
  rw [errV_pos E hb] at hA ⊢
  clear h
  go_enter Try.func21, Try.ntmps21
  go_wp2_with fail
  refine hA.mono ?_
  rintro e w1 ⟨rfl, rfl⟩
  generalize w.alloc (.cells #[.slice A n c] 22) = w1 at *
  go_wp2
  go_ret2
  exact ⟨rfl, P1⟩
set_option maxHeartbeats 2000000 in
theorem rrestrict_bad1 (w : World) (A : Option Addr) (n c : Nat) (l : List Int) (h : Rd w A n c (VI l)) (f s : Int) (hb : lerr l ≠ 0) :
    Calls Try.prog 24 #[.slice A n c, .int .i64 f, .int .i64 s] w fun e w' => e = .returned (.tuple #[.slice none 0 0, .int .i64 (lerr l : Nat)]) ∧ On w w' := by
  have hA := Error_any w A n c l h
  generalize lerr l = E at *
  have h0 : ¬ (E : Int) = 0 := by omega
  clear h
  go_enter Try.func24, Try.ntmps24
  go_wp2_with fail
  refine hA.mono ?_
  rintro e w' ⟨rfl, rfl⟩
  go_wp2
  go_ret2
  exact ⟨rfl, On.refl _⟩
set_option maxHeartbeats 2000000 in
theorem Restrict_bad2 (w : World) (A : Option Addr) (n c : Nat) (l : List Int) (h : Rd w A n c (VI l)) (f s : Int) (hz : lerr l = 0) (hv : (vI f && vI s) = false) :
    Calls Try.prog 21 #[.slice A n c, .int .i64 f, .int .i64 s] w fun e w' => e = .returned (.tuple #[.slice none 0 0, errV 3]) ∧ On w w' := by
  have hA := accept1 w A n c l h
  rw [hz, errV_zero] at hA
  have P1 := (On.refl w).alloc (.cells #[.slice A n c] 22)
  have hV := fun W => valid_any W f
  have hV2 := fun W => valid_any W s
  unfold vI at hv
  rw [errV_pos 3 (by decide)]
  generalize decide (0 ≤ f ∧ f < 16777216) = b1 at *
  generalize decide (0 ≤ s ∧ s < 16777216) = b2 at *
  clear h
  rcases b1 with _ | _
  · clear hv hV2
    go_enter Try.func21, Try.ntmps21
    go_wp2_with fail
    refine hA.mono ?_
    rintro e w1 ⟨rfl, rfl⟩
    generalize w.alloc (.cells #[.slice A n c] 22) = w1 at *
    clear hA
    go_wp2_with fail
    refine (hV _).mono ?_
    rintro e w' ⟨rfl, rfl⟩
    go_wp2
    go_ret2
    exact ⟨rfl, P1⟩
  · obtain rfl : b2 = false := by simpa using hv
    clear hv
    go_enter Try.func21, Try.ntmps21
    go_wp2_with fail
    refine hA.mono ?_
    rintro e w1 ⟨rfl, rfl⟩
    generalize w.alloc (.cells #[.slice A n c] 22) = w1 at *
    clear hA
    go_wp2_with fail
    refine (hV _).mono ?_
    rintro e w' ⟨rfl, rfl⟩
    go_wp2_with fail
    refine (hV2 _).mono ?_
    rintro e w' ⟨rfl, rfl⟩
    go_wp2
    go_ret2
    exact ⟨rfl, P1⟩
set_option maxHeartbeats 2000000 in
theorem rrestrict_bad2 (w : World) (A : Option Addr) (n c : Nat) (l : List Int) (h : Rd w A n c (VI l)) (f s : Int) (hz : lerr l = 0) (hv : (vI f && vI s) = false) :
    Calls Try.prog 24 #[.slice A n c, .int .i64 f, .int .i64 s] w fun e w' => e = .returned (.tuple #[.slice none 0 0, .int .i64 3]) ∧ On w w' := by
  have hA := Error_any w A n c l h
  rw [hz] at hA
  have P1 := On.refl w
  have hV := fun W => rvalid_any W f
  have hV2 := fun W => rvalid_any W s
  unfold vI at hv
  generalize decide (0 ≤ f ∧ f < 16777216) = b1 at *
  generalize decide (0 ≤ s ∧ s < 16777216) = b2 at *
  clear h
  rcases b1 with _ | _
  · clear hv hV2
    go_enter Try.func24, Try.ntmps24
    go_wp2_with fail
    refine hA.mono ?_
    rintro e w1 ⟨rfl, rfl⟩
    clear hA
    go_wp2_with fail
    refine (hV _).mono ?_
    rintro e w' ⟨rfl, rfl⟩
    go_wp2
    go_ret2
    exact ⟨rfl, P1⟩
  · obtain rfl : b2 = false := by simpa using hv
    clear hv
    go_enter Try.func24, Try.ntmps24
    go_wp2_with fail
    refine hA.mono ?_
    rintro e w1 ⟨rfl, rfl⟩
    clear hA
    go_wp2_with fail
    refine (hV _).mono ?_
    rintro e w' ⟨rfl, rfl⟩
    go_wp2_with fail
    refine (hV2 _).mono ?_
    rintro e w' ⟨rfl, rfl⟩
    go_wp2
    go_ret2
    exact ⟨rfl, P1⟩
set_option maxHeartbeats 2000000 in
theorem Restrict_bad3 (w : World) (A : Option Addr) (n c : Nat) (l : List Int) (h : Rd w A n c (VI l)) (f s : Nat) (hz : lerr l = 0) (hf : f < 16777216) (hs : s < 16777216) (hfs : f &&& s ≠ 0) :
    Calls Try.prog 21 #[.slice A n c, .int .i64 (f : Int), .int .i64 (s : Int)] w fun e w' => e = .returned (.tuple #[.slice none 0 0, errV 2]) ∧ On w w' := by
  have hA := accept1 w A n c l h
  rw [hz, errV_zero] at hA
  have P1 := (On.refl w).alloc (.cells #[.slice A n c] 22)
  have hV := fun W => valid_any W (f : Int)
  have hV2 := fun W => valid_any W (s : Int)
  rw [in_range f hf] at hV
  rw [in_range s hs] at hV2
  have hand := and_nat f s hf hs
  generalize f &&& s = d at *
  have hd : ¬ (d : Int) = 0 := by omega
  rw [errV_pos 2 (by decide)]
  clear h
  go_enter Try.func21, Try.ntmps21
  go_wp2_with fail
  refine hA.mono ?_
  rintro e w1 ⟨rfl, rfl⟩
  generalize w.alloc (.cells #[.slice A n c] 22) = w1 at *
  clear hA
  go_wp2_with fail
  refine (hV _).mono ?_
  rintro e w' ⟨rfl, rfl⟩
  go_wp2_with fail
  refine (hV2 _).mono ?_
  rintro e w' ⟨rfl, rfl⟩
  go_wp2
  go_ret2
  exact ⟨rfl, P1⟩
set_option maxHeartbeats 2000000 in
theorem rrestrict_bad3 (w : World) (A : Option Addr) (n c : Nat) (l : List Int) (h : Rd w A n c (VI l)) (f s : Nat) (hz : lerr l = 0) (hf : f < 16777216) (hs : s < 16777216) (hfs : f &&& s ≠ 0) :
    Calls Try.prog 24 #[.slice A n c, .int .i64 (f : Int), .int .i64 (s : Int)] w fun e w' => e = .returned (.tuple #[.slice none 0 0, .int .i64 2]) ∧ On w w' := by
  have hA := Error_any w A n c l h
  rw [hz] at hA
  have P1 := On.refl w
  have hV := fun W => rvalid_any W (f : Int)
  have hV2 := fun W => rvalid_any W (s : Int)
  rw [in_range f hf] at hV
  rw [in_range s hs] at hV2
  have hand := and_nat f s hf hs
  generalize f &&& s = d at *
  have hd : ¬ (d : Int) = 0 := by omega
  clear h
  go_enter Try.func24, Try.ntmps24
  go_wp2_with fail
  refine hA.mono ?_
  rintro e w1 ⟨rfl, rfl⟩
  clear hA
  go_wp2_with fail
  refine (hV _).mono ?_
  rintro e w' ⟨rfl, rfl⟩
  go_wp2_with fail
  refine (hV2 _).mono ?_
  rintro e w' ⟨rfl, rfl⟩
  go_wp2
  go_ret2
  exact ⟨rfl, P1⟩
set_option maxHeartbeats 2000000 in
theorem Meets_ok (w : World) (A : Option Addr) (n c : Nat) (k : List Nat) (h : Rd w A n c (VI (ints k))) (hk : Ok k) (hl : k.length ≤ 1024) (s : Nat) (hs : s < 16777216) :
    Calls Try.prog 20 #[.slice A n c, .int .i64 (s : Int)] w fun e w' => e = .returned (.tuple #[.bool (meets k s), .nilIface]) ∧ On w w' := by
  have hn : k.length = n := by have := h.len; rw [ints_len] at this; exact this
  have hA := accept1 w A n c _ h
  rw [lerr_ok hk hl, errV_zero] at hA
  have P1 := (On.refl w).alloc (.cells #[.slice A n c] 22)
  have h1 := h.on P1
  have hcap := h.cap
  have hmax := h.max
  have hV := fun W => valid_any W (s : Int)
  rw [in_range s hs] at hV
  have HN := Lib.hid hn
  obtain ⟨E, hE⟩ : ∃ E, meets k s = E := ⟨_, rfl⟩
  rw [hE]
  have HE := Lib.hid hE
  clear h hn hE
  go_enter Try.func20, Try.ntmps20
  go_wp2_with fail
  refine hA.mono ?_
  rintro e w1 ⟨rfl, rfl⟩
  generalize w.alloc (.cells #[.slice A n c] 22) = w1 at *
  clear hA
  have H := Lib.hid h1
  clear h1
  go_wp2_with fail
  refine (hV _).mono ?_
  rintro e w' ⟨rfl, rfl⟩
  clear hV
  go_wp2
  go_loopw [21] (fun i wr => ∃ j : Nat, j ≤ n ∧ i = .int .i64 (j : Int) ∧ meets (k.take j) s = true ∧ w1 = wr) (fun i _ => n - (intOf i).toNat)
  case atStart => exact ⟨0, by omega, rfl, rfl, rfl⟩
  case round =>
    obtain ⟨j, hj, rfl, hcv, hwq⟩ := hrel
    subst hwq
    have HC := Lib.hid hcv
    clear hcv
    by_cases hlt : j < n
    · have hjl : j < k.length := by rw [HN.out]; exact hlt
      obtain ⟨ad, e1, hb, hc⟩ := H.out.at_ j _ (ints_get hjl)
      cases e1
      have hst := meets_take hjl s
      have hbad := meets_bad hjl s
      have hxm := getD_mem hjl
      obtain ⟨x, hx⟩ : ∃ x, k.getD j 0 = x := ⟨_, rfl⟩
      rw [hx] at hc hst hxm hbad
      have hand := and_nat s x hs (hk x hxm)
      obtain ⟨d, hd⟩ : ∃ d, s &&& x = d := ⟨_, rfl⟩
      rw [hd] at hand hst hbad
      have HST := Lib.hid hst
      have HBAD := Lib.hid hbad
      clear hx hxm hst hbad hd
      by_cases h0 : d = 0
      · subst h0
        obtain rfl : E = false := by rw [← HE.out]; exact HBAD.out rfl
        go_wp2
        go_ret2
        exact ⟨rfl, P1⟩
      · have hn0 : ¬ (d : Int) = 0 := by omega
        have hs2 : meets (k.take (j + 1)) s = true := by
          rw [HST.out, HC.out, show (d == 0) = false by simpa using h0]; rfl
        have HS2 := Lib.hid hs2
        clear hs2
        go_wp2
        go_roundw
        case rel => exact ⟨j + 1, by omega, by go_num, HS2.out, trivial⟩
        case measure => simp [intOf]; omega
    · obtain rfl : j = n := by omega
      obtain rfl : E = true := by
        have := HC.out
        rw [List.take_of_length_le (by rw [HN.out]; omega)] at this
        rw [← HE.out, this]
      go_wp2
      go_ret2
      exact ⟨rfl, P1⟩
set_option maxHeartbeats 2000000 in
theorem rmeets_ok (w : World) (A : Option Addr) (n c : Nat) (k : List Nat) (h : Rd w A n c (VI (ints k))) (hk : Ok k) (hl : k.length ≤ 1024) (s : Nat) (hs : s < 16777216) :
    Calls Try.prog 23 #[.slice A n c, .int .i64 (s : Int)] w fun e w' => e = .returned (.tuple #[.bool (meets k s), .int .i64 0]) ∧ On w w' := by
  have hn : k.length = n := by have := h.len; rw [ints_len] at this; exact this
  have hA := Error_any w A n c _ h
  rw [lerr_ok hk hl] at hA
  have P1 := On.refl w
  have h1 := h.on P1
  have hcap := h.cap
  have hmax := h.max
  have hV := fun W => rvalid_any W (s : Int)
  rw [in_range s hs] at hV
  have HN := Lib.hid hn
  obtain ⟨E, hE⟩ : ∃ E, meets k s = E := ⟨_, rfl⟩
  rw [hE]
  have HE := Lib.hid hE
  clear h hn hE
  go_enter Try.func23, Try.ntmps23
  go_wp2_with fail
  refine hA.mono ?_
  rintro e w0 ⟨rfl, rfl⟩
  clear hA
  have H := Lib.hid h1
  clear h1
  go_wp2_with fail
  refine (hV _).mono ?_
  rintro e w' ⟨rfl, rfl⟩
  clear hV
  go_wp2
  go_loopw [19] (fun i wr => ∃ j : Nat, j ≤ n ∧ i = .int .i64 (j : Int) ∧ meets (k.take j) s = true ∧ w = wr) (fun i _ => n - (intOf i).toNat)
  case atStart => exact ⟨0, by omega, rfl, rfl, rfl⟩
  case round =>
    obtain ⟨j, hj, rfl, hcv, hwq⟩ := hrel
    subst hwq
    have HC := Lib.hid hcv
    clear hcv
    by_cases hlt : j < n
    · have hjl : j < k.length := by rw [HN.out]; exact hlt
      obtain ⟨ad, e1, hb, hc⟩ := H.out.at_ j _ (ints_get hjl)
      cases e1
      have hst := meets_take hjl s
      have hbad := meets_bad hjl s
      have hxm := getD_mem hjl
      obtain ⟨x, hx⟩ : ∃ x, k.getD j 0 = x := ⟨_, rfl⟩
      rw [hx] at hc hst hxm hbad
      have hand := and_nat x s (hk x hxm) hs
      rw [Nat.and_comm] at hand
      obtain ⟨d, hd⟩ : ∃ d, s &&& x = d := ⟨_, rfl⟩
      rw [hd] at hand hst hbad
      have HST := Lib.hid hst
      have HBAD := Lib.hid hbad
      clear hx hxm hst hbad hd
      by_cases h0 : d = 0
      · subst h0
        obtain rfl : E = false := by rw [← HE.out]; exact HBAD.out rfl
        go_wp2
        go_ret2
        exact ⟨rfl, P1⟩
      · have hn0 : ¬ (d : Int) = 0 := by omega
        have hs2 : meets (k.take (j + 1)) s = true := by
          rw [HST.out, HC.out, show (d == 0) = false by simpa using h0]; rfl
        have HS2 := Lib.hid hs2
        clear hs2
        go_wp2
        go_roundw
        case rel => exact ⟨j + 1, by omega, by go_num, HS2.out, trivial⟩
        case measure => simp [intOf]; omega
    · obtain rfl : j = n := by omega
      obtain rfl : E = true := by
        have := HC.out
        rw [List.take_of_length_le (by rw [HN.out]; omega)] at this
        rw [← HE.out, this]
      go_wp2
      go_ret2
      exact ⟨rfl, P1⟩
set_option maxHeartbeats 2000000 in
theorem rcovers_ok (w : World) (A : Option Addr) (n c : Nat) (k : List Nat) (h : Rd w A n c (VI (ints k))) (hk : Ok k) (hl : k.length ≤ 1024) (s : Nat) (hs : s < 16777216) :
    Calls Try.prog 22 #[.slice A n c, .int .i64 (s : Int)] w fun e w' => e = .returned (.tuple #[.bool (cov k s), .int .i64 0]) ∧ On w w' := by
  have hn : k.length = n := by have := h.len; rw [ints_len] at this; exact this
  have hA := Error_any w A n c _ h
  rw [lerr_ok hk hl] at hA
  have P1 := On.refl w
  have h1 := h.on P1
  have hcap := h.cap
  have hmax := h.max
  have hV := fun W => rvalid_any W (s : Int)
  rw [in_range s hs] at hV
  have HN := Lib.hid hn
  obtain ⟨E, hE⟩ : ∃ E, cov k s = E := ⟨_, rfl⟩
  rw [hE]
  have HE := Lib.hid hE
  clear h hn hE
  go_enter Try.func22, Try.ntmps22
  go_wp2_with fail
  refine hA.mono ?_
  rintro e w0 ⟨rfl, rfl⟩
  clear hA
  have H := Lib.hid h1
  clear h1
  go_wp2_with fail
  refine (hV _).mono ?_
  rintro e w' ⟨rfl, rfl⟩
  clear hV
  go_wp2
  go_loopw [19] (fun i wr => ∃ j : Nat, j ≤ n ∧ i = .int .i64 (j : Int) ∧ cov (k.take j) s = false ∧ w = wr) (fun i _ => n - (intOf i).toNat)
  case atStart => exact ⟨0, by omega, rfl, rfl, rfl⟩
  case round =>
    obtain ⟨j, hj, rfl, hcv, hwq⟩ := hrel
    subst hwq
    have HC := Lib.hid hcv
    clear hcv
    by_cases hlt : j < n
    · have hjl : j < k.length := by rw [HN.out]; exact hlt
      obtain ⟨ad, e1, hb, hc⟩ := H.out.at_ j _ (ints_get hjl)
      cases e1
      have htk := take_get hjl
      have hxm := getD_mem hjl
      obtain ⟨x, hx⟩ : ∃ x, k.getD j 0 = x := ⟨_, rfl⟩
      rw [hx] at hc htk hxm
      have hand := and_nat x s (hk x hxm) hs
      have hst : cov (k.take (j + 1)) s = (x &&& s == x) := by rw [htk, cov_append, HC.out, cov_one]; rfl
      have hall : x &&& s = x → cov k s = true := fun e => (cov_iff k s).2 ⟨x, hxm, e⟩
      obtain ⟨d, hd⟩ : ∃ d, x &&& s = d := ⟨_, rfl⟩
      rw [hd] at hand hst hall
      have HST := Lib.hid hst
      have HALL := Lib.hid hall
      clear hx hxm hst hall hd htk
      by_cases h0 : d = x
      · subst h0
        obtain rfl : E = true := by rw [← HE.out]; exact HALL.out rfl
        go_wp2
        go_ret2
        exact ⟨rfl, P1⟩
      · have hn0 : ¬ (d : Int) = (x : Int) := by omega
        have hs2 : cov (k.take (j + 1)) s = false := by rw [HST.out]; simpa using h0
        have HS2 := Lib.hid hs2
        clear hs2
        go_wp2
        go_roundw
        case rel => exact ⟨j + 1, by omega, by go_num, HS2.out, trivial⟩
        case measure => simp [intOf]; omega
    · obtain rfl : j = n := by omega
      obtain rfl : E = false := by
        have := HC.out
        rw [List.take_of_length_le (by rw [HN.out]; omega)] at this
        rw [← HE.out, this]
      go_wp2
      go_ret2
      exact ⟨rfl, P1⟩
set_option maxHeartbeats 4000000 in
theorem rrestrict_ok (w : World) (A : Option Addr) (n c : Nat) (k : List Nat) (h : Rd w A n c (VI (ints k))) (hk : Ok k) (hl : k.length ≤ 1024) (f s : Nat) (hf : f < 16777216) (hs : s < 16777216) (hfs : f &&& s = 0) :
    Calls Try.prog 24 #[.slice A n c, .int .i64 (f : Int), .int .i64 (s : Int)] w fun e w' => ∃ A n c, e = .returned (.tuple #[.slice A n c, .int .i64 0]) ∧ Rd w' A n c (VI (ints (minL (left k f s)))) ∧ On w w' := by
  have hn : k.length = n := by have := h.len; rw [ints_len] at this; exact this
  have hA := Error_any w A n c _ h
  rw [lerr_ok hk hl] at hA
  have P1 := On.refl w
  have h1 := h.on P1
  have hcap := h.cap
  have hmax := h.max
  have hV := fun W => rvalid_any W (f : Int)
  have hV2 := fun W => rvalid_any W (s : Int)
  rw [in_range f hf] at hV
  rw [in_range s hs] at hV2
  have hand := and_nat f s hf hs
  rw [hfs] at hand
  have HN := Lib.hid hn
  clear h hn
  go_enter Try.func24, Try.ntmps24
  go_wp2_with fail
  refine hA.mono ?_
  rintro e w ⟨rfl, rfl⟩
  clear hA
  have H := Lib.hid h1
  clear h1
  go_wp2_with (first | (with_reducible refine (hV _).mono ?_; rintro e w' ⟨rfl, rfl⟩) | (with_reducible refine (hV2 _).mono ?_; rintro e w' ⟨rfl, rfl⟩))
  clear hV hV2 hand
  go_loopw [9, 31] (fun v i wr => ∃ j : Nat, j ≤ n ∧ i = .int .i64 (j : Int) ∧ wr.ownsRow w.heap.size 3 1 v (left (k.take j) f s).length (VI (ints (left (k.take j) f s))) ∧ On w wr) (fun _ i _ => n - (intOf i).toNat)
  case atStart => exact ⟨0, by omega, rfl, row_nil _ _ _, On.refl _⟩
  case round =>
    obtain ⟨j, hj, rfl, hrow, hon⟩ := hrel
    obtain ⟨A4, c4, rfl⟩ := row_form hrow
    have HROW := Lib.hid hrow
    clear hrow
    by_cases hlt : j < n
    · have hjl : j < k.length := by rw [HN.out]; exact hlt
      obtain ⟨ad, e1, hb, hc⟩ := (H.out.on hon).at_ j _ (ints_get hjl)
      cases e1
      have hst := left_take hjl f s
      have hxm := getD_mem hjl
      have hll := left_len (k.take j) f s
      have htl : (k.take j).length ≤ 1024 := by rw [List.length_take]; omega
      have hb9 : (left (k.take j) f s).length + 1 ≤ 1000000000 := by omega
      obtain ⟨x, hx⟩ : ∃ x, k.getD j 0 = x := ⟨_, rfl⟩
      rw [hx] at hc hst hxm
      have hx24 := hk x hxm
      have ha1 := and_nat x s hx24 hs
      have ha2 := andNot_nat x f (by omega) (by omega)
      have hsz := hon.size
      obtain ⟨a, ha⟩ : ∃ a, x &&& s = a := ⟨_, rfl⟩
      obtain ⟨z, hz⟩ : ∃ z, without x f = z := ⟨_, rfl⟩
      rw [ha] at ha1 hst
      rw [hz] at ha2 hst
      have HST := Lib.hid hst
      have HB := Lib.hid hb9
      have HA2 := Lib.hid ha2
      clear hx hxm hst hll htl hb9 hx24 ha hz ha2
      by_cases h0 : a = 0
      · subst h0
        go_wp2_with (at_builtin; refine wpList_app rfl (.tmp 39) (.tmp 43) 22 rfl w.heap.size 3 (.int .i64 0) 8 Try.underlying22 infoi rfl (by decide) (.slice A4 (left (k.take j) f s).length c4) _ (VI (ints (left (k.take j) f s))) rfl (row_alloc HROW.out _) (some ⟨wr.heap.size, 0, none⟩) 1 1 [.int .i64 (z : Int)] (by first | rfl | (rw [← HA2.out]; rfl)) (by first | exact rd_one _ _ _ | (rw [← HA2.out]; exact rd_one _ _ _)) (by simp [Value.oneCell']) HB.out (by simp; omega) ?_; intro v' w5 hown5 hgrow5 _)
        have hs2 : left (k.take (j + 1)) f s = left (k.take j) f s ++ [z] := by simpa using HST.out
        refine ⟨⟨j + 1, by omega, by go_num, ?_, ?_⟩, by simp [intOf]; omega⟩
        · rw [hs2, List.length_append, List.length_singleton, VI_snoc]; exact hown5
        · exact on_row (hon.alloc _) (row_alloc HROW.out _) (Nat.le_refl _) hgrow5
      · have hn0 : ¬ (a : Int) = 0 := by omega
        have hs2 : left (k.take (j + 1)) f s = left (k.take j) f s := by
          have e9 := HST.out
          rw [if_neg (by simpa using h0)] at e9
          exact e9
        have HS2 := Lib.hid hs2
        clear hs2
        go_wp2
        go_roundw
        case rel =>
          refine ⟨j + 1, by omega, by go_num, ?_, hon⟩
          rw [HS2.out]; exact HROW.out
        case measure => simp [intOf]; omega
    · obtain rfl : j = n := by omega
      have e0 : k.take j = k := List.take_of_length_le (by rw [HN.out]; omega)
      have hrd := rd_of_row HROW.out
      rw [e0] at hrd ⊢
      have hll := Nat.le_trans (left_len k f s) hl
      have hM := rleast_any wr A4 _ c4 _ hrd (left_ok hk f s) (by omega)
      clear e0 hrd hll
      go_wp2_with fail
      refine hM.mono ?_
      rintro e w2 ⟨A2, n2, c2, rfl, R2, P2⟩
      clear hM
      go_wp2
      go_ret2
      exact ⟨_, _, _, rfl, R2, (P1.trans hon).trans P2⟩
theorem Covers_all (w : World) (A : Option Addr) (n c : Nat) (l : List Int) (h : Rd w A n c (VI l)) (s : Int) :
    Calls Try.prog 19 #[.slice A n c, .int .i64 s] w fun e w' => e = .returned (.tuple #[.bool (coversR l s).1, errV (coversR l s).2]) ∧ On w w' := by
  unfold coversR
  by_cases hz : lerr l = 0
  · rw [if_pos hz]
    by_cases hv : vI s = true
    · rw [if_pos hv]
      obtain ⟨x, e, hx, ex⟩ := vI_nat hv
      rw [ex]
      subst e
      obtain ⟨e1, o1, l1⟩ := lerr_nats l hz
      rw [e1] at h
      exact Covers_ok w A n c _ h o1 l1 x hx
    · rw [if_neg hv]
      exact Covers_bad2 w A n c l h s hz (by simpa using hv)
  · rw [if_neg hz]
    exact Covers_bad1 w A n c l h s hz
theorem rcovers_all (w : World) (A : Option Addr) (n c : Nat) (l : List Int) (h : Rd w A n c (VI l)) (s : Int) :
    Calls Try.prog 22 #[.slice A n c, .int .i64 s] w fun e w' => e = .returned (.tuple #[.bool (coversR l s).1, .int .i64 ((coversR l s).2 : Nat)]) ∧ On w w' := by
  unfold coversR
  by_cases hz : lerr l = 0
  · rw [if_pos hz]
    by_cases hv : vI s = true
    · rw [if_pos hv]
      obtain ⟨x, e, hx, ex⟩ := vI_nat hv
      rw [ex]
      subst e
      obtain ⟨e1, o1, l1⟩ := lerr_nats l hz
      rw [e1] at h
      exact rcovers_ok w A n c _ h o1 l1 x hx
    · rw [if_neg hv]
      exact rcovers_bad2 w A n c l h s hz (by simpa using hv)
  · rw [if_neg hz]
    exact rcovers_bad1 w A n c l h s hz
theorem Meets_all (w : World) (A : Option Addr) (n c : Nat) (l : List Int) (h : Rd w A n c (VI l)) (s : Int) :
    Calls Try.prog 20 #[.slice A n c, .int .i64 s] w fun e w' => e = .returned (.tuple #[.bool (meetsR l s).1, errV (meetsR l s).2]) ∧ On w w' := by
  unfold meetsR
  by_cases hz : lerr l = 0
  · rw [if_pos hz]
    by_cases hv : vI s = true
    · rw [if_pos hv]
      obtain ⟨x, e, hx, ex⟩ := vI_nat hv
      rw [ex]
      subst e
      obtain ⟨e1, o1, l1⟩ := lerr_nats l hz
      rw [e1] at h
      exact Meets_ok w A n c _ h o1 l1 x hx
    · rw [if_neg hv]
      exact Meets_bad2 w A n c l h s hz (by simpa using hv)
  · rw [if_neg hz]
    exact Meets_bad1 w A n c l h s hz
theorem rmeets_all (w : World) (A : Option Addr) (n c : Nat) (l : List Int) (h : Rd w A n c (VI l)) (s : Int) :
    Calls Try.prog 23 #[.slice A n c, .int .i64 s] w fun e w' => e = .returned (.tuple #[.bool (meetsR l s).1, .int .i64 ((meetsR l s).2 : Nat)]) ∧ On w w' := by
  unfold meetsR
  by_cases hz : lerr l = 0
  · rw [if_pos hz]
    by_cases hv : vI s = true
    · rw [if_pos hv]
      obtain ⟨x, e, hx, ex⟩ := vI_nat hv
      rw [ex]
      subst e
      obtain ⟨e1, o1, l1⟩ := lerr_nats l hz
      rw [e1] at h
      exact rmeets_ok w A n c _ h o1 l1 x hx
    · rw [if_neg hv]
      exact rmeets_bad2 w A n c l h s hz (by simpa using hv)
  · rw [if_neg hz]
    exact rmeets_bad1 w A n c l h s hz
theorem Restrict_all (w : World) (A : Option Addr) (n c : Nat) (l : List Int) (h : Rd w A n c (VI l)) (f s : Int) :
    Calls Try.prog 21 #[.slice A n c, .int .i64 f, .int .i64 s] w (GivesI w (ints (restrR l f s).1) (restrR l f s).2) := by
  unfold restrR
  by_cases hz : lerr l = 0
  · rw [if_pos hz]
    by_cases hv : (vI f && vI s) = true
    · rw [if_pos hv]
      rw [Bool.and_eq_true] at hv
      obtain ⟨x, e, hx, ex⟩ := vI_nat hv.1
      obtain ⟨y, e2, hy, ey⟩ := vI_nat hv.2
      rw [ex, ey]
      subst e
      subst e2
      by_cases hm : x &&& y = 0
      · rw [if_pos hm]
        obtain ⟨e1, o1, l1⟩ := lerr_nats l hz
        rw [e1] at h
        refine (Restrict_ok w A n c _ h o1 l1 x y hx hy hm).mono ?_
        rintro e w' ⟨A', n', c', rfl, R', P'⟩
        exact ⟨A', n', c', rfl, R', P'⟩
      · rw [if_neg hm]
        refine (Restrict_bad3 w A n c l h x y hz hx hy hm).mono ?_
        rintro e w' ⟨rfl, P'⟩
        exact ⟨none, 0, 0, rfl, Rd.nil_ _, P'⟩
    · rw [if_neg hv]
      refine (Restrict_bad2 w A n c l h f s hz (by simpa using hv)).mono ?_
      rintro e w' ⟨rfl, P'⟩
      exact ⟨none, 0, 0, rfl, Rd.nil_ _, P'⟩
  · rw [if_neg hz]
    refine (Restrict_bad1 w A n c l h f s hz).mono ?_
    rintro e w' ⟨rfl, P'⟩
    exact ⟨none, 0, 0, rfl, Rd.nil_ _, P'⟩
theorem rrestrict_all (w : World) (A : Option Addr) (n c : Nat) (l : List Int) (h : Rd w A n c (VI l)) (f s : Int) :
    Calls Try.prog 24 #[.slice A n c, .int .i64 f, .int .i64 s] w (GivesK w (restrR l f s).1 (restrR l f s).2) := by
  unfold restrR
  by_cases hz : lerr l = 0
  · rw [if_pos hz]
    by_cases hv : (vI f && vI s) = true
    · rw [if_pos hv]
      rw [Bool.and_eq_true] at hv
      obtain ⟨x, e, hx, ex⟩ := vI_nat hv.1
      obtain ⟨y, e2, hy, ey⟩ := vI_nat hv.2
      rw [ex, ey]
      subst e
      subst e2
      by_cases hm : x &&& y = 0
      · rw [if_pos hm]
        obtain ⟨e1, o1, l1⟩ := lerr_nats l hz
        rw [e1] at h
        refine (rrestrict_ok w A n c _ h o1 l1 x y hx hy hm).mono ?_
        rintro e w' ⟨A', n', c', rfl, R', P'⟩
        exact ⟨A', n', c', rfl, R', P'⟩
      · rw [if_neg hm]
        refine (rrestrict_bad3 w A n c l h x y hz hx hy hm).mono ?_
        rintro e w' ⟨rfl, P'⟩
        exact ⟨none, 0, 0, rfl, Rd.nil_ _, P'⟩
    · rw [if_neg hv]
      refine (rrestrict_bad2 w A n c l h f s hz (by simpa using hv)).mono ?_
      rintro e w' ⟨rfl, P'⟩
      exact ⟨none, 0, 0, rfl, Rd.nil_ _, P'⟩
  · rw [if_neg hz]
    refine (rrestrict_bad1 w A n c l h f s hz).mono ?_
    rintro e w' ⟨rfl, P'⟩
    exact ⟨none, 0, 0, rfl, Rd.nil_ _, P'⟩
end Go.Proofs.Ytibkpglgeincdaa.Sb
