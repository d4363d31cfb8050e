/-
  The statement FamilyCovers, walked: a set contains a set of a list exactly if it contains a minimal one; covering: or, and.
-/
import Derived.Test.YtibkpglgeincdaaSf9
import Derived.Test.YtibkpglgeincdaaSfa
namespace Go.Proofs.Ytibkpglgeincdaa.Sb
open Go.RowKit
set_option linter.unusedVariables false
set_option maxRecDepth 100000
theorem lvalid1 (w : World) (A : Option Addr) (n c : Nat) (l : List Int) (h : Rd w A n c (VI l)) :
    Calls Try.prog 25 #[.slice (some ⟨w.heap.size, 0, none⟩) 1 1] (w.alloc (.cells #[.slice A n c] 22)) fun e w' => e = .returned (.bool (okS l)) ∧ w.alloc (.cells #[.slice A n c] 22) = w' := by
  have R := rd_lit w 22 #[.slice A n c] (VSl [⟨A, n, c, l⟩]) 1 rfl rfl (by omega)
  have := lvalid_any _ _ _ _ [⟨A, n, c, l⟩] R (fun t ht => by
    obtain rfl : t = ⟨A, n, c, l⟩ := by simpa using ht
    exact h.alloc _)
  have e : okSs [⟨A, n, c, l⟩] = okS l := by simp [okSs]
  rw [e] at this
  exact this
theorem lvalid2 (w : World) (A : Option Addr) (n c : Nat) (l : List Int) (h : Rd w A n c (VI l)) (B : Option Addr) (m d : Nat) (k : List Int) (h2 : Rd w B m d (VI k)) :
    Calls Try.prog 25 #[.slice (some ⟨w.heap.size, 0, none⟩) 2 2] (w.alloc (.cells #[.slice A n c, .slice B m d] 22)) fun e w' => e = .returned (.bool (okS l && okS k)) ∧ w.alloc (.cells #[.slice A n c, .slice B m d] 22) = w' := by
  have R := rd_lit w 22 #[.slice A n c, .slice B m d] (VSl [⟨A, n, c, l⟩, ⟨B, m, d, k⟩]) 2 rfl rfl (by omega)
  have := lvalid_any _ _ _ _ [⟨A, n, c, l⟩, ⟨B, m, d, k⟩] R (fun t ht => by
    rcases List.mem_cons.1 ht with rfl | ht
    · exact h.alloc _
    · obtain rfl : t = ⟨B, m, d, k⟩ := by simpa using ht
      exact h2.alloc _)
  have e : okSs [⟨A, n, c, l⟩, ⟨B, m, d, k⟩] = (okS l && okS k) := by simp [okSs]
  rw [e] at this
  exact this
theorem lvalid3 (w : World) (A : Option Addr) (n c : Nat) (l : List Int) (h : Rd w A n c (VI l)) (B : Option Addr) (m d : Nat) (k : List Int) (h2 : Rd w B m d (VI k)) (C : Option Addr) (p q : Nat) (r : List Int) (h3 : Rd w C p q (VI r)) :
    Calls Try.prog 25 #[.slice (some ⟨w.heap.size, 0, none⟩) 3 3] (w.alloc (.cells #[.slice A n c, .slice B m d, .slice C p q] 22)) fun e w' => e = .returned (.bool (okS l && (okS k && okS r))) ∧ w.alloc (.cells #[.slice A n c, .slice B m d, .slice C p q] 22) = w' := by
  have R := rd_lit w 22 #[.slice A n c, .slice B m d, .slice C p q] (VSl [⟨A, n, c, l⟩, ⟨B, m, d, k⟩, ⟨C, p, q, r⟩]) 3 rfl rfl (by omega)
  have := lvalid_any _ _ _ _ [⟨A, n, c, l⟩, ⟨B, m, d, k⟩, ⟨C, p, q, r⟩] R (fun t ht => by
    rcases List.mem_cons.1 ht with rfl | ht
    · exact h.alloc _
    · rcases List.mem_cons.1 ht with rfl | ht
      · exact h2.alloc _
      · obtain rfl : t = ⟨C, p, q, r⟩ := by simpa using ht
        exact h3.alloc _)
  have e : okSs [⟨A, n, c, l⟩, ⟨B, m, d, k⟩, ⟨C, p, q, r⟩] = (okS l && (okS k && okS r)) := by simp [okSs]
  rw [e] at this
  exact this
theorem prod_len (a b : List Nat) (N M : Nat) (ha : a.length ≤ N) (hb : b.length ≤ M) : (minL (uni a b)).length ≤ N * M :=
  Nat.le_trans (minL_len _) (by rw [uni_len]; exact Nat.mul_le_mul ha hb)
theorem plus_len (a b : List Nat) (N M : Nat) (ha : a.length ≤ N) (hb : b.length ≤ M) : (minL (a ++ b)).length ≤ N + M :=
  Nat.le_trans (minL_len _) (by rw [List.length_append]; omega)
set_option maxHeartbeats 4000000 in
theorem covers_law (w : World) (A : Option Addr) (n c : Nat) (l : List Int) (B : Option Addr) (m d : Nat) (k : List Int) (s : Int) (h : Rd w A n c (VI l)) (h2 : Rd w B m d (VI k)) :
    Calls Try.prog 5 #[.slice A n c, .slice B m d, .int .i64 s] w fun e w' => e = .returned (.bool true) ∧ On w w' := by
  have hV := lvalid2 w A n c l h B m d k h2
  have P1 := (On.refl w).alloc (.cells #[.slice A n c, .slice B m d] 22)
  have hA := fun W => awake_any W
  by_cases hok : (okS l && okS k) = true
  · rw [hok] at hV
    rw [Bool.and_eq_true] at hok
    obtain ⟨a, rfl, ha, hla⟩ := okS_iff l hok.1
    obtain ⟨b, rfl, hb, hlb⟩ := okS_iff k hok.2
    have h' := h.on P1
    have h2' := h2.on P1
    have hX := fun W => cut_any W s
    have hs := cut_lt' s
    generalize cut s = x at *
    clear hok h h2
    go_enter Try.func5, Try.ntmps5
    go_wp2_with fail
    refine hV.mono ?_
    rintro e w1 ⟨rfl, rfl⟩
    generalize w.alloc (.cells #[.slice A n c, .slice B m d] 22) = w1 at *
    clear hV
    go_wp2_with fail
    refine (hA _).mono ?_
    rintro e w2 ⟨rfl, P2⟩
    have Ra := h'.on P2
    have Rb := h2'.on P2
    have P12 := P1.trans P2
    have hM := Minimal_ok w2 A n c a Ra ha (by omega)
    clear hA h' h2' P1 P2
    go_wp2_with fail
    refine (hX _).mono ?_
    rintro e w' ⟨rfl, rfl⟩
    go_wp2_with fail
    refine hM.mono ?_
    rintro e w3 ⟨A3, n3, c3, rfl, Rm, P3⟩
    have Ra3 := Ra.on P3
    have Rb3 := Rb.on P3
    have P13 := P12.trans P3
    have hP := Plus_ok w3 A n c a Ra3 ha (by omega) B m d b Rb3 hb (by omega)
    clear hM hX Ra Rb P12 P3
    go_wp2_with fail
    refine hP.mono ?_
    rintro e w4 hg
    have lp := plus_len a b 30 30 hla hlb
    obtain ⟨A4, n4, c4, rfl, Rp, P4⟩ := hg.ok (by omega)
    have Ra4 := Ra3.on P4
    have Rb4 := Rb3.on P4
    have Rm4 := Rm.on P4
    have P14 := P13.trans P4
    have hQ := Product_ok w4 A n c a Ra4 ha (by omega) B m d b Rb4 hb (by omega)
    clear hP hg Ra3 Rb3 Rm P13 P4
    go_wp2_with fail
    refine hQ.mono ?_
    rintro e w5 hg
    have lq := prod_len a b 30 30 hla hlb
    obtain ⟨A5, n5, c5, rfl, Rq, P5⟩ := hg.ok (by omega)
    have Ra5 := Ra4.on P5
    have Rb5 := Rb4.on P5
    have Rm5 := Rm4.on P5
    have Rp5 := Rp.on P5
    have P15 := P14.trans P5
    have hC1 := Covers_ok w5 A n c a Ra5 ha (by omega) x hs
    clear hQ hg Ra4 Rb4 Rm4 Rp P14 P5
    go_wp2_with fail
    refine hC1.mono ?_
    rintro e w6 ⟨rfl, P6⟩
    have hC2 := Covers_ok w6 B m d b (Rb5.on P6) hb (by omega) x hs
    clear hC1
    go_wp2_with fail
    refine hC2.mono ?_
    rintro e w7 ⟨rfl, P7⟩
    have P67 := P6.trans P7
    have hC3 := Covers_ok w7 A3 n3 c3 _ (Rm5.on P67) (minL_ok ha) (min_len1 (by omega)) x hs
    rw [cov_min ha] at hC3
    clear hC2
    go_wp2_with fail
    refine hC3.mono ?_
    rintro e w8 ⟨rfl, P8⟩
    have P68 := P67.trans P8
    have hC4 := Covers_ok w8 A4 n4 c4 _ (Rp5.on P68) (minL_ok (ha.append hb)) (by omega) x hs
    rw [cov_min (ha.append hb), cov_append] at hC4
    clear hC3
    go_wp2_with fail
    refine hC4.mono ?_
    rintro e w9 ⟨rfl, P9⟩
    have P69 := P68.trans P9
    have hC5 := Covers_ok w9 A5 n5 c5 _ (Rq.on P69) (minL_ok (uni_ok ha hb)) (by omega) x hs
    rw [cov_min (uni_ok ha hb), cov_uni] at hC5
    clear hC4
    go_wp2_with fail
    refine hC5.mono ?_
    rintro e w10 ⟨rfl, P10⟩
    have PF := P15.trans (P69.trans P10)
    clear hC5 Ra5 Rb5 Rm5 Rp5 Rq
    generalize cov a x = u
    generalize cov b x = v
    rcases u with _ | _ <;> rcases v with _ | _ <;>
    · go_wp2
      go_ret
      exact ⟨rfl, PF⟩
  · have hok2 : (okS l && okS k) = false := by simpa using hok
    rw [hok2] at hV
    clear hok hok2
    go_enter Try.func5, Try.ntmps5
    go_wp2_with fail
    refine hV.mono ?_
    rintro e w1 ⟨rfl, rfl⟩
    generalize w.alloc (.cells #[.slice A n c, .slice B m d] 22) = w1 at *
    clear hV
    go_wp2_with fail
    refine (hA _).mono ?_
    rintro e w2 ⟨rfl, P2⟩
    go_wp2
    go_ret
    exact ⟨rfl, P1.trans P2⟩
end Go.Proofs.Ytibkpglgeincdaa.Sb
