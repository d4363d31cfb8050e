/-
  The specification's Of and List of sets; what List returns, in one.
-/
import Derived.Test.YteijndnofihgdaaDoorSr2
namespace Go.Proofs.YteijndnofihgdaaDoor.Sb
open Go.RowKit
set_option linter.unusedVariables false
set_option maxRecDepth 100000
set_option maxHeartbeats 1000000 in
theorem rof_any (w : World) (A : Option Addr) (n c : Nat) (l : List Int) (h : Rd w A n c (VI l)) :
    Calls Tryd.prog 30 #[.slice A n c] w fun e w' => e = .returned (.tuple #[.int .i64 ((ofS l).1 : Nat), (.int .i64 ((ofS l).2 : Nat))]) ∧ w = w' := by
  have hn : l.length = n := by have := h.len; rw [VI_length] at this; exact this
  have hcap := h.cap
  have hmax := h.max
  have H0 := fun W s i h => rhas_in W s i h
  have H1 := fun W s i h => rhas_out W s i h
  by_cases hl : 24 < n
  · have e : ofS l = (0, 4) := by unfold ofS; rw [if_pos (by omega)]
    rw [e]
    clear hn e
    go_enter Tryd.func30, Tryd.ntmps30
    go_wp2
    go_ret2
    exact ⟨rfl, rfl⟩
  · have e : ofS l = ofGo 0 l := by unfold ofS; rw [if_neg (by omega)]
    rw [e]
    have HN := Lib.hid hn
    clear hn e
    go_enter Tryd.func30, Tryd.ntmps30
    go_wp2
    go_loop [4, 12] (fun s i => ∃ k sv : Nat, k ≤ n ∧ i = .int .i64 (k : Int) ∧ s = .int .i64 (sv : Int) ∧ sv < 2 ^ 24 ∧ ofGo sv (l.drop k) = ofGo 0 l) (fun _ i => n - (intOf i).toNat)
    case atStart => exact ⟨0, 0, by omega, rfl, rfl, by decide, by rw [List.drop_zero]⟩
    case round =>
      obtain ⟨k, sv, hk, rfl, rfl, hs, hv⟩ := hrel
      by_cases hlt : k < n
      · have hkl : k < l.length := by rw [HN.out]; exact hlt
        obtain ⟨ad, rfl, hb, hc⟩ := h.at_ k _ (VI_get hkl)
        rw [List.drop_eq_getElem_cons hkl] at hv
        have hx : l[k] = l.getD k 0 := by simp [hkl]
        rw [hx] at hv
        clear hx
        generalize l.getD k 0 = x at *
        rw [ofGo] at hv
        by_cases hx : x < 0 ∨ 24 ≤ x
        · rw [if_pos hx] at hv
          have HV := Lib.hid hv
          clear hv H0 H1
          rcases hx with hx | hx
          · go_wp2
            go_ret2
            exact ⟨by rw [← HV.out]; rfl, rfl⟩
          · go_wp2
            go_ret2
            exact ⟨by rw [← HV.out]; rfl, rfl⟩
        · rw [if_neg hx] at hv
          obtain ⟨i, rfl⟩ : ∃ i : Nat, x = (i : Int) := ⟨x.toNat, by omega⟩
          rw [Int.toNat_natCast] at hv
          have hi : i < 24 := by omega
          have hC := fun W => H0 W (sv : Int) i hi
          rw [cut_nat sv (by omega)] at hC
          clear H0 H1 hx
          by_cases hb2 : sv.testBit i = true
          · rw [if_pos hb2] at hv
            have HV := Lib.hid hv
            clear hv
            rw [hb2] at hC
            go_wp2_with (refine (hC _).mono ?_; rintro e w' ⟨rfl, rfl⟩)
            go_ret2
            exact ⟨by rw [← HV.out]; rfl, rfl⟩
          · have hb3 : sv.testBit i = false := by simpa using hb2
            rw [if_neg hb2] at hv
            rw [hb3] at hC
            have HV := Lib.hid hv
            clear hv hb2
            have hp := pow_lt24 i hi
            have hor : wrap64 ((sv : Int) + ((2 ^ i : Nat) : Int)) = ((sv ||| 2 ^ i : Nat) : Int) := by
              rw [or_bit sv i hb3]
              clear HV hC
              generalize 2 ^ i = p at *
              unfold wrap64; omega
            go_wp2_with (refine (hC _).mono ?_; rintro e w' ⟨rfl, rfl⟩)
            go_round
            case rel => exact ⟨k + 1, _, by omega, by go_num, by rw [shlw i hi, hor], or_lt sv i hs hi, HV.out⟩
            case measure => first | (simp [intOf]; done) | (simp [intOf]; omega)
      · obtain rfl : k = n := by omega
        rw [List.drop_of_length_le (by rw [HN.out]; omega)] at hv
        have HV := Lib.hid hv
        clear hv
        go_wp2
        go_ret2
        exact ⟨by rw [← HV.out]; rfl, rfl⟩
/-- what List returns -/
def listS (s : Int) : List Int × Nat := if 0 ≤ s ∧ s < 16777216 then (ints (els (cut s)), 0) else ([], 3)
theorem list_all (w : World) (s : Int) : Calls Tryd.prog 29 #[.int .i64 s] w (GivesI w (listS s).1 (listS s).2) := by
  unfold listS
  by_cases h : 0 ≤ s ∧ s < 16777216
  · rw [if_pos h]
    obtain ⟨n, rfl⟩ : ∃ n : Nat, s = (n : Int) := ⟨s.toNat, by omega⟩
    rw [cut_nat n (by omega)]
    exact list_any w n (by omega)
  · rw [if_neg h]
    refine (list_bad w s h).mono ?_
    rintro e w' ⟨rfl, rfl⟩
    exact ⟨_, _, _, rfl, Rd.nil_ _, On.refl _⟩
/-- a new slice of ints, and a number -/
def GivesJ (w : World) (l : List Int) (c : Nat) (e : Ending) (w' : World) : Prop := ∃ A n k, e = .returned (.tuple #[.slice A n k, .int .i64 (c : Int)]) ∧ Rd w' A n k (VI l) ∧ On w w'
set_option maxHeartbeats 1000000 in
theorem rlist_all (w : World) (s : Int) : Calls Tryd.prog 31 #[.int .i64 s] w (GivesJ w (listS s).1 (listS s).2) := by
  have hV := fun W => rvalid_any W s
  have hE := elements_any w s
  unfold listS
  by_cases h : 0 ≤ s ∧ s < 16777216
  · rw [if_pos h]
    rw [decide_eq_true h] at hV
    clear h
    generalize ints (els (cut s)) = l at *
    go_enter Tryd.func31, Tryd.ntmps31
    go_wp2_with (with_reducible refine (hV _).mono ?_; rintro e w' ⟨rfl, rfl⟩)
    refine hE.mono ?_
    rintro e w1 ⟨A1, n1, c1, rfl, R1, P1⟩
    go_wp2
    go_ret2
    exact ⟨A1, n1, c1, rfl, R1, P1⟩
  · rw [if_neg h]
    rw [decide_eq_false h] at hV
    clear h hE
    go_enter Tryd.func31, Tryd.ntmps31
    go_wp2_with (with_reducible refine (hV _).mono ?_; rintro e w' ⟨rfl, rfl⟩)
    go_ret2
    exact ⟨none, 0, 0, rfl, Rd.nil_ _, On.refl _⟩
end Go.Proofs.YteijndnofihgdaaDoor.Sb
