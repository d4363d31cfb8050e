/-
  The statement SetsReturns, walked: Of and List, Text and Parse are inverse to each other.
-/
import Derived.Test.YteijndnofihgdaaDoorSs9
import Derived.Test.YteijndnofihgdaaDoorSq4
import Derived.Test.YteijndnofihgdaaDoorSr2
namespace Go.Proofs.YteijndnofihgdaaDoor.Sb
open Go.RowKit
set_option linter.unusedVariables false
set_option maxRecDepth 100000
theorem textL_len (s : Nat) : (textL s).length ≤ 200 := by
  unfold textL
  have h1 := join_len (digs s) (digs_le s)
  have h2 : (digs s).length ≤ 24 := by unfold digs; rw [List.length_map]; exact els_le s
  rw [List.length_append, List.length_append]
  simp only [List.length_cons, List.length_nil]
  omega
set_option maxHeartbeats 8000000 in
theorem returns_any (w : World) (s : Int) (A : Option Addr) (n c : Nat) (l : List Int) (_ : -9223372036854775808 ≤ s ∧ s ≤ 9223372036854775807) (R : Rd w A n c (VI l)) (hT : Tab w) (hsh : w.ShapedOpen Tryd.prog) :
    Calls Tryd.prog 10 #[.int .i64 s, .slice A n c] w fun e w' => e = .returned (.bool true) ∧ On w w' := by
  have hcap := R.cap
  have hmax := R.max
  have hM := mx_of_shaped hsh
  clear hsh
  by_cases hn : 30 < n
  · go_enter Tryd.func10, Tryd.ntmps10
    go_wp2_with fail
    refine (awake_any _ hT).mono ?_
    rintro e w1 ⟨rfl, P1⟩
    go_wp2
    go_ret
    exact ⟨rfl, P1⟩
  · have hln : l.length = n := by have := R.len; rw [VI_length] at this; exact this
    have hX := fun W => cut_any W s
    have lx := cut_lt' s
    generalize cut s = x at *
    have hLi := fun W => list_any W x lx
    have hTx := fun W => text_any W x lx
    have hPa := fun W h => parse_any W (textL x) (by have := textL_len x; omega) h
    rw [parse_text x lx] at hPa
    have hC := fun W => count_any W (x : Int)
    have hLs := fun W h => least_any W (x : Int) h
    have hG := fun W => greatest_any W (x : Int)
    have hHa := fun W i hi => has_in W (x : Int) i hi
    rw [cut_nat x lx] at hC hLs hG hHa
    have hof := of_list x lx
    obtain ⟨y, code, V1, hcode⟩ : ∃ y code : Nat, (∀ W, Rd W A n c (VI l) → Calls Tryd.prog 28 #[.slice A n c] W fun e w' => e = .returned (.tuple #[.int .i64 (y : Int), errV code]) ∧ W = w') ∧ ((code ≠ 0 → y = 0) ∧ (code = 0 → (els y).length = l.length) ∧ y < 16777216) := ⟨_, _, fun W h => of_any W A n c l h, ofS_code l⟩
    go_enter Tryd.func10, Tryd.ntmps10
    go_wp2_with fail
    refine (awake_any _ hT).mono ?_
    rintro e w1 ⟨rfl, P1⟩
    have M1 := hM.on P1
    have T1 := hT.on P1
    have R1 := R.on P1
    go_wp2_with fail
    refine (hX _).mono ?_
    rintro e w' ⟨rfl, rfl⟩
    go_wp2_with fail
    refine (hLi _).mono ?_
    rintro e w2 ⟨A2, n2, c2, rfl, Q2, P2⟩
    rw [errV_zero]
    have hO := of_any _ _ _ _ _ Q2
    rw [hof] at hO
    go_wp2_with fail
    refine hO.mono ?_
    rintro e w' ⟨rfl, rfl⟩
    rw [errV_zero]
    clear hO
    go_wp2_with fail
    refine (hTx _).mono ?_
    rintro e w3 ⟨rfl, P3⟩
    rw [errV_zero]
    have M3 := (M1.on P2).on P3
    go_wp2_with fail
    refine (hPa _ M3).mono ?_
    rintro e w4 ⟨rfl, P4⟩
    rw [errV_zero]
    have T3 := ((T1.on P2).on P3).on P4
    have Q4 := (Q2.on P3).on P4
    have R4 := ((R1.on P2).on P3).on P4
    have hn2 : (els x).length = n2 := by have := Q2.len; rw [VI_length, ints_length] at this; exact this
    have hpc : ((pc x : Nat) : Int) = (n2 : Int) := by rw [← hn2]; rfl
    have hcap2 := Q2.cap
    have hmax2 := Q2.max
    rw [hpc] at hC
    clear hpc hX hLi hTx hPa hof hM R Q2 R1 hT
    go_wp2_with fail
    refine (hC _).mono ?_
    rintro e w' ⟨rfl, rfl⟩
    go_wp2
    have HN := Lib.hid hn2
    have HL := Lib.hid hln
    have HCO := Lib.hid hcode
    clear hn2 hln hcode hC
    go_loopw [82] (fun i wr => ∃ k : Nat, k ≤ n2 ∧ i = .int .i64 (k : Int) ∧ w4 = wr) (fun i _ => n2 - (intOf i).toNat)
    case atStart => exact ⟨0, by omega, rfl, rfl⟩
    case round =>
      obtain ⟨k, hk, rfl, rfl⟩ := hrel
      by_cases hlt : k < n2
      · have hkl : k < (els x).length := by rw [HN.out]; exact hlt
        have hc1 : (VI (ints (els x)))[k]? = some (.int .i64 (((els x)[k] : Nat) : Int)) := by simp [VI, ints, hkl]
        obtain ⟨ad, rfl, hb, hc⟩ := Q4.at_ k _ hc1
        obtain ⟨z, hz⟩ : ∃ z, (els x)[k] = z := ⟨_, rfl⟩
        have hzm := (mem_els x z).1 (by rw [← hz]; exact List.getElem_mem hkl)
        have HZ := Lib.hid hz
        rw [hz] at hc
        have hH := fun W => hHa W z hzm.1
        rw [hzm.2] at hH
        have hlast : (k : Int) = (n2 : Int) - 1 → greatest x = (z : Int) := by
          intro e
          have e3 : els x = (els x).take k ++ [z] := by
            have e4 : (els x).take (k + 1) = els x := List.take_of_length_le (by rw [HN.out]; omega)
            rw [List.take_add_one, List.getElem?_eq_getElem hkl, hz] at e4
            exact e4.symm
          show lastI (els x) = _
          rw [e3]; exact lastI_snoc _ _
        have hfirst : k = 0 → least x = (z : Int) := by
          intro e
          subst e
          unfold least
          cases he : els x with
          | nil => rw [he] at hkl; simp at hkl
          | cons i r =>
            have : (els x)[0] = i := by simp [he]
            rw [← hz, this]
        have HLA := Lib.hid hlast
        have HFI := Lib.hid hfirst
        clear hc1 hz hzm hHa hlast hfirst
        by_cases hk0 : k = 0
        · subst hk0
          rw [add_nil] at hc
          have hLs2 := HFI.out rfl
          rw [hLs2] at hLs
          clear hLs2
          by_cases hla : ((0 : Nat) : Int) = (n2 : Int) - 1
          · have hG2 := HLA.out hla
            rw [hG2] at hG
            have hla' : (n2 : Int) - 1 = 0 := by omega
            clear hG2 hla
            go_wp2_with fail
            refine (hH _).mono ?_
            rintro e w' ⟨rfl, rfl⟩
            go_wp2_with fail
            refine (hLs _ T3).mono ?_
            rintro e w' ⟨rfl, rfl⟩
            go_wp2_with fail
            refine (hG _).mono ?_
            rintro e w' ⟨rfl, rfl⟩
            go_wp2
            go_roundw
            case rel => exact ⟨1, by omega, rfl, trivial⟩
            case measure => simp [intOf]; omega
          · have hla' : ¬ (0 : Int) = (n2 : Int) - 1 := by omega
            clear hla
            go_wp2_with fail
            refine (hH _).mono ?_
            rintro e w' ⟨rfl, rfl⟩
            go_wp2_with fail
            refine (hLs _ T3).mono ?_
            rintro e w' ⟨rfl, rfl⟩
            go_wp2
            go_roundw
            case rel => exact ⟨1, by omega, rfl, trivial⟩
            case measure => simp [intOf]; omega
        · obtain ⟨j, hj⟩ : ∃ j, j + 1 = k := ⟨k - 1, by omega⟩
          have hjl : j < (els x).length := by rw [HN.out]; omega
          have hc2 : (VI (ints (els x)))[j]? = some (.int .i64 (((els x)[j] : Nat) : Int)) := by simp [VI, ints, hjl]
          obtain ⟨ad2, e2, _, hcj⟩ := Q4.at_ j _ hc2
          cases e2
          obtain ⟨v, hv⟩ : ∃ v, (els x)[j] = v := ⟨_, rfl⟩
          have hlt2 : ¬ (z : Int) ≤ (v : Int) := by
            have : (els x)[j] < (els x)[k] := List.pairwise_iff_getElem.1 (els_sorted x) j k hjl hkl (by omega)
            rw [hv, HZ.out] at this
            omega
          rw [hv] at hcj
          have ej : (k : Int) - 1 = (j : Int) := by omega
          have hkp : (0 : Int) < (k : Int) := by omega
          have hkz : ¬ (k : Int) = 0 := by omega
          have hj1 : j < n2 := by omega
          clear hc2 hv hj hk0 hjl hLs
          by_cases hla : (k : Int) = (n2 : Int) - 1
          · have hG2 := HLA.out hla
            rw [hG2] at hG
            have hla' : (n2 : Int) - 1 = (k : Int) := by omega
            have ej' : (k : Int) - 1 = (j : Int) := ej
            clear hG2 hla
            go_wp2_with fail
            refine (hH _).mono ?_
            rintro e w' ⟨rfl, rfl⟩
            go_wp2_with fail
            refine (hG _).mono ?_
            rintro e w' ⟨rfl, rfl⟩
            go_wp2
            go_roundw
            case rel => exact ⟨k + 1, by omega, by go_num, trivial⟩
            case measure => simp [intOf]; omega
          · have hla' : ¬ (k : Int) = (n2 : Int) - 1 := hla
            go_wp2_with fail
            refine (hH _).mono ?_
            rintro e w' ⟨rfl, rfl⟩
            go_wp2
            go_roundw
            case rel => exact ⟨k + 1, by omega, by go_num, trivial⟩
            case measure => simp [intOf]; omega
      · obtain rfl : k = n2 := by omega
        clear hHa hLs hG
        by_cases hc0 : code = 0
        · subst hc0
          rw [errV_zero] at V1
          have hlen := HCO.out.2.1 rfl
          have hy := HCO.out.2.2
          rw [HL.out] at hlen
          have hL2 := fun W => list_any W y hy
          go_wp2_with fail
          refine (V1 _ R4).mono ?_
          rintro e w' ⟨rfl, rfl⟩
          go_wp2_with fail
          refine (hL2 _).mono ?_
          rintro e w5 ⟨A5, n5, c5, rfl, Q5, P5⟩
          rw [errV_zero]
          have hn5 : n5 = n := by have := Q5.len; rw [VI_length, ints_length, hlen] at this; exact this.symm
          subst hn5
          have hcap5 := Q5.cap
          have hmax5 := Q5.max
          go_wp2
          go_ret
          exact ⟨rfl, (((P1.trans P2).trans P3).trans P4).trans P5⟩
        · have hy := HCO.out.1 hc0
          subst hy
          rw [errV_pos code hc0] at V1
          go_wp2_with fail
          refine (V1 _ R4).mono ?_
          rintro e w' ⟨rfl, rfl⟩
          go_wp2
          go_ret
          exact ⟨rfl, ((P1.trans P2).trans P3).trans P4⟩
end Go.Proofs.YteijndnofihgdaaDoor.Sb
