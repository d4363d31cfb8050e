/-
  The specification's Subset, Compare, Least, Greatest of sets.
-/
import Derived.Test.YteijndnofihgdaaDoorSr1
namespace Go.Proofs.YteijndnofihgdaaDoor.Sb
open Go.RowKit
set_option linter.unusedVariables false
set_option maxRecDepth 100000
theorem VI_ints_get {l : List Nat} {k : Nat} (h : k < l.length) : (VI (ints l))[k]? = some (.int .i64 ((l[k] : Nat) : Int)) := by
  simp [VI, ints, h]
set_option maxHeartbeats 1000000 in
theorem rsubset_any (w : World) (a b : Int) :
    Calls Tryd.prog 21 #[.int .i64 a, .int .i64 b] w fun e w' => e = .returned (.bool ((els (cut a)).all fun i => (cut b).testBit i)) ∧ On w w' := by
  have hE := elements_any w a
  have hH := fun W i hi => rhas_in W b i hi
  have hel := fun i => (mem_els (cut a) i).1
  generalize hl : els (cut a) = l at *
  generalize cut b = d at *
  clear hl
  go_enter Tryd.func21, Tryd.ntmps21
  go_wp2_with (refine hE.mono ?_; rintro e w1 ⟨A1, n1, c1, rfl, R1, P1⟩)
  have hn : l.length = n1 := by have := R1.len; rw [VI_length, ints_length] at this; exact this
  have hcap := R1.cap
  have hmax := R1.max
  clear hE
  go_loopw [10] (fun i wr => ∃ k : Nat, k ≤ n1 ∧ i = .int .i64 (k : Int) ∧ (∀ x ∈ l.take k, d.testBit x = true) ∧ w1 = wr) (fun i _ => n1 - (intOf i).toNat)
  case atStart => exact ⟨0, by omega, rfl, (fun x hx => by simp at hx), rfl⟩
  case round =>
    obtain ⟨k, hk, rfl, hall, rfl⟩ := hrel
    have HN := Lib.hid hn
    have HA := Lib.hid hall
    clear hall hn
    by_cases hlt : k < n1
    · have hkl : k < l.length := by rw [HN.out]; exact hlt
      obtain ⟨ad, rfl, hb, hc⟩ := R1.at_ k _ (VI_ints_get hkl)
      have hm : l[k] ∈ l := List.getElem_mem hkl
      have hx24 := (hel _ hm).1
      have hh := fun W => hH W _ hx24
      obtain ⟨x, hx⟩ : ∃ x, l[k] = x := ⟨_, rfl⟩
      rw [hx] at hc hh hm
      have HX := Lib.hid hx
      clear hx hH hel hx24
      by_cases hb2 : d.testBit x = true
      · rw [hb2] at hh
        go_wp2_with (with_reducible refine (hh _).mono ?_; rintro e w' ⟨rfl, rfl⟩)
        go_roundw
        case rel =>
          refine ⟨k + 1, by omega, by go_num, ?_, trivial⟩
          intro y hy
          rw [List.take_add_one, List.getElem?_eq_getElem hkl, List.mem_append] at hy
          rcases hy with hy | hy
          · exact HA.out y hy
          · simp at hy; rw [hy, HX.out]; exact hb2
        case measure => simp [intOf]; omega
      · have hb3 : d.testBit x = false := by simpa using hb2
        rw [hb3] at hh
        have hd : (l.all fun i => d.testBit i) = false := by
          rw [List.all_eq_false]
          exact ⟨x, hm, by simp [hb3]⟩
        have HD := Lib.hid hd
        clear hd
        go_wp2_with (with_reducible refine (hh _).mono ?_; rintro e w' ⟨rfl, rfl⟩)
        go_ret
        exact ⟨by rw [HD.out]; rfl, P1⟩
    · obtain rfl : k = n1 := by omega
      have hd : (l.all fun i => d.testBit i) = true := by
        rw [List.all_eq_true]
        have := HA.out
        rwa [List.take_of_length_le (by rw [HN.out]; omega)] at this
      have HD := Lib.hid hd
      clear hd hH
      go_wp2
      go_ret
      exact ⟨by rw [HD.out]; rfl, P1⟩
set_option maxHeartbeats 1000000 in
theorem rleast_any (w : World) (s : Int) :
    Calls Tryd.prog 25 #[.int .i64 s] w fun e w' => e = .returned (.int .i64 (least (cut s))) ∧ On w w' := by
  have hE := elements_any w s
  unfold least
  generalize els (cut s) = l at *
  rcases l with _ | ⟨x, l⟩
  · go_enter Tryd.func25, Tryd.ntmps25
    go_wp2_with (refine hE.mono ?_; rintro e w1 ⟨A1, n1, c1, rfl, R1, P1⟩)
    obtain rfl : n1 = 0 := R1.len.symm
    go_loopw [8] (fun i wr => i = .int .i64 0 ∧ w1 = wr) (fun _ _ => 0)
    case atStart => exact ⟨rfl, rfl⟩
    case round =>
      obtain ⟨rfl, rfl⟩ := hrel
      go_wp2
      go_ret
      exact ⟨rfl, P1⟩
  · go_enter Tryd.func25, Tryd.ntmps25
    go_wp2_with (refine hE.mono ?_; rintro e w1 ⟨A1, n1, c1, rfl, R1, P1⟩)
    have hn : 0 < n1 := by have := R1.len; simp [VI, ints] at this; omega
    obtain ⟨ad, rfl, hb, hc⟩ := R1.at_ 0 (.int .i64 (x : Int)) rfl
    rw [add_nil] at hc
    have hcap := R1.cap
    have hmax := R1.max
    go_loopw [8] (fun i wr => i = .int .i64 0 ∧ w1 = wr) (fun _ _ => 0)
    case atStart => exact ⟨rfl, rfl⟩
    case round =>
      obtain ⟨rfl, rfl⟩ := hrel
      go_wp2
      go_ret
      exact ⟨rfl, P1⟩
/-- the last of a list, or -1 -/
def lastI (l : List Nat) : Int := match l.getLast? with | none => -1 | some i => (i : Int)
theorem lastI_snoc (l : List Nat) (x : Nat) : lastI (l ++ [x]) = (x : Int) := by unfold lastI; simp
set_option maxHeartbeats 1000000 in
theorem rgreatest_any (w : World) (s : Int) :
    Calls Tryd.prog 27 #[.int .i64 s] w fun e w' => e = .returned (.int .i64 (greatest (cut s))) ∧ On w w' := by
  have hE := elements_any w s
  have e0 : greatest (cut s) = lastI (els (cut s)) := rfl
  rw [e0]
  clear e0
  generalize els (cut s) = l at *
  go_enter Tryd.func27, Tryd.ntmps27
  go_wp2_with (refine hE.mono ?_; rintro e w1 ⟨A1, n1, c1, rfl, R1, P1⟩)
  have hn : l.length = n1 := by have := R1.len; rw [VI_length, ints_length] at this; exact this
  have hcap := R1.cap
  have hmax := R1.max
  clear hE
  go_loopw [3, 9] (fun o i wr => ∃ k : Nat, k ≤ n1 ∧ i = .int .i64 (k : Int) ∧ o = .int .i64 (lastI (l.take k)) ∧ w1 = wr) (fun _ i _ => n1 - (intOf i).toNat)
  case atStart => exact ⟨0, by omega, rfl, rfl, rfl⟩
  case round =>
    obtain ⟨k, hk, rfl, rfl, rfl⟩ := hrel
    have HN := Lib.hid hn
    clear hn
    by_cases hlt : k < n1
    · have hkl : k < l.length := by rw [HN.out]; exact hlt
      obtain ⟨ad, rfl, hb, hc⟩ := R1.at_ k _ (VI_ints_get hkl)
      have hs : lastI (l.take (k + 1)) = ((l[k] : Nat) : Int) := by
        rw [List.take_add_one, List.getElem?_eq_getElem hkl]; exact lastI_snoc _ _
      obtain ⟨x, hx⟩ : ∃ x, l[k] = x := ⟨_, rfl⟩
      rw [hx] at hc hs
      have HS := Lib.hid hs
      clear hs hx
      go_wp2
      go_roundw
      case rel => exact ⟨k + 1, by omega, by go_num, by rw [HS.out], trivial⟩
      case measure => simp [intOf]; omega
    · obtain rfl : k = n1 := by omega
      have hd : l.take k = l := List.take_of_length_le (by rw [HN.out]; omega)
      rw [hd]
      go_wp2
      go_ret
      exact ⟨rfl, P1⟩
set_option maxHeartbeats 1000000 in
theorem rcompare_any (w : World) (a b : Int) :
    Calls Tryd.prog 23 #[.int .i64 a, .int .i64 b] w fun e w' => e = .returned (.int .i64 (cmpS (cut a) (cut b))) ∧ w = w' := by
  have hA := fun s W => rcut_any W s
  have hB := fun (n : Nat) (h : n < 16777216) W => rcount_any W (n : Int)
  have h1 := cut_lt' a
  have h2 := cut_lt' b
  have e1 : cut ((cut a : Nat) : Int) = cut a := cut_nat _ h1
  have e2 : cut ((cut b : Nat) : Int) = cut b := cut_nat _ h2
  have hB1 := hB _ h1
  have hB2 := hB _ h2
  rw [e1] at hB1
  rw [e2] at hB2
  have hA1 := hA a
  have hA2 := hA b
  clear hB e1 e2 hA
  generalize cut a = x at *
  generalize cut b = y at *
  unfold cmpS
  by_cases hxy : x = y
  · subst hxy
    rw [if_neg (by omega), if_neg (by omega), if_neg (by omega), if_neg (by omega)]
    go_enter Tryd.func23, Tryd.ntmps23
    go_wp2_with (first | (with_reducible refine (hA1 _).mono ?_; rintro e w' ⟨rfl, rfl⟩) | (with_reducible refine (hA2 _).mono ?_; rintro e w' ⟨rfl, rfl⟩))
    go_ret
    exact ⟨rfl, rfl⟩
  · have hxy' : ¬ (x : Int) = (y : Int) := by omega
    generalize pc x = px at *
    generalize pc y = py at *
    by_cases h3 : px < py
    · rw [if_pos h3]
      go_enter Tryd.func23, Tryd.ntmps23
      go_wp2_with (first | (with_reducible refine (hA1 _).mono ?_; rintro e w' ⟨rfl, rfl⟩) | (with_reducible refine (hA2 _).mono ?_; rintro e w' ⟨rfl, rfl⟩) | (with_reducible refine (hB1 _).mono ?_; rintro e w' ⟨rfl, rfl⟩) | (with_reducible refine (hB2 _).mono ?_; rintro e w' ⟨rfl, rfl⟩))
      go_ret
      exact ⟨rfl, rfl⟩
    · rw [if_neg h3]
      by_cases h4 : py < px
      · rw [if_pos h4]
        have h5 : ¬ (px : Int) = (py : Int) := by omega
        go_enter Tryd.func23, Tryd.ntmps23
        go_wp2_with (first | (with_reducible refine (hA1 _).mono ?_; rintro e w' ⟨rfl, rfl⟩) | (with_reducible refine (hA2 _).mono ?_; rintro e w' ⟨rfl, rfl⟩) | (with_reducible refine (hB1 _).mono ?_; rintro e w' ⟨rfl, rfl⟩) | (with_reducible refine (hB2 _).mono ?_; rintro e w' ⟨rfl, rfl⟩))
        go_ret
        exact ⟨rfl, rfl⟩
      · obtain rfl : px = py := by omega
        rw [if_neg h4]
        by_cases h5 : x < y
        · rw [if_pos h5]
          go_enter Tryd.func23, Tryd.ntmps23
          go_wp2_with (first | (with_reducible refine (hA1 _).mono ?_; rintro e w' ⟨rfl, rfl⟩) | (with_reducible refine (hA2 _).mono ?_; rintro e w' ⟨rfl, rfl⟩) | (with_reducible refine (hB1 _).mono ?_; rintro e w' ⟨rfl, rfl⟩) | (with_reducible refine (hB2 _).mono ?_; rintro e w' ⟨rfl, rfl⟩))
          go_ret
          exact ⟨rfl, rfl⟩
        · rw [if_neg h5, if_pos (by omega)]
          go_enter Tryd.func23, Tryd.ntmps23
          go_wp2_with (first | (with_reducible refine (hA1 _).mono ?_; rintro e w' ⟨rfl, rfl⟩) | (with_reducible refine (hA2 _).mono ?_; rintro e w' ⟨rfl, rfl⟩) | (with_reducible refine (hB1 _).mono ?_; rintro e w' ⟨rfl, rfl⟩) | (with_reducible refine (hB2 _).mono ?_; rintro e w' ⟨rfl, rfl⟩))
          go_ret
          exact ⟨rfl, rfl⟩
end Go.Proofs.YteijndnofihgdaaDoor.Sb
