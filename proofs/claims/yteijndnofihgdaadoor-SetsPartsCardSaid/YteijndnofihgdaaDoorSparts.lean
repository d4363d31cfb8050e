/-
  The statement SetsParts, walked: Parts lists every subset once, sorted.
-/
import Derived.Test.YteijndnofihgdaaDoorSs9
import Derived.Test.YteijndnofihgdaaDoorSb5
namespace Go.Proofs.YteijndnofihgdaaDoor.Sb
open Go.RowKit
set_option linter.unusedVariables false
set_option maxRecDepth 100000
theorem is_err (w : World) (x : Int) : Calls Tryd.prog 47 #[.iface 57 (.int .i64 x), .int .i64 x] w fun e w' => e = .returned (.bool true) ∧ w = w' := by
  have hta : ∀ W, (Instr.typeAssert (.iface 57 (.int .i64 x)) 30 57 true).run Tryd.prog W = .ok (.tuple #[.int .i64 x, .bool true]) W := fun _ => by kernel_rfl
  go_enter Tryd.func47, Tryd.ntmps47
  go_wp2
  go_ret
  exact ⟨rfl, rfl⟩
set_option maxHeartbeats 4000000 in
theorem parts_law (w : World) (s : Int) (_ : -9223372036854775808 ≤ s ∧ s ≤ 9223372036854775807) (hT : Tab w) :
    Calls Tryd.prog 9 #[.int .i64 s] w fun e w' => e = .returned (.bool true) ∧ On w w' := by
  have hX := fun W => cut_any W s
  have lx := cut_lt' s
  generalize cut s = x at *
  have hC := fun W => count_any W (x : Int)
  rw [cut_nat x lx] at hC
  by_cases h : 10 < pc x
  · have hP := fun W => parts_large W x lx h
    rw [errV_pos 4 (by decide)] at hP
    have hI := fun W => is_err W 4
    have h' : (10 : Int) < (pc x : Nat) := by omega
    go_enter Tryd.func9, Tryd.ntmps9
    go_wp2_with fail
    refine (awake_any _ hT).mono ?_
    rintro e w1 ⟨rfl, P1⟩
    go_wp2_with fail
    refine (hX _).mono ?_
    rintro e w' ⟨rfl, rfl⟩
    go_wp2_with fail
    refine (hP _).mono ?_
    rintro e w' ⟨rfl, rfl⟩
    go_wp2_with fail
    refine (hC _).mono ?_
    rintro e w' ⟨rfl, rfl⟩
    go_wp2_with fail
    refine (hI _).mono ?_
    rintro e w' ⟨rfl, rfl⟩
    go_wp2
    go_ret
    exact ⟨rfl, P1⟩
  · have hP := fun W => parts_any W x lx (by omega)
    have hsh := shlp (pc x) (by omega)
    have e0 : ((2 ^ pc x : Nat) : Int) = ((cnt x : Nat) : Int) := rfl
    rw [e0] at hsh
    clear e0
    have h' : ¬ (10 : Int) < (pc x : Nat) := by omega
    go_enter Tryd.func9, Tryd.ntmps9
    go_wp2_with fail
    refine (awake_any _ hT).mono ?_
    rintro e w1 ⟨rfl, P1⟩
    go_wp2_with fail
    refine (hX _).mono ?_
    rintro e w' ⟨rfl, rfl⟩
    go_wp2_with fail
    refine (hP _).mono ?_
    rintro e w2 ⟨A2, n2, c2, l, rfl, ⟨hasc, hmem, hlen⟩, R2, P2⟩
    rw [errV_zero]
    have hn : l.length = n2 := by have := R2.len; rw [VI_length, ints_length] at this; exact this
    have hcn : n2 = cnt x := by rw [← hn, hlen]
    have hcap := R2.cap
    have hmax := R2.max
    rw [← hcn] at hsh
    have HSH := Lib.hid hsh
    have HN := Lib.hid hn
    have HA := Lib.hid hasc
    have HM := Lib.hid hmem
    clear hn hlen hP hX hasc hmem hcn
    go_wp2_with fail
    refine (hC _).mono ?_
    rintro e w' ⟨rfl, rfl⟩
    go_wp2_with fail
    refine (hC _).mono ?_
    rintro e w' ⟨rfl, rfl⟩
    go_wp2
    clear hsh
    go_loopw [33] (fun i wr => ∃ k : Nat, k ≤ n2 ∧ i = .int .i64 (k : Int) ∧ w2 = wr) (fun i _ => n2 - (intOf i).toNat)
    case atStart => exact ⟨0, by omega, rfl, rfl⟩
    case round =>
      obtain ⟨k, hk, rfl, rfl⟩ := hrel
      by_cases hlt : k < n2
      · have hkl : k < l.length := by rw [HN.out]; exact hlt
        have hc1 : (VI (ints l))[k]? = some (.int .i64 ((l[k] : Nat) : Int)) := by simp [VI, ints, hkl]
        obtain ⟨ad, rfl, hb, hc⟩ := R2.at_ k _ hc1
        obtain ⟨y, hy⟩ : ∃ y, l[k] = y := ⟨_, rfl⟩
        have hym := (HM.out y).1 (by rw [← hy]; exact List.getElem_mem hkl)
        have HY := Lib.hid hy
        rw [hy] at hc
        have hV := fun W => valid_any W (y : Int)
        have hy1 := hym.1
        rw [decide_eq_true (show (0 : Int) ≤ (y : Int) ∧ (y : Int) < 16777216 by omega)] at hV
        have hS := fun W => subset_any W (y : Int) (x : Int)
        have es : (y &&& x == y) = true := by rw [hym.2]; simp
        rw [cut_nat y hym.1, cut_nat x lx, without_and, es] at hS
        clear hc1 hym hy es hy1
        by_cases hk0 : k = 0
        · subst hk0
          clear hC
          rw [add_nil] at hc
          go_wp2_with fail
          refine (hV _).mono ?_
          rintro e w' ⟨rfl, rfl⟩
          go_wp2_with fail
          refine (hS _).mono ?_
          rintro e w' ⟨rfl, rfl⟩
          go_wp2
          go_roundw
          case rel => exact ⟨1, by omega, rfl, trivial⟩
          case measure => simp [intOf]; omega
        · obtain ⟨j, hj⟩ : ∃ j, j + 1 = k := ⟨k - 1, by omega⟩
          have hjl : j < l.length := by rw [HN.out]; omega
          have hc2 : (VI (ints l))[j]? = some (.int .i64 ((l[j] : Nat) : Int)) := by simp [VI, ints, hjl]
          obtain ⟨ad2, e2, _, hcj⟩ := R2.at_ j _ hc2
          cases e2
          obtain ⟨z, hz⟩ : ∃ z, l[j] = z := ⟨_, rfl⟩
          have hzm := (HM.out z).1 (by rw [← hz]; exact List.getElem_mem hjl)
          have hym := (HM.out y).1 (by rw [← HY.out]; exact List.getElem_mem hkl)
          have hcmp : cmpS z y < 0 := by
            rw [← hz, ← HY.out]
            exact List.pairwise_iff_getElem.1 HA.out j k hjl hkl (by omega)
          have hK := fun W => compare_any W (z : Int) (y : Int)
          rw [cut_nat z hzm.1, cut_nat y hym.1] at hK
          obtain ⟨cv, hcv⟩ : ∃ cv, cmpS z y = cv := ⟨_, rfl⟩
          rw [hcv] at hK hcmp
          rw [hz] at hcj
          have ej : (k : Int) - 1 = (j : Int) := by omega
          have hkp : (0 : Int) < (k : Int) := by omega
          have hj1 : j < n2 := by omega
          clear hc2 hz hzm hym hcv hC hj hk0 hjl
          go_wp2_with fail
          refine (hV _).mono ?_
          rintro e w' ⟨rfl, rfl⟩
          go_wp2_with fail
          refine (hS _).mono ?_
          rintro e w' ⟨rfl, rfl⟩
          go_wp2_with fail
          refine (hK _).mono ?_
          rintro e w' ⟨rfl, rfl⟩
          go_wp2
          go_roundw
          case rel => exact ⟨k + 1, by omega, by go_num, trivial⟩
          case measure => simp [intOf]; omega
      · obtain rfl : k = n2 := by omega
        clear hC
        go_wp2
        go_ret
        exact ⟨rfl, P1.trans P2⟩
end Go.Proofs.YteijndnofihgdaaDoor.Sb
