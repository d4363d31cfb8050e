/-
  Normal: the values of a formula with events as constants, and with an event replaced.
-/
import Derived.Test.YtmkogcaafkobaaaJGE
namespace Go.Proofs.Ytmkogcaafkobaaa.Fm
open Go.RowKit Go.Proofs.Ytmkogcaafkobaaa.Sb
set_option linter.unusedVariables false
theorem mapRange_get (k : Nat) (g : Nat → Nat) {i : Nat} (h : i < k) : ((List.range k).map g).getD i 0 = g i := by
  simp [List.getD_eq_getElem?_getD, h]
theorem bit_dec (n i : Nat) : n.testBit i = decide (n / 2 ^ i % 2 = 1) := by
  rw [Nat.testBit_eq_decide_div_mod_eq]
theorem av_two0 (v s : Nat) : av v s two01 v = false := by
  have h := av_nodeL (v := v) (l := two01) (two01_ok v) (i := 0) (by decide) s
  rw [Nat.add_zero] at h
  rw [h]; rfl
theorem av_two1 (v s : Nat) : av v s two01 (v + 1) = true := by
  rw [av_nodeL (two01_ok v) (by decide)]; rfl
/-- t: s with the events of y and without those of n -/
theorem assignF_val {N : Nat} {f : Fn} (hf : WFb N f) {y n s t : Nat} (ht : ∀ a, a < f.vars → t.testBit a = (!n.testBit a && (y.testBit a || s.testBit a))) : val (assignF f y n) s = val f t := by
  refine joined_val hf (asgL_len _ _ _ _) (fun a ha => ?_) (two01_ok _) (fun a ha => ?_)
  · unfold asgL; rw [mapRange_get _ _ ha]
    have h2 : two01.length = 2 := rfl
    unfold asgV; repeat' split
    all_goals omega
  · unfold asgL; rw [mapRange_get _ _ ha, ht a ha, bit_dec n, bit_dec y]
    unfold asgV
    by_cases h1 : n / 2 ^ a % 2 = 1
    · rw [if_pos h1, av_two0]; simp [h1]
    · rw [if_neg h1]
      by_cases h2 : y / 2 ^ a % 2 = 1
      · rw [if_pos h2, av_two1]; simp [h1, h2]
      · rw [if_neg h2, av_event ha]; simp [h1, h2]
/-- t: s with the event e as the formula g says -/
theorem replaceF_val {N M : Nat} {f g : Fn} (hf : WFb N f) (hg : WFb M g) (hvv : g.vars = f.vars) {e s t : Nat} (ht : ∀ a, a < f.vars → t.testBit a = if a = e then val g s else s.testBit a) : val (replaceF f e g) s = val f t := by
  refine joined_val hf (repL_len _ _ _) (fun a ha => ?_) (by have := hg.okL; rwa [hvv] at this) (fun a ha => ?_)
  · unfold repL; rw [mapRange_get _ _ ha]
    have := hg.2.2.2
    unfold repV; split
    · omega
    · omega
  · unfold repL; rw [mapRange_get _ _ ha, ht a ha]
    unfold repV
    by_cases h1 : a = e
    · rw [if_pos h1, if_pos h1, val_av, hvv]
    · rw [if_neg h1, if_neg h1, av_event ha]
theorem asgV_lt (v y n a : Nat) (ha : a < v) : asgV v y n a < v + two01.length := by
  have h2 : two01.length = 2 := rfl
  unfold asgV; repeat' split
  all_goals omega
theorem asgL_lt (v y n a : Nat) (ha : a < v) : (asgL v y n v).getD a 0 < v + two01.length := by
  unfold asgL; rw [mapRange_get _ _ ha]; exact asgV_lt v y n a ha
theorem assignF_wf {N : Nat} {f : Fn} (hf : WFb N f) (y n : Nat) : WFb (2 + f.nodes.length) (assignF f y n) :=
  joined_wf hf (asgL_len _ _ _ _) (fun a ha => asgL_lt _ _ _ a ha) (two01_ok _)
/-- an event that stands for something is none that is assigned -/
theorem asg_now {v y n k a x : Nat} (hk : a < v + k) (hx : x < v) (h : (jnow v two01 (asgL v y n v) k).getD a 0 = x) : n.testBit x = false ∧ y.testBit x = false := by
  by_cases ha : a < v
  · rw [jnow_event (by rw [asgL_len]; exact ha)] at h
    unfold asgL at h
    rw [mapRange_get _ _ ha] at h
    unfold asgV at h
    by_cases h1 : n / 2 ^ a % 2 = 1
    · rw [if_pos h1] at h; omega
    · rw [if_neg h1] at h
      by_cases h2 : y / 2 ^ a % 2 = 1
      · rw [if_pos h2] at h; omega
      · rw [if_neg h2] at h
        subst h
        rw [bit_dec, bit_dec]
        exact ⟨decide_eq_false h1, decide_eq_false h2⟩
  · obtain ⟨j, rfl⟩ : ∃ j, a = v + j := ⟨a - v, by omega⟩
    rw [jnow_node (by omega) (asgL_len _ _ _ _)] at h
    omega
theorem assignF_sup {N : Nat} {f : Fn} (hf : WFb N f) (y n : Nat) : sup (assignF f y n) &&& (y ||| n) = 0 := by
  apply Nat.eq_of_testBit_eq
  intro x
  rw [Nat.testBit_and, Nat.testBit_or, Nat.zero_testBit]
  have hv : (assignF f y n).vars = f.vars := rfl
  unfold sup
  rw [supTo_bit, hv]
  by_cases hx : x < f.vars
  · by_cases hm : mk (assignF f y n) x = true
    · have key : n.testBit x = false ∧ y.testBit x = false := by
        rcases mk_from (assignF_wf hf y n) hm with h | ⟨i, hi, _, h⟩
        · exact asg_now hf.2.2.2 hx h.symm
        · have hl : (assignF f y n).nodes.length = two01.length + f.nodes.length := by simp [assignF, joined]
          have h2 : two01.length = 2 := rfl
          by_cases hi2 : i < 2
          · exfalso
            have e : (assignF f y n).nd i = ndL two01 i := ndL_l (by rw [h2]; exact hi2)
            rw [e] at h
            have : i = 0 ∨ i = 1 := by omega
            rcases this with rfl | rfl
            · exact absurd h (by simp [ndL, two01])
            · exact absurd h (by simp [ndL, two01])
          · obtain ⟨j, rfl⟩ : ∃ j, i = two01.length + j := ⟨i - 2, by omega⟩
            have hj : j < f.nodes.length := by omega
            have e : (assignF f y n).nd (two01.length + j) = ⟨(f.nd j).kind, (f.nd j).k, ren (jnow f.vars two01 (asgL f.vars y n f.vars) f.nodes.length) (f.nd j).args⟩ := by
              show (two01 ++ _ : List Nn).getD _ _ = _
              rw [getD_appr]
              unfold Fn.nd
              simp [hj]
            rw [e] at h
            simp only at h
            unfold ren at h
            obtain ⟨a, ha, h⟩ := List.mem_map.1 h
            have := (hf.2.2.1 j hj).2.2.2.2.1 a ha
            exact asg_now (by omega) hx h
      rw [key.1, key.2]; simp
    · have hm2 : (bel (assignF f y n)).getD x false = false := by
        have : mk (assignF f y n) x = false := by simpa using hm
        exact this
      rw [hm2]; simp
  · rw [decide_eq_false hx]; simp
end Go.Proofs.Ytmkogcaafkobaaa.Fm
