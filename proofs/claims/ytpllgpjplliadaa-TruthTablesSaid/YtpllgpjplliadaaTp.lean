/-
  Truth tables: all values, counts by size, monotone, the events that matter, the first difference. No statement of the program.
-/
import Derived.Test.YtpllgpjplliadaaKq
namespace Go.Proofs.Ytpllgpjplliadaa.Fm
set_option linter.unusedVariables false
set_option maxRecDepth 100000
/-! ## values for sets below 2^vars -/
def tab (f : Fn) : List Bool := (List.range (2 ^ f.vars)).map (val f)
theorem tab_len (f : Fn) : (tab f).length = 2 ^ f.vars := by simp [tab]
theorem tab_get {f : Fn} {s : Nat} (h : s < 2 ^ f.vars) : (tab f).getD s false = val f s := by simp [tab, h]
/-- how many of the first j events are in a set -/
def pcT (s : Nat) : Nat → Nat
  | 0 => 0
  | j + 1 => pcT s j + s / 2 ^ j % 2
theorem pcT_le (s j : Nat) : pcT s j ≤ j := by
  induction j with
  | zero => exact Nat.le_refl _
  | succ j ih =>
    have := Nat.mod_lt (s / 2 ^ j) (show 0 < 2 by omega)
    unfold pcT; omega
/-- how many of the sets below m have p and k events -/
def numK (p : Nat → Bool) (v k : Nat) : Nat → Nat
  | 0 => 0
  | m + 1 => numK p v k m + (if p m = true ∧ pcT m v = k then 1 else 0)
theorem numK_le (p : Nat → Bool) (v k m : Nat) : numK p v k m ≤ m := by
  induction m with
  | zero => exact Nat.le_refl _
  | succ m ih => unfold numK; split <;> omega
theorem numK_both (p q : Nat → Bool) (v k m : Nat) (h : ∀ s, s < m → q s = !p s) : numK p v k m + numK q v k m = numK (fun _ => true) v k m := by
  induction m with
  | zero => rfl
  | succ m ih =>
    have := ih fun s hs => h s (by omega)
    unfold numK
    rw [h m (by omega)]
    by_cases hk : pcT m v = k
    · cases hp : p m <;> simp [hk] <;> omega
    · cases hp : p m <;> simp [hk] <;> omega
/-- the numbers by size of the true sets below m -/
def wtsTo (f : Fn) (m : Nat) : List Nat := (List.range (f.vars + 1)).map fun k => numK (val f) f.vars k m
def wts (f : Fn) : List Nat := wtsTo f (2 ^ f.vars)
theorem wtsTo_len (f : Fn) (m : Nat) : (wtsTo f m).length = f.vars + 1 := by simp [wtsTo]
theorem wts_len (f : Fn) : (wts f).length = f.vars + 1 := wtsTo_len f _
theorem wtsTo_get {f : Fn} {m k : Nat} (h : k ≤ f.vars) : (wtsTo f m).getD k 0 = numK (val f) f.vars k m := by
  simp [wtsTo, Nat.lt_succ_of_le h]
theorem wtsTo_zero (f : Fn) : wtsTo f 0 = List.replicate (f.vars + 1) 0 := by
  unfold wtsTo
  apply List.ext_getElem?
  intro i
  rw [List.getElem?_map, List.getElem?_replicate]
  by_cases h : i < f.vars + 1
  · rw [List.getElem?_range h, if_pos h]; rfl
  · rw [List.getElem?_eq_none (by simp; omega), if_neg h]; rfl
theorem wtsTo_no {f : Fn} {m : Nat} (h : val f m = false) : wtsTo f (m + 1) = wtsTo f m := by
  unfold wtsTo
  refine List.map_congr_left fun k _ => ?_
  rw [numK, h]; simp
theorem wtsTo_yes {f : Fn} {m : Nat} (h : val f m = true) : wtsTo f (m + 1) = (wtsTo f m).set (pcT m f.vars) ((wtsTo f m).getD (pcT m f.vars) 0 + 1) := by
  have hp := pcT_le m f.vars
  rw [wtsTo_get hp]
  unfold wtsTo
  apply List.ext_getElem?
  intro i
  rw [List.getElem?_set, List.getElem?_map, List.getElem?_map]
  by_cases hi : i < f.vars + 1
  · rw [List.getElem?_range hi]
    simp only [Option.map_some, List.length_map, List.length_range]
    by_cases e : pcT m f.vars = i
    · subst e
      rw [if_pos rfl, if_pos hi, numK, h]; simp
    · rw [if_neg e, numK]
      simp [e]
  · rw [List.getElem?_eq_none (by simp; omega)]
    simp; omega
/-- how many of the sets below m are true -/
def cntTo (f : Fn) : Nat → Nat
  | 0 => 0
  | m + 1 => cntTo f m + (if val f m = true then 1 else 0)
def cnt (f : Fn) : Nat := cntTo f (2 ^ f.vars)
theorem cntTo_le (f : Fn) (m : Nat) : cntTo f m ≤ m := by
  induction m with
  | zero => exact Nat.le_refl _
  | succ m ih => unfold cntTo; split <;> omega
/-- the sum of the first k elements -/
def sumTo (l : List Nat) : Nat → Nat
  | 0 => 0
  | k + 1 => sumTo l k + l.getD k 0
theorem sumTo_same {l l' : List Nat} : ∀ (k : Nat), (∀ i, i < k → l.getD i 0 = l'.getD i 0) → sumTo l k = sumTo l' k
  | 0, _ => rfl
  | k + 1, h => by
    show sumTo l k + l.getD k 0 = sumTo l' k + l'.getD k 0
    rw [sumTo_same k fun i hi => h i (by omega), h k (by omega)]
theorem sumTo_set (l : List Nat) (i : Nat) (hi : i < l.length) : ∀ (k : Nat), sumTo (l.set i (l.getD i 0 + 1)) k = sumTo l k + (if i < k then 1 else 0) := by
  intro k
  induction k with
  | zero => simp [sumTo]
  | succ k ih =>
    show sumTo (l.set i (l.getD i 0 + 1)) k + (l.set i (l.getD i 0 + 1)).getD k 0 = sumTo l k + l.getD k 0 + _
    have hg : (l.set i (l.getD i 0 + 1)).getD k 0 = if i = k then l.getD i 0 + 1 else l.getD k 0 := by
      rw [getD_set]
      by_cases e : i = k
      · rw [if_pos ⟨e, hi⟩, if_pos e]
      · rw [if_neg (fun h => e h.1), if_neg e]
    rw [ih, hg]
    by_cases e : i = k
    · subst e
      have h1 : ¬ i < i := by omega
      have h2 : i < i + 1 := by omega
      simp only [if_true, if_neg h1, if_pos h2]
      omega
    · by_cases h : i < k
      · have h2 : i < k + 1 := by omega
        simp only [if_neg e, if_pos h, if_pos h2]
        omega
      · have h2 : ¬ i < k + 1 := by omega
        simp only [if_neg e, if_neg h, if_neg h2]
        omega
theorem sum_wtsTo (f : Fn) (m : Nat) : sumTo (wtsTo f m) (f.vars + 1) = cntTo f m := by
  induction m with
  | zero =>
    rw [wtsTo_zero]
    show _ = 0
    generalize f.vars + 1 = k
    have : ∀ j, sumTo (List.replicate k 0) j = 0 := by
      intro j
      induction j with
      | zero => rfl
      | succ j ih =>
        unfold sumTo
        rw [ih, List.getD_eq_getElem?_getD, List.getElem?_replicate]
        split <;> rfl
    exact this k
  | succ m ih =>
    unfold cntTo
    cases h : val f m with
    | false => rw [wtsTo_no h, ih]; simp
    | true =>
      have hp := pcT_le m f.vars
      rw [wtsTo_yes h, sumTo_set _ _ (by rw [wtsTo_len]; omega), if_pos (by omega), ih]; simp
theorem sum_wts (f : Fn) : sumTo (wts f) (f.vars + 1) = cnt f := sum_wtsTo f _
theorem sumTo_le (f : Fn) (m k : Nat) (hk : k ≤ f.vars + 1) : sumTo (wtsTo f m) k ≤ m := by
  have h1 : sumTo (wtsTo f m) k ≤ sumTo (wtsTo f m) (f.vars + 1) := by
    obtain ⟨d, hd⟩ : ∃ d, f.vars + 1 = k + d := ⟨f.vars + 1 - k, by omega⟩
    rw [hd]
    clear hd
    induction d with
    | zero => exact Nat.le_refl _
    | succ d ih => exact Nat.le_trans ih (Nat.le_add_right _ _)
  rw [sum_wtsTo] at h1
  exact Nat.le_trans h1 (cntTo_le f m)
/-- the numbers of all sets by size -/
def chs (v : Nat) : Nat → Nat
  | 0 => 1
  | i + 1 => chs v i * (v - i) / (i + 1)
theorem chs_all : ∀ v, v < 13 → ∀ k, k < v + 1 → numK (fun _ => true) v k (2 ^ v) = chs v k := by decide +kernel
theorem chs_le : ∀ v, v < 13 → ∀ k, k < v + 2 → chs v k ≤ 4096 := by decide +kernel
/-! ## the first difference -/
def difO (f g : Fn) : Option Nat := (List.range (2 ^ f.vars)).find? fun s => val f s != val g s
def difZ (f g : Fn) : Int := match difO f g with | some s => (s : Int) | none => -1
theorem difZ_none {f g : Fn} (h : ∀ s, s < 2 ^ f.vars → val f s = val g s) : difZ f g = -1 := by
  have : difO f g = none := by
    unfold difO
    rw [List.find?_eq_none]
    intro s hs
    have := h s (List.mem_range.1 hs)
    simp [this]
  unfold difZ; rw [this]
theorem difZ_at {f g : Fn} {s : Nat} (hs : s < 2 ^ f.vars) (hb : ∀ t, t < s → val f t = val g t) (hd : val f s ≠ val g s) : difZ f g = (s : Int) := by
  have : difO f g = some s := by
    unfold difO
    rw [List.find?_eq_some_iff_append]
    refine ⟨by simpa using hd, List.range s, (List.range (2 ^ f.vars - s - 1)).map (· + s + 1), ?_, fun t ht => ?_⟩
    · apply List.ext_getElem?
      intro i
      rw [List.getElem?_append]
      simp only [List.length_range]
      by_cases h1 : i < s
      · rw [if_pos h1, List.getElem?_range h1, List.getElem?_range (by omega)]
      · rw [if_neg h1]
        by_cases h2 : i = s
        · subst h2
          rw [List.getElem?_range hs, Nat.sub_self]; rfl
        · obtain ⟨j, rfl⟩ : ∃ j, i = s + 1 + j := ⟨i - s - 1, by omega⟩
          rw [show s + 1 + j - s = j + 1 by omega, List.getElem?_cons_succ, List.getElem?_map]
          by_cases h3 : s + 1 + j < 2 ^ f.vars
          · rw [List.getElem?_range h3, List.getElem?_range (by omega)]; simp; omega
          · rw [List.getElem?_eq_none (by simp; omega), List.getElem?_eq_none (by simp; omega)]; rfl
    · have := hb t (List.mem_range.1 ht)
      simp [this]
  unfold difZ; rw [this]
theorem difZ_cases (f g : Fn) : (difZ f g = -1 ∧ ∀ s, s < 2 ^ f.vars → val f s = val g s) ∨ ∃ s : Nat, difZ f g = (s : Int) ∧ s < 2 ^ f.vars ∧ (∀ t, t < s → val f t = val g t) ∧ val f s ≠ val g s := by
  by_cases h : ∀ s, s < 2 ^ f.vars → val f s = val g s
  · exact .inl ⟨difZ_none h, h⟩
  · right
    have hex : ∃ s, s < 2 ^ f.vars ∧ val f s ≠ val g s := by
      apply Classical.byContradiction
      intro hn
      apply h
      intro s hs
      apply Classical.byContradiction
      intro hne
      exact hn ⟨s, hs, hne⟩
    have least : ∀ k s, s < k → s < 2 ^ f.vars → val f s ≠ val g s → ∃ s, s < 2 ^ f.vars ∧ (∀ t, t < s → val f t = val g t) ∧ val f s ≠ val g s := by
      intro k
      induction k with
      | zero => intro s h0; omega
      | succ k ih =>
        intro s h0 h1 h2
        by_cases hh : ∀ t, t < s → val f t = val g t
        · exact ⟨s, h1, hh, h2⟩
        · have : ∃ t, t < s ∧ val f t ≠ val g t := by
            apply Classical.byContradiction
            intro hn
            apply hh
            intro t ht
            apply Classical.byContradiction
            intro hne
            exact hn ⟨t, ht, hne⟩
          obtain ⟨t, h3, h4⟩ := this
          exact ih t (by omega) (by omega) h4
    obtain ⟨s, h1, h2⟩ := hex
    obtain ⟨s, h1, h2, h3⟩ := least (s + 1) s (by omega) h1 h2
    exact ⟨s, difZ_at h1 h2 h3, h1, h2, h3⟩
/-! ## monotone, and the events that matter -/
/-- set s is no fault: whatever event fails more, a true value stays -/
def monS (f : Fn) (s i : Nat) : Bool := !val f s || val f (s ||| 2 ^ i)
def mono (f : Fn) : Bool := (List.range (2 ^ f.vars)).all fun s => (List.range f.vars).all fun i => monS f s i
theorem mono_iff (f : Fn) : mono f = true ↔ ∀ s, s < 2 ^ f.vars → ∀ i, i < f.vars → monS f s i = true := by
  unfold mono
  simp only [List.all_eq_true, List.mem_range]
theorem mono_false {f : Fn} {s i : Nat} (hs : s < 2 ^ f.vars) (hi : i < f.vars) (h : monS f s i = false) : mono f = false := by
  cases hm : mono f with
  | false => rfl
  | true => rw [(mono_iff f).1 hm s hs i hi] at h; cases h
/-- event i matters -/
def relB (f : Fn) (i : Nat) : Bool := (List.range (2 ^ f.vars)).any fun s => val f s != val f (s ||| 2 ^ i)
/-- the events that matter -/
def relv (f : Fn) : Nat := supTo ((List.range f.vars).map (relB f)) f.vars
theorem relv_bit (f : Fn) (i : Nat) : (relv f).testBit i = (decide (i < f.vars) && relB f i) := by
  unfold relv
  rw [supTo_bit]
  by_cases h : i < f.vars
  · simp [h]
  · simp [h]
theorem relv_lt (f : Fn) : relv f < 2 ^ f.vars := supTo_lt _ _
theorem relB_iff (f : Fn) (i : Nat) : relB f i = true ↔ ∃ s, s < 2 ^ f.vars ∧ val f s ≠ val f (s ||| 2 ^ i) := by
  unfold relB
  simp only [List.any_eq_true, List.mem_range, bne_iff_ne]
theorem or_lt2 {v s i : Nat} (hs : s < 2 ^ v) (hi : i < v) : s ||| 2 ^ i < 2 ^ v := Nat.or_lt_two_pow hs (Nat.pow_lt_pow_right (by omega) hi)
/-- the bits below j of t, the others of s -/
def mix (s t j : Nat) : Nat := (t % 2 ^ j) ||| (s / 2 ^ j * 2 ^ j)
theorem mix_bit (s t j b : Nat) : (mix s t j).testBit b = if b < j then t.testBit b else s.testBit b := by
  unfold mix
  rw [Nat.testBit_or, Nat.testBit_mod_two_pow, ← Nat.shiftLeft_eq, Nat.testBit_shiftLeft, ← Nat.shiftRight_eq_div_pow, Nat.testBit_shiftRight]
  by_cases h : b < j
  · simp [h, Nat.not_le.2 h]
  · have h' : j ≤ b := by omega
    simp [h, h', show j + (b - j) = b by omega]
theorem lt_of_bits {x v : Nat} (h : ∀ b, v ≤ b → x.testBit b = false) : x < 2 ^ v := Nat.lt_pow_two_of_testBit x h
theorem bit_big {s v b : Nat} (h : s < 2 ^ v) (hb : v ≤ b) : s.testBit b = false := Nat.testBit_lt_two_pow (Nat.lt_of_lt_of_le h (Nat.pow_le_pow_right (by omega) hb))
/-- sets that agree on the events that matter have the same value -/
theorem val_irr {f : Fn} {s t : Nat} (hs : s < 2 ^ f.vars) (ht : t < 2 ^ f.vars) (h : ∀ i, i < f.vars → relB f i = true → s.testBit i = t.testBit i) : val f s = val f t := by
  have key : ∀ j, j ≤ f.vars → val f (mix s t j) = val f s := by
    intro j
    induction j with
    | zero => intro _; congr 1; apply Nat.eq_of_testBit_eq; intro b; rw [mix_bit]; simp
    | succ j ih =>
      intro hj
      rw [← ih (by omega)]
      have hb : ∀ k, k ≤ f.vars → mix s t k < 2 ^ f.vars := fun k hk => lt_of_bits fun b hb => by rw [mix_bit]; split; exact bit_big ht hb; exact bit_big hs hb
      by_cases he : s.testBit j = t.testBit j
      · congr 1
        apply Nat.eq_of_testBit_eq
        intro b
        rw [mix_bit, mix_bit]
        by_cases h1 : b = j
        · subst h1; simp [he]
        · by_cases h2 : b < j
          · simp [h2, show b < j + 1 by omega]
          · simp [h2, show ¬ b < j + 1 by omega]
      · have hn : relB f j = false := by
          cases hr : relB f j with
          | false => rfl
          | true => exact absurd (h j (by omega) hr) he
        have irr : ∀ u, u < 2 ^ f.vars → val f u = val f (u ||| 2 ^ j) := by
          intro u hu
          apply Classical.byContradiction
          intro hne
          have := (relB_iff f j).2 ⟨u, hu, hne⟩
          rw [this] at hn; cases hn
        have eor : mix s t j ||| 2 ^ j = mix s t (j + 1) ||| 2 ^ j := by
          apply Nat.eq_of_testBit_eq
          intro b
          rw [Nat.testBit_or, Nat.testBit_or, mix_bit, mix_bit, Nat.testBit_two_pow]
          by_cases h1 : j = b
          · simp [h1]
          · by_cases h2 : b < j
            · simp [h1, h2, show b < j + 1 by omega]
            · simp [h1, h2, show ¬ b < j + 1 by omega]
        rw [irr _ (hb (j + 1) hj), irr _ (hb j (by omega)), eor]
  have := key f.vars (Nat.le_refl _)
  rw [← this]
  congr 1
  apply Nat.eq_of_testBit_eq
  intro b
  rw [mix_bit]
  by_cases hb : b < f.vars
  · simp [hb]
  · simp [hb]; rw [bit_big hs (by omega), bit_big ht (by omega)]
/-- monotone: more failed events keep a true value -/
theorem mono_or {f : Fn} (hm : mono f = true) {s t : Nat} (hs : s < 2 ^ f.vars) (ht : t < 2 ^ f.vars) (hv : val f s = true) : val f (s ||| t) = true := by
  have key : ∀ j, j ≤ f.vars → val f (s ||| t % 2 ^ j) = true := by
    intro j
    induction j with
    | zero => intro _; rw [Nat.pow_zero, Nat.mod_one, Nat.or_zero]; exact hv
    | succ j ih =>
      intro hj
      have h1 := ih (by omega)
      have hl : s ||| t % 2 ^ j < 2 ^ f.vars := Nat.or_lt_two_pow hs (Nat.lt_of_le_of_lt (Nat.mod_le _ _) ht)
      by_cases hb : t.testBit j = true
      · have := (mono_iff f).1 hm _ hl j (by omega)
        unfold monS at this
        rw [h1] at this
        simp at this
        have e : s ||| t % 2 ^ (j + 1) = s ||| t % 2 ^ j ||| 2 ^ j := by
          apply Nat.eq_of_testBit_eq
          intro b
          rw [Nat.testBit_or, Nat.testBit_or, Nat.testBit_or, Nat.testBit_mod_two_pow, Nat.testBit_mod_two_pow, Nat.testBit_two_pow]
          by_cases h2 : j = b
          · subst h2; simp [hb]
          · by_cases h3 : b < j
            · simp [h2, h3, show b < j + 1 by omega]
            · simp [h2, h3, show ¬ b < j + 1 by omega]
        rw [e]; exact this
      · have e : s ||| t % 2 ^ (j + 1) = s ||| t % 2 ^ j := by
          apply Nat.eq_of_testBit_eq
          intro b
          rw [Nat.testBit_or, Nat.testBit_or, Nat.testBit_mod_two_pow, Nat.testBit_mod_two_pow]
          by_cases h2 : j = b
          · subst h2; simp [Bool.eq_false_iff.2 hb]
          · by_cases h3 : b < j
            · simp [h3, show b < j + 1 by omega]
            · simp [h3, show ¬ b < j + 1 by omega]
        rw [e]; exact h1
  have := key f.vars (Nat.le_refl _)
  rwa [Nat.mod_eq_of_lt ht] at this
/-- without negations and xors it is monotone -/
theorem mono_plain {f : Fn} (h : WF f) (hk : ∀ i, i < f.nodes.length → (f.nd i).kind ≠ 1 ∧ (f.nd i).kind ≠ 5) : mono f = true := by
  rw [mono_iff]
  intro s hs i hi
  unfold monS
  cases hv : val f s with
  | false => rfl
  | true =>
    have := val_grows h hk (s := s) (t := s ||| 2 ^ i) (fun x _ hx => by rw [Nat.testBit_or, hx]; rfl) hv
    rw [this]; rfl
/-- the events that matter are in the support -/
theorem relv_sup {f : Fn} (h : WF f) {i : Nat} (hi : (relv f).testBit i = true) : (sup f).testBit i = true := by
  rw [relv_bit] at hi
  simp only [Bool.and_eq_true, decide_eq_true_iff] at hi
  obtain ⟨h1, h2⟩ := hi
  obtain ⟨s, hs, hne⟩ := (relB_iff f i).1 h2
  apply Classical.byContradiction
  intro hn
  refine hne (val_same h fun x hx hsx => ?_)
  rw [Nat.testBit_or, Nat.testBit_two_pow]
  have : ¬ i = x := fun e => hn (e ▸ hsx)
  simp [this]
/-! ## a negation on top -/
def neg1 (f : Fn) : Fn := ⟨f.vars, f.nodes ++ [⟨1, 0, [f.top]⟩], f.vars + f.nodes.length⟩
theorem neg1_len (f : Fn) : (neg1 f).nodes.length = f.nodes.length + 1 := by simp [neg1]
theorem neg1_nd (f : Fn) {i : Nat} (hi : i < f.nodes.length) : (neg1 f).nd i = f.nd i := by
  unfold Fn.nd neg1
  simp only
  rw [List.getD_eq_getElem?_getD, List.getElem?_append_left hi, ← List.getD_eq_getElem?_getD]
theorem neg1_nd1 (f : Fn) : (neg1 f).nd f.nodes.length = ⟨1, 0, [f.top]⟩ := by
  unfold Fn.nd neg1
  simp only
  rw [List.getD_eq_getElem?_getD, List.getElem?_append_right (Nat.le_refl _)]; simp
theorem neg1_wf {f : Fn} (h : WF f) (hn : f.nodes.length + 1 ≤ 128) : WF (neg1 f) := by
  refine ⟨h.1, by rw [neg1_len]; exact hn, fun i hi => ?_, by rw [neg1_len]; show f.vars + f.nodes.length < f.vars + _; omega⟩
  rw [neg1_len] at hi
  show okN (f.vars + i) _
  by_cases h1 : i < f.nodes.length
  · rw [neg1_nd f h1]; exact h.2.2.1 i h1
  · have h2 : i = f.nodes.length := by omega
    subst h2; rw [neg1_nd1]; exact okN_not h.2.2.2
theorem neg1_val {f : Fn} (h : WF f) (s : Nat) : val (neg1 f) s = !val f s := by
  have hi : f.nodes.length < (neg1 f).nodes.length := by rw [neg1_len]; omega
  show argE f.vars s.testBit false (evTo s.testBit false cmbV (neg1 f) (neg1 f).nodes.length) (f.vars + f.nodes.length) = _
  have e1 : argE f.vars s.testBit false (evTo s.testBit false cmbV (neg1 f) (neg1 f).nodes.length) (f.vars + f.nodes.length) = (evTo s.testBit false cmbV (neg1 f) (neg1 f).nodes.length).getD f.nodes.length false := by
    unfold argE
    rw [if_neg (by omega), Nat.add_sub_cancel_left]
  rw [e1, evTo_get hi (Nat.le_refl _), neg1_nd1]
  have e2 : evTo s.testBit false cmbV (neg1 f) f.nodes.length = vals f s := by
    unfold vals valsTo evTo
    show evL f.vars _ _ _ ((neg1 f).nodes.take f.nodes.length) = _
    have : (neg1 f).nodes.take f.nodes.length = f.nodes.take f.nodes.length := by
      unfold neg1
      simp only
      rw [List.take_append_of_le_length (Nat.le_refl _)]
    rw [this]
  rw [e2]
  show cmbV 1 0 [argV f.vars (vals f s) s f.top] = !argV f.vars (vals f s) s f.top
  cases argV f.vars (vals f s) s f.top <;> rfl
/-- the weights of a formula and of its negation -/
theorem wts_both {f : Fn} (h : WF f) (hv : f.vars ≤ 12) {k : Nat} (hk : k ≤ f.vars) : (wts f).getD k 0 + (wts (neg1 f)).getD k 0 = chs f.vars k := by
  have e1 : (wts f).getD k 0 = numK (val f) f.vars k (2 ^ f.vars) := wtsTo_get hk
  have e2 : (wts (neg1 f)).getD k 0 = numK (val (neg1 f)) f.vars k (2 ^ f.vars) := wtsTo_get (f := neg1 f) hk
  rw [e1, e2, numK_both _ _ _ _ _ (fun s _ => neg1_val h s)]
  exact chs_all f.vars (by omega) k (by omega)
end Go.Proofs.Ytpllgpjplliadaa.Fm
