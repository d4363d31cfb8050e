/-
  Plain arithmetic, no program: what a list of words in base 2^32, the least one first, is worth ('val'), how many words are left without the zeros at the end ('tl'), and that a list without such zeros is determined by its worth.
-/
namespace Go.Proofs.Ytkpeliokhmigoaa
set_option linter.unusedVariables false
namespace Num

/-- 2^32 -/
def BB : Nat := 4294967296
theorem BB_eq : BB = 4294967296 := rfl
theorem BB_pos : 0 < BB := by decide

/-- what a list of words is worth -/
def val : List Nat → Nat
  | [] => 0
  | x :: r => x + BB * val r

/-- every word is one -/
def Ok (l : List Nat) : Prop := ∀ u ∈ l, u < 4294967296

/-- how many words are left when the zeros at the end are dropped -/
def tl : List Nat → Nat
  | [] => 0
  | x :: r => if tl r = 0 then (if x = 0 then 0 else 1) else tl r + 1

/-- no zero at the end -/
def Clean (l : List Nat) : Prop := tl l = l.length

/-- word k of a list -/
def gw (l : List Nat) (k : Nat) : Nat := l.getD k 0
theorem gw_eq (l : List Nat) (k : Nat) : gw l k = l.getD k 0 := rfl

theorem val_append (a b : List Nat) : val (a ++ b) = val a + BB ^ a.length * val b := by
  induction a with
  | nil => simp [val]
  | cons x r ih => simp only [List.cons_append, val, ih, List.length_cons, Nat.pow_succ]; rw [Nat.mul_add, ← Nat.mul_assoc, Nat.mul_comm BB (BB ^ r.length), Nat.add_assoc]
theorem val_snoc (a : List Nat) (x : Nat) : val (a ++ [x]) = val a + BB ^ a.length * x := by rw [val_append]; simp [val]
theorem val_take_succ (l : List Nat) (k : Nat) (h : k < l.length) : val (l.take (k + 1)) = val (l.take k) + BB ^ k * gw l k := by
  rw [List.take_succ_eq_append_getElem h, val_snoc]; simp [gw, List.getD_eq_getElem?_getD, h, Nat.min_eq_left (Nat.le_of_lt h)]
theorem val_split (l : List Nat) (k : Nat) (h : k ≤ l.length) : val l = val (l.take k) + BB ^ k * val (l.drop k) := by
  conv => lhs; rw [← List.take_append_drop k l]
  rw [val_append, List.length_take, Nat.min_eq_left h]
theorem val_drop (l : List Nat) (k : Nat) (h : k < l.length) : val (l.drop k) = gw l k + BB * val (l.drop (k + 1)) := by
  rw [List.drop_eq_getElem_cons h]; simp [val, gw, List.getD_eq_getElem?_getD, h]
theorem val_lt {l : List Nat} (h : Ok l) : val l < BB ^ l.length := by
  induction l with
  | nil => simp [val]
  | cons x r ih =>
    have h1 : x < BB := h x (by simp)
    have h2 := ih (fun u hu => h u (by simp [hu]))
    simp only [val, List.length_cons, Nat.pow_succ]
    calc x + BB * val r < BB + BB * val r := by omega
      _ = BB * (val r + 1) := by rw [Nat.mul_add]; omega
      _ ≤ BB * BB ^ r.length := Nat.mul_le_mul_left _ h2
      _ = BB ^ r.length * BB := Nat.mul_comm _ _
theorem Ok.take {l : List Nat} (h : Ok l) (k : Nat) : Ok (l.take k) := fun u hu => h u (List.mem_of_mem_take hu)
theorem Ok.drop {l : List Nat} (h : Ok l) (k : Nat) : Ok (l.drop k) := fun u hu => h u (List.mem_of_mem_drop hu)
theorem Ok.append {l r : List Nat} (h : Ok l) (k : Ok r) : Ok (l ++ r) := fun u hu => by
  rcases List.mem_append.1 hu with h' | h'
  · exact h u h'
  · exact k u h'
theorem Ok.nil : Ok [] := fun _ h => by cases h
theorem Ok.one {x : Nat} (h : x < 4294967296) : Ok [x] := fun u hu => by simp at hu; omega
theorem Ok.cons {x : Nat} {l : List Nat} (h : x < 4294967296) (k : Ok l) : Ok (x :: l) := fun u hu => by
  rcases List.mem_cons.1 hu with rfl | h'
  · exact h
  · exact k u h'
theorem Ok.get {l : List Nat} (h : Ok l) (k : Nat) : gw l k < 4294967296 := by
  rw [gw_eq, List.getD_eq_getElem?_getD]
  rcases Nat.lt_or_ge k l.length with hk | hk
  · rw [List.getElem?_eq_getElem hk]; exact h _ (List.getElem_mem hk)
  · rw [List.getElem?_eq_none hk]; decide
theorem Ok.set {l : List Nat} (h : Ok l) (k x : Nat) (hx : x < 4294967296) : Ok (l.set k x) := fun u hu => by
  rcases List.mem_or_eq_of_mem_set hu with h' | h'
  · exact h u h'
  · omega

theorem tl_le (l : List Nat) : tl l ≤ l.length := by
  induction l with
  | nil => simp [tl]
  | cons x r ih => simp only [tl, List.length_cons]; split <;> (try split) <;> omega
theorem tl_snoc (l : List Nat) (x : Nat) : tl (l ++ [x]) = if x = 0 then tl l else l.length + 1 := by
  induction l with
  | nil => simp [tl]
  | cons y r ih =>
    simp only [List.cons_append, tl, ih, List.length_cons]
    by_cases hx : x = 0
    · simp [hx]
    · simp [hx]
/-- the step of the loop that looks for the last word that is not zero -/
theorem tl_take_zero (l : List Nat) (k : Nat) (h : k < l.length) (h0 : gw l k = 0) : tl (l.take (k + 1)) = tl (l.take k) := by
  rw [List.take_succ_eq_append_getElem h, tl_snoc]
  have : l[k] = 0 := by simpa [gw, List.getD_eq_getElem?_getD, h] using h0
  simp [this]
theorem tl_take_pos (l : List Nat) (k : Nat) (h : k < l.length) (h0 : gw l k ≠ 0) : tl (l.take (k + 1)) = k + 1 := by
  rw [List.take_succ_eq_append_getElem h, tl_snoc]
  have : l[k] ≠ 0 := by simpa [gw, List.getD_eq_getElem?_getD, h] using h0
  simp [this, Nat.min_eq_left (Nat.le_of_lt h)]
theorem tl_idem (l : List Nat) : tl (l.take (tl l)) = tl l := by
  induction l with
  | nil => simp [tl]
  | cons x r ih =>
    simp only [tl]
    by_cases h : tl r = 0
    · by_cases hx : x = 0 <;> simp [h, hx, tl]
    · simp [h, tl, ih]
theorem clean_take (l : List Nat) : Clean (l.take (tl l)) := by
  unfold Clean
  rw [tl_idem, List.length_take, Nat.min_eq_left (tl_le l)]
theorem clean_nil : Clean [] := rfl
theorem clean_snoc (l : List Nat) (x : Nat) (h : x ≠ 0) : Clean (l ++ [x]) := by unfold Clean; rw [tl_snoc]; simp [h]
theorem val_of_tl_zero (l : List Nat) (h : tl l = 0) : val l = 0 := by
  induction l with
  | nil => rfl
  | cons x r ih =>
    simp only [tl] at h
    split at h
    · split at h
      · rename_i h1 h2; simp [val, ih h1, h2]
      · cases h
    · omega
theorem val_take_tl (l : List Nat) : val (l.take (tl l)) = val l := by
  induction l with
  | nil => simp [tl]
  | cons x r ih =>
    simp only [tl]
    by_cases h : tl r = 0
    · have := val_of_tl_zero r h
      by_cases hx : x = 0 <;> simp [h, hx, val, this]
    · simp [h, val, ih]
/-- the greatest word of a clean list is not zero -/
theorem clean_last {l : List Nat} (h : Clean l) (k : Nat) (hk : l.length = k + 1) : gw l k ≠ 0 := by
  intro h0
  have h1 := tl_take_zero l k (by omega) h0
  rw [List.take_of_length_le (by omega)] at h1
  have h2 := tl_le (l.take k)
  have : (l.take k).length = k := by simp; omega
  unfold Clean at h
  omega
theorem clean_of_last {l : List Nat} (k : Nat) (hk : l.length = k + 1) (h : gw l k ≠ 0) : Clean l := by
  have h1 := tl_take_pos l k (by omega) h
  rw [List.take_of_length_le (by omega)] at h1
  unfold Clean
  omega
theorem clean_ge {l : List Nat} (h : Clean l) (k : Nat) (hk : l.length = k + 1) : BB ^ k ≤ val l := by
  have h1 := clean_last h k hk
  have h2 := val_split l k (by omega)
  rw [val_drop l k (by omega)] at h2
  have h3 : BB ^ k * 1 ≤ BB ^ k * (gw l k + BB * val (l.drop (k + 1))) := Nat.mul_le_mul_left _ (by omega)
  omega
/-- a bound on the worth bounds the length -/
theorem clean_len {l : List Nat} (h : Clean l) (k : Nat) (hv : val l < BB ^ k) : l.length ≤ k := by
  apply Nat.le_of_not_lt
  intro hk
  have h1 := clean_ge h (l.length - 1) (by omega)
  have h2 : BB ^ k ≤ BB ^ (l.length - 1) := Nat.pow_le_pow_right BB_pos (by omega)
  omega
theorem val_pos {l : List Nat} (h : Clean l) (hl : 0 < l.length) : 0 < val l := by
  have h1 := clean_ge h (l.length - 1) (by omega)
  have h2 : 0 < BB ^ (l.length - 1) := Nat.pow_pos BB_pos
  omega
theorem clean_tail {x : Nat} {r : List Nat} (h : Clean (x :: r)) : Clean r := by
  unfold Clean at h ⊢
  simp only [tl, List.length_cons] at h
  have := tl_le r
  split at h
  · split at h <;> omega
  · omega
/-- EQUAL WORTH, EQUAL LISTS -/
theorem val_inj {a b : List Nat} (ha : Ok a) (hb : Ok b) (ca : Clean a) (cb : Clean b) (h : val a = val b) : a = b := by
  induction a generalizing b with
  | nil =>
    cases b with
    | nil => rfl
    | cons y s => have := val_pos cb (by simp); simp [val] at h this; omega
  | cons x r ih =>
    cases b with
    | nil => have := val_pos ca (by simp); simp [val] at h this; omega
    | cons y s =>
      have hx : x < BB := ha x (by simp)
      have hy : y < BB := hb y (by simp)
      simp only [val] at h
      have hxy : x = y := by
        have h1 : (x + BB * val r) % BB = (y + BB * val s) % BB := by rw [h]
        rw [Nat.add_mul_mod_self_left, Nat.add_mul_mod_self_left, Nat.mod_eq_of_lt hx, Nat.mod_eq_of_lt hy] at h1
        exact h1
      subst hxy
      have h2 : val r = val s := Nat.eq_of_mul_eq_mul_left BB_pos (by omega)
      rw [ih (fun u hu => ha u (by simp [hu])) (fun u hu => hb u (by simp [hu])) (clean_tail ca) (clean_tail cb) h2]
/-- the longer clean list is worth more -/
theorem val_lt_of_len {a b : List Nat} (ha : Ok a) (cb : Clean b) (h : a.length < b.length) : val a < val b := by
  have h1 := val_lt ha
  have h2 := clean_ge cb (b.length - 1) (by omega)
  have h3 : BB ^ a.length ≤ BB ^ (b.length - 1) := Nat.pow_le_pow_right BB_pos (by omega)
  omega
/-- the first word from the top that differs decides -/
theorem val_lt_of_word {a b : List Nat} (ha : Ok a) (k : Nat) (hka : k < a.length) (hkb : k < b.length) (hd : val (a.drop (k + 1)) = val (b.drop (k + 1))) (hw : gw a k < gw b k) : val a < val b := by
  have h1 := val_split a k (by omega)
  have h2 := val_split b k (by omega)
  rw [val_drop a k hka] at h1
  rw [val_drop b k hkb, ← hd] at h2
  have h3 := val_lt (ha.take k)
  rw [List.length_take, Nat.min_eq_left (by omega)] at h3
  generalize val (a.drop (k + 1)) = t at *
  have h4 : BB ^ k * (gw a k + BB * t) + BB ^ k ≤ BB ^ k * (gw b k + BB * t) := by
    rw [← Nat.mul_succ]; exact Nat.mul_le_mul_left _ (by omega)
  omega
theorem getD_take {l : List Nat} {k j : Nat} (h : j < k) : gw (l.take k) j = gw l j := by
  simp [gw, List.getD_eq_getElem?_getD, h]
theorem getD_drop (l : List Nat) (k j : Nat) : gw (l.drop k) j = gw l (k + j) := by
  simp [gw, List.getD_eq_getElem?_getD, List.getElem?_drop]
theorem getD_ge {l : List Nat} {k : Nat} (h : l.length ≤ k) : gw l k = 0 := by
  simp [gw, List.getD_eq_getElem?_getD, List.getElem?_eq_none h]
/-- a list that is as long as it has to be, worth what one shorter is worth: zeros above -/
theorem tl_len_of_lt {l : List Nat} (k : Nat) (hv : val l < BB ^ k) : tl l ≤ k := by
  have h1 := clean_len (clean_take l) k (by rw [val_take_tl]; exact hv)
  rwa [List.length_take, Nat.min_eq_left (tl_le l)] at h1
theorem val_take_succ_any (l : List Nat) (k : Nat) : val (l.take (k + 1)) = val (l.take k) + BB ^ k * gw l k := by
  rcases Nat.lt_or_ge k l.length with h | h
  · exact val_take_succ l k h
  · rw [List.take_of_length_le (by omega), List.take_of_length_le h, getD_ge h]; simp
theorem set_take_succ (l : List Nat) (k x : Nat) (h : k < l.length) : val ((l.set k x).take (k + 1)) = val (l.take k) + BB ^ k * x := by
  rw [val_take_succ _ _ (by rw [List.length_set]; exact h)]
  have h1 : (l.set k x).take k = l.take k := by
    apply List.ext_getElem?
    intro j
    rw [List.getElem?_take, List.getElem?_take, List.getElem?_set]
    by_cases h : j < k
    · rw [if_pos h, if_pos h, if_neg (by omega)]
    · rw [if_neg h, if_neg h]
  have h2 : gw (l.set k x) k = x := by
    unfold gw; rw [List.getD_eq_getElem?_getD, List.getElem?_set]; simp [h]
  rw [h1, h2]
/-- what is cut off at a place from which on there are only zeros -/
theorem val_take_ge (l : List Nat) (k : Nat) (h : tl l ≤ k) : val (l.take k) = val l := by
  rcases Nat.lt_or_ge k l.length with hk | hk
  · have h1 := val_split l k (by omega)
    have h2 := val_split (l.take k) (tl l) (by rw [List.length_take]; omega)
    rw [List.take_take, Nat.min_eq_left h, val_take_tl] at h2
    omega
  · rw [List.take_of_length_le hk]
theorem val_replicate (n : Nat) : val (List.replicate n 0) = 0 := by
  induction n with
  | zero => rfl
  | succ n ih => simp [List.replicate_succ, val, ih]
end Num
end Go.Proofs.Ytkpeliokhmigoaa
