/-
  Plain arithmetic of long division: a round, and the end.
-/
import Derived.Test.YtkpeliokhmigoaaRef2
namespace Go.Proofs.Ytkpeliokhmigoaa
set_option linter.unusedVariables false
namespace Num
theorem top_part (rs : List Nat) (ok : Ok rs) (i lb V : Nat) (hlt : val (rs.drop (i + 1)) < V) (hV : V ≤ BB ^ lb) :
    val (rs.drop (i + (lb + 1))) = 0 ∧ val ((rs.drop i).take (lb + 1)) = val (rs.drop i) ∧ val (rs.drop i) < V * BB := by
  have h1 := val_drop_any rs i
  have h2 : gw rs i < BB := ok.get i
  have h3 : BB * (val (rs.drop (i + 1)) + 1) ≤ BB * V := Nat.mul_le_mul_left _ hlt
  have h4 : BB * V ≤ BB * BB ^ lb := Nat.mul_le_mul_left _ hV
  have h5 := val_split_any (rs.drop i) (lb + 1)
  rw [List.drop_drop] at h5
  have h6 : BB ^ (lb + 1) = BB * BB ^ lb := by rw [Nat.pow_succ, Nat.mul_comm]
  rw [Nat.mul_add, Nat.mul_one] at h3
  have h7 : val (rs.drop (i + (lb + 1))) = 0 := by
    rcases Nat.eq_zero_or_pos (val (rs.drop (i + (lb + 1)))) with h | h
    · exact h
    · have h8 : BB ^ (lb + 1) * 1 ≤ BB ^ (lb + 1) * val (rs.drop (i + (lb + 1))) := Nat.mul_le_mul_left _ h
      omega
  rw [h7, Nat.mul_zero, Nat.add_zero] at h5
  refine ⟨h7, h5.symm, ?_⟩
  rw [Nat.mul_comm V]
  omega
theorem dl_step (rs rs5 qs : List Nat) (i lb V U0 : Nat) (hi : i < qs.length) (hl : i + (lb + 1) ≤ rs.length) (h5 : rs5.length = lb + 1) (hV : 0 < V) (hz : val (rs.drop (i + (lb + 1))) = 0)
    (h : U0 = val (rs.take (i + 1)) + BB ^ (i + 1) * (val (rs.drop (i + 1)) + V * val (qs.drop (i + 1)))) (hv5 : val rs5 = val (rs.drop i) % V) :
    U0 = val ((rs.take i ++ rs5 ++ rs.drop (i + (lb + 1))).take i) + BB ^ i * (val ((rs.take i ++ rs5 ++ rs.drop (i + (lb + 1))).drop i) + V * val ((qs.set i (val (rs.drop i) / V)).drop i)) ∧ val ((rs.take i ++ rs5 ++ rs.drop (i + (lb + 1))).drop i) < V := by
  have hlt : (rs.take i).length = i := by rw [List.length_take]; omega
  have e1 : (rs.take i ++ rs5 ++ rs.drop (i + (lb + 1))).take i = rs.take i := by rw [List.append_assoc]; exact List.take_left' hlt
  have e2 : (rs.take i ++ rs5 ++ rs.drop (i + (lb + 1))).drop i = rs5 ++ rs.drop (i + (lb + 1)) := by rw [List.append_assoc]; exact List.drop_left' hlt
  have e3 : val (rs5 ++ rs.drop (i + (lb + 1))) = val (rs.drop i) % V := by rw [val_append, hz, Nat.mul_zero, Nat.add_zero, hv5]
  have e4 : val ((qs.set i (val (rs.drop i) / V)).drop i) = val (rs.drop i) / V + BB * val (qs.drop (i + 1)) := by
    rw [val_drop_any, gw_set _ _ _ _ hi, if_pos rfl]
    congr 2
    have : (qs.set i (val (rs.drop i) / V)).drop (i + 1) = qs.drop (i + 1) := by
      apply List.ext_getElem?
      intro j
      rw [List.getElem?_drop, List.getElem?_drop, List.getElem?_set, if_neg (by omega)]
    rw [this]
  rw [e1, e2, e3, e4]
  refine ⟨?_, Nat.mod_lt _ hV⟩
  have d := Nat.div_add_mod (val (rs.drop i)) V
  have h1 := val_drop_any rs i
  rw [h, val_take_succ_any]
  have e5 : val (rs.drop i) % V + V * (val (rs.drop i) / V + BB * val (qs.drop (i + 1))) = gw rs i + BB * (val (rs.drop (i + 1)) + V * val (qs.drop (i + 1))) := by
    rw [Nat.mul_add V, Nat.mul_add BB, ← Nat.mul_assoc V, ← Nat.mul_assoc BB V, Nat.mul_comm V BB]
    omega
  rw [e5, Nat.mul_add (BB ^ i), Nat.pow_succ, ← Nat.mul_assoc, Nat.add_assoc]
theorem dl_end (R V Q a b p : Nat) (hp : 0 < p) (hb : 0 < b) (hV : V = b * p) (h : a * p = R + V * Q) (hR : R < V) : Q = a / b ∧ R = (a % b) * p := by
  have h1 : a * p / V = Q := by rw [h, Nat.add_mul_div_left _ _ (by omega), Nat.div_eq_of_lt hR, Nat.zero_add]
  have h2 : a * p % V = R := by rw [h, Nat.add_mul_mod_self_left, Nat.mod_eq_of_lt hR]
  rw [hV] at h1 h2
  rw [Nat.mul_div_mul_right _ _ hp] at h1
  rw [Nat.mul_mod_mul_right] at h2
  exact ⟨h1.symm, h2.symm⟩
/-- the divisor shifted so that its first bit is set -/
theorem norm_div (bs : List Nat) (ok : Ok bs) (m t : Nat) (hl : bs.length = m + 1) (ht : gw bs m ≠ 0) (hs : nb (gw bs m) + t = 32) : 2 ^ (32 * (m + 1) - 1) ≤ val bs * 2 ^ t ∧ val bs * 2 ^ t < BB ^ (m + 1) := by
  have h1 := nb_val bs ok m hl ht
  have h2 := nb_lt (val bs)
  have hp : 0 < nb (gw bs m) := by unfold nb; rw [if_neg ht]; omega
  have hv0 : val bs ≠ 0 := by intro e; rw [e] at h1; simp [nb_zero] at h1; omega
  have h3 := nb_ge (val bs) hv0
  constructor
  · have : 2 ^ (32 * (m + 1) - 1) = 2 ^ (nb (val bs) - 1) * 2 ^ t := by rw [← Nat.pow_add]; congr 1; omega
    rw [this]
    exact Nat.mul_le_mul_right _ h3
  · have : BB ^ (m + 1) = 2 ^ nb (val bs) * 2 ^ t := by rw [← Nat.pow_add, show BB = 2 ^ 32 from rfl, ← Nat.pow_mul]; congr 1; omega
    rw [this]
    exact Nat.mul_lt_mul_of_pos_right h2 (Nat.pow_pos (by decide))
theorem norm_top (vs : List Nat) (ok : Ok vs) (m : Nat) (hl : vs.length = m + 1) (h : 2 ^ (32 * (m + 1) - 1) ≤ val vs) : 2147483648 ≤ gw vs m := by
  have h1 := val_split vs m (by omega)
  rw [val_drop_any, List.drop_of_length_le (by omega)] at h1
  simp only [val, Nat.mul_zero, Nat.add_zero] at h1
  have h2 := val_take_lt ok m
  have e : (2 : Nat) ^ (32 * (m + 1) - 1) = BB ^ m * 2147483648 := by
    rw [show BB = 2 ^ 32 from rfl, ← Nat.pow_mul, show (2147483648 : Nat) = 2 ^ 31 from rfl, ← Nat.pow_add]; congr 1
  rw [e] at h
  apply Nat.le_of_lt_succ
  apply Nat.lt_of_mul_lt_mul_left (a := BB ^ m)
  show BB ^ m * 2147483648 < BB ^ m * (gw vs m + 1)
  rw [Nat.mul_add, Nat.mul_one]
  omega
theorem dl_start (rs : List Nat) (okr : Ok rs) (ql m la s X Y : Nat) (h : val rs = X * 2 ^ s) (hX : X < BB ^ la) (hla : la ≤ ql + (m + 1)) (hy : BB ^ (m + 1) ≤ Y) : val (rs.drop ql) < Y * 2 ^ s := by
  rw [← val_div rs okr, h]
  apply Nat.div_lt_of_lt_mul
  have h1 : BB ^ la ≤ BB ^ ql * BB ^ (m + 1) := by rw [← Nat.pow_add]; exact Nat.pow_le_pow_right BB_pos hla
  have h2 : BB ^ ql * BB ^ (m + 1) ≤ BB ^ ql * Y := Nat.mul_le_mul_left _ hy
  rw [← Nat.mul_assoc]
  exact Nat.mul_lt_mul_of_pos_right (Nat.lt_of_lt_of_le hX (Nat.le_trans h1 h2)) (Nat.pow_pos (by decide))
theorem norm_tl (l : List Nat) (ok : Ok l) (m : Nat) (h1 : 2 ^ (32 * (m + 1) - 1) ≤ val l) (h2 : val l < BB ^ (m + 1)) : tl l = m + 1 := by
  have a := tl_len_of_lt (m + 1) h2
  rcases Nat.lt_or_ge (tl l) (m + 1) with h | h
  · exfalso
    have h3 := val_lt (ok.take (tl l))
    rw [val_take_tl, List.length_take, Nat.min_eq_left (tl_le _)] at h3
    have h4 : BB ^ tl l ≤ 2 ^ (32 * (m + 1) - 1) := by
      rw [show BB = 2 ^ 32 from rfl, ← Nat.pow_mul]
      exact Nat.pow_le_pow_right (by decide) (by omega)
    exact absurd (Nat.lt_of_lt_of_le h3 h4) (Nat.not_lt.2 h1)
  · exact Nat.le_antisymm a h
theorem norm_pos (v s k : Nat) (h : 2 ^ k ≤ v * 2 ^ s) : 0 < v := by
  rcases Nat.eq_zero_or_pos v with h0 | h0
  · rw [h0, Nat.zero_mul] at h
    exact absurd h (Nat.not_le.2 (Nat.pow_pos (by decide)))
  · exact h0
end Num
end Go.Proofs.Ytkpeliokhmigoaa
