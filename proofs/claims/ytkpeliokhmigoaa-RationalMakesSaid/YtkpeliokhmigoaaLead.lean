/-
  Plain arithmetic of long division: the leading words of a part and of the divisor.
-/
import Derived.Test.YtkpeliokhmigoaaKnuth
namespace Go.Proofs.Ytkpeliokhmigoaa
set_option linter.unusedVariables false
namespace Num
theorem val_top2 (l : List Nat) (h : Ok l) (m : Nat) (hl : l.length = m + 2) : ∃ low, low < BB ^ m ∧ val l = (gw l (m + 1) * BB + gw l m) * BB ^ m + low := by
  refine ⟨val (l.take m), by have := val_lt (h.take m); rwa [List.length_take, Nat.min_eq_left (by omega)] at this, ?_⟩
  rw [val_split l m (by omega), val_drop l m (by omega), val_drop l (m + 1) (by omega), List.drop_of_length_le (by omega)]
  simp only [val, Nat.mul_zero, Nat.add_zero]
  rw [Nat.mul_comm (BB ^ m), Nat.mul_comm BB, Nat.add_comm (gw l m)]
  omega
theorem val_top3 (l : List Nat) (h : Ok l) (m : Nat) (hl : l.length = m + 3) : ∃ low, low < BB ^ m ∧ val l = ((gw l (m + 2) * BB + gw l (m + 1)) * BB + gw l m) * BB ^ m + low := by
  refine ⟨val (l.take m), by have := val_lt (h.take m); rwa [List.length_take, Nat.min_eq_left (by omega)] at this, ?_⟩
  rw [val_split l m (by omega), val_drop l m (by omega), val_drop l (m + 1) (by omega), val_drop l (m + 2) (by omega), List.drop_of_length_le (by omega)]
  simp only [val, Nat.mul_zero, Nat.add_zero]
  rw [Nat.mul_comm (BB ^ m), Nat.mul_comm BB, Nat.mul_comm BB, Nat.add_comm (gw l (m + 1)), Nat.add_comm (gw l m)]
  omega
/-- what is known of a part U and the divisor V by their leading words -/
structure Lead (U V p0 p1 p2 q1 q2 P B : Nat) : Prop where
  pos : 0 < V
  lt : U < V * B
  pP : 0 < P
  v1 : (q1 * B + q2) * P ≤ V
  v2 : V < (q1 * B + q2 + 1) * P
  u1 : ((p0 * B + p1) * B + p2) * P ≤ U
  u2 : U < ((p0 * B + p1) * B + p2 + 1) * P
theorem lead_first {U V p0 p1 p2 q1 q2 P B : Nat} (h : Lead U V p0 p1 p2 q1 q2 P B) (hB : 0 < B) (hp2 : p2 < B) (hq1 : 0 < q1) : U / V ≤ (p0 * B + p1) / q1 := by
  refine est_first U V (U / V) (p0 * B + p1) q1 (B * P) (Nat.div_mul_le_self _ _) ?_ ?_ hq1
  · have := h.v1
    rw [Nat.add_mul, Nat.mul_assoc] at this
    exact Nat.le_trans (Nat.le_add_right _ _) this
  · have h1 := h.u2
    have h2 : ((p0 * B + p1) * B + p2 + 1) * P ≤ ((p0 * B + p1 + 1) * B) * P := Nat.mul_le_mul_right _ (by rw [Nat.add_mul (p0 * B + p1) 1]; omega)
    rw [Nat.mul_assoc] at h2
    omega
theorem lead_lt {U V p0 p1 p2 q1 q2 P B : Nat} (h : Lead U V p0 p1 p2 q1 q2 P B) : U / V < B := Nat.div_lt_of_lt_mul h.lt
theorem lead_step {U V p0 p1 p2 q1 q2 P B d r : Nat} (h : Lead U V p0 p1 p2 q1 q2 P B) (hd : U / V ≤ d) (ht : d * q1 + r = p0 * B + p1) (hc : r * B + p2 < d * q2) : U / V + 1 ≤ d :=
  est_step U V (U / V) d q1 q2 ((p0 * B + p1) * B + p2) P B r p2 (Nat.div_mul_le_self _ _) h.v1 h.u2 (by rw [ht]) hc hd
theorem lead_end1 {U V p0 p1 p2 q1 q2 P B d r : Nat} (h : Lead U V p0 p1 p2 q1 q2 P B) (hq1 : 0 < q1) (hd : U / V ≤ d) (hdB : d < B) (ht : d * q1 + r = p0 * B + p1) (hc : d * q2 ≤ r * B + p2) : IsEst U V d := by
  refine isEst_of h.pos hd (est_end1 U V d q1 q2 ((p0 * B + p1) * B + p2) P B r p2 h.v2 ?_ hq1 h.u1 (by rw [ht]) hc hdB)
  have := h.v1
  rw [Nat.add_mul] at this
  omega
theorem lead_end2 {U V p0 p1 p2 q1 q2 P B d r : Nat} (h : Lead U V p0 p1 p2 q1 q2 P B) (hB : 0 < B) (hq2 : q2 < B) (hd : U / V ≤ d) (hdB : d < B) (ht : d * q1 + r = p0 * B + p1) (hr : B ≤ r) : IsEst U V d := by
  have hpos := h.pos
  refine isEst_of hpos hd (Nat.lt_of_le_of_lt (est_end2 U V d q1 (p0 * B + p1) (B * P) B r ?_ (Nat.mul_pos hB h.pP) ?_ ht.symm hr hdB) (by omega))
  · have h1 := h.v2
    have h2 : (q1 * B + q2 + 1) * P ≤ ((q1 + 1) * B) * P := Nat.mul_le_mul_right _ (by rw [Nat.add_mul q1 1]; omega)
    rw [Nat.mul_assoc] at h2
    omega
  · have := h.u1
    rw [Nat.add_mul, Nat.mul_assoc] at this
    omega
theorem lead_of (us vs : List Nat) (hu : Ok us) (hv : Ok vs) (m : Nat) (l1 : us.length = m + 3) (l2 : vs.length = m + 2) (htop : 0 < gw vs (m + 1)) (hlt : val us < val vs * BB) :
    Lead (val us) (val vs) (gw us (m + 2)) (gw us (m + 1)) (gw us m) (gw vs (m + 1)) (gw vs m) (BB ^ m) BB := by
  obtain ⟨a, ha, e1⟩ := val_top3 us hu m l1
  obtain ⟨b, hb, e2⟩ := val_top2 vs hv m l2
  have hP : 0 < BB ^ m := Nat.pow_pos BB_pos
  refine ⟨?_, hlt, hP, by rw [e2]; omega, by rw [e2, Nat.add_mul _ 1]; omega, by rw [e1]; omega, by rw [e1, Nat.add_mul _ 1]; omega⟩
  rw [e2]
  have : 0 < (gw vs (m + 1) * BB + gw vs m) * BB ^ m := Nat.mul_pos (by have : 0 < gw vs (m + 1) * BB := Nat.mul_pos htop BB_pos
                                                                        omega) hP
  omega
end Num
end Go.Proofs.Ytkpeliokhmigoaa
