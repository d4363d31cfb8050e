/-
  Division by one word, in place.
-/
import Derived.Test.YtkpeliokhmigoaaCmp
namespace Go.Proofs.Ytkpeliokhmigoaa
open Go.RowKit
set_option linter.unusedVariables false
namespace Num
/-- the words of the quotient by d, from the top down to word k, the rest of which is r: what the cells hold -/
theorem or64' (x y : Nat) (hx : x < 4294967296) (hy : y < 4294967296) : bits .or .u64 ((x : Int) * 4294967296) (y : Int) = ((x * 4294967296 + y : Nat) : Int) := by
  rw [or64 x y hx hy]; omega

/-- what the call leaves in the cells: the quotient, and what it returns: the rest -/
def DivPost (w : World) (g : Nat) (cur : Array Value) (o : Nat) (xs : List Nat) (d : Nat) (e : Ending) (w' : World) : Prop :=
  ∃ cur' ys, e = .returned (.int .u32 ((val xs % d : Nat) : Int)) ∧ Own w' g 53 cur' ∧ Has cur' o ys ∧ ys.length = xs.length ∧ val ys = val xs / d ∧ Same cur cur' o xs.length ∧ Only g w w'

theorem divw_lt (t x q : Nat) (ht : t < q) (hx : x < 4294967296) : (t * 4294967296 + x) / q < 4294967296 := by
  apply Nat.div_lt_of_lt_mul
  have : (t + 1) * 4294967296 ≤ q * 4294967296 := Nat.mul_le_mul_right _ ht
  omega
theorem divw_eq (t x q v : Nat) : x + BB * (q * v + t) = q * ((t * 4294967296 + x) / q + BB * v) + (t * 4294967296 + x) % q := by
  have h := Nat.div_add_mod (t * 4294967296 + x) q
  rw [Nat.mul_add q, Nat.mul_add BB, show q * (BB * v) = BB * (q * v) from by rw [← Nat.mul_assoc, ← Nat.mul_assoc, Nat.mul_comm q BB]]
  simp only [BB] at *
  omega
theorem take_set_same (l : List Nat) (k x : Nat) : (l.set k x).take k = l.take k := by
  apply List.ext_getElem?
  intro j
  rw [List.getElem?_take, List.getElem?_take, List.getElem?_set]
  by_cases h : j < k
  · rw [if_pos h, if_pos h, if_neg (by omega)]
  · rw [if_neg h, if_neg h]
theorem drop_set_same (l : List Nat) (k x : Nat) : (l.set k x).drop (k + 1) = l.drop (k + 1) := by
  apply List.ext_getElem?
  intro j
  rw [List.getElem?_drop, List.getElem?_drop, List.getElem?_set, if_neg (by omega)]
set_option maxHeartbeats 800000 in
theorem divw_any (w : World) (g o n c : Nat) (cur : Array Value) (xs : List Nat) (d : Int) (hown : Own w g 53 cur) (hh : Has cur o xs) (hn : xs.length = n) (hc : n ≤ c) (hm : n ≤ 1000000000) (hp : 0 < n) (d0 : 0 < d) (d1 : d ≤ 4294967295) :
    Calls Try.prog 94 #[.slice (some ⟨g, o, none⟩) n c, .int .u32 d] w (DivPost w g cur o xs d.toNat) := by
  obtain ⟨q, rfl⟩ := Int.eq_ofNat_of_zero_le (Int.le_of_lt d0)
  rw [Int.toNat_natCast]
  have HN := Lib.hid hn
  clear hn
  go_enter Try.func94, Try.ntmps94
  go_wp2
  go_loopw [5, 6] (fun r i wr => ∃ (k t : Nat) (cur' : Array Value) (zs : List Nat), k ≤ n ∧ i = .int .i64 ((k : Int) - 1) ∧ r = .int .u64 (t : Int) ∧ t < q ∧ Own wr g 53 cur' ∧ Has cur' o zs ∧ zs.length = n ∧ zs.take k = xs.take k ∧ val (xs.drop k) = q * val (zs.drop k) + t ∧ Same cur cur' o n ∧ Only g w wr) (fun _ i _ => (intOf i + 1).toNat)
  case atStart => exact ⟨n, 0, cur, xs, Nat.le_refl _, rfl, rfl, by omega, hown, hh, HN.out, rfl, by rw [List.drop_of_length_le (by rw [HN.out]; omega)]; rfl, Same.refl _ _ _, Only.refl _ _⟩
  case round =>
    obtain ⟨k, t, cur', zs, hk, rfl, rfl, ht, hown', hh', hl', htk, hdk, hsame, honly⟩ := hrel
    have H1 := Lib.hid hl'
    have H2 := Lib.hid htk
    have H3 := Lib.hid hdk
    have H4 := Lib.hid hown'
    clear hl' htk hdk hown' hown hh
    rcases k with _ | k
    · go_wp2
      go_ret
      have h3 := H3.out
      simp only [List.drop_zero] at h3
      refine ⟨cur', zs, ret_int (by rw [h3, Nat.mul_add_mod, Nat.mod_eq_of_lt ht]), H4.out, hh', by rw [H1.out, HN.out], ?_, by rw [HN.out]; exact hsame, honly⟩
      rw [h3, Nat.mul_add_div (by omega), Nat.div_eq_of_lt ht]; rfl
    · have hw := hh'.get k (by rw [H1.out]; omega)
      have hw2 := hh'.ok.get k
      have hcell : wr.cell? ⟨g, o + k, none⟩ = some (.int .u32 ((gw zs k : Nat) : Int)) := (H4.out.cell _).trans hw
      have hfroz : wr.frozen? ⟨g, o + k, none⟩ = false := H4.out.frozen _
      clear hw
      rw [show ((k + 1 : Nat) : Int) - 1 = (k : Int) from by omega]
      have hor := or64' t (gw zs k) (by omega) hw2
      go_wp2
      have e1 : ((t : Int) * 4294967296 + (gw zs k : Int)) / (q : Int) % 4294967296 = (((t * 4294967296 + gw zs k) / q : Nat) : Int) := by
        have h := divw_lt t (gw zs k) q ht hw2
        rw [show ((t : Int) * 4294967296 + (gw zs k : Int)) / (q : Int) = (((t * 4294967296 + gw zs k) / q : Nat) : Int) from by rw [Int.natCast_ediv, Int.natCast_add, Int.natCast_mul]; rfl]
        exact Int.emod_eq_of_lt (Int.natCast_nonneg _) (Int.ofNat_lt.2 h)
      have e2 : ((t : Int) * 4294967296 + (gw zs k : Int)) % (q : Int) = (((t * 4294967296 + gw zs k) % q : Nat) : Int) := by rw [Int.natCast_emod, Int.natCast_add, Int.natCast_mul]; rfl
      rw [e1, e2]
      refine ⟨⟨k, _, _, _, by omega, rfl, rfl, Nat.mod_lt _ (by omega), H4.out.set_ _ _, hh'.set_ (by rw [H1.out]; omega) (divw_lt t (gw zs k) q ht hw2), by rw [List.length_set, H1.out], ?_, ?_, hsame.set_ (by omega) _, honly.set_ _ _⟩, by simp [intOf]⟩
      · have := congrArg (List.take k) H2.out
        rw [List.take_take, List.take_take, Nat.min_eq_left (by omega)] at this
        rw [take_set_same, this]
      · have hg : gw xs k = gw zs k := by
          rw [← getD_take (l := xs) (k := k + 1) (j := k) (by omega), ← H2.out, getD_take (by omega)]
        rw [val_drop xs k (by rw [HN.out]; omega), H3.out, hg, val_drop (zs.set k _) k (by rw [List.length_set, H1.out]; omega), gw_set zs k k _ (by rw [H1.out]; omega), if_pos rfl, drop_set_same]
        exact divw_eq _ _ _ _ 
end Num
end Go.Proofs.Ytkpeliokhmigoaa
