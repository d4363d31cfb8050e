/-
  Products: addMultiple, Mul.
-/
import Derived.Test.YtkpeliokhmigoaaBits
namespace Go.Proofs.Ytkpeliokhmigoaa
open Go.RowKit
set_option linter.unusedVariables false
namespace Num
/-- what addMultiple leaves -/
def AddmPost (w : World) (g : Nat) (cur : Array Value) (o : Nat) (ss : List Nat) (m V : Nat) (e : Ending) (w' : World) : Prop :=
  ∃ (t : Nat) (cur' : Array Value) (rs : List Nat), e = .returned (.int .u32 (t : Int)) ∧ t < 4294967296 ∧ Own w' g 53 cur' ∧ Has cur' o rs ∧ rs.length = ss.length ∧ rs.drop m = ss.drop m ∧ val (rs.take m) + BB ^ m * t = val (ss.take m) + V ∧ Same cur cur' o m ∧ Only g w w'
theorem mul_bound (x q : Nat) (hx : x < 4294967296) (hq : q < 4294967296) : x * q ≤ 18446744065119617025 := by
  have : x * q ≤ 4294967295 * 4294967295 := Nat.mul_le_mul (by omega) (by omega)
  omega
theorem mul_wrap (x q : Nat) (hx : x < 4294967296) (hq : q < 4294967296) : IntKind.u64.wrap ((x : Int) * (q : Int)) = ((x * q : Nat) : Int) := by
  have := mul_bound x q hx hq
  rw [← Int.natCast_mul]
  exact IntWalk.u64_in _ (by omega)
theorem addm_step (P u v S V x q t : Nat) (h : u + P * t = v + V) : u + P * ((t + (x * q + S)) % 4294967296) + P * BB * ((t + (x * q + S)) / 4294967296) = v + P * S + (V + P * x * q) := by
  have h1 := Nat.div_add_mod (t + (x * q + S)) 4294967296
  have h2 : P * ((t + (x * q + S)) % 4294967296) + P * BB * ((t + (x * q + S)) / 4294967296) = P * (t + (x * q + S)) := by
    rw [Nat.mul_assoc, ← Nat.mul_add]; congr 1; simp only [BB]; omega
  rw [Nat.mul_add, Nat.mul_add, ← Nat.mul_assoc] at h2
  omega
set_option maxHeartbeats 1000000 in
theorem addm_any (w : World) (g o n c m ca : Nat) (cur : Array Value) (ss : List Nat) (A : Option Addr) (fs : List Nat) (d : Int) (hown : Own w g 53 cur) (hh : Has cur o ss) (hn : ss.length = n) (hc : n ≤ c) (hm : n ≤ 1000000000) (ha : Rd w A m ca fs) (hne : m ≠ 0 → ∀ ad, A = some ad → ad.block ≠ g) (hmn : m ≤ n) (d0 : 0 ≤ d) (d1 : d ≤ 4294967295) :
    Calls Try.prog 115 #[.slice (some ⟨g, o, none⟩) n c, .slice A m ca, .int .u32 d] w (AddmPost w g cur o ss m (val fs * d.toNat)) := by
  obtain ⟨q, rfl⟩ := Int.eq_ofNat_of_zero_le d0
  rw [Int.toNat_natCast]
  have HN := Lib.hid hn
  have HO := Lib.hid hown
  have HE := Lib.hid hne
  clear hn hown hne
  go_enter Try.func115, Try.ntmps115
  go_wp2
  go_loopw [7, 12] (fun r i wr => ∃ (k t : Nat) (cur' : Array Value) (rs : List Nat), k ≤ m ∧ i = .int .i64 (k : Int) ∧ r = .int .u64 (t : Int) ∧ t < 4294967296 ∧ Own wr g 53 cur' ∧ Has cur' o rs ∧ rs.length = n ∧ rs.drop k = ss.drop k ∧ val (rs.take k) + BB ^ k * t = val (ss.take k) + val (fs.take k) * q ∧ Same cur cur' o m ∧ Only g w wr) (fun _ i _ => m - (intOf i).toNat)
  case atStart => exact ⟨0, 0, cur, ss, by omega, rfl, rfl, by decide, HO.out, hh, HN.out, rfl, by simp [val], Same.refl _ _ _, Only.refl _ _⟩
  case round =>
    obtain ⟨k, t, cur', rs, hk, rfl, rfl, ht, hown', hh', hl', hdk, hvk, hsame, honly⟩ := hrel
    have H1 := Lib.hid hl'
    have H2 := Lib.hid hdk
    have H3 := Lib.hid hvk
    have H4 := Lib.hid hown'
    clear hl' hdk hvk hown'
    by_cases hlt : k < m
    · obtain ⟨ad, rfl, hb, hca⟩ := (ha.only honly (HE.out (by omega))).at_ k hlt
      have hx := ha.ok.get k
      have hs := hh'.ok.get k
      have hw := hh'.get k (by rw [H1.out]; omega)
      have hcell : wr.cell? ⟨g, o + k, none⟩ = some (.int .u32 ((gw rs k : Nat) : Int)) := (H4.out.cell _).trans hw
      have hfroz : wr.frozen? ⟨g, o + k, none⟩ = false := H4.out.frozen _
      clear hw
      have hmb := mul_bound (gw fs k) q hx (by omega)
      have HM := Lib.hid (mul_wrap (gw fs k) q hx (by omega))
      have hkn : k < n := by omega
      have HX : Hid (rs = rs) := rfl
      go_wp2
      have e1 : ((t : Int) + ((gw fs k : Int) * (q : Int) + (gw rs k : Int))) / 4294967296 = (((t + (gw fs k * q + gw rs k)) / 4294967296 : Nat) : Int) := by
        rw [Int.natCast_ediv, Int.natCast_add, Int.natCast_add, Int.natCast_mul]; rfl
      have e2 : ((t : Int) + ((gw fs k : Int) * (q : Int) + (gw rs k : Int))) % 4294967296 = (((t + (gw fs k * q + gw rs k)) % 4294967296 : Nat) : Int) := by
        rw [Int.natCast_emod, Int.natCast_add, Int.natCast_add, Int.natCast_mul]; rfl
      rw [e1, e2]
      have hdd := H2.out
      have hgs : gw ss k = gw rs k := by
        have h1 := getD_drop ss k 0
        have h2 := getD_drop rs k 0
        rw [← hdd] at h1
        rw [Nat.add_zero] at h1 h2
        omega
      refine ⟨⟨k + 1, _, _, _, by omega, by go_num, rfl, by omega, H4.out.set_ _ _, hh'.set_ (by rw [H1.out]; omega) (Nat.mod_lt _ (by decide)), by rw [List.length_set, H1.out], ?_, ?_, hsame.set_ hlt _, honly.set_ _ _⟩, by simp [intOf]; omega⟩
      · rw [drop_set_same, ← List.drop_drop, ← List.drop_drop, hdd]
      · rw [set_take_succ _ _ _ (by rw [H1.out]; omega), val_take_succ_any ss, val_take_succ_any fs, hgs, Nat.pow_succ, Nat.add_mul]
        exact addm_step _ _ _ _ _ _ _ _ H3.out
    · obtain rfl : k = m := by omega
      go_wp2
      go_ret
      refine ⟨t, cur', rs, rfl, ht, H4.out, hh', by rw [H1.out, HN.out], H2.out, ?_, hsame, honly⟩
      rw [H3.out, List.take_of_length_le (Nat.le_of_eq ha.len)]
theorem nm_rd {w : World} {A : Option Addr} {n c v L : Nat} (h : Nm w A n c v L) : ∃ xs, Rd w A n c xs ∧ Clean xs ∧ val xs = v ∧ n ≤ L := h
theorem mul_step (ps rs : List Nat) (k m t X y : Nat) (hl : rs.length = ps.length) (hb : k + m < ps.length) (htk : rs.take k = ps.take k) (h : val ((rs.drop k).take m) + BB ^ m * t = val ((ps.drop k).take m) + y) (hz : val (ps.take (k + m)) = X) :
    val ((rs.set (k + m) t).take (k + m + 1)) = X + BB ^ k * y := by
  rw [set_take_succ _ _ _ (by omega), ← hz]
  have e1 := val_split (rs.take (k + m)) k (by rw [List.length_take]; omega)
  have e2 := val_split (ps.take (k + m)) k (by rw [List.length_take]; omega)
  rw [List.take_take, Nat.min_eq_left (by omega), List.drop_take, Nat.add_sub_cancel_left] at e1 e2
  rw [e1, e2, htk, Nat.pow_add]
  have := congrArg (BB ^ k * ·) h
  simp only [Nat.mul_add, ← Nat.mul_assoc] at this
  omega
set_option maxHeartbeats 1000000 in
/-- Mul -/
theorem mul_any (w : World) (A A' : Option Addr) (n c n' c' L L' : Nat) (xs ys : List Nat) (h : Rd w A n c xs) (k : Rd w A' n' c' ys) (h1 : tl xs ≤ L) (h2 : tl ys ≤ L') (hL : L ≤ 100000000) (hL' : L' ≤ 100000000) :
    Calls Try.prog 91 #[.slice A n c, .slice A' n' c'] w (Gives w (val xs * val ys) (L + L')) := by
  have T := h.take (k := tl xs) (by rw [← h.len]; exact tl_le xs)
  have T' := k.take (k := tl ys) (by rw [← k.len]; exact tl_le ys)
  rw [← val_take_tl xs, ← val_take_tl ys]
  generalize xs.take (tl xs) = zs at *
  generalize ys.take (tl ys) = us at *
  go_enter Try.func91, Try.ntmps91
  go_wp2_with fail
  refine (trim_any _ _ _ _ _ h).mono ?_
  rintro e w' ⟨rfl, rfl⟩
  go_wp2_with fail
  refine (trim_any _ _ _ _ _ k).mono ?_
  rintro e w' ⟨rfl, rfl⟩
  clear h k
  generalize tl xs = m at *
  generalize tl ys = m' at *
  clear xs ys
  have hmk := run_mk (m + m') (by omega) w
  rw [show ((m + m' : Nat) : Int) = (m : Int) + (m' : Int) from by omega] at hmk
  go_wp2
  go_loopw [20] (fun i wr => ∃ (k : Nat) (cur : Array Value) (ps : List Nat), k ≤ m ∧ i = .int .i64 (k : Int) ∧ Own wr w.heap.size 53 cur ∧ Has cur 0 ps ∧ ps.length = m + m' ∧ val (ps.take (k + m')) = val (zs.take k) * val us ∧ On w wr) (fun i _ => m - (intOf i).toNat)
  case atStart => exact ⟨0, _, _, by omega, rfl, Own.new _ _ _, has_made _, by simp, by rw [List.take_replicate, val_replicate]; simp [val], (On.refl w).alloc _⟩
  case round =>
    obtain ⟨k, cur, ps, hk, rfl, hown, hh, hl, hv, hon⟩ := hrel
    have H1 := Lib.hid hl
    have H2 := Lib.hid hv
    have H3 := Lib.hid hown
    clear hl hv hown
    by_cases hlt : k < m
    · obtain ⟨ad, rfl, hb, hc⟩ := (T.on hon).at_ k hlt
      have hz := T.ok.get k
      have hpart := hh.part (i := k) (n := m + m' - k) (by rw [H1.out]; omega)
      have hpl : ((ps.drop k).take (m + m' - k)).length = m + m' - k := by rw [List.length_take, List.length_drop, H1.out]; omega
      have HPL := Lib.hid hpl
      clear hpl
      have hne : m' ≠ 0 → ∀ ad', A' = some ad' → ad'.block ≠ w.heap.size := by
        intro hm0 ad' e
        obtain ⟨ad2, e2, hb2, _⟩ := T'.at_ 0 (by omega)
        rw [e] at e2; injection e2 with e2; subst e2; omega
      go_wp2_with fail
      refine (addm_any wr w.heap.size k (m + m' - k) (m + m' - k) m' c' cur _ A' us _ H3.out (by rw [Nat.zero_add] at hpart; exact hpart) HPL.out (Nat.le_refl _) (by omega) (T'.on hon) hne (by omega) (by omega) (by omega)).mono ?_
      rintro e w2 ⟨t, cur', rs, rfl, ht, ho2, hh2, hl2, _, hval, hsame, honly⟩
      rw [HPL.out] at hl2
      rw [Int.toNat_natCast] at hval
      have hj := hh.join (cur' := cur') (i := k) (n := m + m' - k) (ys := rs) (by rw [H1.out]; omega) hl2 (by rw [Nat.zero_add]; exact hh2) (by rw [Nat.zero_add]; exact hsame.wide (Nat.le_refl _) (by omega))
      rw [List.drop_of_length_le (l := ps) (by rw [H1.out]; omega), List.append_nil] at hj
      have hlk : (ps.take k).length = k := by rw [List.length_take, H1.out]; omega
      have hwl : (ps.take k ++ rs).length = m + m' := by rw [List.length_append, hlk, hl2]; omega
      have ht1 : (ps.take k ++ rs).take k = ps.take k := List.take_left' hlk
      have ht2 : (ps.take k ++ rs).drop k = rs := List.drop_left' hlk
      have hval2 : val (((ps.take k ++ rs).drop k).take m') + BB ^ m' * t = val ((ps.drop k).take m') + val us * gw zs k := by
        rw [ht2, hval, List.take_take, Nat.min_eq_left (by omega)]
      have hstep := mul_step ps (ps.take k ++ rs) k m' t (val (zs.take k) * val us) (val us * gw zs k) (by rw [hwl, H1.out]) (by rw [H1.out]; omega) ht1 hval2 H2.out
      have HS := Lib.hid hstep
      have HW := Lib.hid hwl
      have HO2 := Lib.hid ho2
      have hon2 : On w w2 := hon.only honly (Nat.le_refl _)
      clear hl2 hval hlk hwl ht1 ht2 hval2 hstep ho2 hh2 hpart
      generalize ps.take k ++ rs = ws at *
      have hcell : w2.cell? ⟨w.heap.size, k + m', none⟩ = some (.int .u32 ((gw ws (k + m') : Nat) : Int)) := (HO2.out.cell _).trans (by have := hj.get (k + m') (by rw [HW.out]; omega); rwa [Nat.zero_add] at this)
      have hfroz : w2.frozen? ⟨w.heap.size, k + m', none⟩ = false := HO2.out.frozen _
      have hA := hj.set_ (j := k + m') (x := t) (by rw [HW.out]; omega) ht
      rw [Nat.zero_add] at hA
      go_wp2
      refine ⟨⟨k + 1, _, _, by omega, by go_num, HO2.out.set_ _ _, hA, by rw [List.length_set, HW.out], ?_, hon2.setCell (Nat.le_refl _) _⟩, by simp [intOf]; omega⟩
      rw [show k + 1 + m' = k + m' + 1 from by omega, HS.out, val_take_succ_any zs, Nat.add_mul, Nat.mul_assoc, Nat.mul_comm (gw zs k)]
    · obtain rfl : k = m := by omega
      go_wp2_with fail
      have R := Rd.own (n := k + m') (c := k + m') H3.out hh H1.out (Nat.le_refl _) (by omega)
      refine (trim_any _ _ _ _ _ R).mono ?_
      rintro e w' ⟨rfl, rfl⟩
      go_wp2
      go_ret
      have hN := nm_trim R (L := L + L') (Nat.le_trans (tl_le _) (by rw [H1.out]; omega))
      have hval : val ps = val zs * val us := by
        have e1 := H2.out
        rwa [List.take_of_length_le (Nat.le_of_eq H1.out), List.take_of_length_le (Nat.le_of_eq T.len)] at e1
      rw [hval] at hN
      exact ⟨_, _, _, rfl, hN, hon⟩
end Num
end Go.Proofs.Ytkpeliokhmigoaa
