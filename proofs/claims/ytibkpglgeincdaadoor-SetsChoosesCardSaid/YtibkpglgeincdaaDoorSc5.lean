/-
  The specification's Binomial: row by row.
-/
import Derived.Test.YtibkpglgeincdaaDoorSc4
import Derived.BigRegion
namespace Go.Proofs.YtibkpglgeincdaaDoor.Sb
open Go.RowKit
set_option linter.unusedVariables false
set_option maxRecDepth 100000
theorem row_one (w : World) (t : TypeId) (u : Value) : (w.alloc (.cells #[u] t)).ownsRow w.heap.size t 1 (.slice (some ⟨w.heap.size, 0, none⟩) 1 1) 1 [u] :=
  ⟨rfl, .inr ⟨w.heap.size, 1, #[u], rfl, Nat.le_refl _, heap_alloc_new w _, Nat.le_refl _, by unfold maxLen; omega, rfl, rfl⟩⟩
/-- the sums of neighbours -/
def sumZ (r : List Nat) : List Nat := List.zipWith (· + ·) r (r.drop 1)
theorem sumZ_len (r : List Nat) (h : 0 < r.length) : (sumZ r).length = r.length - 1 := by
  unfold sumZ
  rw [List.length_zipWith, List.length_drop]; omega
theorem sumZ_at (r : List Nat) (t : Nat) (h : t + 1 < r.length) : (sumZ r).getD t 0 = r.getD t 0 + r.getD (t + 1) 0 := by
  have h1 : t < (List.zipWith (· + ·) r (r.drop 1)).length := by rw [List.length_zipWith, List.length_drop]; omega
  show (List.zipWith (· + ·) r (r.drop 1)).getD t 0 = _
  have e : (List.zipWith (· + ·) r (r.drop 1)).getD t 0 = (List.zipWith (· + ·) r (r.drop 1))[t] := by rw [List.getD_eq_getElem?_getD, List.getElem?_eq_getElem h1]; rfl
  rw [e, List.getElem_zipWith, List.getElem_drop]
  simp [show t < r.length by omega, h, Nat.add_comm 1 t]
theorem nextRow_sum (r : List Nat) : nextRow r = 1 :: (sumZ r ++ [1]) := rfl
theorem take_snoc {r : List Nat} {t : Nat} (h : t < r.length) : r.take (t + 1) = r.take t ++ [r.getD t 0] := by
  rw [List.take_add_one, List.getElem?_eq_getElem h]; simp [h]
theorem on_grown2 {a b c : World} {blk : Option Nat} (h : On a b) (k : b.grownBy c blk) (hb : ∀ k, blk = some k → a.heap.size ≤ k) : On a c := Below.grown h k h.size hb
theorem row_blk {w : World} {base : Nat} {e : TypeId} {v : Value} {n : Nat} {xs : List Value} (h : w.ownsRow base e 1 v n xs) : ∀ k, v.ownBlock = some k → base ≤ k := by
  intro k e2
  rcases h.2 with ⟨rfl, _⟩ | ⟨g', cap, cur, rfl, hb', _⟩
  · simp [Value.ownBlock] at e2
  · simp [Value.ownBlock] at e2; omega
theorem le_alloc2 {a : Nat} {w : World} (h : a ≤ w.heap.size) (o : Obj) : a ≤ (w.alloc o).heap.size := Nat.le_trans h (by simp)
theorem bn_get (n t : Nat) : (rowP n).getD t 0 = bn n t := rfl
set_option maxHeartbeats 8000000 in
theorem rbinomial_run (w : World) (n k : Nat) (hn : n ≤ 60) (hk : k ≤ n) :
    Calls Tryd.prog 13 #[.int .i64 (n : Int), .int .i64 (k : Int)] w fun e w' => e = .returned (.tuple #[.int .i64 (bn n k : Nat), .int .i64 0]) ∧ On w w' := by
  have k1 : ¬ (k : Int) < 0 := by omega
  have k2 : ¬ (n : Int) < (k : Int) := by omega
  have n1 : ¬ (n : Int) < 0 := by omega
  have n2 : ¬ (60 : Int) < (n : Int) := by omega
  go_enter Tryd.func13, Tryd.ntmps13
  go_wp2
  clear k1 k2 n1 n2
  go_loopw [6, 24] (fun v i wr => ∃ j : Nat, j ≤ n ∧ i = .int .i64 (j : Int) ∧ (∃ A m c, v = .slice A m c ∧ Rd wr A m c (VI (ints (rowP j)))) ∧ On w wr) (fun _ i _ => n - (intOf i).toNat)
  case atStart => exact ⟨0, by omega, rfl, ⟨_, _, _, rfl, rd_one _ _ _⟩, (On.refl w).alloc _⟩
  case round =>
    obtain ⟨j, hj, rfl, ⟨A, m, c, rfl, hR⟩, hon⟩ := hrel
    obtain ⟨wo, hwo⟩ : ∃ wo, wo = wr := ⟨_, rfl⟩
    subst hwo
    have hm : j + 1 = m := by have := hR.len; rw [ints_len, rowP_len] at this; exact this
    have hcap := hR.cap
    have hmax := hR.max
    by_cases hlt : j < n
    · obtain ⟨r, hr⟩ : ∃ r, rowP j = r := ⟨_, rfl⟩
      rw [hr] at hR
      have hrl : r.length = m := by rw [← hr, rowP_len]; exact hm
      have hnext : rowP (j + 1) = 1 :: (sumZ r ++ [1]) := by rw [← hr]; rfl
      have hzl := sumZ_len r (by omega)
      have hbnd : ∀ t, t < m → (sumZ r).getD t 0 < 4611686018427387904 := fun t ht => by
        have h1 := bn60_lt (j + 1) (by omega) (t + 1)
        unfold bn at h1
        rw [hnext, List.getD_cons_succ] at h1
        by_cases h2 : t < (sumZ r).length
        · rw [List.getD_eq_getElem?_getD, List.getElem?_append_left h2] at h1
          rw [List.getD_eq_getElem?_getD]; exact h1
        · rw [List.getD_eq_getElem?_getD, List.getElem?_eq_none (by omega)]; decide
      have HR := Lib.hid hR
      have HRL := Lib.hid hrl
      have HNX := Lib.hid hnext
      have HZL := Lib.hid hzl
      have HB := Lib.hid hbnd
      have hm61 : m ≤ 60 := by omega
      clear hR hrl hnext hzl hbnd hr
      have hnw : On wo (wo.alloc (.cells #[.int .i64 1] 3)) := (On.refl wo).alloc _
      go_wp2
      go_loopw [7, 8] (fun v i wr => ∃ t : Nat, t + 1 ≤ m ∧ i = .int .i64 ((t + 1 : Nat) : Int) ∧ wr.ownsRow wo.heap.size 3 1 v (t + 1) (VI (ints (1 :: (sumZ r).take t))) ∧ On wo wr) (fun _ i _ => 61 - (intOf i).toNat)
      case atStart => exact ⟨0, by omega, rfl, row_one _ _ _, hnw⟩
      case round =>
        obtain ⟨t, ht, rfl, hrow, hon2⟩ := hrel
        obtain ⟨A5, c5, rfl⟩ := row_form hrow
        have HROW := Lib.hid hrow
        have hsz := hon2.size
        clear hrow hnw
        by_cases hlt2 : t + 1 < m
        · have hl1 : t < r.length := by rw [HRL.out]; omega
          have hl2 : t + 1 < r.length := by rw [HRL.out]; omega
          obtain ⟨ad, e1, _, hc1⟩ := (HR.out.on hon2).at_ t _ (ints_get hl1)
          cases e1
          obtain ⟨ad2, e2, _, hc2⟩ := (HR.out.on hon2).at_ (t + 1) _ (ints_get hl2)
          cases e2
          have hz := sumZ_at r t hl2
          have hzb := HB.out t (by omega)
          have hst : (sumZ r).take (t + 1) = (sumZ r).take t ++ [(sumZ r).getD t 0] := take_snoc (by rw [HZL.out]; omega)
          obtain ⟨x, hx⟩ : ∃ x, r.getD t 0 = x := ⟨_, rfl⟩
          obtain ⟨y, hy⟩ : ∃ y, r.getD (t + 1) 0 = y := ⟨_, rfl⟩
          obtain ⟨z, hzz⟩ : ∃ z, (sumZ r).getD t 0 = z := ⟨_, rfl⟩
          rw [hx] at hc1 hz
          rw [hy] at hc2 hz
          rw [hzz] at hz hzb hst
          obtain ⟨t1, ht1⟩ : ∃ t1, t + 1 = t1 := ⟨_, rfl⟩
          have HST := Lib.hid hst
          have HT1 := Lib.hid ht1
          rw [ht1] at hc2
          have e0 : ((t + 1 : Nat) : Int) = (t1 : Int) := by omega
          rw [e0]
          have hrow3 := HROW.out
          rw [ht1] at hrow3 ⊢
          have HROW3 := Lib.hid hrow3
          have ei2 : IntKind.i64.wrap ((t1 : Int) - 1) = (t : Int) := by rw [IntKind.wrap_i64]; omega
          have hs : IntKind.i64.wrap ((x : Int) + (y : Int)) = (z : Int) := by rw [IntKind.wrap_i64]; clear hst hc1 hc2; omega
          have q0 : (0 : Int) ≤ (t : Int) := by omega
          have q1 : (t : Int) < (m : Int) := by omega
          have q2 : (0 : Int) ≤ (t1 : Int) := by omega
          have q3 : (t1 : Int) < (m : Int) := by omega
          have q4 : t < m := by omega
          have q5 : t1 < m := by omega
          have HBK := Lib.hid (row_blk HROW3.out)
          have KS : ∀ W, On wo W → On wo W ∧ (W.cell? (ad.add t) = some (.int .i64 (x : Int)) ∧ W.cell? (ad.add t1) = some (.int .i64 (y : Int))) := fun W hW => by
            obtain ⟨_, e3, _, d1⟩ := (HR.out.on hW).at_ t _ (ints_get hl1)
            cases e3
            obtain ⟨_, e4, _, d2⟩ := (HR.out.on hW).at_ (t + 1) _ (ints_get hl2)
            cases e4
            rw [hx] at d1
            rw [hy, ht1] at d2
            exact ⟨hW, d1, d2⟩
          have HKS := Lib.hid KS
          clear KS
          clear hrow3 hst hz hzb hx hy hzz ht1 hl1 hl2 HROW
          go_wp2
          go_region_held3 (fun W => On wo W ∧ (W.cell? (ad.add t) = some (.int .i64 (x : Int)) ∧ W.cell? (ad.add t1) = some (.int .i64 (y : Int))))
            (first
              | (go_split_ands; refine HKS.out _ ?_; refine on_grown2 ?_ hgrow5 HBK.out; (repeat' (first | assumption | exact hon2 | apply On.drew | apply On.alloc)))
              | (go_split_ands; refine HKS.out _ ?_; (repeat' (first | assumption | exact hon2 | apply On.drew | apply On.alloc)))
              | (refine HKS.out _ ?_; (repeat' (first | assumption | exact hon2 | apply On.drew | apply On.alloc))))
            (first | (refine step_app rfl (.tmp 33) (.tmp 44) 27 ?_ wo.heap.size 3 (.int .i64 0) 8 Tryd.underlying27 infoi rfl (by decide) (.slice A5 t1 c5) t1 (VI (ints (1 :: (sumZ r).take t))) ?_ ?_ (some ⟨wr.heap.size, 0, none⟩) 1 1 [.int .i64 (z : Int)] ?_ ?_ ?_ ?_ ?_ ?_; rfl; rfl; (exact row_alloc HROW3.out _); rfl; (exact rd_one _ _ _); (simp [Value.oneCell']); (omega); (exact le_alloc2 hsz _); intro v' w5 hown5 hgrow5 hor))
          have hon5 : On wo w5 := on_grown2 ((hon2.alloc _).drew) hgrow5 HBK.out
          clear hgrow5 hor
          go_wp2
          have e7 : 1 :: (sumZ r).take t1 = 1 :: (sumZ r).take t ++ [z] := by rw [← HT1.out, HST.out]; rfl
          have e8 : VI (ints (1 :: (sumZ r).take t1)) = VI (ints (1 :: (sumZ r).take t)) ++ [Value.int .i64 (z : Int)] := by rw [e7]; simp [VI, ints]
          have HE8 := Lib.hid e8
          clear e7 e8
          refine ⟨⟨t1, by omega, by go_num, by rw [HE8.out]; exact hown5, hon5⟩, by simp [intOf]; omega⟩
        · obtain rfl : m = t + 1 := by omega
          have hall : (sumZ r).take t = sumZ r := List.take_of_length_le (by rw [HZL.out, HRL.out]; omega)
          rw [hall] at HROW
          clear hall
          go_wp2_with (at_builtin; refine wpList_app rfl (.tmp 46) (.tmp 47) 27 rfl wo.heap.size 3 (.int .i64 0) 8 Tryd.underlying27 infoi rfl (by decide) (.slice A5 (t + 1) c5) (t + 1) (VI (ints (1 :: sumZ r))) rfl (row_alloc HROW.out _) (some ⟨wr.heap.size, 0, none⟩) 1 1 [.int .i64 (1 : Int)] rfl (rd_one _ _ _) (by simp [Value.oneCell']) (by omega) (by simp; omega) ?_; intro v' w5 hown5 hgrow5 _)
          have hon5 : On wo w5 := on_row (hon2.alloc _) (row_alloc HROW.out _) (Nat.le_refl _) hgrow5
          obtain ⟨A6, c6, rfl⟩ := row_form hown5
          have hrd := rd_of_row hown5
          have e8 : VI (ints (rowP (j + 1))) = VI (ints (1 :: sumZ r)) ++ [Value.int .i64 (1 : Int)] := by rw [HNX.out]; simp [VI, ints]
          refine ⟨⟨j + 1, by omega, by go_num, ⟨_, _, _, rfl, by rw [e8]; exact hrd⟩, hon.trans hon5⟩, by simp [intOf]; omega⟩
    · obtain rfl : j = n := by omega
      have hkl : k < (rowP j).length := by rw [rowP_len]; omega
      obtain ⟨ad, e1, _, hc1⟩ := hR.at_ k _ (ints_get hkl)
      cases e1
      rw [bn_get] at hc1
      have hkm : k < m := by omega
      have q0 : (0 : Int) ≤ (k : Int) := by omega
      have q1 : (k : Int) < (m : Int) := by omega
      clear hR hcap hmax
      go_wp2
      go_ret2
      exact ⟨rfl, hon⟩
set_option maxHeartbeats 1000000 in
theorem rbinomial_all (w : World) (n k : Int) :
    Calls Tryd.prog 13 #[.int .i64 n, .int .i64 k] w fun e w' => e = .returned (.tuple #[.int .i64 ((binR n k).1 : Nat), .int .i64 ((binR n k).2 : Nat)]) ∧ On w w' := by
  unfold binR
  by_cases h : n < 0 ∨ 60 < n
  · rw [if_pos h]
    show Calls _ _ _ _ fun e w' => e = .returned (.tuple #[.int .i64 0, .int .i64 3]) ∧ On w w'
    rcases h with h | h
    · go_enter Tryd.func13, Tryd.ntmps13
      go_wp2
      go_ret2
      exact ⟨rfl, On.refl w⟩
    · have h2 : ¬ n < 0 := by omega
      go_enter Tryd.func13, Tryd.ntmps13
      go_wp2
      go_ret2
      exact ⟨rfl, On.refl w⟩
  · rw [if_neg h]
    have h1 : ¬ n < 0 := by omega
    have h2 : ¬ 60 < n := by omega
    by_cases hk : k < 0 ∨ n < k
    · rw [if_pos hk]
      show Calls _ _ _ _ fun e w' => e = .returned (.tuple #[.int .i64 0, .int .i64 0]) ∧ On w w'
      clear h
      rcases hk with hk | hk
      · go_enter Tryd.func13, Tryd.ntmps13
        go_wp2
        go_ret2
        exact ⟨rfl, On.refl w⟩
      · have h3 : ¬ k < 0 := by omega
        go_enter Tryd.func13, Tryd.ntmps13
        go_wp2
        go_ret2
        exact ⟨rfl, On.refl w⟩
    · rw [if_neg hk]
      obtain ⟨a, rfl⟩ : ∃ a : Nat, n = (a : Int) := ⟨n.toNat, by omega⟩
      obtain ⟨b, rfl⟩ : ∃ b : Nat, k = (b : Int) := ⟨k.toNat, by omega⟩
      rw [Int.toNat_natCast, Int.toNat_natCast]
      exact rbinomial_run w a b (by omega) (by omega)
end Go.Proofs.YtibkpglgeincdaaDoor.Sb
