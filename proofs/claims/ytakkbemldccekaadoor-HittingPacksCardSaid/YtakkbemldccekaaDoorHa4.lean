/-
  HittingPacks: the walk.
-/
import Derived.Test.YtakkbemldccekaaDoorHa3
namespace Go.Proofs.YtakkbemldccekaaDoor.Sb
open Go.RowKit
set_option linter.unusedVariables false
set_option maxRecDepth 100000
theorem foldr_or (l : List Nat) : l.foldr (· ||| ·) 0 = orL l := by
  induction l with
  | nil => rfl
  | cons x l ih => rw [List.foldr_cons, ih]; rfl
theorem pack_orL (l : List Nat) : packT 0 l = orL (packL 0 l) := by rw [packT_or, foldr_or, Nat.zero_or]
theorem pack_at (l : List Nat) {j : Nat} (h : j < (packL 0 l).length) : (packL 0 l).getD j 0 &&& orL ((packL 0 l).take j) = 0 := by
  have e : packL 0 l = (packL 0 l).take j ++ (packL 0 l).getD j 0 :: (packL 0 l).drop (j + 1) := by rw [← drop_get h, List.take_append_drop]
  have := pack_apart l 0 _ _ _ e
  rwa [foldr_or, Nat.zero_or] at this
theorem pack_in {k : List Nat} {x : Nat} (h : x ∈ packL 0 (minL k)) : x ∈ k := ((minL_mem k x).1 (pack_sub _ _ _ h)).1
theorem pack_hit {k : List Nat} (hk : Ok k) (hT : orL (packL 0 (minL k)) ≠ 0) {y : Nat} (hy : y ∈ k) : y &&& orL (packL 0 (minL k)) ≠ 0 := by
  rw [← pack_orL] at hT ⊢
  have h0 : 0 ∉ k := fun h => hT (by rw [min_has_zero h]; decide)
  obtain ⟨z, hz, hsub⟩ := min_below hk _ y hy (Nat.le_refl _)
  have hz0 : z ≠ 0 := fun e => h0 (e ▸ ((minL_mem k z).1 hz).1)
  have h1 := pack_meets (minL k) 0 z hz hz0
  intro e
  rw [Nat.and_comm] at e h1
  exact h1 (and_sub_zero hsub e)
theorem pc_mono {a b : Nat} (ha : a < 16777216) (hb : b < 16777216) (h : Sub a b) : pc a ≤ pc b := by
  by_cases e : a = b
  · rw [e]; exact Nat.le_refl _
  · exact Nat.le_of_lt (pc_sub a b ha hb h e)
theorem pack_le {k : List Nat} (hk : Ok k) {s : Nat} (hs : s < 16777216) (hm : meets k s = true) : (packL 0 (minL k)).length ≤ pc s := by
  have h1 := pack_count (minL k) (minL_ok hk) s hs 0 (by decide) (fun x hx => (meets_iff k s).1 hm x (pack_in hx))
  have h2 : pc (s &&& packT 0 (minL k)) ≤ pc s := pc_mono (Nat.lt_of_le_of_lt Nat.and_le_left hs) hs (by unfold Sub; rw [Nat.and_comm s (packT 0 (minL k)), Nat.and_assoc, Nat.and_self])
  omega
theorem pack_empty {k : List Nat} (hk : Ok k) (h : packL 0 (minL k) = []) : k = [] :=
  min_nil hk (Classical.byContradiction fun hn => pack_some hn h)
theorem in_take {k : List Nat} {q x : Nat} (h : q < k.length) : x ∈ k.take (q + 1) ↔ x ∈ k.take q ∨ x = k.getD q 0 := by
  rw [take_get h, List.mem_append, List.mem_singleton]
set_option maxHeartbeats 8000000 in
theorem hpacks_any (w : World) (A : Option Addr) (n c : Nat) (la : List Int) (R1 : Rd w A n c (VI la)) (hT : Tab w) :
    Calls Tryd.prog 7 #[.slice A n c] w fun e w' => e = .returned (.bool true) ∧ On w w' := by
  have hV := hvalid_any w A n c la R1
  have hAW := hawake_any w hT
  by_cases hv : validH la = true
  · obtain ⟨hz, _⟩ := validH_ok hv
    rw [hv] at hV
    obtain ⟨hlk, hok, hlen⟩ := lerr_nats la hz
    have K1 := Lib.hid (fun W (k : On w W) => Packing_all W A n c la (R1.on k))
    have K2 := Lib.hid (fun W (k : On w W) => Least_all W A n c la (R1.on k) (hT.on k))
    have hpr : packR la = (packL 0 (minL (natsOf la)), 0) := by unfold packR; rw [if_pos hz]
    rw [hpr] at K1
    rw [hlk] at R1
    have hin := fun x (hx : x ∈ packL 0 (minL (natsOf la))) => pack_in hx
    have hat := fun j (hj : j < (packL 0 (minL (natsOf la))).length) => pack_at (minL (natsOf la)) hj
    have hhit := fun (h : orL (packL 0 (minL (natsOf la))) ≠ 0) y (hy : y ∈ natsOf la) => pack_hit hok h hy
    have hle := fun s (hs : s < 16777216) (hm : meets (natsOf la) s = true) => pack_le hok hs hm
    have hemp := pack_empty hok
    have hn : (natsOf la).length = n := by have := R1.len; rw [ints_len] at this; exact this
    have hLt : ∀ s er, Lt la (fun _ => 0) s er → er = 17 ∨ (er = 0 ∧ s < 16777216 ∧ (packL 0 (minL (natsOf la))).length ≤ pc s) := by
      intro s er h
      rcases h with ⟨h1, _⟩ | ⟨_, _, _, h1⟩ | ⟨_, _, h1, h2⟩
      · exact absurd hz h1
      · exact .inl h1
      · exact .inr ⟨h2, h1.1, hle s h1.1 h1.2.1⟩
    generalize packL 0 (minL (natsOf la)) = p at K1 hin hat hhit hle hemp hLt
    generalize natsOf la = k at R1 hok hin hhit hle hemp hn
    have hcap := R1.cap
    have hmax := R1.max
    have HR := Lib.hid R1
    have HOK := Lib.hid hok
    have HIN := Lib.hid hin
    have HAT := Lib.hid hat
    have HHIT := Lib.hid hhit
    have HEMP := Lib.hid hemp
    have HN := Lib.hid hn
    have HLT := Lib.hid hLt
    have hC := fun W (s : Nat) => count_any W (s : Int)
    have HC := Lib.hid hC
    clear hv hz hlk hok hlen hpr R1 hT hin hat hhit hle hemp hn hLt hC
    go_enter Tryd.func7, Tryd.ntmps7
    go_wp2_with fail
    refine hV.mono ?_
    rintro e w' ⟨rfl, rfl⟩
    go_wp2_with fail
    refine hAW.mono ?_
    rintro e w1 ⟨rfl, P1⟩
    clear hV hAW
    go_wp2_with fail
    refine (K1.out w1 P1).mono ?_
    rintro e w2 ⟨A2, m, c2, rfl, S2, Q2⟩
    have P2 := P1.trans Q2
    rw [errV_zero]
    go_wp2_with fail
    refine (K2.out w2 P2).mono ?_
    rintro e w3 ⟨s, er, hs, rfl, Q3⟩
    have HP := Lib.hid (P2.trans Q3)
    have hm : p.length = m := by have := S2.len; rw [ints_len] at this; exact this
    have hcap2 := S2.cap
    have hmax2 := S2.max
    have HS := Lib.hid (S2.on Q3)
    have hcase := HLT.out s er hs
    rw [hm] at hcase
    have HM := Lib.hid hm
    clear K1 K2 P1 P2 Q2 Q3 S2 hs hm HLT
    rcases hcase with rfl | ⟨rfl, hs24, hcnt⟩
    · rw [errV_pos 17 (by decide)]
      have hI := is_err w3 17
      go_wp2_with fail
      refine hI.mono ?_
      rintro e w' ⟨rfl, rfl⟩
      clear hI
      go_wp2
      go_loop [7, 57] (fun t i => ∃ j : Nat, j ≤ m ∧ i = .int .i64 (j : Int) ∧ t = .int .i64 ((orL (p.take j) : Nat) : Int)) (fun _ i => m - (intOf i).toNat)
      case atStart => exact ⟨0, by omega, rfl, rfl⟩
      case round =>
        obtain ⟨j, hj, rfl, rfl⟩ := hrel
        have htk24 : orL (p.take j) < 16777216 := orL_ok fun x hx => HOK.out x (HIN.out x (List.mem_of_mem_take hx))
        by_cases hlt : j < m
        · have hjl : j < p.length := by rw [HM.out]; exact hlt
          obtain ⟨ad, e1, _, hc⟩ := HS.out.at_ j _ (ints_get hjl)
          cases e1
          have hxk := HIN.out _ (getD_mem hjl)
          have hap := HAT.out j hjl
          have hot := orL_take hjl
          obtain ⟨x, hx⟩ : ∃ x, p.getD j 0 = x := ⟨_, rfl⟩
          rw [hx] at hc hxk hap hot
          have hx24 := HOK.out x hxk
          obtain ⟨tk, htk⟩ : ∃ tk, orL (p.take j) = tk := ⟨_, rfl⟩
          rw [htk] at htk24 hap hot ⊢
          have hand := and_nat x tk hx24 htk24
          rw [hap] at hand
          have hor := or_nat tk x (Nat.lt_trans htk24 (by decide)) (Nat.lt_trans hx24 (by decide))
          rw [← hot] at hor
          have HXK := Lib.hid hxk
          have HAND := Lib.hid hand
          have HOR := Lib.hid hor
          clear hx hxk hap hot htk hand hor
          go_wp2
          go_loop [10, 63] (fun b i => ∃ (q : Nat) (fb : Bool), q ≤ n ∧ i = .int .i64 (q : Int) ∧ b = .bool fb ∧ Hid (fb = true ↔ x ∈ k.take q)) (fun _ i => n - (intOf i).toNat)
          case atStart => exact ⟨0, false, by omega, rfl, rfl, by show (false = true ↔ x ∈ k.take 0); simp⟩
          case round =>
            obtain ⟨q, fb, hq, rfl, rfl, HB⟩ := hrel
            by_cases hlt2 : q < n
            · have hql : q < k.length := by rw [HN.out]; exact hlt2
              obtain ⟨ad2, e2, _, hc2⟩ := (HR.out.on HP.out).at_ q _ (ints_get hql)
              cases e2
              have hin2 := in_take (x := x) hql
              obtain ⟨y, hy⟩ : ∃ y, k.getD q 0 = y := ⟨_, rfl⟩
              rw [hy] at hc2 hin2
              have hbb := HB.out
              rw [← hbb] at hin2
              have HI2 := Lib.hid hin2
              clear hy hin2 hbb
              cases fb with
              | true =>
                go_wp2
                exact ⟨⟨q + 1, true, by omega, by go_num, rfl, by show (true = true ↔ x ∈ k.take (q + 1)); rw [HI2.out]; simp⟩, by simp [intOf]; omega⟩
              | false =>
                by_cases hxy : x = y
                · subst hxy
                  go_wp2
                  exact ⟨⟨q + 1, true, by omega, by go_num, by simp, by show (true = true ↔ x ∈ k.take (q + 1)); rw [HI2.out]; simp⟩, by simp [intOf]; omega⟩
                · have hxyI : ¬ (x : Int) = (y : Int) := by omega
                  go_wp2
                  exact ⟨⟨q + 1, false, by omega, by go_num, by first | (simp [hxyI]; done) | (simp; exact hxyI), by show (false = true ↔ x ∈ k.take (q + 1)); rw [HI2.out]; simp [hxy]⟩, by simp [intOf]; omega⟩
            · obtain rfl : q = n := by omega
              have hb := HB.out
              rw [List.take_of_length_le (by rw [HN.out]; omega)] at hb
              have hbt := hb.2 HXK.out
              subst hbt
              have hand := HAND.out
              have hor := HOR.out
              clear hb
              go_wp2
              go_round
              case rel => exact ⟨j + 1, by omega, by go_num, rfl⟩
              case measure => simp [intOf]; omega
        · obtain rfl : j = m := by omega
          have eall : p.take j = p := List.take_of_length_le (by rw [HM.out]; omega)
          rw [eall] at htk24 ⊢
          have hh := HHIT.out
          obtain ⟨T, hTe⟩ : ∃ T, orL p = T := ⟨_, rfl⟩
          rw [hTe] at htk24 hh ⊢
          have HH := Lib.hid hh
          clear hTe hh eall
          go_wp2
          go_loop [88] (fun i => ∃ q : Nat, q ≤ n ∧ i = .int .i64 (q : Int)) (fun i => n - (intOf i).toNat)
          case atStart => exact ⟨0, by omega, rfl⟩
          case round =>
            obtain ⟨q, hq, rfl⟩ := hrel
            by_cases hlt2 : q < n
            · have hql : q < k.length := by rw [HN.out]; exact hlt2
              obtain ⟨ad2, e2, _, hc2⟩ := (HR.out.on HP.out).at_ q _ (ints_get hql)
              cases e2
              have hyk := getD_mem hql
              obtain ⟨y, hy⟩ : ∃ y, k.getD q 0 = y := ⟨_, rfl⟩
              rw [hy] at hc2 hyk
              have hy24 := HOK.out y hyk
              have hand := and_nat y T hy24 htk24
              by_cases hT0 : T = 0
              · subst hT0
                rw [Nat.and_zero] at hand
                clear hy hyk
                go_wp2
                go_round
                case rel => exact ⟨_, _, .int .i64 ((q : Int) + 1), ⟨q + 1, by omega, by go_num⟩, rfl, rfl, rfl⟩
                case measure => simp [intOf]; omega
              · have hne := HH.out hT0 y hyk
                obtain ⟨z, hze⟩ : ∃ z, y &&& T = z := ⟨_, rfl⟩
                rw [hze] at hand hne
                have hz2 : ((z : Int) == 0) = false := by simp; omega
                clear hy hyk hze
                go_wp2
                exact ⟨⟨q + 1, by omega, by go_num⟩, by simp [intOf]; omega⟩
            · obtain rfl : q = n := by omega
              by_cases hm0 : j = 0
              · have hq0 : q = 0 := by
                  have h1 := HEMP.out (List.eq_nil_of_length_eq_zero (by rw [HM.out]; exact hm0))
                  have h2 := HN.out
                  rw [h1] at h2; simpa using h2.symm
                subst hm0
                subst hq0
                go_wp2
                go_ret
                exact ⟨rfl, HP.out⟩
              · have d1 : decide ((0 : Int) < (j : Int)) = true := decide_eq_true (by omega)
                go_wp2
                go_ret
                exact ⟨rfl, HP.out⟩
    · rw [errV_zero]
      have hCn := HC.out w3 s
      rw [cut_nat s hs24] at hCn
      have dcn : decide (((pc s : Nat) : Int) < (m : Int)) = false := decide_eq_false (by omega)
      go_wp2_with fail
      refine hCn.mono ?_
      rintro e w' ⟨rfl, rfl⟩
      clear hCn
      go_wp2
      clear dcn hcnt
      go_loop [7, 57] (fun t i => ∃ j : Nat, j ≤ m ∧ i = .int .i64 (j : Int) ∧ t = .int .i64 ((orL (p.take j) : Nat) : Int)) (fun _ i => m - (intOf i).toNat)
      case atStart => exact ⟨0, by omega, rfl, rfl⟩
      case round =>
        obtain ⟨j, hj, rfl, rfl⟩ := hrel
        have htk24 : orL (p.take j) < 16777216 := orL_ok fun x hx => HOK.out x (HIN.out x (List.mem_of_mem_take hx))
        by_cases hlt : j < m
        · have hjl : j < p.length := by rw [HM.out]; exact hlt
          obtain ⟨ad, e1, _, hc⟩ := HS.out.at_ j _ (ints_get hjl)
          cases e1
          have hxk := HIN.out _ (getD_mem hjl)
          have hap := HAT.out j hjl
          have hot := orL_take hjl
          obtain ⟨x, hx⟩ : ∃ x, p.getD j 0 = x := ⟨_, rfl⟩
          rw [hx] at hc hxk hap hot
          have hx24 := HOK.out x hxk
          obtain ⟨tk, htk⟩ : ∃ tk, orL (p.take j) = tk := ⟨_, rfl⟩
          rw [htk] at htk24 hap hot ⊢
          have hand := and_nat x tk hx24 htk24
          rw [hap] at hand
          have hor := or_nat tk x (Nat.lt_trans htk24 (by decide)) (Nat.lt_trans hx24 (by decide))
          rw [← hot] at hor
          have HXK := Lib.hid hxk
          have HAND := Lib.hid hand
          have HOR := Lib.hid hor
          clear hx hxk hap hot htk hand hor
          go_wp2
          go_loop [10, 63] (fun b i => ∃ (q : Nat) (fb : Bool), q ≤ n ∧ i = .int .i64 (q : Int) ∧ b = .bool fb ∧ Hid (fb = true ↔ x ∈ k.take q)) (fun _ i => n - (intOf i).toNat)
          case atStart => exact ⟨0, false, by omega, rfl, rfl, by show (false = true ↔ x ∈ k.take 0); simp⟩
          case round =>
            obtain ⟨q, fb, hq, rfl, rfl, HB⟩ := hrel
            by_cases hlt2 : q < n
            · have hql : q < k.length := by rw [HN.out]; exact hlt2
              obtain ⟨ad2, e2, _, hc2⟩ := (HR.out.on HP.out).at_ q _ (ints_get hql)
              cases e2
              have hin2 := in_take (x := x) hql
              obtain ⟨y, hy⟩ : ∃ y, k.getD q 0 = y := ⟨_, rfl⟩
              rw [hy] at hc2 hin2
              have hbb := HB.out
              rw [← hbb] at hin2
              have HI2 := Lib.hid hin2
              clear hy hin2 hbb
              cases fb with
              | true =>
                go_wp2
                exact ⟨⟨q + 1, true, by omega, by go_num, rfl, by show (true = true ↔ x ∈ k.take (q + 1)); rw [HI2.out]; simp⟩, by simp [intOf]; omega⟩
              | false =>
                by_cases hxy : x = y
                · subst hxy
                  go_wp2
                  exact ⟨⟨q + 1, true, by omega, by go_num, by simp, by show (true = true ↔ x ∈ k.take (q + 1)); rw [HI2.out]; simp⟩, by simp [intOf]; omega⟩
                · have hxyI : ¬ (x : Int) = (y : Int) := by omega
                  go_wp2
                  exact ⟨⟨q + 1, false, by omega, by go_num, by first | (simp [hxyI]; done) | (simp; exact hxyI), by show (false = true ↔ x ∈ k.take (q + 1)); rw [HI2.out]; simp [hxy]⟩, by simp [intOf]; omega⟩
            · obtain rfl : q = n := by omega
              have hb := HB.out
              rw [List.take_of_length_le (by rw [HN.out]; omega)] at hb
              have hbt := hb.2 HXK.out
              subst hbt
              have hand := HAND.out
              have hor := HOR.out
              clear hb
              go_wp2
              go_round
              case rel => exact ⟨_, _, _, _, _, .int .i64 ((j : Int) + 1), ⟨j + 1, by omega, by go_num, rfl⟩, rfl, rfl, rfl, rfl, rfl, rfl⟩
              case measure => simp [intOf]; omega
        · obtain rfl : j = m := by omega
          have eall : p.take j = p := List.take_of_length_le (by rw [HM.out]; omega)
          rw [eall] at htk24 ⊢
          have hh := HHIT.out
          obtain ⟨T, hTe⟩ : ∃ T, orL p = T := ⟨_, rfl⟩
          rw [hTe] at htk24 hh ⊢
          have HH := Lib.hid hh
          clear hTe hh eall
          go_wp2
          go_loop [88] (fun i => ∃ q : Nat, q ≤ n ∧ i = .int .i64 (q : Int)) (fun i => n - (intOf i).toNat)
          case atStart => exact ⟨0, by omega, rfl⟩
          case round =>
            obtain ⟨q, hq, rfl⟩ := hrel
            by_cases hlt2 : q < n
            · have hql : q < k.length := by rw [HN.out]; exact hlt2
              obtain ⟨ad2, e2, _, hc2⟩ := (HR.out.on HP.out).at_ q _ (ints_get hql)
              cases e2
              have hyk := getD_mem hql
              obtain ⟨y, hy⟩ : ∃ y, k.getD q 0 = y := ⟨_, rfl⟩
              rw [hy] at hc2 hyk
              have hy24 := HOK.out y hyk
              have hand := and_nat y T hy24 htk24
              by_cases hT0 : T = 0
              · subst hT0
                rw [Nat.and_zero] at hand
                clear hy hyk
                go_wp2
                go_round
                case rel => exact ⟨_, _, .int .i64 ((q : Int) + 1), ⟨q + 1, by omega, by go_num⟩, rfl, rfl, rfl⟩
                case measure => simp [intOf]; omega
              · have hne := HH.out hT0 y hyk
                obtain ⟨z, hze⟩ : ∃ z, y &&& T = z := ⟨_, rfl⟩
                rw [hze] at hand hne
                have hz2 : ((z : Int) == 0) = false := by simp; omega
                clear hy hyk hze
                go_wp2
                exact ⟨⟨q + 1, by omega, by go_num⟩, by simp [intOf]; omega⟩
            · obtain rfl : q = n := by omega
              by_cases hm0 : j = 0
              · have hq0 : q = 0 := by
                  have h1 := HEMP.out (List.eq_nil_of_length_eq_zero (by rw [HM.out]; exact hm0))
                  have h2 := HN.out
                  rw [h1] at h2; simpa using h2.symm
                subst hm0
                subst hq0
                go_wp2
                go_ret
                exact ⟨rfl, HP.out⟩
              · have d1 : decide ((0 : Int) < (j : Int)) = true := decide_eq_true (by omega)
                go_wp2
                go_ret
                exact ⟨rfl, HP.out⟩
  · rw [Bool.not_eq_true] at hv
    rw [hv] at hV
    clear R1 hT
    go_enter Tryd.func7, Tryd.ntmps7
    go_wp2_with fail
    refine hV.mono ?_
    rintro e w' ⟨rfl, rfl⟩
    go_wp2_with fail
    refine hAW.mono ?_
    rintro e w1 ⟨rfl, P1⟩
    go_wp2
    go_ret
    exact ⟨rfl, P1⟩
end Go.Proofs.YtakkbemldccekaaDoor.Sb
