/-
  The specification's Support, Sizes, for lists of sets.
-/
import Derived.Test.YtakkbemldccekaaDoorHk1
import Derived.Test.YtakkbemldccekaaDoorSfa
import Derived.Test.YtakkbemldccekaaDoorHsb
import Derived.Test.YtakkbemldccekaaDoorHra
import Derived.Test.YtakkbemldccekaaDoorHp
import Derived.Test.YtakkbemldccekaaDoorSr2
import Derived.Deep.RegionHeld3
namespace Go.Proofs.YtakkbemldccekaaDoor.Sb
open Go.RowKit
set_option linter.unusedVariables false
set_option maxRecDepth 100000
set_option maxHeartbeats 2000000 in
theorem rSupport_ok (w : World) (A : Option Addr) (n c : Nat) (k : List Nat) (h : Rd w A n c (VI (ints k))) (hk : Ok k) (hl : k.length ≤ 1024) :
    Calls Tryd.prog 48 #[.slice A n c] w fun e w' => e = .returned (.tuple #[.int .i64 (orL k : Nat), .int .i64 0]) ∧ On w w' := by
  have hn : k.length = n := by have := h.len; rw [ints_len] at this; exact this
  have hA := Error_any w A n c _ h
  rw [lerr_ok hk hl] at hA
  have h1 := h
  have hcap := h.cap
  have hmax := h.max
  have HN := Lib.hid hn
  clear h hn
  go_enter Tryd.func48, Tryd.ntmps48
  go_wp2_with fail
  refine hA.mono ?_
  rintro e w' ⟨rfl, rfl⟩
  clear hA
  have H := Lib.hid h1
  clear h1
  go_wp2
  go_loopw [5, 15] (fun u i wr => ∃ j : Nat, j ≤ n ∧ i = .int .i64 (j : Int) ∧ u = .int .i64 ((orL (k.take j) : Nat) : Int) ∧ w = wr) (fun _ i _ => n - (intOf i).toNat)
  case atStart => exact ⟨0, by omega, rfl, rfl, rfl⟩
  case round =>
    obtain ⟨j, hj, rfl, rfl, rfl⟩ := hrel
    by_cases hlt : j < n
    · have hjl : j < k.length := by rw [HN.out]; exact hlt
      obtain ⟨ad, e1, hb, hc⟩ := H.out.at_ j _ (ints_get hjl)
      cases e1
      have hst := orL_take hjl
      have hxm := getD_mem hjl
      have h24 : orL (k.take j) < 16777216 := orL_ok fun x hx => hk x (List.mem_of_mem_take hx)
      obtain ⟨x, hx⟩ : ∃ x, k.getD j 0 = x := ⟨_, rfl⟩
      obtain ⟨u, hu⟩ : ∃ u, orL (k.take j) = u := ⟨_, rfl⟩
      rw [hx] at hc hst hxm
      rw [hu] at hst h24 ⊢
      have hor := or_step u x h24 (hk x hxm)
      rw [← hst] at hor
      have HO := Lib.hid hor
      clear hx hu hst hxm h24 hor
      go_wp2
      go_roundw
      case rel => exact ⟨j + 1, by omega, by go_num, by rw [← HO.out], trivial⟩
      case measure => simp [intOf]; omega
    · obtain rfl : j = n := by omega
      have e0 : k.take j = k := List.take_of_length_le (by rw [HN.out]; omega)
      rw [e0]
      clear e0
      go_wp2
      go_ret2
      exact ⟨rfl, On.refl _⟩
end Go.Proofs.YtakkbemldccekaaDoor.Sb
/-
  The specification of hitting sets: first, sum, better, search.
-/
namespace Go.Proofs.YtakkbemldccekaaDoor.Sb
open Go.RowKit
set_option linter.unusedVariables false
set_option maxRecDepth 100000
/-- a set or none, as an int -/
def setV : Option Nat → Int
  | none => -1
  | some x => (x : Int)
theorem fstL_drop {l : List Nat} {j s : Nat} (h : j < l.length) : fstL (l.drop j) s = if l.getD j 0 &&& s = 0 then some (l.getD j 0) else fstL (l.drop (j + 1)) s := by
  rw [drop_get h]; rfl
set_option maxHeartbeats 4000000 in
theorem rfirst_any (w : World) (A : Option Addr) (n c : Nat) (k : List Nat) (h : Rd w A n c (VI (ints k))) (hk : Ok k) (s : Nat) (hs : s < 16777216) :
    Calls Tryd.prog 71 #[.slice A n c, .int .i64 (s : Int)] w fun e w' => e = .returned (.int .i64 (setV (fstL k s))) ∧ w = w' := by
  have hn : k.length = n := by have := h.len; rw [ints_len] at this; exact this
  have hcap := h.cap
  have hmax := h.max
  have HN := Lib.hid hn
  have HR := Lib.hid h
  have HK := Lib.hid hk
  clear hn h hk
  go_enter Tryd.func71, Tryd.ntmps71
  go_wp2
  go_loop [9] (fun i => ∃ j : Nat, j ≤ n ∧ i = .int .i64 (j : Int) ∧ Hid (fstL k s = fstL (k.drop j) s)) (fun i => n - (intOf i).toNat)
  case atStart => exact ⟨0, by omega, rfl, rfl⟩
  case round =>
    obtain ⟨j, hj, rfl, HF⟩ := hrel
    by_cases hlt : j < n
    · have hjl : j < k.length := by rw [HN.out]; exact hlt
      obtain ⟨ad, e1, _, hc⟩ := HR.out.at_ j _ (ints_get hjl)
      cases e1
      have hf := HF.out
      rw [fstL_drop hjl] at hf
      have hx24 := HK.out _ (getD_mem hjl)
      obtain ⟨x, hx⟩ : ∃ x, k.getD j 0 = x := ⟨_, rfl⟩
      rw [hx] at hc hf hx24
      have hand := and_nat x s hx24 hs
      obtain ⟨z, hz⟩ : ∃ z, x &&& s = z := ⟨_, rfl⟩
      rw [hz] at hand hf
      have HF2 := Lib.hid hf
      clear hf hx hz
      by_cases hz0 : z = 0
      · subst hz0
        have hf3 := HF2.out
        rw [if_pos rfl] at hf3
        have HF3 := Lib.hid hf3
        clear hf3
        go_wp2
        go_ret
        exact ⟨by rw [HF3.out]; rfl, rfl⟩
      · have hz2 : ¬ (z : Int) = 0 := by omega
        have hf3 := HF2.out
        rw [if_neg hz0] at hf3
        have HF3 := Lib.hid hf3
        clear hf3
        go_wp2
        exact ⟨⟨j + 1, by omega, by go_num, HF3⟩, by simp [intOf]; omega⟩
    · obtain rfl : j = n := by omega
      have hf := HF.out
      rw [List.drop_of_length_le (by rw [HN.out]; omega)] at hf
      have HF3 := Lib.hid hf
      clear hf
      go_wp2
      go_ret
      exact ⟨by rw [HF3.out]; rfl, rfl⟩
theorem sum_take {f : Nat → Nat} {x j i : Nat} (h : (els x).take (j + 1) = (els x).take j ++ [i]) : (((els x).take (j + 1)).map f).sum = (((els x).take j).map f).sum + f i := by
  rw [h, List.map_append, List.sum_append]; simp
theorem sum_small {f : Nat → Nat} (hf : ∀ i, f i ≤ 1048576) (x j : Nat) : (((els x).take j).map f).sum ≤ 24 * 1048576 := by
  have h1 : (((els x).take j).map f).sum ≤ sumR f x 24 := by
    rw [sumR_els, ← els_to]
    conv => rhs; rw [← List.take_append_drop j (els x)]
    rw [List.map_append, List.sum_append]; omega
  have h2 := sumR_le f x 1048576 hf 24
  omega
set_option maxHeartbeats 4000000 in
theorem rsum_any (w : World) (B : Option Addr) (m d : Nat) (cost : List Int) (h2 : Rd w B m d (VI cost)) (hc : okC cost = true) (s : Nat) (hs : s < 16777216) (hl : Low m s) :
    Calls Tryd.prog 50 #[.int .i64 (s : Int), .slice B m d] w fun e w' => e = .returned (.int .i64 ((sumR (cof cost) s 24 : Nat) : Int)) ∧ On w w' := by
  have hm : cost.length = m := by have := h2.len; rw [VI_length] at this; exact this
  have hcap := h2.cap
  have hmax := h2.max
  have hE := elements_any w (s : Int)
  rw [cut_nat s hs] at hE
  have hfin : (((els s)).map (cof cost)).sum = sumR (cof cost) s 24 := by rw [sumR_els, ← els_to]
  have hsm := sum_small (cof_le hc) s
  have HM := Lib.hid hm
  have HR := Lib.hid h2
  have HAT := Lib.hid (okC_at hc)
  have HFIN := Lib.hid hfin
  have HSM := Lib.hid hsm
  have HL := Lib.hid hl
  clear hm h2 hc hfin hsm hl
  go_enter Tryd.func50, Tryd.ntmps50
  go_wp2_with fail
  refine hE.mono ?_
  rintro e w1 ⟨A1, n1, c1, rfl, R1, P1⟩
  have hn1 : (els s).length = n1 := by have := R1.len; rw [ints_len] at this; exact this
  have hcap1 := R1.cap
  have hmax1 := R1.max
  have HN := Lib.hid hn1
  have HR1 := Lib.hid R1
  have HC := Lib.hid (HR.out.on P1)
  clear hE hn1 R1
  go_wp2
  go_loop [5, 11] (fun t i => ∃ j : Nat, j ≤ n1 ∧ i = .int .i64 (j : Int) ∧ t = .int .i64 (((((els s).take j).map (cof cost)).sum : Nat) : Int)) (fun _ i => n1 - (intOf i).toNat)
  case atStart => exact ⟨0, by omega, rfl, rfl⟩
  case round =>
    obtain ⟨j, hj, rfl, rfl⟩ := hrel
    by_cases hlt : j < n1
    · have hjl : j < (els s).length := by rw [HN.out]; exact hlt
      obtain ⟨i, hi, hxi, hget, htake, _⟩ := els_get hjl
      obtain ⟨ad, e1, _, hc⟩ := HR1.out.at_ j _ (ints_get hjl)
      cases e1
      rw [hget] at hc
      have him := HL.out i hxi
      obtain ⟨ad2, e2, _, hc2⟩ := HC.out.at_ i _ (VI_get (by rw [HM.out]; exact him))
      cases e2
      have hx := HAT.out i
      have hxx : cost.getD i 0 = ((cof cost i : Nat) : Int) := by unfold cof; omega
      rw [hxx] at hc2
      have hst := sum_take (f := cof cost) htake
      have hs1 := HSM.out j
      obtain ⟨tn, htn⟩ : ∃ tn, (((els s).take j).map (cof cost)).sum = tn := ⟨_, rfl⟩
      have hx20 : cof cost i ≤ 1048576 := by omega
      obtain ⟨x, hxe⟩ : ∃ x, cof cost i = x := ⟨_, rfl⟩
      rw [htn] at hst hs1 ⊢
      rw [hxe] at hc2 hst hx20
      have HST := Lib.hid hst
      have ei0 : (0 : Int) ≤ (i : Int) := by omega
      have eim : (i : Int) < (m : Int) := by omega
      clear hx hxx hst htn hxe htake hget hxi
      go_wp2
      exact ⟨⟨j + 1, by omega, by go_num, by rw [HST.out]; go_num⟩, by simp [intOf]; omega⟩
    · obtain rfl : j = n1 := by omega
      have e : (els s).take j = els s := List.take_of_length_le (by rw [HN.out]; omega)
      rw [e, HFIN.out]
      go_wp2
      go_ret
      exact ⟨rfl, P1⟩
set_option maxHeartbeats 4000000 in
theorem rbetter_any (w : World) (B : Option Addr) (m d : Nat) (cost : List Int) (h2 : Rd w B m d (VI cost)) (hc : okC cost = true) (a b : Nat) (ha : a < 16777216) (hb : b < 16777216) (hla : Low m a) (hlb : Low m b) :
    Calls Tryd.prog 70 #[.int .i64 (a : Int), .int .i64 (b : Int), .slice B m d] w fun e w' => e = .returned (.bool (decide (sumR (wt (cof cost)) a 24 < sumR (wt (cof cost)) b 24))) ∧ On w w' := by
  have hA := rsum_any w B m d cost h2 hc a ha hla
  have hB := fun W (k : On w W) => rsum_any W B m d cost (h2.on k) hc b hb hlb
  have hiff := ord_iff (cof cost) a b ha hb
  have hC := fun W => rcompare_any W (a : Int) (b : Int)
  rw [cut_nat a ha, cut_nat b hb] at hC
  have hr := cmpS_range a b
  generalize sumR (cof cost) a 24 = x at *
  generalize sumR (cof cost) b 24 = y at *
  generalize cmpS a b = z at *
  generalize sumR (wt (cof cost)) a 24 = X at *
  generalize sumR (wt (cof cost)) b 24 = Y at *
  have HIFF := Lib.hid hiff
  have HB := Lib.hid hB
  clear h2 hc hla hlb hiff hB
  go_enter Tryd.func70, Tryd.ntmps70
  go_wp2_with fail
  refine hA.mono ?_
  rintro e w1 ⟨rfl, P1⟩
  have hB := HB.out w1 P1
  clear hA
  go_wp2_with fail
  refine hB.mono ?_
  rintro e w2 ⟨rfl, P2⟩
  clear hB
  have HP := Lib.hid (P1.trans P2)
  by_cases hxy : x = y
  · subst hxy
    have hd : decide (z < 0) = decide (X < Y) := decide_eq_decide.2 (by rw [HIFF.out]; omega)
    have HD := Lib.hid hd
    clear hd
    go_wp2_with (refine (hC _).mono ?_; rintro e w' ⟨rfl, rfl⟩)
    go_ret
    exact ⟨ret_b HD.out, HP.out⟩
  · have hxyI : ¬ (x : Int) = (y : Int) := by omega
    have hd : decide (x < y) = decide (X < Y) := decide_eq_decide.2 (by rw [HIFF.out]; omega)
    have HD := Lib.hid hd
    clear hd hC
    go_wp2
    go_ret
    exact ⟨ret_b HD.out, HP.out⟩
set_option maxHeartbeats 8000000 in
theorem rsearch_any (B : Option Addr) (m d : Nat) (cost : List Int) (hc : okC cost = true) (A : Option Addr) (n c : Nat) (k : List Nat) (hk : Ok k) (hlk : ∀ x ∈ k, Low m x) : ∀ (N : Nat) (w : World) (s : Nat) (b : Option Nat), 24 < pc s + N → Rd w B m d (VI cost) → Rd w A n c (VI (ints k)) → s < 16777216 → Low m s → (∀ x, b = some x → x < 16777216 ∧ Low m x) →
    Calls Tryd.prog 47 #[.slice A n c, .int .i64 (s : Int), .int .i64 (setV b), .slice B m d] w fun e w' => ∃ b', Srch k (cof cost) s b b' ∧ e = .returned (.int .i64 (setV b')) ∧ On w w' := by
  intro N
  induction N with
  | zero =>
    intro w s b hN
    have := pc_le s
    exact absurd hN (by omega)
  | succ N ih =>
    intro w s b hN h2 h hs hls hb
    have HN := Lib.hid hN
    have HIH := Lib.hid ih
    have HR := Lib.hid h
    have HR2 := Lib.hid h2
    have HK := Lib.hid hk
    have HLK := Lib.hid hlk
    have HLS := Lib.hid hls
    have HB := Lib.hid hb
    have HC := Lib.hid hc
    have hF := fun W (e : On w W) => rfirst_any W A n c k (h.on e) hk s hs
    have HF := Lib.hid hF
    clear hN ih h h2 hk hlk hls hc hF
    by_cases hpr : ∃ y, b = some y ∧ ¬ sumR (wt (cof cost)) s 24 < sumR (wt (cof cost)) y 24
    · obtain ⟨y, rfl, hy⟩ := hpr
      have hBT := rbetter_any w B m d cost HR2.out HC.out s y hs (HB.out y rfl).1 HLS.out (HB.out y rfl).2
      rw [decide_eq_false hy] at hBT
      have HS := Lib.hid (Srch.prune (l := k) (c := cof cost) (s := s) hy)
      have hsv : setV (some y) = (y : Int) := rfl
      rw [hsv]
      have hd : decide ((0 : Int) ≤ (y : Int)) = true := decide_eq_true (by omega)
      clear hy hsv
      go_enter Tryd.func47, Tryd.ntmps47
      go_wp2_with (refine hBT.mono ?_; rintro e w1 ⟨rfl, P1⟩)
      go_ret
      exact ⟨some y, HS.out, rfl, P1⟩
    · have hlt : ∀ y, b = some y → sumR (wt (cof cost)) s 24 < sumR (wt (cof cost)) y 24 := fun y e => Classical.byContradiction fun hn => hpr ⟨y, e, hn⟩
      have HLT := Lib.hid hlt
      have HFS := Lib.hid (fun x (e : fstL k s = some x) => fstL_some e)
      have HFN := Lib.hid (fun (e : fstL k s = none) => Srch.hit (b := b) hs (fstL_none e) HLT.out)
      have HEL := fun W (x : Nat) (hx : x < 16777216) => elements_any W (x : Int)
      clear hpr hlt
      obtain ⟨F, hFe⟩ : ∃ F, fstL k s = F := ⟨_, rfl⟩
      rw [hFe] at HF HFS HFN
      clear hFe
      rcases b with _ | y
      · have hsv : setV none = -1 := rfl
        have hFc := HF.out w (On.refl w)
        have P1 := On.refl w
        rw [hsv]
        go_enter Tryd.func47, Tryd.ntmps47
        go_wp2_with fail
        refine hFc.mono ?_
        rintro e w1 ⟨rfl, rfl⟩
        clear hFc
        rcases F with _ | x
        · have hs2 : setV none = -1 := rfl
          rw [hs2]
          have HS := Lib.hid (HFN.out rfl)
          go_wp2
          go_ret
          exact ⟨some s, HS.out, rfl, P1⟩
        · obtain ⟨hxk, hxs⟩ := HFS.out x rfl
          have hx24 := HK.out x hxk
          have hE := HEL w x hx24
          rw [cut_nat x hx24] at hE
          have hs2 : setV (some x) = (x : Int) := rfl
          rw [hs2]
          have hxn : ¬ (x : Int) < 0 := by omega
          have HXK := Lib.hid hxk
          have HXS := Lib.hid hxs
          have HP1 := Lib.hid P1
          clear hxk hxs HEL P1
          go_wp2_with fail
          refine hE.mono ?_
          rintro e w2 ⟨A2, n1, c2, rfl, R2, P2⟩
          have hn1 : (els x).length = n1 := by have := R2.len; rw [ints_len] at this; exact this
          have hcap2 := R2.cap
          have hmax2 := R2.max
          have HN1 := Lib.hid hn1
          have HRE := Lib.hid R2
          have HP2 := Lib.hid (HP1.out.trans P2)
          clear hE hn1 R2
          go_wp2
          go_loopw [2, 31] (fun v i wr => ∃ (j : Nat) (bj : Option Nat), j ≤ n1 ∧ i = .int .i64 (j : Int) ∧ v = .int .i64 (setV bj) ∧ Hid (SrchTo k (cof cost) s (none) ((els x).take j) bj) ∧ Hid (∀ x, bj = some x → x < 16777216 ∧ Low m x) ∧ Hid (On w2 wr)) (fun _ i _ => n1 - (intOf i).toNat)
          case atStart => exact ⟨0, none, by omega, rfl, rfl, SrchTo.start _ _ _ _, HB.out, On.refl w2⟩
          case round =>
            obtain ⟨j, bj, hj, rfl, rfl, HST, HBJ, HW⟩ := hrel
            by_cases hlt : j < n1
            · have hjl : j < (els x).length := by rw [HN1.out]; exact hlt
              obtain ⟨i, hi, hxi, hget, htake, _⟩ := els_get hjl
              obtain ⟨ad, e1, _, hc⟩ := (HRE.out.on HW.out).at_ j _ (ints_get hjl)
              cases e1
              rw [hget] at hc
              have hsi : s.testBit i = false := by
                rw [Bool.eq_false_iff]
                intro e
                have := congrArg (·.testBit i) HXS.out
                simp [hxi, e] at this
              have hpc := pc_add_bit hi hsi
              have hp24 := two_lt hi
              have hsh := shlw i hi
              have hor := or_nat s (2 ^ i) (Nat.lt_trans hs (by decide)) (Nat.lt_trans hp24 (by decide))
              have hor24 := or_lt24 hs hp24
              have hlow : Low m (s ||| 2 ^ i) := by
                intro q hq
                rw [Nat.testBit_or, tb_two, Bool.or_eq_true] at hq
                rcases hq with hq | hq
                · exact HLS.out q hq
                · have e : i = q := of_decide_eq_true hq
                  subst e; exact HLK.out x HXK.out i hxi
              have hW := HP2.out.trans HW.out
              have hRC := HIH.out wr (s ||| 2 ^ i) bj (by have := HN.out; omega) (HR2.out.on hW) (HR.out.on hW) hor24 hlow HBJ.out
              have hnext : ∀ b', Srch k (cof cost) (s ||| 2 ^ i) bj b' → SrchTo k (cof cost) s (none) ((els x).take (j + 1)) b' ∧ ∀ x, b' = some x → x < 16777216 ∧ Low m x := by
                intro b' hb'
                refine ⟨by rw [htake]; exact HST.out.step HXK.out hxi hb', fun y hy => ⟨hb'.1.small (fun z hz => (HBJ.out z hz).1) y hy, Low.of hb' HLK.out hlow (fun z hz => (HBJ.out z hz).2) y hy⟩⟩
              have HNX := Lib.hid hnext
              obtain ⟨p, hp⟩ : ∃ p, 2 ^ i = p := ⟨_, rfl⟩
              rw [hp] at hsh hor hRC HNX
              obtain ⟨t, ht⟩ : ∃ t, s ||| p = t := ⟨_, rfl⟩
              rw [ht] at hor hRC HNX
              clear hnext hpc hlow hW hsi hget htake hp24 hor24 hp ht hxi
              go_wp2_with fail
              refine hRC.mono ?_
              rintro e w4 ⟨b', hb', rfl, P4⟩
              obtain ⟨hn1, hn2⟩ := HNX.out b' hb'
              have HN1' := Lib.hid hn1
              have HN2' := Lib.hid hn2
              have HW4 := Lib.hid (HW.out.trans P4)
              clear hRC hb' hn1 hn2
              go_wp2
              exact ⟨⟨j + 1, b', by omega, by go_num, rfl, HN1', HN2', HW4⟩, by simp [intOf]; omega⟩
            · obtain rfl : j = n1 := by omega
              have hS := HST.out
              rw [List.take_of_length_le (by rw [HN1.out]; omega)] at hS
              have HS := Lib.hid (hS.done HXK.out hx24)
              clear hS
              go_wp2
              go_ret
              exact ⟨bj, HS.out, rfl, HP2.out.trans HW.out⟩
      · have hsv : setV (some y) = (y : Int) := rfl
        have hBT := rbetter_any w B m d cost HR2.out HC.out s y hs (HB.out y rfl).1 HLS.out (HB.out y rfl).2
        rw [decide_eq_true (HLT.out y rfl)] at hBT
        have hd : decide ((0 : Int) ≤ (y : Int)) = true := decide_eq_true (by omega)
        rw [hsv]
        go_enter Tryd.func47, Tryd.ntmps47
        go_wp2_with fail
        refine hBT.mono ?_
        rintro e w1 ⟨rfl, P1⟩
        have hFc := HF.out w1 P1
        clear hBT
        go_wp2_with fail
        refine hFc.mono ?_
        rintro e w0 ⟨rfl, rfl⟩
        clear hFc hd
        rcases F with _ | x
        · have hs2 : setV none = -1 := rfl
          rw [hs2]
          have HS := Lib.hid (HFN.out rfl)
          go_wp2
          go_ret
          exact ⟨some s, HS.out, rfl, P1⟩
        · obtain ⟨hxk, hxs⟩ := HFS.out x rfl
          have hx24 := HK.out x hxk
          have hE := HEL w1 x hx24
          rw [cut_nat x hx24] at hE
          have hs2 : setV (some x) = (x : Int) := rfl
          rw [hs2]
          have hxn : ¬ (x : Int) < 0 := by omega
          have HXK := Lib.hid hxk
          have HXS := Lib.hid hxs
          have HP1 := Lib.hid P1
          clear hxk hxs HEL P1
          go_wp2_with fail
          refine hE.mono ?_
          rintro e w2 ⟨A2, n1, c2, rfl, R2, P2⟩
          have hn1 : (els x).length = n1 := by have := R2.len; rw [ints_len] at this; exact this
          have hcap2 := R2.cap
          have hmax2 := R2.max
          have HN1 := Lib.hid hn1
          have HRE := Lib.hid R2
          have HP2 := Lib.hid (HP1.out.trans P2)
          clear hE hn1 R2
          go_wp2
          go_loopw [2, 31] (fun v i wr => ∃ (j : Nat) (bj : Option Nat), j ≤ n1 ∧ i = .int .i64 (j : Int) ∧ v = .int .i64 (setV bj) ∧ Hid (SrchTo k (cof cost) s (some y) ((els x).take j) bj) ∧ Hid (∀ x, bj = some x → x < 16777216 ∧ Low m x) ∧ Hid (On w2 wr)) (fun _ i _ => n1 - (intOf i).toNat)
          case atStart => exact ⟨0, some y, by omega, rfl, rfl, SrchTo.start _ _ _ _, HB.out, On.refl w2⟩
          case round =>
            obtain ⟨j, bj, hj, rfl, rfl, HST, HBJ, HW⟩ := hrel
            by_cases hlt : j < n1
            · have hjl : j < (els x).length := by rw [HN1.out]; exact hlt
              obtain ⟨i, hi, hxi, hget, htake, _⟩ := els_get hjl
              obtain ⟨ad, e1, _, hc⟩ := (HRE.out.on HW.out).at_ j _ (ints_get hjl)
              cases e1
              rw [hget] at hc
              have hsi : s.testBit i = false := by
                rw [Bool.eq_false_iff]
                intro e
                have := congrArg (·.testBit i) HXS.out
                simp [hxi, e] at this
              have hpc := pc_add_bit hi hsi
              have hp24 := two_lt hi
              have hsh := shlw i hi
              have hor := or_nat s (2 ^ i) (Nat.lt_trans hs (by decide)) (Nat.lt_trans hp24 (by decide))
              have hor24 := or_lt24 hs hp24
              have hlow : Low m (s ||| 2 ^ i) := by
                intro q hq
                rw [Nat.testBit_or, tb_two, Bool.or_eq_true] at hq
                rcases hq with hq | hq
                · exact HLS.out q hq
                · have e : i = q := of_decide_eq_true hq
                  subst e; exact HLK.out x HXK.out i hxi
              have hW := HP2.out.trans HW.out
              have hRC := HIH.out wr (s ||| 2 ^ i) bj (by have := HN.out; omega) (HR2.out.on hW) (HR.out.on hW) hor24 hlow HBJ.out
              have hnext : ∀ b', Srch k (cof cost) (s ||| 2 ^ i) bj b' → SrchTo k (cof cost) s (some y) ((els x).take (j + 1)) b' ∧ ∀ x, b' = some x → x < 16777216 ∧ Low m x := by
                intro b' hb'
                refine ⟨by rw [htake]; exact HST.out.step HXK.out hxi hb', fun y hy => ⟨hb'.1.small (fun z hz => (HBJ.out z hz).1) y hy, Low.of hb' HLK.out hlow (fun z hz => (HBJ.out z hz).2) y hy⟩⟩
              have HNX := Lib.hid hnext
              obtain ⟨p, hp⟩ : ∃ p, 2 ^ i = p := ⟨_, rfl⟩
              rw [hp] at hsh hor hRC HNX
              obtain ⟨t, ht⟩ : ∃ t, s ||| p = t := ⟨_, rfl⟩
              rw [ht] at hor hRC HNX
              clear hnext hpc hlow hW hsi hget htake hp24 hor24 hp ht hxi
              go_wp2_with fail
              refine hRC.mono ?_
              rintro e w4 ⟨b', hb', rfl, P4⟩
              obtain ⟨hn1, hn2⟩ := HNX.out b' hb'
              have HN1' := Lib.hid hn1
              have HN2' := Lib.hid hn2
              have HW4 := Lib.hid (HW.out.trans P4)
              clear hRC hb' hn1 hn2
              go_wp2
              exact ⟨⟨j + 1, b', by omega, by go_num, rfl, HN1', HN2', HW4⟩, by simp [intOf]; omega⟩
            · obtain rfl : j = n1 := by omega
              have hS := HST.out
              rw [List.take_of_length_le (by rw [HN1.out]; omega)] at hS
              have HS := Lib.hid (hS.done HXK.out hx24)
              clear hS
              go_wp2
              go_ret
              exact ⟨bj, HS.out, rfl, HP2.out.trans HW.out⟩
end Go.Proofs.YtakkbemldccekaaDoor.Sb
/-
  The specification of hitting sets: Least, Cheapest.
-/
namespace Go.Proofs.YtakkbemldccekaaDoor.Sb
open Go.RowKit
set_option linter.unusedVariables false
set_option maxRecDepth 100000
theorem low24 {x : Nat} (hx : x < 16777216) : Low 24 x := by
  intro i hi
  refine Classical.byContradiction fun h24 => ?_
  have hp : 2 ^ 24 ≤ 2 ^ i := Nat.pow_le_pow_right (by decide) (by omega)
  rw [Nat.testBit_lt_two_pow (Nat.lt_of_lt_of_le hx hp)] at hi; cases hi
def zeros : List Int := List.replicate 24 0
theorem zeros_ok : okC zeros = true := by decide
theorem zeros_cof : cof zeros = fun _ => 0 := by
  funext i
  unfold cof zeros
  rw [List.getD_eq_getElem?_getD, List.getElem?_replicate]
  split <;> rfl
theorem run_mk24 (w : World) :
    (Instr.makeSlice 22 (.int .i64 24) (.int .i64 24)).run Tryd.prog w = .ok (.slice (some ⟨w.heap.size, 0, none⟩) 24 24) (w.alloc (.cells (madeCells #[.int .i64 0] 24) 3)) := by
  obtain ⟨i, hi, hz, hs, hb⟩ := info_parts' infoi
  have hr : _ = Result.ok (Value.slice (some ⟨w.heap.size, 0, none⟩) 24 24) (w.alloc (.cells (madeCells #[.int .i64 0] (24 * i.size)) 3)) := run_make (P := Tryd.prog) w 22 3 i (.int .i64 0) Tryd.underlying22 hi hz .i64 .i64 24 24 (by decide) (by decide) (by rw [hb]; decide) (by decide)
  rw [hs] at hr
  exact hr
theorem rd_mk24 (w : World) : Rd (w.alloc (.cells (madeCells #[.int .i64 0] 24) 3)) (some ⟨w.heap.size, 0, none⟩) 24 24 (VI zeros) :=
  rd_lit w 3 _ _ 24 (by rw [toList_madeCells_one]; rfl) rfl (by decide)
theorem srch_lt {l : List Int} (hz : lerr l = 0) {c : Nat → Nat} {b' : Option Nat} (h : Srch (minL (natsOf l)) c 0 none b') :
    (b' = none ∧ Lt l c 0 17) ∨ ∃ H, b' = some H ∧ Lt l c H 0 := by
  have hok := (lerr_nats l hz).2.1
  have h0 : 0 ∈ minL (natsOf l) ↔ 0 ∈ natsOf l := by
    constructor
    · exact fun h => ((minL_mem _ _).1 h).1
    · exact fun h => by rw [min_has_zero h]; simp
  rcases h.top (minL_ok hok) with ⟨h1, h2⟩ | ⟨h1, H, h2, h3⟩
  · exact .inl ⟨h2, .inr (.inl ⟨hz, h0.1 h1, rfl, rfl⟩)⟩
  · exact .inr ⟨H, h2, .inr (.inr ⟨hz, fun h => h1 (h0.2 h), h3.congr fun s => meets_min hok s, rfl⟩)⟩
set_option maxHeartbeats 8000000 in
theorem rLeast_all (w : World) (A : Option Addr) (n c : Nat) (l : List Int) (h : Rd w A n c (VI l)) :
    Calls Tryd.prog 22 #[.slice A n c] w fun e w' => ∃ s er, Lt l (fun _ => 0) s er ∧ e = .returned (.tuple #[.int .i64 ((s : Nat) : Int), .int .i64 ((er : Nat) : Int)]) ∧ On w w' := by
  have hE := Error_any w A n c l h
  by_cases hz : lerr l = 0
  · obtain ⟨hlk, hok, hlen⟩ := lerr_nats l hz
    rw [hlk] at h
    have hn : (natsOf l).length = n := by have := h.len; rw [ints_len] at this; exact this
    have hn2 : n ≤ 1000000 := by omega
    have hLe := fun W (k : On w W) => rleast_any W A n c (natsOf l) (h.on k) hok hn2
    have hSL := fun b' (hb : Srch (minL (natsOf l)) (fun _ => 0) 0 none b') => srch_lt hz hb
    rw [hz] at hE
    have hmo := minL_ok hok
    have hml : ∀ x ∈ minL (natsOf l), Low 24 x := fun x hx => low24 (hmo x hx)
    generalize minL (natsOf l) = k at hLe hSL hmo hml
    have hSR := fun A1 n1 c1 W B (h2 : Rd W B 24 24 (VI zeros)) (h1 : Rd W A1 n1 c1 (VI (ints k))) => rsearch_any B 24 24 zeros zeros_ok A1 n1 c1 k hmo hml 25 W 0 none (by rw [pc_zero]; decide) h2 h1 (by decide) (fun i hi => by simp at hi) (fun x hx => by cases hx)
    rw [zeros_cof] at hSR
    have HLe := Lib.hid hLe
    have HSL := Lib.hid hSL
    have HSR := Lib.hid hSR
    have hmk := run_mk24
    clear h hz hlk hok hlen hn hLe hSL hmo hml hSR
    go_enter Tryd.func22, Tryd.ntmps22
    go_wp2_with fail
    refine hE.mono ?_
    rintro e w0 ⟨rfl, rfl⟩
    clear hE
    go_wp2
    go_region_held3 (fun W => On w W) (first | exact (On.refl w).drew | exact On.refl w | assumption | exact On.trans (by assumption) P5 | exact On.trans (by assumption) P6 | exact On.alloc (by assumption) _)
      (first
        | (go_at_call 39; with_reducible refine (HLe.out _ ?_).mono ?_; assumption; rintro e w' ⟨A5, n5, c5, rfl, R5, P5⟩)
        | (go_at_call 47; refine (HSR.out _ _ _ _ _ ?_ ?_).mono ?_; (first | exact rd_mk24 _ | exact (rd_mk24 _).drew.on P5); (first | exact R5 | exact R5.alloc _); rintro e w' ⟨b', hb', rfl, P6⟩))
    all_goals
      rename_i hHe
      rcases HSL.out b' hb' with ⟨rfl, hL⟩ | ⟨H, rfl, hL⟩
      · have hs2 : setV none = -1 := rfl
        rw [hs2]
        have HL := Lib.hid hL
        have HHe := Lib.hid hHe
        clear hb' hL hHe P5 P6 R5
        go_wp2
        go_ret2
        exact ⟨0, 17, HL.out, rfl, HHe.out⟩
      · have hs2 : setV (some H) = (H : Int) := rfl
        rw [hs2]
        have HL := Lib.hid hL
        have HHe := Lib.hid hHe
        clear hb' hL hHe P5 P6 R5
        go_wp2
        go_ret2
        exact ⟨H, 0, HL.out, rfl, HHe.out⟩
  · have HF := Lib.hid (show Lt l (fun _ => 0) 0 (lerr l) from .inl ⟨hz, rfl, rfl⟩)
    generalize lerr l = E at hz hE HF
    have h0 : ¬ (E : Int) = 0 := by omega
    clear h
    go_enter Tryd.func22, Tryd.ntmps22
    go_wp2_with fail
    refine hE.mono ?_
    rintro e w0 ⟨rfl, rfl⟩
    go_wp2
    go_ret2
    exact ⟨0, E, HF.out, rfl, On.refl _⟩
set_option maxHeartbeats 8000000 in
theorem rCheapest_all (w : World) (A : Option Addr) (n c : Nat) (l : List Int) (h : Rd w A n c (VI l)) (B : Option Addr) (m d : Nat) (cost : List Int) (h2 : Rd w B m d (VI cost)) :
    Calls Tryd.prog 23 #[.slice A n c, .slice B m d] w fun e w' => ∃ s t er, Ch l cost s t er ∧ e = .returned (.tuple #[.int .i64 ((s : Nat) : Int), .int .i64 ((t : Nat) : Int), .int .i64 ((er : Nat) : Int)]) ∧ On w w' := by
  have hE := Error_any w A n c l h
  by_cases hz : lerr l = 0
  · obtain ⟨hlk, hok, hlen⟩ := lerr_nats l hz
    rw [hlk] at h
    have hn : (natsOf l).length = n := by have := h.len; rw [ints_len] at this; exact this
    have hm : cost.length = m := by have := h2.len; rw [VI_length] at this; exact this
    have hcap := h2.cap
    have hmax := h2.max
    have hn2 : n ≤ 1000000 := by omega
    have hS := rSupport_ok w A n c (natsOf l) h hok hlen
    have hLe := fun W (k : On w W) => rleast_any W A n c (natsOf l) (h.on k) hok hn2
    have hSL := fun (cc : Nat → Nat) b' (hb : Srch (minL (natsOf l)) cc 0 none b') => srch_lt hz hb
    rw [hz] at hE
    have ho24 := orL_ok hok
    have hmo := minL_ok hok
    have hlow : greatest (orL (natsOf l)) < (m : Int) → ∀ x ∈ minL (natsOf l), Low m x := by
      intro hg x hx i hi
      have hxm := ((minL_mem _ x).1 hx).1
      have hi24 : i < 24 := low24 (hok x hxm) i hi
      have := greatest_ge hi24 ((orL_bit (natsOf l) i).2 ⟨x, hxm, hi⟩)
      omega
    have hCh1 : (m : Int) ≤ greatest (orL (natsOf l)) → Ch l cost 0 0 11 := fun hb => .inr (.inl ⟨hz, by rw [hm]; exact hb, rfl, rfl, rfl⟩)
    have hCh2 : greatest (orL (natsOf l)) < (m : Int) → okC cost = false → Ch l cost 0 0 3 := fun hb hc => .inr (.inr (.inl ⟨hz, by rw [hm]; exact hb, hc, rfl, rfl, rfl⟩))
    have hCh3 : greatest (orL (natsOf l)) < (m : Int) → okC cost = true → ∀ s er, Lt l (cof cost) s er → Ch l cost s (sumR (cof cost) s 24) er := fun hb hc s er hL => .inr (.inr (.inr ⟨hz, by rw [hm]; exact hb, hc, hL, rfl⟩))
    generalize minL (natsOf l) = k at hLe hSL hmo hlow
    obtain ⟨o, ho⟩ : ∃ o, orL (natsOf l) = o := ⟨_, rfl⟩
    rw [ho] at hS ho24 hlow hCh1 hCh2 hCh3
    have hgr := fun W => rgreatest_any W (o : Int)
    rw [cut_nat o ho24] at hgr
    obtain ⟨gt, hgt⟩ : ∃ z, greatest o = z := ⟨_, rfl⟩
    rw [hgt] at hgr hlow hCh1 hCh2 hCh3
    have hSR := fun (hc : okC cost = true) (hg : gt < (m : Int)) A1 n1 c1 W (h2 : Rd W B m d (VI cost)) (h1 : Rd W A1 n1 c1 (VI (ints k))) => rsearch_any B m d cost hc A1 n1 c1 k hmo (hlow hg) 25 W 0 none (by rw [pc_zero]; decide) h2 h1 (by decide) (fun i hi => by simp at hi) (fun x hx => by cases hx)
    have hLW := fun (hg : gt < (m : Int)) b' (cc : Nat → Nat) (hb : Srch k cc 0 none b') => Low.of hb (hlow hg) (fun i hi => by simp at hi) (fun x hx => by cases hx)
    have hSM := fun b' (cc : Nat → Nat) (hb : Srch k cc 0 none b') => hb.1.small (fun x hx => by cases hx)
    have HM := Lib.hid hm
    have HR2 := Lib.hid h2
    have HLe := Lib.hid hLe
    have HSL := Lib.hid hSL
    have HC1 := Lib.hid hCh1
    have HC2 := Lib.hid hCh2
    have HC3 := Lib.hid hCh3
    have HSR := Lib.hid hSR
    have HLW := Lib.hid hLW
    have HSM := Lib.hid hSM
    clear hm h h2 hz hlk hok hlen hn hLe hSL hmo hlow hCh1 hCh2 hCh3 ho hgt hSR hLW hSM ho24
    go_enter Tryd.func23, Tryd.ntmps23
    go_wp2_with fail
    refine hE.mono ?_
    rintro e w0 ⟨rfl, rfl⟩
    clear hE
    go_wp2_with fail
    refine hS.mono ?_
    rintro e w1 ⟨rfl, P1⟩
    clear hS
    go_wp2_with fail
    refine (hgr _).mono ?_
    rintro e w2 ⟨rfl, P2⟩
    clear hgr
    have HP := Lib.hid (P1.trans P2)
    clear P1 P2
    by_cases hb : (m : Int) ≤ gt
    · have HF := Lib.hid (HC1.out hb)
      go_wp2
      go_ret3
      exact ⟨0, 0, 11, HF.out, rfl, HP.out⟩
    · have HNB := Lib.hid (show gt < (m : Int) by omega)
      go_wp2
      go_loop [5, 30] (fun t i => ∃ j : Nat, j ≤ m ∧ i = .int .i64 (j : Int) ∧ t = .int .i64 0 ∧ Hid (okC (cost.take j) = true)) (fun _ i => m - (intOf i).toNat)
      case atStart => exact ⟨0, by omega, rfl, rfl, rfl⟩
      case round =>
        obtain ⟨j, hj, rfl, rfl, HC⟩ := hrel
        by_cases hlt : j < m
        · have hjl : j < cost.length := by rw [HM.out]; exact hlt
          obtain ⟨ad, ea, _, hc⟩ := (HR2.out.on HP.out).at_ j _ (VI_get hjl)
          cases ea
          have hst := okC_take hjl
          rw [HC.out, Bool.true_and] at hst
          have hbd := okC_bad hjl
          obtain ⟨x, hx⟩ : ∃ x, cost.getD j 0 = x := ⟨_, rfl⟩
          rw [hx] at hc hst hbd
          have HST := Lib.hid hst
          have HBD := Lib.hid hbd
          clear hx hst hbd
          by_cases h1 : x < 0
          · have HF := Lib.hid (HC2.out HNB.out (HBD.out (decide_eq_false (by omega))))
            have h1b : decide (x < 0) = true := decide_eq_true h1
            go_wp2
            go_ret3
            exact ⟨0, 0, 3, HF.out, rfl, HP.out⟩
          · by_cases h3 : 1048576 < x
            · have HF := Lib.hid (HC2.out HNB.out (HBD.out (decide_eq_false (by omega))))
              have h1b : decide (x < 0) = false := decide_eq_false h1
              go_wp2
              go_ret3
              exact ⟨0, 0, 3, HF.out, rfl, HP.out⟩
            · have h1b : decide (x < 0) = false := decide_eq_false h1
              have HS2 := Lib.hid (HST.out.trans (decide_eq_true (show 0 ≤ x ∧ x ≤ 1048576 by omega)))
              go_wp2
              exact ⟨⟨j + 1, by omega, by go_num, rfl, HS2⟩, by simp [intOf]; omega⟩
        · obtain rfl : j = m := by omega
          have hCk := HC.out
          rw [List.take_of_length_le (by rw [HM.out]; omega)] at hCk
          have HCK := Lib.hid hCk
          have hL := HLe.out w2 HP.out
          clear hCk
          go_wp2_with fail
          refine hL.mono ?_
          rintro e w3 ⟨A3, n3, c3, rfl, R3, P3⟩
          have hSc := HSR.out HCK.out HNB.out A3 n3 c3 w3 (HR2.out.on (HP.out.trans P3)) R3
          have hsv : setV none = -1 := rfl
          rw [hsv] at hSc
          clear hL R3
          go_wp2_with fail
          refine hSc.mono ?_
          rintro e w4 ⟨b', hb', rfl, P4⟩
          have HP4 := Lib.hid ((HP.out.trans P3).trans P4)
          clear hSc hsv
          rcases HSL.out _ b' hb' with ⟨rfl, hL⟩ | ⟨H, rfl, hL⟩
          · have hs2 : setV none = -1 := rfl
            rw [hs2]
            have hF := HC3.out HNB.out HCK.out 0 17 hL
            rw [sumR_zero] at hF
            have HF := Lib.hid hF
            clear hb' hL hF
            go_wp2
            go_ret3
            exact ⟨0, 0, 17, HF.out, rfl, HP4.out⟩
          · have hs2 : setV (some H) = (H : Int) := rfl
            rw [hs2]
            have HF := Lib.hid (HC3.out HNB.out HCK.out H 0 hL)
            have hSum := rsum_any w4 B j d cost (HR2.out.on HP4.out) HCK.out H (HSM.out _ _ hb' H rfl) (HLW.out HNB.out _ _ hb' H rfl)
            clear hb' hL
            go_wp2_with fail
            refine hSum.mono ?_
            rintro e w5 ⟨rfl, P5⟩
            clear hSum
            go_wp2
            go_ret3
            exact ⟨H, _, 0, HF.out, rfl, HP4.out.trans P5⟩
  · have HF := Lib.hid (show Ch l cost 0 0 (lerr l) from .inl ⟨hz, rfl, rfl, rfl⟩)
    generalize lerr l = E at hz hE HF
    have h0 : ¬ (E : Int) = 0 := by omega
    clear h h2
    go_enter Tryd.func23, Tryd.ntmps23
    go_wp2_with fail
    refine hE.mono ?_
    rintro e w0 ⟨rfl, rfl⟩
    go_wp2
    go_ret3
    exact ⟨0, 0, E, HF.out, rfl, On.refl _⟩
end Go.Proofs.YtakkbemldccekaaDoor.Sb
