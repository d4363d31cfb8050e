/-
  The specification's Parts.
-/
import Derived.Test.YtibkpglgeincdaaDoorSr1
import Derived.Test.YtibkpglgeincdaaDoorSg1
import Derived.Test.YtibkpglgeincdaaDoorSc3
import Derived.Test.YtibkpglgeincdaaDoorSc5
import Derived.Test.YtibkpglgeincdaaDoorSc7
import Derived.Test.YtibkpglgeincdaaDoorSc9
import Derived.Test.YtibkpglgeincdaaDoorSs6
import Derived.Deep.AppendLies
namespace Go.Proofs.YtibkpglgeincdaaDoor.Sb
open Go.RowKit
set_option linter.unusedVariables false
set_option maxRecDepth 100000
/-- a new row of ints -/
def GivesO (w : World) (l : List Nat) (e : Ending) (w' : World) : Prop := ∃ v, e = .returned v ∧ w'.ownsRow w.heap.size 3 1 v l.length (VI (ints l)) ∧ On w w'
set_option maxHeartbeats 1000000 in
theorem elements_own (w : World) (s : Int) :
    Calls Tryd.prog 29 #[.int .i64 s] w (GivesO w (els (cut s))) := by
  have hH := fun W i hi => rhas_in W s i hi
  generalize cut s = c at hH ⊢
  go_enter Tryd.func29, Tryd.ntmps29
  go_wp2
  go_loopw [3, 5] (fun v i wr => ∃ k : Nat, k ≤ 24 ∧ i = .int .i64 (k : Int) ∧ wr.ownsRow w.heap.size 3 1 v (elsTo c k).length (VI (ints (elsTo c k))) ∧ On w wr) (fun _ i _ => 24 - (intOf i).toNat)
  case atStart => exact ⟨0, by omega, rfl, row_nil _ _ _, On.refl _⟩
  case round =>
    obtain ⟨k, hk, rfl, hrow, hon⟩ := hrel
    by_cases hlt : k < 24
    · have hh := fun W => hH W k hlt
      clear hH
      obtain ⟨A4, c4, rfl⟩ := row_form hrow
      have hsucc := elsTo_succ c k
      have hle := elsTo_len c k
      have hsz := hon.size
      by_cases hb : c.testBit k = true
      · rw [if_pos hb] at hsucc
        rw [hb] at hh
        have HS := Lib.hid hsucc
        have HR := Lib.hid hrow
        clear hsucc hrow
        go_wp2_with (first | (with_reducible refine (hh _).mono ?_; rintro e w' ⟨rfl, rfl⟩) | (at_builtin; refine wpList_app rfl (.tmp 11) (.tmp 13) 27 rfl w.heap.size 3 (.int .i64 0) 8 Tryd.underlying27 infoi rfl (by decide) (.slice A4 (elsTo c k).length c4) _ (VI (ints (elsTo c k))) rfl (row_alloc HR.out _) (some ⟨wr.heap.size, 0, none⟩) 1 1 [.int .i64 (k : Int)] rfl (rd_one _ _ _) (by simp [Value.oneCell']) (by omega) (by simp; omega) ?_; intro v' w5 hown5 hgrow5 _))
        refine ⟨⟨k + 1, by omega, by go_num, ?_, ?_⟩, by simp [intOf]; omega⟩
        · rw [HS.out, List.length_append]
          have e : VI (ints (elsTo c k ++ [k])) = VI (ints (elsTo c k)) ++ [.int .i64 (k : Int)] := by simp [VI, ints]
          rw [e]; exact hown5
        · exact on_row (hon.alloc _) (row_alloc HR.out _) (Nat.le_refl _) hgrow5
      · have hb2 : c.testBit k = false := by simpa using hb
        rw [if_neg hb] at hsucc
        rw [hb2] at hh
        have HS := Lib.hid hsucc
        have HR := Lib.hid hrow
        clear hsucc hrow
        go_wp2_with (with_reducible refine (hh _).mono ?_; rintro e w' ⟨rfl, rfl⟩)
        refine ⟨⟨k + 1, by omega, by go_num, ?_, hon⟩, by simp [intOf]; omega⟩
        rw [HS.out]; exact HR.out
    · obtain rfl : k = 24 := by omega
      obtain ⟨A4, c4, rfl⟩ := row_form hrow
      clear hH
      have HR := Lib.hid hrow
      clear hrow
      go_wp2
      go_ret
      exact ⟨_, rfl, HR.out, hon⟩

/-- the row v lies elsewhere than A -/
def Far (w : World) (v : Value) (A : Option Addr) : Prop := ∀ ad, A = some ad → ad.block < w.heap.size ∧ v.ownBlock ≠ some ad.block
theorem Far.on {w w' : World} {v : Value} {A : Option Addr} (h : Far w v A) (k : On w w') : Far w' v A := fun ad e => ⟨Nat.lt_of_lt_of_le (h ad e).1 k.size, (h ad e).2⟩
theorem Far.grow {w w' : World} {v v' : Value} {A : Option Addr} (h : Far w v A) (k : w.grownBy w' v.ownBlock) (ho : v'.ownBlock = v.ownBlock ∨ v'.ownBlock = some w.heap.size) : Far w' v' A := by
  intro ad e
  obtain ⟨h1, h2⟩ := h ad e
  refine ⟨Nat.lt_of_lt_of_le h1 k.size, ?_⟩
  rcases ho with e2 | e2
  · rw [e2]; exact h2
  · rw [e2]; intro e3; have := Option.some.inj e3; omega
theorem Rd.far {w w' : World} {row : Option Nat} {A : Option Addr} {n c : Nat} {xs : List Value} (h : Rd w A n c xs) (k : w.grownBy w' row) (hne : ∀ ad, A = some ad → row ≠ some ad.block) : Rd w' A n c xs := by
  refine ⟨h.1, h.2.1, h.2.2.1, h.2.2.2.1, fun hn => ?_⟩
  obtain ⟨ad, e, hb, hc⟩ := h.2.2.2.2 hn
  refine ⟨ad, e, Nat.lt_of_lt_of_le hb k.size, fun j u hj => ?_⟩
  rw [k.cell_far _ (by rw [block_of_add]; exact hb) (by rw [block_of_add]; exact fun e2 => hne ad e e2.symm)]
  exact hc j u hj
theorem row_blk_lt {w : World} {base : Nat} {e : TypeId} {v : Value} {n : Nat} {xs : List Value} (h : w.ownsRow base e 1 v n xs) : ∀ k, v.ownBlock = some k → k < w.heap.size := by
  intro k e2
  rcases h.2 with ⟨rfl, _⟩ | ⟨g', cap, cur, rfl, hb', hh, _⟩
  · simp [Value.ownBlock] at e2
  · simp [Value.ownBlock] at e2
    have := (Array.getElem?_eq_some_iff.1 hh).1
    omega
/-- a row of old and one that was made later -/
theorem far_row {w w2 : World} {base : Nat} {t t2 : TypeId} {v : Value} {n n2 c2 : Nat} {xs ys : List Value} {A : Option Addr} (h : w.ownsRow base t 1 v n xs) (h2 : w2.ownsRow w.heap.size t2 1 (.slice A n2 c2) n2 ys) : Far w2 v A := by
  intro ad e
  subst e
  rcases h2.2 with ⟨e2, _⟩ | ⟨g', cap, cur, e2, hb', hh, _⟩
  · cases e2
  · cases e2
    refine ⟨(Array.getElem?_eq_some_iff.1 hh).1, fun e3 => ?_⟩
    have := row_blk_lt h _ e3
    exact absurd hb' (by simp at this ⊢; omega)
theorem row_one_on (w : World) (t : TypeId) (u : Value) : (w.alloc (.cells #[u] t)).ownsRow w.heap.size t 1 (.slice (some ⟨w.heap.size, 0, none⟩) 1 1) 1 [u] := row_one w t u
theorem two_le (j : Nat) (h : j ≤ 10) : 2 ^ j ≤ 1024 := Nat.pow_le_pow_right (n := 2) (by decide) h
theorem pl_take (es : List Nat) (j t : Nat) (ht : t < (pl es j).length) : ((pl es j).take (t + 1)).map (· ||| 2 ^ es.getD j 0) = ((pl es j).take t).map (· ||| 2 ^ es.getD j 0) ++ [(pl es j).getD t 0 ||| 2 ^ es.getD j 0] := by
  rw [take_snoc ht, List.map_append]; rfl
theorem pl_mono (es : List Nat) (j : Nat) : ∀ k x, x ∈ pl es j → x ∈ pl es (j + k) := by
  intro k
  induction k with
  | zero => intro x h; exact h
  | succ k ih => intro x h; exact List.mem_append.2 (.inl (ih x h))
theorem pl_lt (s : Nat) (hs : s < 16777216) (j : Nat) (hj : j ≤ (els s).length) (x : Nat) (h : x ∈ pl (els s) j) : x < 16777216 := by
  refine pl_ok s hs x ?_
  have := pl_mono (els s) j ((els s).length - j) x h
  rwa [show j + ((els s).length - j) = (els s).length by omega] at this
set_option maxHeartbeats 8000000 in
theorem rparts_run (w : World) (s : Nat) (hs : s < 16777216) (h : pc s ≤ 10) :
    Calls Tryd.prog 12 #[.int .i64 (s : Int)] w (GivesC w (sortU (pl (els s) (els s).length)) 0) := by
  have hV := fun W => rvalid_any W (s : Int)
  rw [decide_eq_true (show (0 : Int) ≤ (s : Int) ∧ (s : Int) < 16777216 by omega)] at hV
  have hC := fun W => rcount_any W (s : Int)
  have hE := fun W => elements_own W (s : Int)
  rw [cut_nat s hs] at hC hE
  have hpc : ¬ (10 : Int) < ((pc s : Nat) : Int) := by omega
  have hel : (els s).length ≤ 10 := h
  have hLT := pl_lt s hs
  have hbits : ∀ t, t < (els s).length → (els s).getD t 0 < 24 := fun t ht => by
    have : (els s).getD t 0 ∈ els s := by simp [ht]
    exact ((mem_els s _).1 this).1
  have hSORT := fun W A n c k hn h1 h2 h3 => rsort_any n W A n c k hn h1 h2 h3
  have hOK := pl_ok s hs
  generalize pc s = pp at *
  generalize els s = es at *
  have HL := Lib.hid hel
  have HLT := Lib.hid hLT
  have HB := Lib.hid hbits
  have HOK := Lib.hid hOK
  have HSORT := Lib.hid hSORT
  clear hLT hbits hOK hSORT h hs hel
  go_enter Tryd.func12, Tryd.ntmps12
  go_wp2_with (first | (with_reducible refine (hV _).mono ?_; rintro e w' ⟨rfl, rfl⟩) | (with_reducible refine (hC _).mono ?_; rintro e w' ⟨rfl, rfl⟩))
  refine (hE _).mono ?_
  rintro e w1 ⟨v1, rfl, hrow1, P1⟩
  obtain ⟨AE, cE, rfl⟩ := row_form hrow1
  have hoff : Far w1 (.slice (some ⟨w.heap.size, 0, none⟩) 1 1) AE := far_row (row_one w 3 (.int .i64 0)) hrow1
  have hrd1 := rd_of_row hrow1
  have hrow0 : w1.ownsRow w.heap.size 3 1 (.slice (some ⟨w.heap.size, 0, none⟩) 1 1) 1 (VI (ints [0])) := row_on (row_one w 3 (.int .i64 0)) P1
  have P2 : On w w1 := ((On.refl w).alloc _).trans P1
  obtain ⟨q, hq⟩ : ∃ q, es.length = q := ⟨_, rfl⟩
  rw [hq] at hrd1 HL HLT HB HOK ⊢
  have HROW0 := Lib.hid hrow0
  have HRD1 := Lib.hid hrd1
  have HOFF := Lib.hid hoff
  have HQ := Lib.hid hq
  have hqc := hrd1.cap
  have hqm := hrd1.max
  have hq10 := HL.out
  clear hrow1 hrd1 hrow0 hoff hq hV hC hE P1
  go_wp2
  go_loopw [4, 19] (fun v i wr => ∃ j : Nat, j ≤ q ∧ i = .int .i64 (j : Int) ∧ wr.ownsRow w.heap.size 3 1 v (2 ^ j) (VI (ints (pl es j))) ∧ Rd wr AE q cE (VI (ints es)) ∧ Far wr v AE ∧ On w wr) (fun _ i _ => 24 - (intOf i).toNat)
  case atStart => exact ⟨0, by omega, rfl, HROW0.out, HRD1.out, HOFF.out, P2⟩
  case round =>
    obtain ⟨j, hj, rfl, hrow, hE, hF, hon⟩ := hrel
    clear HROW0 HRD1 HOFF P2
    obtain ⟨A4, c4, rfl⟩ := row_form hrow
    have hrd := rd_of_row hrow
    obtain ⟨wo, hwo⟩ : ∃ wo, wo = wr := ⟨_, rfl⟩
    subst hwo
    by_cases hlt : j < q
    · obtain ⟨ad, e1, _, hc1⟩ := hE.at_ j _ (ints_get (by rw [HQ.out]; exact hlt))
      cases e1
      have hb := HB.out j hlt
      have htk := fun t ht => pl_take es j t ht
      have hlt2 := HLT.out (j + 1) (by omega)
      have hlen := pl_len es j
      have hsucc : pl es (j + 1) = pl es j ++ (pl es j).map (· ||| 2 ^ es.getD j 0) := rfl
      have h2 : 2 ^ j ≤ 1024 := two_le j (by omega)
      have h3 : 2 ^ (j + 1) = 2 ^ j + 2 ^ j := by rw [Nat.pow_succ]; omega
      obtain ⟨b, hbb⟩ : ∃ b, es.getD j 0 = b := ⟨_, rfl⟩
      rw [hbb] at hc1 hb htk hsucc
      obtain ⟨L, hLL⟩ : ∃ L, pl es j = L := ⟨_, rfl⟩
      rw [hLL] at htk hsucc hlen hrow hrd
      obtain ⟨m, hm⟩ : ∃ m, 2 ^ j = m := ⟨_, rfl⟩
      rw [hm] at h2 h3 hlen hrow hrd hF ⊢
      have HTK := Lib.hid htk
      have HLT2 := Lib.hid hlt2
      have HSU := Lib.hid hsucc
      have HLEN := Lib.hid hlen
      have H3 := Lib.hid h3
      have HROW := Lib.hid hrow
      have HRD := Lib.hid hrd
      have HE := Lib.hid hE
      have HF := Lib.hid hF
      have hsz := hon.size
      clear htk hlt2 hsucc hlen h3 hrow hrd hE hF hm hLL hbb HSORT HOK HB HLT
      go_wp2_with (at_builtin; refine wpList_app rfl (.tmp 23) (.tmp 24) 27 rfl wo.heap.size 3 (.int .i64 0) 8 Tryd.underlying27 infoi rfl (by decide) (.slice (some ⟨wo.heap.size, 0, none⟩) 0 0) 0 [] rfl (row_made wo 3 #[] 0 rfl (by omega)) A4 m c4 (VI (ints L)) rfl (HRD.out.alloc _) (VI_one _) (by omega) (by simp) ?_; intro v' w5 hown5 hgrow5 _; have P5 := on_row ((On.refl wo).alloc _) (row_made wo 3 #[] 0 rfl (by omega)) (Nat.le_refl _) hgrow5; rw [Nat.zero_add, List.nil_append] at hown5; obtain ⟨AC, cC, rfl⟩ := row_form hown5; have HC := Lib.hid hown5; clear hown5 hgrow5)
      have hcC := (rd_of_row HC.out).cap
      have hcM := (rd_of_row HC.out).max
      go_loopw [4, 27] (fun v i wr => ∃ t : Nat, t ≤ m ∧ i = .int .i64 (t : Int) ∧ wr.ownsRow w.heap.size 3 1 v (m + t) (VI (ints (L ++ (L.take t).map (· ||| 2 ^ b)))) ∧ Rd wr AC m cC (VI (ints L)) ∧ Far wr v AC ∧ Rd wr (some ad) q cE (VI (ints es)) ∧ Far wr v (some ad) ∧ On w wr) (fun _ i _ => 2000 - (intOf i).toNat)
      case atStart => exact ⟨0, by omega, rfl, by simpa using row_on HROW.out P5, rd_of_row HC.out, far_row HROW.out HC.out, HE.out.on P5, HF.out.on P5, hon.trans P5⟩
      case round =>
        obtain ⟨t, ht, rfl, hrow2, hC2, hFC, hE2, hFE, hon2⟩ := hrel
        obtain ⟨A5, c5, rfl⟩ := row_form hrow2
        have HROW2 := Lib.hid hrow2
        have HC2 := Lib.hid hC2
        have HFC := Lib.hid hFC
        have HE2 := Lib.hid hE2
        have HFE := Lib.hid hFE
        have hsz2 := hon2.size
        by_cases hlt3 : t < m
        · have htl : t < L.length := by rw [HLEN.out]; exact hlt3
          obtain ⟨ad2, e2, _, hc2⟩ := hC2.at_ t _ (ints_get htl)
          cases e2
          have hst := HTK.out t htl
          have hx24 : L.getD t 0 < 16777216 := HLT2.out _ (by rw [HSU.out]; exact List.mem_append.2 (.inl (by simp [htl])))
          obtain ⟨x, hx⟩ : ∃ x, L.getD t 0 = x := ⟨_, rfl⟩
          rw [hx] at hc2 hst hx24
          have hp := shlw b hb
          obtain ⟨p, hpp⟩ : ∃ p, 2 ^ b = p := ⟨_, rfl⟩
          have hp23 : p ≤ 33554432 := by
            rw [← hpp]
            have : (2 : Nat) ^ b ≤ 2 ^ 25 := Nat.pow_le_pow_right (by decide) (by omega)
            exact this
          have hor := or64 x p _ (by omega) hp23 rfl
          rw [hpp] at hp hst
          obtain ⟨z, hz⟩ : ∃ z, x ||| p = z := ⟨_, rfl⟩
          rw [hz] at hor hst
          have hvi : VI (ints (L ++ (L.take (t + 1)).map (· ||| 2 ^ b))) = VI (ints (L ++ (L.take t).map (· ||| 2 ^ b))) ++ [Value.int .i64 (z : Int)] := by
            rw [hpp, hst]; simp [VI, ints]
          have HVI := Lib.hid hvi
          have q0 : (0 : Int) ≤ (b : Int) := by omega
          clear hvi hz hpp hst hx hx24 hp23 hrow2 hC2 hFC hE2 hFE htl
          go_wp2_with (at_builtin; refine wpList_app rfl (.tmp 31) (.tmp 36) 27 rfl w.heap.size 3 (.int .i64 0) 8 Tryd.underlying27 infoi rfl (by decide) (.slice A5 (m + t) c5) (m + t) (VI (ints (L ++ (L.take t).map (· ||| 2 ^ b)))) rfl (row_alloc HROW2.out _) (some ⟨wr.heap.size, 0, none⟩) 1 1 [.int .i64 (z : Int)] rfl (rd_one _ _ _) (by simp [Value.oneCell']) (by omega) (by simp; omega) ?_; intro v' w6 hown6 hgrow6 hor6)
          refine ⟨⟨t + 1, by omega, by go_num, by rw [HVI.out]; exact hown6, (HC2.out.alloc _).far hgrow6 (fun ad e => (HFC.out ad e).2), (HFC.out.on ((On.refl _).alloc _)).grow hgrow6 hor6, (HE2.out.alloc _).far hgrow6 (fun ad e => (HFE.out ad e).2), (HFE.out.on ((On.refl _).alloc _)).grow hgrow6 hor6, on_row (hon2.alloc _) (row_alloc HROW2.out _) (Nat.le_refl _) hgrow6⟩, by simp [intOf]; omega⟩
        · obtain rfl : m = t := by omega
          clear hrow2 hC2 hFC hE2 hFE
          go_wp2
          go_roundw
          case rel => exact ⟨j + 1, by omega, by go_num, by rw [H3.out, HSU.out]; have := HROW2.out; rwa [List.take_of_length_le (by rw [HLEN.out]; exact Nat.le_refl _)] at this, HE2.out, HFE.out, hon2⟩
          case measure => simp [intOf]; omega
    · obtain rfl : j = q := by omega
      have hS := HSORT.out wo A4 (2 ^ j) c4 (pl es j) (Nat.le_refl _) hrd HOK.out (Nat.le_trans (two_le j hq10) (by decide))
      clear hrow hE hF hrd HSORT HOK HB HLT HL
      go_wp2_with fail
      refine hS.mono ?_
      rintro e w2 ⟨A', n', c', rfl, R', P'⟩
      go_wp2
      go_ret2
      exact ⟨A', n', c', rfl, by rw [HQ.out]; exact R', hon.trans P'⟩
end Go.Proofs.YtibkpglgeincdaaDoor.Sb
