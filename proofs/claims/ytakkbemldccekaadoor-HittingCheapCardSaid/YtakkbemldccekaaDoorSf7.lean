/-
  Package family: unions, minimals, Product.
-/
import Derived.Test.YtakkbemldccekaaDoorSf6
namespace Go.Proofs.YtakkbemldccekaaDoor.Sb
open Go.RowKit
set_option linter.unusedVariables false
set_option maxRecDepth 100000
theorem or_step (x y : Nat) (hx : x < 16777216) (hy : y < 16777216) : bits .or .i64 (x : Int) (y : Int) = ((x ||| y : Nat) : Int) := or_nat x y (by omega) (by omega)
theorem above_len (l k : List Nat) : (above l k).length ≤ l.length := List.length_filter_le _ _
theorem rest_len (l k : List Nat) : (rest l k).length ≤ l.length := List.length_filter_le _ _
theorem len_bound (P a b i j : Nat) (hP : P ≤ 2048) (ha : a ≤ 1024) (hb : b ≤ 1024) (hi : i ≤ a * b) (hj : j ≤ b) : P + i + j + 1 ≤ 1000000000 := by
  have : a * b ≤ 1024 * 1024 := Nat.mul_le_mul ha hb
  omega
set_option maxHeartbeats 8000000 in
theorem unions_any (w : World) (A : Option Addr) (n c : Nat) (a : List Nat) (h : Rd w A n c (VI (ints a))) (ha : Ok a) (hla : a.length ≤ 1024) (B : Option Addr) (m d : Nat) (b : List Nat) (h2 : Rd w B m d (VI (ints b))) (hb : Ok b) (hlb : b.length ≤ 1024) :
    Calls Tryd.prog 61 #[.slice A n c, .slice B m d] w fun e w' => ∃ A1 n1 c1, e = .returned (.slice A1 n1 c1) ∧ Rd w' A1 n1 c1 (VI (ints (uni2 a b))) ∧ n1 ≤ 1000000000 ∧ On w w' := by
  have hn : a.length = n := by have := h.len; rw [ints_len] at this; exact this
  have hm : b.length = m := by have := h2.len; rw [ints_len] at this; exact this
  have hD1 := divide_any w A n c a h ha B m d b h2 hb (by omega)
  have hA1 : Ok (rest a b) := fun x hx => ha x (List.mem_filter.1 hx).1
  have hB1 : Ok (rest b a) := fun x hx => hb x (List.mem_filter.1 hx).1
  have lA1 := Nat.le_trans (rest_len a b) hla
  have lB1 := Nat.le_trans (rest_len b a) hlb
  have lA2 := Nat.le_trans (above_len a b) hla
  have lB2 := Nat.le_trans (above_len b a) hlb
  have hu : uni2 a b = above a b ++ above b a ++ uni (rest a b) (rest b a) := rfl
  obtain ⟨pa, hpa⟩ : ∃ pa, above a b = pa := ⟨_, rfl⟩
  obtain ⟨pb, hpb⟩ : ∃ pb, above b a = pb := ⟨_, rfl⟩
  obtain ⟨ra, hra⟩ : ∃ ra, rest a b = ra := ⟨_, rfl⟩
  obtain ⟨rb, hrb⟩ : ∃ rb, rest b a = rb := ⟨_, rfl⟩
  have hD2 := fun W h' h2' => divide_any W B m d b h2' hb A n c a h' ha (by omega)
  rw [hpa, hra] at hD1
  simp only [hpb, hrb] at hD2
  rw [hpa, hpb, hra, hrb] at hu
  rw [hra] at hA1 lA1
  rw [hrb] at hB1 lB1
  rw [hpa] at lA2
  rw [hpb] at lB2
  have HU := Lib.hid hu
  have H := Lib.hid h
  have H2 := Lib.hid h2
  clear hu hpa hpb hra hrb hn hm h h2
  go_enter Tryd.func61, Tryd.ntmps61
  go_wp2_with fail
  refine hD1.mono ?_
  rintro e w1 ⟨A1, n1, c1, A2, n2, c2, rfl, R1, R2, P1⟩
  clear hD1
  go_wp2_with fail
  refine (hD2 _ (H.out.on P1) (H2.out.on P1)).mono ?_
  rintro e w2 ⟨A3, n3, c3, A4, n4, c4, rfl, R3, R4, P2⟩
  clear hD2
  have hn1 : pa.length = n1 := by have := R1.len; rw [ints_len] at this; exact this
  have hn3 : pb.length = n3 := by have := R3.len; rw [ints_len] at this; exact this
  have hC := concat2 w2 A1 n1 c1 _ (R1.on P2) A3 n3 c3 _ R3 (by omega)
  have e2 : ints pa ++ ints pb = ints (pa ++ pb) := by simp [ints]
  rw [e2] at hC
  have hN : n1 + n3 = (pa ++ pb).length := by rw [List.length_append]; omega
  rw [hN] at hC
  have P3 := (On.refl w2).alloc (.cells #[.slice A1 n1 c1, .slice A3 n3 c3] 22)
  have hlp : (pa ++ pb).length ≤ 2048 := by rw [List.length_append]; omega
  obtain ⟨pre, hpre⟩ : ∃ pre, pa ++ pb = pre := ⟨_, rfl⟩
  rw [hpre] at hC hlp
  have HPRE := Lib.hid hpre
  clear e2 hN hpre hn1 hn3 R1 R3
  have hnA : ra.length = n2 := by have := R2.len; rw [ints_len] at this; exact this
  have hnB : rb.length = n4 := by have := R4.len; rw [ints_len] at this; exact this
  have HNA := Lib.hid hnA
  have HNB := Lib.hid hnB
  have capA := R2.cap
  have maxA := R2.max
  have capB := R4.cap
  have maxB := R4.max
  clear hnA hnB
  go_wp2_with fail
  refine hC.mono ?_
  rintro e w3 ⟨v0, rfl, hrow0, P4⟩
  have RA := Lib.hid (R2.on (P2.trans P3))
  have RB := Lib.hid (R4.on P3)
  have PW := (P1.trans P2).trans P3
  have HROW0 := Lib.hid hrow0
  have hbs : (w2.alloc (.cells #[.slice A1 n1 c1, .slice A3 n3 c3] 22)).heap.size = w2.heap.size + 1 := by simp
  obtain ⟨wq, hwq⟩ : ∃ wq, w2.alloc (.cells #[.slice A1 n1 c1, .slice A3 n3 c3] 22) = wq := ⟨_, rfl⟩
  rw [hwq] at RA RB PW P4 hbs
  rw [← hbs] at HROW0
  clear hbs hC hrow0 R2 R4 P3 P1 P2 hwq
  go_wp2
  go_loopw [9, 32] (fun v i wr => ∃ q : Nat, q ≤ n2 ∧ i = .int .i64 (q : Int) ∧ wr.ownsRow wq.heap.size 3 1 v (pre ++ uniTo ra rb q).length (VI (ints (pre ++ uniTo ra rb q))) ∧ On wq wr) (fun _ i _ => n2 - (intOf i).toNat)
  case atStart =>
    refine ⟨0, by omega, rfl, ?_, P4⟩
    have e0 : uniTo ra rb 0 = [] := rfl
    rw [e0, List.append_nil]
    exact HROW0.out
  case round =>
    obtain ⟨i, hi, rfl, hrow, hon⟩ := hrel
    obtain ⟨wo, hwo⟩ : ∃ wo, wo = wr := ⟨_, rfl⟩
    subst hwo
    have HROW := Lib.hid hrow
    clear hrow
    by_cases hlt : i < n2
    · have hjl : i < ra.length := by rw [HNA.out]; exact hlt
      obtain ⟨ad, e1, hb1, hc⟩ := (RA.out.on hon).at_ i _ (ints_get hjl)
      cases e1
      have hst := uniTo_succ ra rb i hjl
      have hxm := getD_mem hjl
      obtain ⟨x, hx⟩ : ∃ x, ra.getD i 0 = x := ⟨_, rfl⟩
      rw [hx] at hc hst hxm
      have hx24 := hA1 x hxm
      have HST := Lib.hid hst
      have hul := uniTo_len ra rb i
      have HUL := Lib.hid hul
      clear hx hxm hst hul
      go_wp2
      go_loopw [9, 38] (fun v j wr => ∃ q : Nat, q ≤ n4 ∧ j = .int .i64 (q : Int) ∧ wr.ownsRow wq.heap.size 3 1 v (pre ++ uniTo ra rb i ++ uniRow x rb q).length (VI (ints (pre ++ uniTo ra rb i ++ uniRow x rb q))) ∧ On wq wr) (fun _ j _ => n4 - (intOf j).toNat)
      case atStart =>
        refine ⟨0, by omega, rfl, ?_, hon⟩
        have e0 : uniRow x rb 0 = [] := rfl
        rw [e0, List.append_nil]
        exact HROW.out
      case round =>
        obtain ⟨j, hj, rfl, hrow2, hon2⟩ := hrel
        obtain ⟨A5, c5, rfl⟩ := row_form hrow2
        have HROW2 := Lib.hid hrow2
        clear hrow2
        by_cases hlt2 : j < n4
        · have hjl2 : j < rb.length := by rw [HNB.out]; exact hlt2
          obtain ⟨ad2, e2, hb2, hc2⟩ := (RB.out.on hon2).at_ j _ (ints_get hjl2)
          cases e2
          have hst2 := uniRow_succ x rb j hjl2
          have hym := getD_mem hjl2
          obtain ⟨y, hy⟩ : ∃ y, rb.getD j 0 = y := ⟨_, rfl⟩
          rw [hy] at hc2 hst2 hym
          have hy24 := hB1 y hym
          have hor := or_step x y hx24 hy24
          have hsz := hon2.size
          have hrl := uniRow_len x rb j
          have hbnd : (pre ++ uniTo ra rb i ++ uniRow x rb j).length + 1 ≤ 1000000000 := by
            rw [List.length_append, List.length_append]
            exact len_bound pre.length ra.length rb.length _ _ hlp lA1 lB1 HUL.out hrl
          obtain ⟨z, hz⟩ : ∃ z, x ||| y = z := ⟨_, rfl⟩
          rw [hz] at hor hst2
          have HST2 := Lib.hid hst2
          have HBND := Lib.hid hbnd
          have HOR := Lib.hid hor
          clear hy hym hst2 hrl hz hy24 hbnd
          go_wp2_with (at_builtin; refine wpList_app rfl (.tmp 42) (.tmp 46) 22 rfl wq.heap.size 3 (.int .i64 0) 8 Tryd.underlying22 infoi rfl (by decide) (.slice A5 (pre ++ uniTo ra rb i ++ uniRow x rb j).length c5) _ (VI (ints (pre ++ uniTo ra rb i ++ uniRow x rb j))) rfl (row_alloc HROW2.out _) (some ⟨wr.heap.size, 0, none⟩) 1 1 [.int .i64 (z : Int)] (by first | rfl | (rw [← HOR.out]; rfl)) (by first | exact rd_one _ _ _ | (rw [← HOR.out]; exact rd_one _ _ _)) (by simp [Value.oneCell']) HBND.out (by simp; omega) ?_; intro v' w5 hown5 hgrow5 _)
          refine ⟨⟨j + 1, by omega, by go_num, ?_, ?_⟩, by simp [intOf]; omega⟩
          · rw [HST2.out, ← List.append_assoc, List.length_append (bs := [z]), List.length_singleton, VI_snoc]; exact hown5
          · exact on_row (hon2.alloc _) (row_alloc HROW2.out _) (Nat.le_refl _) hgrow5
        · obtain rfl : j = n4 := by omega
          have efull : pre ++ uniTo ra rb i ++ uniRow x rb j = pre ++ uniTo ra rb (i + 1) := by
            rw [HST.out, ← List.append_assoc, HNB.out]
          have HE := Lib.hid efull
          clear efull
          go_wp2
          go_roundw
          case rel =>
            refine ⟨i + 1, by omega, by go_num, ?_, hon2⟩
            rw [← HE.out]; exact HROW2.out
          case measure => simp [intOf]; omega
    · obtain rfl : i = n2 := by omega
      obtain ⟨A5, c5, rfl⟩ := row_form HROW.out
      have e0 : uniTo ra rb i = uni ra rb := by unfold uniTo; rw [List.take_of_length_le (by rw [HNA.out]; omega)]
      have r1 := rd_of_row HROW.out
      have hbnd : (pre ++ uniTo ra rb i).length ≤ 1000000000 := by
        have := uniTo_len ra rb i
        rw [List.length_append]
        have := len_bound pre.length ra.length rb.length _ 0 hlp lA1 lB1 this (Nat.zero_le _)
        omega
      have E0 := Lib.hid e0
      have R1 := Lib.hid r1
      have HB := Lib.hid hbnd
      clear e0 r1 hbnd
      go_wp2
      go_ret
      refine ⟨_, _, _, rfl, ?_, HB.out, PW.trans hon⟩
      rw [HU.out, HPRE.out, ← E0.out]; exact R1.out
end Go.Proofs.YtakkbemldccekaaDoor.Sb
