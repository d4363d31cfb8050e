/-
  Regions whose last operations come in one order: the first ones by facts, in whatever order, the last ones by the walk.
-/
import Derived.Test.YtkchpagjkgmpmaaGreatReg
import Derived.StillTail
namespace Go.Proofs.YtkchpagjkgmpmaaGreat
open Go.RowKit
set_option linter.unusedVariables false
namespace Num
section
variable {P : Program} {ops : Array Oper} {Q : Exit → Act → World → Prop}
/-- the state of the list when the first n have come up -/
def headL (ops : Array Oper) (n : Nat) : Array Bool := (Array.range ops.size).map fun i => decide (i < n)
def tailB (ops : Array Oper) (n : Nat) : Bool := decide (n < ops.size) && ((List.range ops.size).all fun j => decide (j < n) || (List.range n).all fun i => waits ops 4 j i) && Region.seqB .any ops (ops.size - n) n (headL ops n)
theorem headL_size (n : Nat) : (headL ops n).size = ops.size := by simp [headL]
theorem headL_get (n i : Nat) (h : i < ops.size) (b : Bool) : (headL ops n).getD i b = decide (i < n) := by
  simp [headL, h]
theorem countP_set_eq {L : Array Bool} {i q : Nat} (hu : L.getD i true = false) (hc : L.toList.countP (fun b => !b) = q + 1) : (L.setIfInBounds i true).toList.countP (fun b => !b) = q := by
  have hlt := getD_false_true hu
  have hlt' : i < L.toList.length := by simpa using hlt
  have hv : L.toList[i] = false := by simpa [hlt] using hu
  rw [Array.toList_setIfInBounds, List.countP_set hlt', hv, hc]
  show q + 1 - 1 + 0 = q
  omega
theorem count_head : ∀ (l : List Nat) (n : Nat), ((l.map fun i => decide (i < n)).countP fun b => !b) = l.countP fun i => decide (n ≤ i)
  | [], _ => rfl
  | a :: l, n => by
    rw [List.map_cons, List.countP_cons, List.countP_cons, count_head l n]
    congr 1
    by_cases h : a < n
    · simp [h, Nat.not_le.2 h]
    · simp [h, Nat.le_of_not_lt h]
theorem count_range (m n : Nat) (h : n ≤ m) : (List.range m).countP (fun i => decide (n ≤ i)) = m - n := by
  induction m with
  | zero => simp
  | succ m ih =>
    rw [List.range_succ, List.countP_append]
    rcases Nat.lt_or_ge m n with h1 | h1
    · have : n = m + 1 := by omega
      subst this
      have h0 : (List.range m).countP (fun i => decide (m + 1 ≤ i)) = 0 := List.countP_eq_zero.2 (fun a ha => by have := List.mem_range.1 ha; simp; omega)
      rw [h0]; simp
    · rw [ih h1]; simp [h1]; omega
theorem headL_count (n : Nat) (h : n ≤ ops.size) : (headL ops n).toList.countP (fun b => !b) = ops.size - n := by
  unfold headL
  rw [Array.toList_map, Array.toList_range, count_head, count_range _ _ h]
theorem wp_region_head {id : Nat} {Wi : World} {a0 : Act} (hm : P.follows .mixedOrders = true) (n : Nat) (F : Nat → Value → World → Prop)
    (hck : regCheck ops a0.tmps.size [] = true) (hed : edgesBack ops = true) (htl : tailB ops n = true) (hF : ∀ i v w w', Kept w w' → F i v w → F i v w')
    (hplain : ∀ i o, i < n → ops[i]? = some o → ∀ a w', Pre ops Wi Wi a0 F [] i a w' → if Region.wanted o (yielded ops a.tmps) = true then Does P Q F i o a w' else F i undef w')
    (hdone : ∀ a w1, On Wi w1 → a.tmps.size = a0.tmps.size → a.defers = a0.defers → (∀ d, freeB ops d = true → a.tmps.getD d undef = a0.tmps.getD d undef) → (∀ i d, i < n → dstOf ops i = some d → F i (a.tmps.getD d undef) w1) → wpList P ops Q (ops.toList.drop n) a w1) :
    (Code.region id ops true).wp P Q a0 Wi := by
  have hc := regCheck_spec hck
  unfold tailB at htl
  simp only [Bool.and_eq_true, decide_eq_true_eq] at htl
  obtain ⟨⟨hn, hwt⟩, hseq⟩ := htl
  rw [List.all_eq_true] at hwt
  apply wp_region_any hm
  have key : ∀ (fuel : Nat) (L : Array Bool) (a : Act) (w1 : World), RegInv ops Wi Wi a0 F [] (fun _ _ _ => True) L a w1 → (∀ t, n ≤ t → t < ops.size → L.getD t true = false) → L.toList.countP (fun b => !b) = fuel → wpAny P .any ops Q fuel L a w1 := by
    intro fuel
    induction fuel with
    | zero =>
      intro L a w H ht hf
      exfalso
      rw [List.countP_eq_zero] at hf
      have hx : n < L.size := by rw [H.size]; exact hn
      have := ht n (Nat.le_refl _) hn
      have h2 := hf L[n] (by simp)
      simp [hx] at this
      simp [this] at h2
    | succ fuel ih =>
      intro L a w H ht hf
      by_cases hall : ∀ i, i < n → L.getD i true = true
      · have hL : L = headL ops n := by
          apply Array.ext
          · rw [H.size, headL_size]
          · intro i h1 h2
            have hi : i < ops.size := by rw [← H.size]; exact h1
            have e2 := headL_get (ops := ops) n i hi true
            have e3 : (headL ops n)[i] = decide (i < n) := by simpa [h2] using e2
            rw [e3]
            rcases Nat.lt_or_ge i n with h | h
            · have := hall i h
              simp [h1] at this
              rw [this, decide_eq_true h]
            · have := ht i h hi
              simp [h1] at this
              rw [this, decide_eq_false (by omega)]
        have hlen : fuel + 1 = (ops.toList.drop n).length := by
          rw [← hf, hL, headL_count n (by omega)]; simp
        rw [hlen]
        refine wpAny_of_seq (md := .any) (Q' := Q) (ops.toList.drop n) n L a w (fun j => by simp [List.getElem?_drop]) ?_ ?_
        · rw [hL]; simpa using hseq
        · refine hdone a w H.on H.tsize H.defers H.same (fun i d hi hd => H.fact i d hd ?_)
          have := hall i hi
          rwa [getD_either (by rw [H.size]; omega)] at this
      · refine ⟨?_, ?_⟩
        · intro hr
          simp only [Classical.not_forall] at hall
          obtain ⟨i, hi, hni⟩ := hall
          have : L.getD i true = false := by
            cases h : L.getD i true with
            | false => rfl
            | true => exact absurd h hni
          exact absurd hr (ready_of_unlisted H.size hed i this)
        · intro i hi
          obtain ⟨hu, o, ho, hall2⟩ := mem_ready.1 hi
          have hio := getD_false_true hu
          have hisz : i < ops.size := by rw [← H.size]; exact hio
          have hin : i < n := by
            apply Nat.lt_of_not_le
            intro hni
            apply hall
            intro j hj
            have hwi := hwt i (List.mem_range.2 hisz)
            simp only [Bool.or_eq_true, decide_eq_true_eq] at hwi
            rcases hwi with h | h
            · omega
            · rw [List.all_eq_true] at h
              have h2 := h j (List.mem_range.2 hj)
              have := waits_listed H.closed 4 i j o ho hall2 h2
              rw [getD_either (by rw [H.size]; omega)]
              exact this
          have hpre := H.pre ho hu hall2
          unfold wpOp
          rw [ho]
          show if Region.wanted o (yielded ops a.tmps) = true then _ else _
          have hp := hplain i o hin ho a w hpre
          have step : ∀ (v : Value) (w' : World), On w w' → F i v w' → wpAny P .any ops Q fuel (L.setIfInBounds i true) (a.put o.dst v) w' := by
            intro v w' honw hf2
            refine ih _ _ _ (H.next hc hF ho hu hall2 (Kept.on honw) (H.on.trans honw) (fun _ => hf2) (fun k tg ht _ => by simp at ht) (fun k l a1 b1 h1 _ _ _ _ _ => by simp at h1)) ?_ (countP_set_eq hu hf)
            intro t h1 h2
            rw [getD_set_ne true (by omega)]
            exact ht t h1 h2
          by_cases hw : Region.wanted o (yielded ops a.tmps) = true
          · rw [if_pos hw] at hp ⊢
            left
            refine Oper.wp_mono ?_ hp
            rintro a' w' ⟨v, rfl, honw, hf2⟩
            exact step v w' honw hf2
          · rw [if_neg hw] at hp ⊢
            exact step undef w (On.refl w) hp
  refine key _ _ _ _ ?_ ?_ ?_
  · refine ⟨(On.refl Wi).drew, Kept.on ((On.refl Wi).drew), by simp, rfl, rfl, ?_, fun _ _ => rfl, ?_, fun k tg h _ => by simp at h, fun k l a1 b1 h _ _ _ _ _ => by simp at h⟩
    · intro i o ho hl
      have hi : i < ops.size := (Array.getElem?_eq_some_iff.1 ho).1
      simp [hi] at hl
    · intro i d hd hl
      have hi := dstOf_lt hd
      simp [hi] at hl
  · intro t h1 h2
    simp [h2]
  · simp [List.countP_replicate]
theorem wp_region_headf {id : Nat} {Wi : World} {a0 : Act} (hm : P.follows .mixedOrders = true) (n : Nat) (fs : List Fact) (fr : List (Option Nat))
    (hck : regCheck ops a0.tmps.size [] = true) (hed : edgesBack ops = true) (htl : tailB ops n = true) (hfr : frOK ops fr = true) (hfl : fr.length = a0.tmps.size)
    (hops : AllFrom (fun i o => ∀ (a : Act) (w1 : World), Pre ops Wi Wi a0 (factsF fs) [] i a w1 → if Region.wanted o (yielded ops a.tmps) = true then Does P Q (factsF fs) i o a w1 else factsF fs i undef w1) 0 (ops.toList.take n))
    (hdone : ∀ (f : Nat → Value) (w1 : World), On Wi w1 → (∀ i d, i < n → dstOf ops i = some d → factsF fs i (f d) w1) → wpList P ops Q (ops.toList.drop n) ⟨(fillL fr a0.tmps.toList f).toArray, a0.defers⟩ w1) :
    (Code.region id ops true).wp P Q a0 Wi := by
  refine wp_region_head hm n (factsF fs) hck hed htl (factsF_mono fs) ?_ ?_
  · intro i o hi ho a w hp
    have := AllFrom.get hops i o (by rw [List.getElem?_take]; simp [hi]; simpa using ho)
    rw [Nat.zero_add] at this
    exact this a w hp
  · intro a w1 hon hs hd hsame hf
    rw [act_fill hs hd hsame hfr hfl]
    exact hdone (fun d => a.tmps.getD d undef) w1 hon hf
end
end Num
end Go.Proofs.YtkchpagjkgmpmaaGreat
