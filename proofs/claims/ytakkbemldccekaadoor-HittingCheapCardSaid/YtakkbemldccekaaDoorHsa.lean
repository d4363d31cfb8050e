/-
  Package hitting: singles, choose.
-/
import Derived.Test.YtakkbemldccekaaDoorSf1
import Derived.Test.YtakkbemldccekaaDoorHp
import Derived.Test.YtakkbemldccekaaDoorSs3
import Derived.StillTailTactics
import Derived.Deep.WholeRow
import Derived.Test.YtakkbemldccekaaDoorSs2
import Derived.Deep.MidRow
namespace Go.Proofs.YtakkbemldccekaaDoor.Sb
open Go.RowKit
set_option linter.unusedVariables false
set_option maxRecDepth 100000
/-- a row of ints in new memory -/
def GivesR (w : World) (l : List Nat) (e : Ending) (w' : World) : Prop := ∃ A n c, e = .returned (.slice A n c) ∧ w'.ownsRow w.heap.size 3 1 (.slice A n c) n (VI (ints l)) ∧ On w w'
theorem small_and (m : Nat) (a : Int) (hm : m < 16777216) : bits .and .i64 (m : Int) a = ((m &&& cut a : Nat) : Int) := by
  have h := and_small a m hm
  have e : bits .and .i64 (m : Int) a = bits .and .i64 a (m : Int) := by
    show IntKind.i64.wrap ((BitVec.ofInt 64 (m : Int) &&& BitVec.ofInt 64 a).toNat : Int) = IntKind.i64.wrap ((BitVec.ofInt 64 a &&& BitVec.ofInt 64 (m : Int)).toNat : Int)
    rw [BitVec.and_comm]
  rw [e, h, Nat.and_comm]
theorem low_run (s p : Nat) (hs : s < 16777216) (h0 : s ≠ 0) (h : s &&& (16777216 - s) = p) : bits .and .i64 (s : Int) (wrap64 (-(s : Int))) = (p : Int) := by
  unfold wrap64
  rw [← IntKind.wrap_i64, small_and s _ hs, cut_wrap]
  have : cut (-(s : Int)) = 16777216 - s := by unfold cut; omega
  rw [this, h]
theorem drop_run (s d : Nat) (hs : s < 16777216) (h0 : s ≠ 0) (h : s &&& (s - 1) = d) : bits .and .i64 (s : Int) ((s : Int) - 1) = (d : Int) := by
  rw [show (s : Int) - 1 = ((s - 1 : Nat) : Int) by omega, and_nat s (s - 1) hs (by omega), h]
set_option maxHeartbeats 4000000 in
theorem singles_any (w : World) (s : Nat) (hs : s < 16777216) :
    Calls Tryd.prog 35 #[.int .i64 (s : Int)] w (GivesR w (sgl s)) := by
  go_enter Tryd.func35, Tryd.ntmps35
  go_wp2
  go_loopw [0, 3] (fun u v wr => ∃ (c : Nat) (p : List Nat), c < 16777216 ∧ u = .int .i64 (c : Int) ∧ p ++ sgl c = sgl s ∧ p.length ≤ 24 ∧ wr.ownsRow w.heap.size 3 1 v p.length (VI (ints p)) ∧ On w wr) (fun u _ _ => (intOf u).toNat)
  case atStart => exact ⟨s, [], hs, rfl, rfl, by decide, row_nil _ _ _, On.refl _⟩
  case round =>
    obtain ⟨c, p, hc, rfl, hp, hpl, hrow, hon⟩ := hrel
    obtain ⟨A4, c4, rfl⟩ := row_form hrow
    have HR := Lib.hid hrow
    clear hrow
    by_cases h0 : c = 0
    · subst h0
      rw [sgl_zero, List.append_nil] at hp
      have HP := Lib.hid hp
      clear hp
      go_wp2
      go_ret
      refine ⟨A4, _, c4, rfl, ?_, hon⟩
      rw [← HP.out]; exact HR.out
    · obtain ⟨i, d, hi, hb, hd, hsum, hels, hlow, _, _⟩ := els_cons c hc h0
      have hl := low_run c _ hc h0 hlow
      have hsg := sgl_cons hels
      have hlen := sgl_len s
      have hpos : 0 < 2 ^ i := Nat.two_pow_pos i
      have hpw : p ++ [2 ^ i] ++ sgl d = sgl s := by rw [← hp, hsg, List.append_assoc]; rfl
      have hp2 : (p ++ [2 ^ i]).length ≤ 24 := by
        have := congrArg List.length hpw
        rw [List.length_append] at this; omega
      have hneg : ¬ (c : Int) = 0 := by omega
      have hsz := hon.size
      generalize 2 ^ i = x at hl hpw hp2 hpos hsum
      have HW := Lib.hid hpw
      have HP2 := Lib.hid hp2
      have HS := Lib.hid (And.intro hsum hc)
      have HPL := Lib.hid hpl
      have e1 : (c : Int) - (x : Int) = (d : Int) := by omega
      have hdlt : d < 16777216 := by omega
      clear hp hsg hels hlow hb hd hi hpw hp2 hlen hsum h0 hpl hc
      go_wp2_with (first | (at_builtin; refine wpList_app rfl (.tmp 11) (.tmp 13) 22 rfl w.heap.size 3 (.int .i64 0) 8 Tryd.underlying22 infoi rfl (by decide) (.slice A4 p.length c4) _ (VI (ints p)) rfl (row_alloc HR.out _) (some ⟨wr.heap.size, 0, none⟩) 1 1 [.int .i64 (x : Int)] rfl (rd_one _ _ _) (by simp [Value.oneCell']) (by have := HPL.out; omega) (by simp; omega) ?_; intro v' w5 hown5 hgrow5 _))
      refine ⟨⟨d, p ++ [x], ?_, ?_, HW.out, HP2.out, ?_, ?_⟩, ?_⟩
      · have := HS.out; omega
      · go_num
      · rw [List.length_append, List.length_singleton, VI_snoc]; exact hown5
      · exact on_row (hon.alloc _) (row_alloc HR.out _) (Nat.le_refl _) hgrow5
      · have := HS.out; simp [intOf]; omega
theorem chs_take {k : List Nat} {j : Nat} (h : j < k.length) (f s : Nat) : chs (k.take (j + 1)) f s = if k.getD j 0 &&& s == 0 then chs (k.take j) f s ++ [without (k.getD j 0) f] else chs (k.take j) f s := by
  unfold chs
  rw [take_get h, List.filter_append, List.map_append]
  cases hb : (k.getD j 0 &&& s == 0)
  · simp only [List.filter_cons, hb]; simp
  · simp only [List.filter_cons, hb]; simp
theorem chs_le (k : List Nat) (f s j : Nat) : (chs (k.take j) f s).length ≤ k.length := by
  unfold chs
  rw [List.length_map]
  have := List.length_filter_le (fun x => x &&& s == 0) (k.take j)
  have := List.length_take_le' j k
  omega
set_option maxHeartbeats 4000000 in
theorem choose_any (w : World) (A : Option Addr) (n c : Nat) (k : List Nat) (h : Rd w A n c (VI (ints k))) (hk : Ok k) (hsm : n ≤ 1000000) (s r : Nat) (hs : s < 16777216) (hr : r < 16777216) :
    Calls Tryd.prog 83 #[.slice A n c, .int .i64 (s : Int), .int .i64 (r : Int)] w fun e w' => On w w' ∧
      ((0 ∈ chs k r s ∧ e = .returned (.tuple #[.slice none 0 0, .bool false])) ∨
       (0 ∉ chs k r s ∧ ∃ A' n' c', e = .returned (.tuple #[.slice A' n' c', .bool true]) ∧ w'.ownsRow w.heap.size 3 1 (.slice A' n' c') n' (VI (ints (chs k r s))))) := by
  have hn : k.length = n := by have := h.len; rw [ints_len] at this; exact this
  have hcap := h.cap
  have hmax := h.max
  have HN := Lib.hid hn
  have H := Lib.hid h
  have hmk := run_mk n hsm w
  have HMK := row_mk w n hsm
  have P0 := (On.refl w).alloc (.cells (madeCells #[.int .i64 0] n) 3)
  clear hn h
  go_enter Tryd.func83, Tryd.ntmps83
  go_wp2
  go_loopw [8, 16] (fun v i wr => ∃ j : Nat, j ≤ n ∧ i = .int .i64 (j : Int) ∧ 0 ∉ chs (k.take j) r s ∧ wr.ownsRow w.heap.size 3 1 v (chs (k.take j) r s).length (VI (ints (chs (k.take j) r s))) ∧ On w wr) (fun _ i _ => n - (intOf i).toNat)
  case atStart => exact ⟨0, by omega, rfl, by simp [chs], HMK, P0⟩
  case round =>
    obtain ⟨j, hj, rfl, h0, hrow, hon⟩ := hrel
    obtain ⟨A4, c4, rfl⟩ := row_form hrow
    have HROW := Lib.hid hrow
    have H0 := Lib.hid h0
    clear hrow hmk HMK h0
    by_cases hlt : j < n
    · have hjl : j < k.length := by rw [HN.out]; exact hlt
      obtain ⟨ad, e1, hb, hc⟩ := (H.out.on hon).at_ j _ (ints_get hjl)
      cases e1
      have hstep := chs_take hjl r s
      have hxm := getD_mem hjl
      have hle := chs_le k r s j
      rw [HN.out] at hle
      obtain ⟨x, hx⟩ : ∃ x, k.getD j 0 = x := ⟨_, rfl⟩
      rw [hx] at hc hstep hxm
      have hx24 := hk x hxm
      have hand := and_nat x s hx24 hs
      have hnot := andNot_nat x r (by omega) (by omega)
      have hsz := hon.size
      have hmem : without x r = 0 → x &&& s = 0 → 0 ∈ chs k r s := fun e1 e2 => (chs_mem k r s 0).2 ⟨x, hxm, e2, e1⟩
      have hwl := Nat.lt_of_le_of_lt (without_le x r) hx24
      generalize x &&& s = z at hand hstep hmem
      generalize without x r = y at hnot hstep hmem hwl
      have HS := Lib.hid hstep
      have HM := Lib.hid hmem
      have HLE := Lib.hid hle
      clear hx hxm hstep hmem hle hx24
      by_cases hz : z = 0
      · subst hz
        by_cases hy : y = 0
        · subst hy
          go_wp2
          go_ret2
          exact ⟨hon, .inl ⟨HM.out (by trivial) (by trivial), rfl⟩⟩
        · have hy2 : ¬ (y : Int) = 0 := by omega
          go_wp2_with (first | (at_builtin; refine wpList_app rfl (.tmp 29) (.tmp 31) 22 rfl w.heap.size 3 (.int .i64 0) 8 Tryd.underlying22 infoi rfl (by decide) (.slice A4 (chs (k.take j) r s).length c4) _ (VI (ints (chs (k.take j) r s))) rfl (row_alloc HROW.out _) (some ⟨wr.heap.size, 0, none⟩) 1 1 [.int .i64 (y : Int)] rfl (rd_one _ _ _) (by simp [Value.oneCell']) (by have := HLE.out; omega) (by simp; omega) ?_; intro v' w5 hown5 hgrow5 _))
          have hs2 : chs (k.take (j + 1)) r s = chs (k.take j) r s ++ [y] := by simpa using HS.out
          refine ⟨⟨j + 1, by omega, by go_num, ?_, ?_, ?_⟩, by simp [intOf]; omega⟩
          · rw [hs2, List.mem_append, List.mem_singleton]
            rintro (h | h)
            · exact H0.out h
            · exact hy h.symm
          · rw [hs2, List.length_append, List.length_singleton, VI_snoc]; exact hown5
          · exact on_row (hon.alloc _) (row_alloc HROW.out _) (Nat.le_refl _) hgrow5
      · have hz2 : ¬ (z : Int) = 0 := by omega
        go_wp2
        have hs2 : chs (k.take (j + 1)) r s = chs (k.take j) r s := by
          have := HS.out
          rw [if_neg (by simpa using hz)] at this; exact this
        refine ⟨⟨j + 1, by omega, by go_num, ?_, ?_, hon⟩, by simp [intOf]; omega⟩
        · rw [hs2]; exact H0.out
        · rw [hs2]; exact HROW.out
    · obtain rfl : j = n := by omega
      have e0 : k.take j = k := List.take_of_length_le (by rw [HN.out]; omega)
      have hr1 := HROW.out
      have h1 := H0.out
      rw [e0] at hr1 h1
      have HR1 := Lib.hid hr1
      have H1 := Lib.hid h1
      have E0 := Lib.hid e0
      clear e0 hr1 h1
      go_wp2
      go_ret2
      refine ⟨hon, .inr ⟨H1.out, A4, _, c4, rfl, ?_⟩⟩
      rw [E0.out]; exact HR1.out
end Go.Proofs.YtakkbemldccekaaDoor.Sb
/-
  Package hitting: weights.
-/
namespace Go.Proofs.YtakkbemldccekaaDoor.Sb
open Go.RowKit
set_option linter.unusedVariables false
set_option maxRecDepth 100000
/-- the cells of a table -/
def wv (f : Nat → Nat) : Array Value := ((List.range 24).map fun i => Value.int .i64 (f i : Int)).toArray
theorem wv_size (f : Nat → Nat) : (wv f).size = 24 := by simp [wv]
theorem wv_get (f : Nat → Nat) {i : Nat} (h : i < 24) : (wv f)[i]? = some (.int .i64 (f i : Int)) := by simp [wv, h]
theorem wv_all (f : Nat → Nat) : (wv f).all (·.oneCell') = true := by simp [wv, Value.oneCell']
theorem wv_set (f : Nat → Nat) (i x : Nat) (h : i < 24) : (wv f).setIfInBounds i (.int .i64 (x : Int)) = wv (fun k => if k = i then x else f k) := by
  apply Array.ext_getElem?
  intro k
  rw [Array.getElem?_setIfInBounds]
  by_cases hk : k < 24
  · rw [wv_get _ hk, wv_get _ hk]
    by_cases e : i = k
    · subst e; simp [wv_size, h]
    · rw [if_neg e, if_neg (fun h => e h.symm)]
  · rw [Array.getElem?_eq_none (by rw [wv_size]; omega), Array.getElem?_eq_none (by rw [wv_size]; omega)]
    have : ¬ i = k := by omega
    rw [if_neg this]
theorem wv_congr {f g : Nat → Nat} (h : ∀ i, i < 24 → f i = g i) : wv f = wv g := by
  unfold wv
  congr 1
  apply List.map_congr_left
  intro i hi
  rw [h i (List.mem_range.1 hi)]
theorem on_setRow {w wr : World} (h : On w wr) {g : Nat} (hg : w.heap.size ≤ g) (cs : Array Value) : On w (wr.setRow g cs) := by
  refine ⟨h.os, h.tape, h.output, by simpa [World.setRow] using h.size, fun k hk => ?_⟩
  rw [← h.block k hk]
  simp only [World.setRow]
  rw [Array.getElem?_modify, if_neg (by omega)]
/-- the costs of a list -/
def cof (l : List Int) (i : Nat) : Nat := (l.getD i 0).toNat
set_option maxHeartbeats 4000000 in
theorem weights_any (w : World) (A : Option Addr) (n c : Nat) (l : List Int) (h : Rd w A n c (VI l)) (hl : ∀ i, i < 24 → 0 ≤ l.getD i 0 ∧ l.getD i 0 ≤ 1048576) :
    Calls Tryd.prog 44 #[.slice A n c] w fun e w' => e = .returned (.agg (wv (wt (cof l)))) ∧ On w w' := by
  have hn : l.length = n := by have := h.len; rw [VI_length] at this; exact this
  have hcap := h.cap
  have hmax := h.max
  have HN := Lib.hid hn
  have HL := Lib.hid hl
  have H := Lib.hid h
  clear hn hl h
  obtain ⟨q, hq⟩ : ∃ q, w.heap.size = q := ⟨_, rfl⟩
  go_enter Tryd.func44, Tryd.ntmps44
  go_wp2
  go_loopw [5] (fun i wr => ∃ j : Nat, j ≤ 24 ∧ i = .int .i64 (j : Int) ∧ Own wr q 64 (wv fun _ => 0) ∧ Own wr (q + 1) 64 (wv fun k => if k < j then wt (cof l) k else 0) ∧ On w wr) (fun i _ => 24 - (intOf i).toNat)
  case atStart =>
    refine ⟨0, by omega, rfl, ?_, ?_, ((On.refl w).alloc _).alloc _⟩
    · rw [← hq]; exact (Own.new w _ _).alloc _
    · rw [show q + 1 = (w.alloc (.cells (wv fun _ => 0) 64)).heap.size by simp [hq]]
      exact Own.new _ _ _
  case round =>
    obtain ⟨j, hj, rfl, hO1, hO2, hon⟩ := hrel
    by_cases hlt : j < 24
    · have hc1 := (hO2.cell j).trans (wv_get _ hlt)
      rw [if_neg (Nat.lt_irrefl j)] at hc1
      have hf1 := hO2.frozen j
      have hp := shlw j hlt
      have hp24 := two_lt hlt
      obtain ⟨p, hpp⟩ : ∃ p, 2 ^ j = p := ⟨_, rfl⟩
      rw [hpp] at hp hp24
      have hO3 := hO2.set_ j (.int .i64 ((16777216 + p : Nat) : Int))
      rw [wv_set _ j _ hlt] at hO3
      have hO13 := hO1.far (p := ⟨q + 1, j, none⟩) (by simp) (.int .i64 ((16777216 + p : Nat) : Int))
      have hon3 := hon.setCell (p := ⟨q + 1, j, none⟩) (by simp; omega) (.int .i64 ((16777216 + p : Nat) : Int))
      rw [Int.natCast_add, show ((16777216 : Nat) : Int) = 16777216 from rfl] at hO3 hO13 hon3
      have HO3 := Lib.hid hO3
      have HO13 := Lib.hid hO13
      have HON3 := Lib.hid hon3
      have HPP := Lib.hid hpp
      have HON := Lib.hid hon
      clear hpp hO3 hO13 hon3 hO1 hO2 hon
      obtain ⟨w2, hw2⟩ : ∃ w2, wr.setCell ⟨q + 1, j, none⟩ (.int .i64 (16777216 + (p : Int))) = w2 := ⟨_, rfl⟩
      rw [hw2] at HO3 HO13 HON3
      have HW2 := Lib.hid hw2
      clear hw2
      by_cases hjn : j < n
      · obtain ⟨x, hx⟩ : ∃ x, cof l j = x := ⟨_, rfl⟩
        have hb := HL.out j hlt
        have hxx : l.getD j 0 = (x : Int) := by unfold cof at hx; omega
        obtain ⟨ad, e1, hbl, hcx⟩ := (H.out.on HON3.out).at_ j _ (VI_get (by rw [HN.out]; exact hjn))
        cases e1
        rw [hxx] at hcx hb
        have hx20 : x ≤ 1048576 := by omega
        obtain ⟨w3, hw3⟩ : ∃ w3, w2.drew = w3 := ⟨_, rfl⟩
        have hO3 := HO3.out.drew
        have hO13 := HO13.out.drew
        have hon3 := HON3.out.drew
        rw [hw3] at hO3 hO13 hon3
        have hc2 := (HO3.out.cell j).trans (wv_get _ hlt)
        rw [if_pos rfl] at hc2
        rw [Int.natCast_add, show ((16777216 : Nat) : Int) = 16777216 from rfl] at hc2
        have hc3 := (hO3.cell j).trans (wv_get _ hlt)
        have hf3 := hO3.frozen j
        have hO4 := hO3.set_ j (.int .i64 ((16777216 + p + x * 536870912 : Nat) : Int))
        rw [wv_set _ j _ hlt] at hO4
        have hO14 := hO13.far (p := ⟨q + 1, j, none⟩) (by simp) (.int .i64 ((16777216 + p + x * 536870912 : Nat) : Int))
        have hon4 := hon3.setCell (p := ⟨q + 1, j, none⟩) (by simp; omega) (.int .i64 ((16777216 + p + x * 536870912 : Nat) : Int))
        have ec : ((16777216 + p + x * 536870912 : Nat) : Int) = 16777216 + (p : Int) + (x : Int) * 536870912 := by omega
        rw [ec] at hO4 hO14 hon4
        have HO4 := Lib.hid hO4
        have HO14 := Lib.hid hO14
        have HON4 := Lib.hid hon4
        have HX := Lib.hid hx
        have HW3 := Lib.hid hw3
        have wr1 : IntKind.i64.wrap ((x : Int) * 536870912) = (x : Int) * 536870912 := by rw [IntKind.wrap_i64]; omega
        have wr2 : IntKind.i64.wrap (16777216 + (p : Int) + (x : Int) * 536870912) = 16777216 + (p : Int) + (x : Int) * 536870912 := by rw [IntKind.wrap_i64]; omega
        have WR1 := Lib.hid wr1
        have WR2 := Lib.hid wr2
        clear hO4 hO14 hon4 hx hxx hb ec hw3 hO3 hO13 hon3 wr1 wr2
        go_wp2
        rw [HW2.out]
        clear hc1 hf1
        go_still_tail 10, (by kernel_rfl)
        change wpList _ _ _ _ _ w2.drew
        rw [HW3.out, WR1.out, WR2.out]
        go_wp2
        refine ⟨⟨j + 1, by omega, by go_num, HO14.out, ?_, HON4.out⟩, by simp [intOf]; omega⟩
        rw [wv_congr]
        · exact HO4.out
        · intro i hi
          by_cases h1 : i = j
          · subst h1
            rw [if_pos (by omega), if_pos rfl]; unfold wt; rw [HX.out, HPP.out]
          · rw [if_neg h1, if_neg h1]
            by_cases h2 : i < j
            · rw [if_pos h2, if_pos (by omega)]
            · rw [if_neg h2, if_neg (by omega)]
      · go_wp2
        rw [HW2.out]
        refine ⟨⟨j + 1, by omega, by go_num, HO13.out, ?_, HON3.out⟩, by simp [intOf]; omega⟩
        rw [wv_congr]
        · exact HO3.out
        · intro i hi
          by_cases h1 : i = j
          · subst h1
            have : cof l i = 0 := by unfold cof; rw [List.getD_eq_getElem?_getD, List.getElem?_eq_none (by rw [HN.out]; omega)]; rfl
            rw [if_pos (by omega), if_pos rfl]; unfold wt; rw [this, HPP.out]; omega
          · rw [if_neg h1]
            by_cases h2 : i < j
            · rw [if_pos h2, if_pos (by omega)]
            · rw [if_neg h2, if_neg (by omega)]
    · obtain rfl : j = 24 := by omega
      rw [wv_congr (g := wt (cof l)) (fun i hi => by rw [if_pos hi])] at hO2
      have hst := hon.size
      have hO3 : Own (wr.setRow q (wv (wt (cof l)))) q 64 (wv (wt (cof l))) := setRow_heap wr q _ _ _ _ hO1
      have hon3 : On w (wr.setRow q (wv (wt (cof l)))) := on_setRow hon (by omega) _
      have HO1 := Lib.hid hO1
      have HO2 := Lib.hid hO2
      have HO3 := Lib.hid hO3
      have HON3 := Lib.hid hon3
      clear hO1 hO2 hO3 hon3 hon
      go_wp2_with (first | (refine wpList_load_row rfl 64 (.tmp 3) rfl (q + 1) rfl _ _ _ _ HO2.out Tryd.underlying64 rfl (by kernel_rfl) ?_) | (refine wpList_store_row rfl 64 (.tmp 2) (.tmp 28) rfl q _ rfl rfl _ _ HO1.out (by kernel_rfl) (by rw [wv_size, wv_size]) (wv_all _) ?_))
      refine bodyPost_ret (v := .agg (wv (wt (cof l)))) ?_ rfl ⟨rfl, HON3.out⟩
      exact results_cell_row rfl _ _ q _ _ (0, 0) _ rfl HO3.out Tryd.underlying64 rfl (by kernel_rfl)
end Go.Proofs.YtakkbemldccekaaDoor.Sb
/-
  Package hitting: the bound of the search.
-/
namespace Go.Proofs.YtakkbemldccekaaDoor.Sb
open Go.RowKit
set_option linter.unusedVariables false
set_option maxRecDepth 100000
/-- the cells of a search: the weights, the best sum -/
def sv (f : Nat → Nat) (b : Nat) : Array Value := (wv f).push (.int .i64 (b : Int))
theorem sv_size (f : Nat → Nat) (b : Nat) : (sv f b).size = 25 := by simp [sv, wv_size]
theorem sv_get (f : Nat → Nat) (b : Nat) {i : Nat} (h : i < 24) : (sv f b)[i]? = some (.int .i64 (f i : Int)) := by
  unfold sv; rw [Array.getElem?_push, if_neg (by rw [wv_size]; omega), wv_get f h]
theorem sv_best (f : Nat → Nat) (b : Nat) : (sv f b)[24]? = some (.int .i64 (b : Int)) := by
  unfold sv; rw [Array.getElem?_push, if_pos (by rw [wv_size])]
theorem sv_set (f : Nat → Nat) (b c : Nat) : (sv f b).setIfInBounds 24 (.int .i64 (c : Int)) = sv f c := by
  apply Array.ext_getElem?
  intro k
  rw [Array.getElem?_setIfInBounds]
  by_cases e : 24 = k
  · subst e; rw [if_pos rfl, if_pos (by rw [sv_size]; decide), sv_best]
  · rw [if_neg e]
    by_cases hk : k < 24
    · rw [sv_get _ _ hk, sv_get _ _ hk]
    · rw [Array.getElem?_eq_none (by rw [sv_size]; omega), Array.getElem?_eq_none (by rw [sv_size]; omega)]
theorem sv_range {w : World} {g : Nat} {t : TypeId} {f : Nat → Nat} {b : Nat} (h : Own w g t (sv f b)) : w.rangeAt g 0 (wv f).toList := by
  intro j v hj
  have hj2 : j < 24 := by
    have := (List.getElem?_eq_some_iff.1 hj).1
    rwa [Array.length_toList, wv_size] at this
  rw [Nat.zero_add, h.cell j, sv_get f b hj2]
  rw [Array.getElem?_toList, wv_get f hj2] at hj
  exact hj
set_option maxHeartbeats 8000000 in
theorem bound_any (w : World) (g : Nat) (f : Nat → Nat) (b : Nat) (hO : Own w g 77 (sv f b)) (hf : ∀ i, i < 24 → f i ≤ 1125899906842624) (hT : Tab w)
    (A : Option Addr) (n c : Nat) (k : List Nat) (h : Rd w A n c (VI (ints k))) (hk : Ok k) (h0 : 0 ∉ k) :
    Calls Tryd.prog 81 #[.pointer (some ⟨g, 0, none⟩), .slice A n c] w fun e w' => ∃ B : Nat, e = .returned (.int .i64 (B : Int)) ∧ B ≤ 27021597764222976 ∧ (∀ H, meets k H = true → B ≤ sumR f H 24) ∧ On w w' := by
  have hn : k.length = n := by have := h.len; rw [ints_len] at this; exact this
  have hcap := h.cap
  have hmax := h.max
  have hrg := sv_range hO
  have HN := Lib.hid hn
  have HR := Lib.hid h
  have HF := Lib.hid hf
  have HO := Lib.hid hO
  have HT := Lib.hid hT
  have HK := Lib.hid hk
  have HRG := Lib.hid hrg
  clear hn h hf hO hT hk hrg
  obtain ⟨q, hq⟩ : ∃ q, w.heap.size = q := ⟨_, rfl⟩
  go_enter Tryd.func81, Tryd.ntmps81
  have hO0 : Own (w.alloc (.cells (wv fun _ => 0) 64)) q 64 (wv fun _ => 0) := by rw [← hq]; exact Own.new w _ _
  go_wp2_with (first | (refine wpList_load_mid rfl 64 (.tmp 16) rfl g 0 rfl (wv f).toList _ HRG.out Tryd.underlying64 rfl (by kernel_rfl) ?_) | (refine wpList_store_row rfl 64 (.tmp 5) (.tmp 17) rfl q (wv f) rfl rfl _ _ hO0 (by kernel_rfl) (by rw [wv_size, wv_size]) (wv_all _) ?_))
  have hO1 : Own ((w.alloc (.cells (wv fun _ => 0) 64)).setRow q (wv f)) q 64 (wv f) := setRow_heap _ q _ _ _ _ hO0
  have hon1 : On w ((w.alloc (.cells (wv fun _ => 0) 64)).setRow q (wv f)) := on_setRow ((On.refl w).alloc _) (by omega) _
  have HO1 := Lib.hid hO1
  have HON1 := Lib.hid hon1
  clear hO0 hO1 hon1
  go_loopw [6, 7, 20] (fun pv s i wr => ∃ (j pn sn : Nat) (gg : Nat → Nat), j ≤ n ∧ i = .int .i64 (j : Int) ∧ pv = .int .i64 (pn : Int) ∧ pn < 16777216 ∧ s = .int .i64 (sn : Int) ∧ Bnd f (k.take j) gg sn ∧ Own wr q 64 (wv gg) ∧ On w wr) (fun _ _ i _ => n - (intOf i).toNat)
  case atStart => exact ⟨0, 0, 0, f, by omega, rfl, rfl, by decide, rfl, Bnd.start f, HO1.out, HON1.out⟩
  case round =>
    obtain ⟨j, pn, sn, gg, hj, rfl, rfl, hpn, rfl, hB, hOw, hon⟩ := hrel
    obtain ⟨wo, hwo⟩ : ∃ wo, wo = wr := ⟨_, rfl⟩
    subst hwo
    have HB := Lib.hid hB
    have HOW := Lib.hid hOw
    have HON := Lib.hid hon
    clear hB hOw hon
    by_cases hlt : j < n
    · have hjl : j < k.length := by rw [HN.out]; exact hlt
      obtain ⟨ad, e1, hbl, hc⟩ := (HR.out.on HON.out).at_ j _ (ints_get hjl)
      cases e1
      have htk := take_get hjl
      have hxm := getD_mem hjl
      obtain ⟨t, ht⟩ : ∃ t, k.getD j 0 = t := ⟨_, rfl⟩
      rw [ht] at hc htk hxm
      have ht24 := HK.out t hxm
      have ht0 : t ≠ 0 := fun e => h0 (e ▸ hxm)
      have hand := and_nat t pn ht24 hpn
      have HTK := Lib.hid htk
      have HXM := Lib.hid hxm
      have HT0 := Lib.hid ht0
      clear ht htk hxm ht0
      obtain ⟨z, hz⟩ : ∃ z, t &&& pn = z := ⟨_, rfl⟩
      rw [hz] at hand
      clear hz
      by_cases hz0 : z = 0
      · subst hz0
        go_wp2
        go_loop [10, 11] (fun m u => ∃ (mn un : Nat), m = .int .i64 (mn : Int) ∧ u = .int .i64 (un : Int) ∧ Lst gg t un mn) (fun _ u => (intOf u).toNat)
        case atStart => exact ⟨9223372036854775807, t, rfl, rfl, Lst.start gg t ht24⟩
        case round =>
          obtain ⟨mn, un, rfl, rfl, hL⟩ := hrel
          have HL := Lib.hid hL
          by_cases hu0 : un = 0
          · subst hu0
            have hd := Lst.done hL HT0.out
            have HD := Lib.hid hd
            clear hL hd
            go_wp2
            go_loopw [6, 12] (fun pv u wr => ∃ (p2 un : Nat), pv = .int .i64 (p2 : Int) ∧ p2 < 16777216 ∧ u = .int .i64 (un : Int) ∧ un < 16777216 ∧ Sub un t ∧ Own wr q 64 (wv (cheap gg (without t un) mn)) ∧ On w wr) (fun _ u _ => (intOf u).toNat)
            case atStart => exact ⟨pn, t, rfl, hpn, rfl, ht24, sub_refl t, by rw [wv_congr (g := gg) (fun i _ => cheap_none gg t mn i)]; exact HOW.out, HON.out⟩
            case round =>
              obtain ⟨p2, un, rfl, hp2, rfl, hun, hsub, hO2, hon2⟩ := hrel
              have HON2 := Lib.hid hon2
              have HO2 := Lib.hid hO2
              clear hon2 hO2
              by_cases hu0 : un = 0
              · subst hu0
                have hstep := HB.out.step HD.out.1 ht24
                rw [← HTK.out] at hstep
                have hsm := hstep.small (fun x hx => HK.out x (List.mem_of_mem_take hx)) (fun hx => h0 (List.mem_of_mem_take hx)) HF.out
                have HS := Lib.hid hstep
                have hO3 := HO2.out
                rw [wv_congr (g := cheap gg t mn) (fun i _ => cheap_all gg t mn i)] at hO3
                have HO3 := Lib.hid hO3
                clear hstep hO3
                go_wp2
                go_roundw
                case rel =>
                  refine ⟨j + 1, p2, sn + mn, cheap gg t mn, by omega, by go_num, rfl, hp2, by go_num, HS.out, HO3.out, HON2.out⟩
                case measure => simp [intOf]; omega
              · obtain ⟨i, d, hi, hbi, hd, hsum, hels, _, hdrop, _⟩ := els_cons un hun hu0
                have hLe := fun W hT => least_any W (un : Int) hT
                rw [cut_nat un hun, least_cons hels] at hLe
                have hle2 := hLe wr (HT.out.on HON2.out)
                have hmg := HD.out.1 i hi ((sub_tb un t).1 hsub i hbi)
                have hg1 := HB.out.1 i hi
                have hg2 := HF.out i hi
                have hdr := drop_run un d hun hu0 hdrop
                have hci := (HO2.out.cell i).trans (wv_get _ hi)
                rw [cheap_old hbi] at hci
                have hfi := HO2.out.frozen i
                have hnz : ¬ (un : Int) = 0 := by omega
                have hlt2 : d < un := by have := Nat.two_pow_pos i; omega
                have hsubd : Sub d t := by rw [hd]; exact sub_trans (wo_sub _ _) hsub
                have hO4 := HO2.out.set_ i (.int .i64 ((gg i - mn : Nat) : Int))
                rw [wv_set _ i _ hi, wv_congr (g := cheap gg (without t d) mn) (fun k _ => cheap_next hsub hbi hd)] at hO4
                have hon4 := HON2.out.setCell (p := ⟨q, i, none⟩) (by simp; omega) (.int .i64 ((gg i - mn : Nat) : Int))
                have hsh := shlw i hi
                have hp24 := two_lt hi
                obtain ⟨p, hpp⟩ : ∃ p, 2 ^ i = p := ⟨_, rfl⟩
                rw [hpp] at hsh hp24
                have hor := or_nat p2 p (Nat.lt_trans hp2 (by decide)) (Nat.lt_trans hp24 (by decide))
                have hor24 := or_lt24 hp2 hp24
                obtain ⟨y, hy⟩ : ∃ y, gg i - mn = y := ⟨_, rfl⟩
                rw [hy] at hO4 hon4
                have hxy : ((gg i : Nat) : Int) - (mn : Int) = (y : Int) := by omega
                have hyb : y ≤ 1125899906842624 := by omega
                generalize gg i = x at hci hxy hmg hg1 hg2 hy
                have HLT := Lib.hid hlt2
                have HSD := Lib.hid hsubd
                have HO4 := Lib.hid hO4
                have HON4 := Lib.hid hon4
                clear hd hsum hels hdrop hbi hLe hlt2 hsubd hO4 hon4 hpp hy hsub
                by_cases hy0 : y = 0
                · subst hy0
                  go_wp2_with (refine hle2.mono ?_; rintro e w' ⟨rfl, rfl⟩)
                  exact ⟨⟨p2 ||| p, d, rfl, hor24, rfl, Nat.lt_trans HLT.out hun, HSD.out, HO4.out, HON4.out⟩, by have := HLT.out; simp [intOf]; omega⟩
                · have hy2 : ¬ (y : Int) = 0 := by omega
                  go_wp2_with (refine hle2.mono ?_; rintro e w' ⟨rfl, rfl⟩)
                  exact ⟨⟨p2, d, rfl, hp2, rfl, Nat.lt_trans HLT.out hun, HSD.out, HO4.out, HON4.out⟩, by have := HLT.out; simp [intOf]; omega⟩
          · obtain ⟨i, d, hi, hbi, hd, hsum, hels, _, hdrop, _⟩ := els_cons un hL.1 hu0
            have hun24 := hL.1
            have hLe := fun W hT => least_any W (un : Int) hT
            rw [cut_nat un hun24, least_cons hels] at hLe
            have hg1 := HB.out.1 i hi
            have hg2 := HF.out i hi
            have hstep := hL.step hi hbi hd (by omega)
            have hdr := drop_run un d hun24 hu0 hdrop
            have hci := (HOW.out.cell i).trans (wv_get _ hi)
            have hle2 := hLe wo (HT.out.on HON.out)
            have hnz : ¬ (un : Int) = 0 := by omega
            have hlt2 : d < un := by have := Nat.two_pow_pos i; omega
            generalize gg i = x at hstep hci hg1 hg2
            have HS := Lib.hid hstep
            have HLT := Lib.hid hlt2
            clear hL hd hsum hels hdrop hbi hLe hstep hlt2
            have hmin : min (mn : Int) (x : Int) = ((min mn x : Nat) : Int) := by omega
            go_wp2_with (refine hle2.mono ?_; rintro e w' ⟨rfl, rfl⟩)
            exact ⟨⟨min mn x, d, rfl, rfl, HS.out⟩, by have := HLT.out; simp [intOf]; omega⟩
      · have hz2 : ¬ (z : Int) = 0 := by omega
        go_wp2
        go_roundw
        case rel =>
          refine ⟨j + 1, pn, sn, gg, by omega, by go_num, rfl, hpn, rfl, ?_, HOW.out, HON.out⟩
          rw [HTK.out]; exact HB.out.skip t
        case measure => simp [intOf]; omega
    · obtain rfl : j = n := by omega
      have hB := HB.out
      rw [List.take_of_length_le (by rw [HN.out]; omega)] at hB
      have hsm := hB.small HK.out h0 HF.out
      have HB2 := Lib.hid hB
      have HSM := Lib.hid hsm
      clear hB hsm
      go_wp2
      go_ret
      refine ⟨sn, rfl, HSM.out, fun H hm => ?_, HON.out⟩
      have := HB2.out.2 H hm
      omega
end Go.Proofs.YtakkbemldccekaaDoor.Sb
/-
  slices.MinFunc with sets.Compare: one of the sets.
-/
namespace Go.Proofs.YtakkbemldccekaaDoor.Sb
open Go.RowKit
set_option linter.unusedVariables false
set_option maxRecDepth 100000
set_option maxHeartbeats 4000000 in
theorem minfunc_any (w : World) (A : Option Addr) (n c : Nat) (k : List Nat) (h : Rd w A n c (VI (ints k))) (h0 : 0 < n) :
    Calls Tryd.prog 82 #[.slice A n c, .func (.func 56) #[] #[]] w fun e w' => (∃ x, x ∈ k ∧ e = .returned (.int .i64 ((x : Nat) : Int))) ∧ w = w' := by
  have hn : k.length = n := by have := h.len; rw [ints_len] at this; exact this
  have hcap := h.cap
  have hmax := h.max
  have HN := Lib.hid hn
  have HR := Lib.hid h
  obtain ⟨ad, e1, hbl, hc⟩ := h.at_ 0 _ (ints_get (by rw [hn]; exact h0))
  cases e1
  rw [add_nil] at hc
  have hx0 := getD_mem (k := k) (i := 0) (by rw [hn]; exact h0)
  obtain ⟨x0, hx⟩ : ∃ x, k.getD 0 0 = x := ⟨_, rfl⟩
  rw [hx] at hc hx0
  have HX0 := Lib.hid hx0
  clear hn h hx hx0
  go_enter Tryd.func82, Tryd.ntmps82
  go_wp2
  go_loop [5, 6] (fun m i => ∃ (j x : Nat), j ≤ n ∧ 0 < j ∧ i = .int .i64 (j : Int) ∧ m = .int .i64 (x : Int) ∧ Hid (x ∈ k)) (fun _ i => n - (intOf i).toNat)
  case atStart => exact ⟨1, x0, by omega, by omega, rfl, rfl, HX0⟩
  case round =>
    obtain ⟨j, x, hj, hj0, rfl, rfl, HX⟩ := hrel
    clear hc
    by_cases hlt : j < n
    · obtain ⟨ad2, e2, hb2, hc2⟩ := HR.out.at_ j _ (ints_get (by rw [HN.out]; exact hlt))
      cases e2
      have hy0 := getD_mem (k := k) (i := j) (by rw [HN.out]; exact hlt)
      obtain ⟨y, hy⟩ : ∃ y, k.getD j 0 = y := ⟨_, rfl⟩
      rw [hy] at hc2 hy0
      have hC := compare_any w (y : Int) (x : Int)
      have hr := cmpS_range (cut (y : Int)) (cut (x : Int))
      generalize cmpS (cut (y : Int)) (cut (x : Int)) = z at hC hr
      have HY0 := Lib.hid hy0
      clear hy hy0
      by_cases hz : z < 0
      · go_wp2_with (refine hC.mono ?_; rintro e w' ⟨rfl, rfl⟩)
        exact ⟨⟨j + 1, y, by omega, by omega, by go_num, rfl, HY0⟩, by simp [intOf]; omega⟩
      · go_wp2_with (refine hC.mono ?_; rintro e w' ⟨rfl, rfl⟩)
        exact ⟨⟨j + 1, x, by omega, by omega, by go_num, rfl, HX⟩, by simp [intOf]; omega⟩
    · obtain rfl : j = n := by omega
      go_wp2
      go_ret
      exact ⟨⟨x, HX.out, rfl⟩, rfl⟩
end Go.Proofs.YtakkbemldccekaaDoor.Sb
