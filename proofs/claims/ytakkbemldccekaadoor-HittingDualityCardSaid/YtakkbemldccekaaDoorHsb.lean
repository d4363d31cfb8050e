/-
  Package hitting: the search.
-/
import Derived.Test.YtakkbemldccekaaDoorHsa
import Derived.Deep.RegionHeld3
import Derived.Test.YtakkbemldccekaaDoorHk1
namespace Go.Proofs.YtakkbemldccekaaDoor.Sb
open Go.RowKit
set_option linter.unusedVariables false
set_option maxRecDepth 100000
theorem keep_cell {a W w' : World} {p : Addr} {v : Value} (h : On a W ∧ W.cell? p = some v) (hp : p.block < a.heap.size) (k : On W w') : On a w' ∧ w'.cell? p = some v :=
  ⟨h.1.trans k, (Below.cell k (Nat.lt_of_lt_of_le hp h.1.size)).trans h.2⟩
/-- the elements of a list lie elsewhere than in block g -/
def Away (g : Nat) (A : Option Addr) (n : Nat) : Prop := 0 < n → ∀ ad, A = some ad → ad.block ≠ g
theorem Rd.only {w w' : World} {g : Nat} {A : Option Addr} {n c : Nat} {xs : List Value} (h : Rd w A n c xs) (ha : Away g A n) (k : Only g w w') : Rd w' A n c xs := by
  refine ⟨h.1, h.2.1, h.2.2.1, h.2.2.2.1, fun hn => ?_⟩
  obtain ⟨ad, e, hb, hc⟩ := h.2.2.2.2 hn
  refine ⟨ad, e, Nat.lt_of_lt_of_le hb k.size, fun j u hj => ?_⟩
  rw [k.cell_far _ (by rw [block_of_add]; exact hb) (by rw [block_of_add]; intro e2; exact ha hn ad e (Option.some.inj e2))]
  exact hc j u hj
theorem away_row {w : World} {base : Nat} {e : TypeId} {A : Option Addr} {n m c : Nat} {xs : List Value} (h : w.ownsRow base e 1 (.slice A n c) m xs) {g : Nat} (hg : g < base) : Away g A n := by
  intro _ ad ea
  subst ea
  rcases h.2 with ⟨hv, _⟩ | ⟨g', cap, cur, hv, hb, _⟩
  · cases hv
  · cases hv; simp; omega
theorem tab_only {w w' : World} {g : Nat} (h : Tab w) (hg : 1 ≠ g) (k : Only g w w') : Tab w' := fun j hj =>
  (k.cell_far _ h.lt (by simp; exact fun e => hg e)).trans (h j hj)
theorem bits_snoc {r i : Nat} {E : List Nat} (h : ∀ k, r.testBit k = true ↔ k ∈ E) : ∀ k, (r ||| 2 ^ i).testBit k = true ↔ k ∈ E ++ [i] := by
  intro k
  rw [Nat.testBit_or, tb_two, Bool.or_eq_true, h, List.mem_append, List.mem_singleton, decide_eq_true_eq]
  constructor
  · rintro (h | h)
    · exact .inl h
    · exact .inr h.symm
  · rintro (h | h)
    · exact .inl h
    · exact .inr h.symm
theorem sgl_get {x j : Nat} (h : j < (sgl x).length) : ∃ i, i < 24 ∧ x.testBit i = true ∧ (sgl x).getD j 0 = 2 ^ i ∧ (els x).take (j + 1) = (els x).take j ++ [i] := by
  have hl : j < (els x).length := by unfold sgl at h; rwa [List.length_map] at h
  refine ⟨(els x)[j], ((mem_els x _).1 (List.getElem_mem hl)).1, ((mem_els x _).1 (List.getElem_mem hl)).2, ?_, ?_⟩
  · unfold sgl; simp [hl]
  · rw [List.take_add_one, List.getElem?_eq_getElem hl]; rfl
theorem sgl_length (x : Nat) : (sgl x).length = (els x).length := by unfold sgl; rw [List.length_map]
/-- what a search does -/
def Looks (g : Nat) (f : Nat → Nat) (k : List Nat) (sum b : Nat) (w : World) (e : Ending) (w' : World) : Prop :=
  e = .returned (.tuple #[]) ∧ ∃ b', Look f k sum b b' ∧ Own w' g 77 (sv f b') ∧ Only g w w'
set_option maxHeartbeats 8000000 in
theorem look_any (g : Nat) (f : Nat → Nat) (hf : ∀ i, i < 24 → f i ≤ 1125899906842624) (hTg : 1 ≠ g) : ∀ (N : Nat) (w : World) (b sum : Nat) (A : Option Addr) (n c : Nat) (k : List Nat), n < N → Own w g 77 (sv f b) → b ≤ 9223372036854775807 → Tab w →
    Rd w A n c (VI (ints k)) → Away g A n → Ok k → 0 ∉ k → sum + n * 1125899906842624 ≤ 1152921504606846976 →
    Calls Tryd.prog 67 #[.pointer (some ⟨g, 0, none⟩), .slice A n c, .int .i64 (sum : Int)] w (Looks g f k sum b w) := by
  intro N
  induction N with
  | zero =>
    intro w b sum A n c k hN
    exact absurd hN (Nat.not_lt_zero n)
  | succ N ih =>
    intro w b sum A n c k hN hO hb hT h hA hk h0 hsum
    have hn : k.length = n := by have := h.len; rw [ints_len] at this; exact this
    have hcap := h.cap
    have hmax := h.max
    have hcb := (hO.cell 24).trans (sv_best f b)
    have hfb := hO.frozen 24
    have hgl := hO.lt
    have hgl2 : (⟨g, 24, none⟩ : Addr).block < w.heap.size := hgl
    have HN := Lib.hid hn
    have HR := Lib.hid h
    have HF := Lib.hid hf
    have HO := Lib.hid hO
    have HT := Lib.hid hT
    have HA := Lib.hid hA
    have HK := Lib.hid hk
    have H0 := Lib.hid h0
    have HIH := Lib.hid ih
    have HGL2 := Lib.hid hgl2
    have hs60 : sum ≤ 1152921504606846976 := by omega
    have HSUM := Lib.hid hsum
    clear hn h hf hO hT hA hk h0 ih hsum hgl2
    go_enter Tryd.func67, Tryd.ntmps67
    go_wp2
    go_region_held3 (fun W => On w W ∧ W.cell? ⟨g, 24, none⟩ = some (.int .i64 (b : Int)))
      (first | exact ⟨(On.refl w).drew, hcb⟩ | exact ⟨On.refl w, hcb⟩ | assumption | exact keep_cell (by assumption) HGL2.out PB | (go_split_ands; exact keep_cell ⟨by assumption, by assumption⟩ HGL2.out PB))
      (first | (go_at_call 81; go_split_ands; with_reducible refine (bound_any _ g f b (HO.out.on ?_) HF.out (HT.out.on ?_) A n c k (HR.out.on ?_) HK.out H0.out).mono ?_; assumption; assumption; assumption; rintro e w' ⟨B, rfl, hB1, hB2, PB⟩))
    rename_i hHe
    have hwr : IntKind.i64.wrap ((sum : Int) + (B : Int)) = (sum : Int) + (B : Int) := by rw [IntKind.wrap_i64]; omega
    rw [hwr]
    have hon := hHe.1
    have hcb1 := hHe.2
    have hO1 := HO.out.on hon
    have hR1 := HR.out.on hon
    have hT1 := HT.out.on hon
    have hfb1 := hO1.frozen 24
    have honly := Only.on (g := g) hon
    have HB2 := Lib.hid hB2
    have HO1 := Lib.hid hO1
    have HR1 := Lib.hid hR1
    have HT1 := Lib.hid hT1
    have HON := Lib.hid hon
    have HONLY := Lib.hid honly
    clear hHe hwr hcb hfb PB hB2 hO1 hR1 hT1 hon honly
    by_cases hge : b ≤ sum + B
    · have hgeI : (b : Int) ≤ (sum : Int) + (B : Int) := by omega
      have HL := Lib.hid (Look.prune HB2.out hge)
      clear hge
      go_wp2
      go_end0
      exact ⟨rfl, b, HL.out, HO1.out, HONLY.out⟩
    · have hgeI : ¬ (b : Int) ≤ (sum : Int) + (B : Int) := by omega
      by_cases hn0 : n = 0
      · subst hn0
        have hk0 : k = [] := List.eq_nil_of_length_eq_zero HN.out
        subst hk0
        have hB0 := HB2.out 0 rfl
        rw [sumR_zero] at hB0
        have hlt : sum ≤ b := by omega
        have HL := Lib.hid (Look.empty (w := f) hlt)
        have hO2 := HO1.out.set_ 24 (.int .i64 (sum : Int))
        rw [sv_set] at hO2
        have HO2 := Lib.hid hO2
        clear hlt hge hO2
        go_wp2
        go_end0
        exact ⟨rfl, sum, HL.out, HO2.out, HONLY.out.set_ 24 _⟩
      · have hn0I : ¬ (n : Int) = 0 := by omega
        have hMF := minfunc_any w' A n c k HR1.out (by omega)
        go_wp2_with fail
        refine hMF.mono ?_
        rintro e w9 ⟨⟨x, hxk, rfl⟩, rfl⟩
        have hx24 := HK.out x hxk
        have hSG := singles_any w' x hx24
        clear hMF
        go_wp2_with fail
        refine hSG.mono ?_
        rintro e w1 ⟨A1, m, c1, rfl, hrow1, P1⟩
        have hm : (sgl x).length = m := by have := (rd_of_row hrow1).len; rw [ints_len] at this; exact this
        have hsz := HON.out.size
        have hgb : g < w'.heap.size := Nat.lt_of_lt_of_le hgl hsz
        have hR2 := HR1.out.on P1
        have hO2 := HO1.out.on P1
        have hT2 := HT1.out.on P1
        have hon2 := HONLY.out.then P1
        have hrd := rd_of_row hrow1
        have haw := away_row hrow1 hgb
        have hcap1 := hrd.cap
        have hmax1 := hrd.max
        have HM := Lib.hid hm
        have HXK := Lib.hid hxk
        have HR2 := Lib.hid hR2
        have HO2 := Lib.hid hO2
        have HT2 := Lib.hid hT2
        have HON2 := Lib.hid hon2
        have HRD := Lib.hid hrd
        have HAW := Lib.hid haw
        have hgl1 : g < w1.heap.size := Nat.lt_of_lt_of_le hgb P1.size
        clear hm hxk hR2 hO2 hT2 hon2 hrd haw hSG hrow1 hge hgeI hcb1 hfb1
        go_wp2
        go_loopw [6, 32] (fun rv i wr => ∃ (j rn bj : Nat), j ≤ m ∧ i = .int .i64 (j : Int) ∧ rv = .int .i64 (rn : Int) ∧ rn < 16777216 ∧ bj ≤ 9223372036854775807 ∧ Hid (∀ k, rn.testBit k = true ↔ k ∈ (els x).take j) ∧ Hid (LookTo f k sum b ((els x).take j) bj) ∧ Hid (Own wr g 77 (sv f bj)) ∧ Hid (Only g w1 wr)) (fun _ i _ => m - (intOf i).toNat)
        case atStart => exact ⟨0, 0, b, by omega, rfl, rfl, by decide, hb, fun k => by simp, LookTo.start f k sum b, HO2.out, Only.refl g w1⟩
        case round =>
          obtain ⟨j, rn, bj, hj, rfl, rfl, hrn, hbj, HRB, HLT, HOR, HOY⟩ := hrel
          by_cases hlt : j < m
          · obtain ⟨i, hi, hxi, hget, htake⟩ := sgl_get (x := x) (j := j) (by rw [HM.out]; exact hlt)
            obtain ⟨ad, e1, hbl, hcj⟩ := (HRD.out.only HAW.out HOY.out).at_ j _ (ints_get (by rw [HM.out]; exact hlt))
            cases e1
            rw [hget] at hcj
            have hp24 := two_lt hi
            have hCH := choose_any wr A n c k (HR2.out.only HA.out HOY.out) HK.out (by have := HSUM.out; omega) (2 ^ i) rn hp24 hrn
            have hrb2 := bits_snoc (i := i) HRB.out
            rw [← htake] at hrb2
            have hor := or_nat rn (2 ^ i) (Nat.lt_trans hrn (by decide)) (Nat.lt_trans hp24 (by decide))
            have hor24 := or_lt24 hrn hp24
            have hskip := HLT.out.skip (i := i) (r := rn) HK.out HRB.out
            have hstp := fun b' => HLT.out.step (b' := b') (r := rn) (x := x) hi HXK.out hxi HK.out HRB.out
            have hcl := chs_len HXK.out (s := 2 ^ i) (by rw [ne_eq, and_two, hxi]; decide) rn
            rw [HN.out] at hcl
            rw [← htake] at hskip
            simp only [← htake] at hstp
            have hLe := fun W hT => least_any W ((2 ^ i : Nat) : Int) hT
            have hlei : least (cut ((2 ^ i : Nat) : Int)) = (i : Int) := by
              rw [cut_nat _ hp24]
              exact least_first _ i hi (by rw [tb_two]; simp) (fun k hk => by rw [tb_two, decide_eq_false (by omega)])
            rw [hlei] at hLe
            obtain ⟨p, hp⟩ : ∃ p, 2 ^ i = p := ⟨_, rfl⟩
            obtain ⟨rest, hrest⟩ : ∃ rest, chs k rn (2 ^ i) = rest := ⟨_, rfl⟩
            have hrok := chs_ok HK.out rn (2 ^ i)
            rw [hp] at hrb2 hor hor24 hLe hcj hp24
            simp only [hp] at hCH
            rw [hrest] at hskip hcl hrok
            simp only [hrest] at hstp
            rw [hp] at hrest
            simp only [hrest] at hCH
            have HRB2 := Lib.hid hrb2
            have HSK := Lib.hid hskip
            have HST := Lib.hid hstp
            have HCL := Lib.hid hcl
            have HROK := Lib.hid hrok
            clear hrb2 hskip hstp hcl hrok hrest hp hlei htake hget
            go_wp2_with fail
            refine hCH.mono ?_
            rintro e w2 ⟨P2, (⟨h0, rfl⟩ | ⟨h1, A2, n2, c2, rfl, hrow2⟩)⟩
            · have hO3 := HOR.out.on P2
              have hy3 := HOY.out.then P2
              have HO3 := Lib.hid hO3
              have HY3 := Lib.hid hy3
              have HSK2 := Lib.hid (HSK.out h0)
              clear hO3 hy3 hCH hcj h0
              go_wp2
              exact ⟨⟨j + 1, rn ||| p, bj, by omega, by go_num, rfl, hor24, hbj, HRB2.out, HSK2.out, HO3.out, HY3.out⟩, by simp [intOf]; omega⟩
            · have hO3 := HOR.out.on P2
              have hy3 := HOY.out.then P2
              have hgr : g < wr.heap.size := HOR.out.lt
              have hrd2 := rd_of_row hrow2
              have hn2 : rest.length = n2 := by have := hrd2.len; rw [ints_len] at this; exact this
              have hfi := HF.out i hi
              have hT3 := (tab_only HT2.out hTg HOY.out).on P2
              have hci := (hO3.cell i).trans (sv_get f bj hi)
              have hcap2 := hrd2.cap
              have hmax2 := hrd2.max
              have hSU := HSUM.out
              have hCL := HCL.out
              have hLK := HIH.out w2.drew bj (sum + f i) A2 n2 c2 rest (by omega) hO3.drew hbj hT3 hrd2.drew (away_row hrow2 hgr) HROK.out h1 (by omega)
              have hLe2 := fun W h => hLe W h
              have hs2 : sum + f i ≤ 1152921504606846976 := by omega
              rw [Int.natCast_add] at hLK
              have HLK := Lib.hid hLK
              have HLe := Lib.hid hLe
              have HT3 := Lib.hid hT3
              have HY3 := Lib.hid hy3
              obtain ⟨fi, hfe⟩ : ∃ fi, f i = fi := ⟨_, rfl⟩
              rw [hfe] at hci HLK HST hfi hs2
              have HFE := Lib.hid hfe
              clear hO3 hy3 hCH hcj hrow2 hrd2 hn2 hT3 hSU hCL hLK hLe2 hLe hfe
              have hwr : IntKind.i64.wrap ((sum : Int) + (fi : Int)) = (sum : Int) + (fi : Int) := by rw [IntKind.wrap_i64]; omega
              rw [← hwr] at HLK
              clear hwr
              have hLD := HLe.out w2.drew (show Tab w2.drew from HT3.out)
              have HOR24 := Lib.hid hor24
              clear hor24
              have hi0 : (i : Int) < 24 := by omega
              go_wp2
              go_region_held3 (fun W => Only g w2 W ∧ W.cell? ⟨g, i, none⟩ = some (.int .i64 (fi : Int)))
                (first | exact ⟨(Only.refl g w2).drew, hci⟩ | exact ⟨Only.refl g w2, hci⟩ | assumption | exact ⟨((Only.refl g w2).drew).trans hY4, by rw [← HFE.out]; exact (hO4.cell i).trans (sv_get f b2 hi)⟩)
                (first | (go_at_call 46; with_reducible refine hLD.mono ?_; rintro e w' ⟨rfl, rfl⟩) | (go_at_call 67; with_reducible refine HLK.out.mono ?_; intro e w' hLL; unfold Looks at hLL; obtain ⟨rfl, b2, hL2, hO4, hY4⟩ := hLL))
              rename_i hHe
              have HST2 := Lib.hid (HST.out b2 hL2)
              have HB2' := Lib.hid (Nat.le_trans hL2.1 hbj)
              have HO5 := Lib.hid hO4
              have HY5 := Lib.hid ((HY3.out.drew).trans hY4)
              clear hHe hL2 hO4 hY4 hLD hci
              go_wp2
              exact ⟨⟨j + 1, rn ||| p, b2, by omega, by go_num, rfl, HOR24.out, HB2'.out, HRB2.out, HST2.out, HO5.out, HY5.out⟩, by simp [intOf]; omega⟩
          · obtain rfl : j = m := by omega
            have hL := HLT.out
            rw [List.take_of_length_le (by rw [← sgl_length, HM.out]; omega)] at hL
            have hL2 := hL.done HXK.out hx24
            have HL2 := Lib.hid hL2
            clear hL hL2
            go_wp2
            go_end0
            exact ⟨rfl, bj, HL2.out, HOR.out, HON2.out.trans HOY.out⟩
end Go.Proofs.YtakkbemldccekaaDoor.Sb
/-
  Package hitting: lightest.
-/
namespace Go.Proofs.YtakkbemldccekaaDoor.Sb
open Go.RowKit
set_option linter.unusedVariables false
set_option maxRecDepth 100000
theorem built_sv (f : Nat → Nat) (b : Nat) : Tryd.prog.built 77 [(0, .agg (wv f)), (1, .int .i64 (b : Int))] = some (sv f b) := by
  kernel_rfl
theorem sv_all (f : Nat → Nat) (b : Nat) : (sv f b).all (·.oneCell') = true := by
  unfold sv; rw [Array.all_push, wv_all]; rfl
theorem wpList_build_sv {ops : Array Oper} {rest : List Oper} {o : Oper} {a : Act} {w : World} {Q : Exit → Act → World → Prop} (hg : o.guard = none) (x y : Operand) (ho : o.op = .build 77 #[(0, x), (1, y)])
    (f : Nat → Nat) (b : Nat) (hx : a.eval x = .agg (wv f)) (hy : a.eval y = .int .i64 (b : Int)) (h : wpList Tryd.prog ops Q rest (a.put o.dst (.agg (sv f b))) w) : wpList Tryd.prog ops Q (o :: rest) a w := by
  have e : Tryd.prog.built 77 ((#[(0, x), (1, y)] : Array (Nat × Operand)).map fun (i, x) => (i, a.eval x)).toList = some (sv f b) := by
    have e2 : ((#[(0, x), (1, y)] : Array (Nat × Operand)).map fun (i, x) => (i, a.eval x)).toList = [(0, .agg (wv f)), (1, .int .i64 (b : Int))] := by simp [hx, hy]
    rw [e2]; exact built_sv f b
  refine wpList_build hg _ _ ho (by rw [e]; rfl) ?_
  rw [e]; exact h
/-- the world when the search begins -/
def startW (w : World) (q : Nat) (f : Nat → Nat) : World := (w.alloc (.cells (sv (fun _ => 0) 0) 77)).setRow q (sv f 9223372036854775807)
/-- the least set by its weight, or why there is none -/
def Lt (l : List Int) (c : Nat → Nat) (s er : Nat) : Prop :=
  (lerr l ≠ 0 ∧ s = 0 ∧ er = lerr l) ∨ (lerr l = 0 ∧ 0 ∈ natsOf l ∧ s = 0 ∧ er = 17) ∨ (lerr l = 0 ∧ 0 ∉ natsOf l ∧ Bst (natsOf l) c s ∧ er = 0)
theorem Lt.uniq {l : List Int} {c : Nat → Nat} {s er s' er' : Nat} (h : Lt l c s er) (k : Lt l c s' er') : s = s' ∧ er = er' := by
  rcases h with ⟨a, rfl, rfl⟩ | ⟨a, b, rfl, rfl⟩ | ⟨a, b, d, rfl⟩ <;> rcases k with ⟨a', rfl, rfl⟩ | ⟨a', b', rfl, rfl⟩ | ⟨a', b', d', rfl⟩
  · exact ⟨rfl, rfl⟩
  · exact absurd a' a
  · exact absurd a' a
  · exact absurd a a'
  · exact ⟨rfl, rfl⟩
  · exact absurd b b'
  · exact absurd a a'
  · exact absurd b' b
  · exact ⟨d.uniq d', rfl⟩
set_option maxHeartbeats 8000000 in
theorem lightest_any (w : World) (A : Option Addr) (n c : Nat) (l : List Int) (h : Rd w A n c (VI l)) (cc : Nat → Nat) (hc : ∀ i, cc i ≤ 1048576) (hT : Tab w) :
    Calls Tryd.prog 43 #[.slice A n c, .agg (wv (wt cc))] w fun e w' => ∃ s er, Lt l cc s er ∧ e = .returned (.tuple #[.int .i64 ((s : Nat) : Int), errV er]) ∧ On w w' := by
  obtain ⟨q, hq⟩ : ∃ q, w.heap.size = q := ⟨_, rfl⟩
  have P0 := (On.refl w).alloc (.cells (wv (wt cc)) 64)
  have hO0 : Own (w.alloc (.cells (wv (wt cc)) 64)) q 64 (wv (wt cc)) := by rw [← hq]; exact Own.new w _ _
  have hM := Minimal_all (w.alloc (.cells (wv (wt cc)) 64)) A n c l (h.on P0)
  have HT := Lib.hid (hT.on P0)
  have HO := Lib.hid hO0
  have HP0 := Lib.hid P0
  have hLe : lerr l = 0 → l = ints (natsOf l) ∧ Ok (natsOf l) ∧ (natsOf l).length ≤ 1024 := lerr_nats l
  have HLe := Lib.hid hLe
  clear h hT hO0 P0 hLe
  go_enter Tryd.func43, Tryd.ntmps43
  go_wp2_with fail
  refine hM.mono ?_
  rintro e w1 ⟨A1, n1, c1, rfl, R1, P1⟩
  unfold oneR at R1
  clear hM
  by_cases hz : lerr l = 0
  · obtain ⟨hlk, hok, hlen⟩ := HLe.out hz
    have eV : errV (oneR minL l).2 = .nilIface := by unfold oneR; rw [if_pos hz]; rfl
    rw [eV]
    rw [if_pos hz] at R1
    simp only at R1
    have hmm := min_len1 hlen
    have hmo := minL_ok hok
    have hmz : ∀ z, 0 ∈ natsOf l → z = minL (natsOf l) → z = [0] := fun z h e => by rw [e]; exact min_has_zero h
    have hmz2 : 0 ∉ natsOf l → 0 ∉ minL (natsOf l) := fun h e => h ((minL_mem _ _).1 e).1
    have hbm : ∀ H, Bst (minL (natsOf l)) cc H → Bst (natsOf l) cc H := fun H hb => hb.congr fun s => meets_min hok s
    have hcap := R1.cap
    have hmax := R1.max
    have hn1 : (minL (natsOf l)).length = n1 := by have := R1.len; rw [ints_len] at this; exact this
    by_cases h0 : 0 ∈ natsOf l
    · have e0 := hmz _ h0 rfl
      rw [e0] at R1 hn1
      obtain ⟨ad, ea, _, hc0⟩ := R1.at_ 0 (.int .i64 0) rfl
      cases ea
      rw [add_nil] at hc0
      have HF := Lib.hid (show Lt l cc 0 17 from .inr (.inl ⟨hz, h0, rfl, rfl⟩))
      have hp := HP0.out.trans P1
      have HP := Lib.hid hp
      simp at hn1
      subst hn1
      clear hmz hmz2 hbm hmm hmo e0 R1 hp hz h0 hlk hok hlen
      go_wp2
      go_ret2
      exact ⟨0, 17, HF.out, rfl, HP.out⟩
    · have hg0 : 0 ∉ minL (natsOf l) := hmz2 h0
      obtain ⟨q2, hq2⟩ : ∃ q2, w1.heap.size = q2 := ⟨_, rfl⟩
      have hO1 := HO.out.on P1
      have hO7 : Own (w1.alloc (.cells (sv (fun _ => 0) 0) 77)) q2 77 (sv (fun _ => 0) 0) := by rw [← hq2]; exact Own.new w1 _ _
      have P2 := (On.refl w1).alloc (.cells (sv (fun _ => 0) 0) 77)
      have P3 : On w1 (startW w1 q2 (wt cc)) := on_setRow P2 (by omega) _
      have hO8 : Own (startW w1 q2 (wt cc)) q2 77 (sv (wt cc) 9223372036854775807) := setRow_heap _ q2 _ _ _ _ hO7
      have hT1 := HT.out.on P1
      have hTg : 1 ≠ q2 := by have := hT1.lt; rw [hq2] at this; exact Nat.ne_of_lt this
      have hAw : Away q2 A1 n1 := by
        intro hn ad ea
        obtain ⟨ad', ea', hb', _⟩ := R1.2.2.2.2 hn
        rw [ea] at ea'; cases ea'
        omega
      have hLK := look_any q2 (wt cc) (fun i hi => wt_le hc hi) hTg (n1 + 1) (startW w1 q2 (wt cc)) 9223372036854775807 0 A1 n1 c1 _ (Nat.lt_succ_self _) hO8 (Nat.le_refl _) (hT1.on P3) (R1.on P3) hAw hmo hg0 (by omega)
      have hon2 := (HP0.out.trans P1).trans P3
      have hqw : w.heap.size ≤ q2 := by have := (HP0.out.trans P1).size; omega
      have hfin : ∀ b', Look (wt cc) (minL (natsOf l)) 0 9223372036854775807 b' → ∃ H, Lt l cc H 0 ∧ b' = sumR (wt cc) H 24 ∧ b' % 16777216 = H := by
        intro b' hb
        obtain ⟨H, hB, e⟩ := hb.top hc hmo hg0
        exact ⟨H, .inr (.inr ⟨hz, h0, hbm H hB, rfl⟩), e, by rw [e]; exact wt_mod cc H hB.1⟩
      have HO1 := Lib.hid hO1
      have HLK := Lib.hid hLK
      have HON2 := Lib.hid hon2
      have HFIN := Lib.hid hfin
      have HO7 := Lib.hid hO7
      have HHW := Lib.hid hqw
      by_cases hn : n1 = 0
      · subst hn
        clear hLK hmz hmz2 hbm hmm hmo hg0 hO1 hO7 hT1 hO8 P2 P3 hon2 hfin hAw hTg hqw R1 hok hlen hlk
        go_wp2_with (first | (refine wpList_load_row rfl 64 (.tmp 3) rfl q rfl _ _ _ _ HO1.out Tryd.underlying64 rfl (by kernel_rfl) ?_) | (refine wpList_build_sv rfl (.tmp 26) (.const (.int .i64 9223372036854775807)) rfl (wt cc) 9223372036854775807 rfl rfl ?_) | (refine wpList_store_row rfl 77 (.tmp 7) (.tmp 27) rfl q2 (sv (wt cc) 9223372036854775807) rfl rfl _ _ HO7.out (by kernel_rfl) (by rw [sv_size, sv_size]) (sv_all _ _) ?_) | (go_at_call 67; refine HLK.out.mono ?_; rintro e w5 ⟨rfl, b', hb', hO5, hY5⟩; have hc5 := (hO5.cell 24).trans (sv_best _ b'); obtain ⟨s, hL, hbe, hmod⟩ := HFIN.out b' hb'; have hcut := fun W => cut_any W (b' : Int); rw [cut_of_nat, hmod] at hcut; have HL := Lib.hid hL; have HY := Lib.hid hY5; clear hb' hbe hmod hL hO5 hY5) | (go_at_call 26; refine (hcut _).mono ?_; rintro e w6 ⟨rfl, rfl⟩))
        go_ret2
        exact ⟨s, 0, HL.out, rfl, HON2.out.only HY.out HHW.out⟩
      · obtain ⟨ad, ea, _, hc0⟩ := R1.at_ 0 _ (ints_get (show 0 < (minL (natsOf l)).length by omega))
        cases ea
        rw [add_nil] at hc0
        have hx0 : (minL (natsOf l)).getD 0 0 ≠ 0 := fun e => hg0 (e ▸ getD_mem (by omega))
        obtain ⟨x, hx⟩ : ∃ x, (minL (natsOf l)).getD 0 0 = x := ⟨_, rfl⟩
        rw [hx] at hc0 hx0
        have hx1 : ¬ (x : Int) = 0 := by omega
        have hn2 : (0 : Int) < (n1 : Int) := by omega
        clear hLK hmz hmz2 hbm hmm hmo hg0 hO1 hO7 hT1 hO8 P2 P3 hon2 hfin hAw hTg hqw R1 hok hlen hlk hx
        go_wp2_with (first | (refine wpList_load_row rfl 64 (.tmp 3) rfl q rfl _ _ _ _ HO1.out Tryd.underlying64 rfl (by kernel_rfl) ?_) | (refine wpList_build_sv rfl (.tmp 26) (.const (.int .i64 9223372036854775807)) rfl (wt cc) 9223372036854775807 rfl rfl ?_) | (refine wpList_store_row rfl 77 (.tmp 7) (.tmp 27) rfl q2 (sv (wt cc) 9223372036854775807) rfl rfl _ _ HO7.out (by kernel_rfl) (by rw [sv_size, sv_size]) (sv_all _ _) ?_) | (go_at_call 67; refine HLK.out.mono ?_; rintro e w5 ⟨rfl, b', hb', hO5, hY5⟩; have hc5 := (hO5.cell 24).trans (sv_best _ b'); obtain ⟨s, hL, hbe, hmod⟩ := HFIN.out b' hb'; have hcut := fun W => cut_any W (b' : Int); rw [cut_of_nat, hmod] at hcut; have HL := Lib.hid hL; have HY := Lib.hid hY5; clear hb' hbe hmod hL hO5 hY5) | (go_at_call 26; refine (hcut _).mono ?_; rintro e w6 ⟨rfl, rfl⟩))
        go_ret2
        exact ⟨s, 0, HL.out, rfl, HON2.out.only HY.out HHW.out⟩
  · have e2 : (oneR minL l).2 = lerr l := by unfold oneR; rw [if_neg hz]
    rw [e2]
    have HF := Lib.hid (show Lt l cc 0 (lerr l) from .inl ⟨hz, rfl, rfl⟩)
    have HP := Lib.hid (HP0.out.trans P1)
    generalize lerr l = E at hz HF ⊢
    rw [errV_pos E hz]
    clear R1 e2
    go_wp2
    go_ret2
    exact ⟨0, E, HF.out, by rw [errV_pos E hz]; rfl, HP.out⟩
end Go.Proofs.YtakkbemldccekaaDoor.Sb
/-
  Package hitting: Least, Cheapest, for any lists of ints.
-/
namespace Go.Proofs.YtakkbemldccekaaDoor.Sb
open Go.RowKit
set_option linter.unusedVariables false
set_option maxRecDepth 100000
theorem orL_bit (l : List Nat) (i : Nat) : (orL l).testBit i = true ↔ ∃ x ∈ l, x.testBit i = true := by
  induction l with
  | nil => simp [orL]
  | cons x l ih =>
    rw [orL, Nat.testBit_or, Bool.or_eq_true, ih]
    simp
theorem greatest_ge {c i : Nat} (hi : i < 24) (h : c.testBit i = true) : (i : Int) ≤ greatest c := by
  have hm := (mem_els c i).2 ⟨hi, h⟩
  unfold greatest
  have hs := els_sorted c
  obtain ⟨p, q, e⟩ := List.append_of_mem hm
  cases hq : q.getLast? with
  | none =>
    have : q = [] := List.getLast?_eq_none_iff.1 hq
    subst this
    rw [e, List.getLast?_append]; simp
  | some j =>
    have e2 : (els c).getLast? = some j := by rw [e, List.getLast?_append, List.getLast?_cons]; simp [hq]
    rw [e2]
    have hj : j ∈ q := List.mem_of_getLast? hq
    rw [e, List.pairwise_append, List.pairwise_cons] at hs
    have := hs.2.1.1 j hj
    simp only []; omega
/-- the least one has no event that occurs nowhere -/
theorem Bst.occurs {l : List Nat} (hl : Ok l) {c : Nat → Nat} {H : Nat} (h : Bst l c H) : In H l := by
  intro i hb
  refine Classical.byContradiction fun hn => ?_
  have hi : i < 24 := by
    refine Classical.byContradiction fun h24 => ?_
    have hp : 2 ^ 24 ≤ 2 ^ i := Nat.pow_le_pow_right (by decide) (by omega)
    rw [Nat.testBit_lt_two_pow (Nat.lt_of_lt_of_le h.1 hp)] at hb; cases hb
  have h1 := h.2.2 (without H (2 ^ i)) (Nat.lt_of_le_of_lt (without_le _ _) h.1) (by
    rw [meets_iff]
    intro x hx
    obtain ⟨k, hk, hk1, hk2⟩ := (and_some H x (hl x hx)).1 ((meets_iff l H).1 h.2.1 x hx)
    rw [and_some _ x (hl x hx)]
    refine ⟨k, hk, ?_, hk2⟩
    rw [without_tb, hk1, tb_two]
    have : i ≠ k := fun e => hn ⟨x, hx, e ▸ hk2⟩
    simp [this])
  have h2 := split_bit (wt c) hi hb
  have := wt_pos c i
  omega
theorem cof_nil : cof [] = fun _ => 0 := by funext i; simp [cof]
set_option maxHeartbeats 4000000 in
theorem Least_all (w : World) (A : Option Addr) (n c : Nat) (l : List Int) (h : Rd w A n c (VI l)) (hT : Tab w) :
    Calls Tryd.prog 19 #[.slice A n c] w fun e w' => ∃ s er, Lt l (fun _ => 0) s er ∧ e = .returned (.tuple #[.int .i64 ((s : Nat) : Int), errV er]) ∧ On w w' := by
  have hW := weights_any w none 0 0 [] (Rd.nil_ w) (fun i _ => by simp)
  rw [cof_nil] at hW
  have HL := fun w' (k : On w w') => lightest_any w' A n c l (h.on k) (fun _ => 0) (fun _ => by omega) (hT.on k)
  clear h hT
  go_enter Tryd.func19, Tryd.ntmps19
  go_wp2_with fail
  refine hW.mono ?_
  rintro e w1 ⟨rfl, P1⟩
  have hL := HL w1 P1
  clear HL hW
  go_wp2_with fail
  refine hL.mono ?_
  rintro e w2 ⟨s, er, hs, rfl, P2⟩
  clear hL
  go_wp2
  go_ret2
  exact ⟨s, er, hs, rfl, P1.trans P2⟩
/-- the costs are in range -/
def okC (l : List Int) : Bool := l.all fun x => decide (0 ≤ x ∧ x ≤ 1048576)
theorem okC_take {l : List Int} {j : Nat} (h : j < l.length) : okC (l.take (j + 1)) = (okC (l.take j) && decide (0 ≤ l.getD j 0 ∧ l.getD j 0 ≤ 1048576)) := by
  unfold okC
  rw [List.take_add_one, List.getElem?_eq_getElem h, List.all_append]
  simp [h]
theorem okC_bad {l : List Int} {j : Nat} (h : j < l.length) (hb : decide (0 ≤ l.getD j 0 ∧ l.getD j 0 ≤ 1048576) = false) : okC l = false := by
  rw [Bool.eq_false_iff]
  intro hc
  unfold okC at hc
  rw [List.all_eq_true] at hc
  have := hc l[j] (List.getElem_mem h)
  have e : l.getD j 0 = l[j] := by simp [h]
  rw [e, this] at hb; cases hb
theorem okC_at {l : List Int} (h : okC l = true) (i : Nat) : 0 ≤ l.getD i 0 ∧ l.getD i 0 ≤ 1048576 := by
  by_cases hi : i < l.length
  · unfold okC at h
    rw [List.all_eq_true] at h
    have := of_decide_eq_true (h l[i] (List.getElem_mem hi))
    have e : l.getD i 0 = l[i] := by simp [hi]
    rw [e]; exact this
  · rw [List.getD_eq_getElem?_getD, List.getElem?_eq_none (by omega)]; simp
theorem cof_le {l : List Int} (h : okC l = true) (i : Nat) : cof l i ≤ 1048576 := by
  have := okC_at h i
  unfold cof; omega
/-- the cheapest set with its cost, or why there is none -/
def Ch (l cost : List Int) (s t er : Nat) : Prop :=
  (lerr l ≠ 0 ∧ s = 0 ∧ t = 0 ∧ er = lerr l) ∨
  (lerr l = 0 ∧ (cost.length : Int) ≤ greatest (orL (natsOf l)) ∧ s = 0 ∧ t = 0 ∧ er = 11) ∨
  (lerr l = 0 ∧ greatest (orL (natsOf l)) < (cost.length : Int) ∧ okC cost = false ∧ s = 0 ∧ t = 0 ∧ er = 3) ∨
  (lerr l = 0 ∧ greatest (orL (natsOf l)) < (cost.length : Int) ∧ okC cost = true ∧ Lt l (cof cost) s er ∧ t = sumR (cof cost) s 24)
theorem Ch.uniq {l cost : List Int} {s t er s' t' er' : Nat} (h : Ch l cost s t er) (k : Ch l cost s' t' er') : s = s' ∧ t = t' ∧ er = er' := by
  rcases h with ⟨a, rfl, rfl, rfl⟩ | ⟨a, b, rfl, rfl, rfl⟩ | ⟨a, b, d, rfl, rfl, rfl⟩ | ⟨a, b, d, g, rfl⟩ <;>
  rcases k with ⟨a', rfl, rfl, rfl⟩ | ⟨a', b', rfl, rfl, rfl⟩ | ⟨a', b', d', rfl, rfl, rfl⟩ | ⟨a', b', d', g', rfl⟩ <;>
  first
  | exact ⟨rfl, rfl, rfl⟩
  | (exfalso; omega)
  | (obtain ⟨rfl, rfl⟩ := g.uniq g'; exact ⟨rfl, rfl, rfl⟩)
  | (exfalso; rw [d] at d'; cases d')
set_option maxHeartbeats 8000000 in
theorem Cheapest_all (w : World) (A : Option Addr) (n c : Nat) (l : List Int) (h : Rd w A n c (VI l)) (B : Option Addr) (m d : Nat) (cost : List Int) (h2 : Rd w B m d (VI cost)) (hT : Tab w) :
    Calls Tryd.prog 20 #[.slice A n c, .slice B m d] w fun e w' => ∃ s t er, Ch l cost s t er ∧ e = .returned (.tuple #[.int .i64 ((s : Nat) : Int), .int .i64 ((t : Nat) : Int), errV er]) ∧ On w w' := by
  have hm : cost.length = m := by have := h2.len; rw [VI_length] at this; exact this
  have hcap := h2.cap
  have hmax := h2.max
  have hS := Support_all w A n c l h
  have hG := fun W s => greatest_any W s
  have hLe : lerr l = 0 → Ok (natsOf l) := fun e => (lerr_nats l e).2.1
  have HM := Lib.hid hm
  have HR := Lib.hid h
  have HR2 := Lib.hid h2
  have HT := Lib.hid hT
  have HG := Lib.hid hG
  have HLe := Lib.hid hLe
  clear hm h h2 hT hG hLe
  go_enter Tryd.func20, Tryd.ntmps20
  go_wp2_with fail
  refine hS.mono ?_
  rintro e w1 ⟨rfl, P1⟩
  unfold supR
  clear hS
  by_cases hz : lerr l = 0
  · rw [if_pos hz]
    have hok := HLe.out hz
    have ho24 := orL_ok hok
    obtain ⟨o, ho⟩ : ∃ o, orL (natsOf l) = o := ⟨_, rfl⟩
    rw [ho] at ho24 ⊢
    have hgr := HG.out w1 (o : Int)
    rw [cut_nat o ho24] at hgr
    obtain ⟨gt, hgt⟩ : ∃ z, greatest o = z := ⟨_, rfl⟩
    rw [hgt] at hgr
    have HO := Lib.hid ho
    have HGT := Lib.hid hgt
    clear ho hgt
    rw [errV_zero]
    by_cases hb : (m : Int) ≤ gt
    · have HF := Lib.hid (show Ch l cost 0 0 11 from .inr (.inl ⟨hz, by rw [HO.out, HGT.out, HM.out]; exact hb, rfl, rfl, rfl⟩))
      clear hz
      go_wp2_with (refine hgr.mono ?_; rintro e w2 ⟨rfl, rfl⟩)
      go_ret3
      exact ⟨0, 0, 11, HF.out, rfl, P1⟩
    · have hnb : ¬ (m : Int) ≤ gt := hb
      have HZ := Lib.hid hz
      have HOK := Lib.hid hok
      have HNB := Lib.hid (show gt < (m : Int) by omega)
      have HLT := Lib.hid (fun (hc : ∀ i, cof cost i ≤ 1048576) W (k : On w1 W) => lightest_any W A n c l (HR.out.on (P1.trans k)) (cof cost) hc (HT.out.on (P1.trans k)))
      clear hz hb hok
      go_wp2_with (refine hgr.mono ?_; rintro e w2 ⟨rfl, rfl⟩)
      clear hgr hnb
      go_loop [5, 27] (fun t i => ∃ j : Nat, j ≤ m ∧ i = .int .i64 (j : Int) ∧ t = .int .i64 0 ∧ Hid (okC (cost.take j) = true)) (fun _ i => m - (intOf i).toNat)
      case atStart => exact ⟨0, by omega, rfl, rfl, rfl⟩
      case round =>
        obtain ⟨j, hj, rfl, rfl, HC⟩ := hrel
        by_cases hlt : j < m
        · have hjl : j < cost.length := by rw [HM.out]; exact hlt
          obtain ⟨ad, ea, _, hc⟩ := (HR2.out.on P1).at_ j _ (VI_get hjl)
          cases ea
          have hst := okC_take hjl
          rw [HC.out, Bool.true_and] at hst
          have hbd := okC_bad hjl
          obtain ⟨x, hx⟩ : ∃ x, cost.getD j 0 = x := ⟨_, rfl⟩
          rw [hx] at hc hst hbd
          have HST := Lib.hid hst
          have HBD := Lib.hid hbd
          clear hx hst hbd
          by_cases h1 : x < 0
          · have HF := Lib.hid (show Ch l cost 0 0 3 from .inr (.inr (.inl ⟨HZ.out, by rw [HO.out, HGT.out, HM.out]; exact HNB.out, HBD.out (decide_eq_false (by omega)), rfl, rfl, rfl⟩)))
            have h1b : decide (x < 0) = true := decide_eq_true h1
            go_wp2
            go_ret3
            exact ⟨0, 0, 3, HF.out, rfl, P1⟩
          · by_cases h3 : 1048576 < x
            · have HF := Lib.hid (show Ch l cost 0 0 3 from .inr (.inr (.inl ⟨HZ.out, by rw [HO.out, HGT.out, HM.out]; exact HNB.out, HBD.out (decide_eq_false (by omega)), rfl, rfl, rfl⟩)))
              have h1b : decide (x < 0) = false := decide_eq_false h1
              go_wp2
              go_ret3
              exact ⟨0, 0, 3, HF.out, rfl, P1⟩
            · have h1b : decide (x < 0) = false := decide_eq_false h1
              have HS2 := Lib.hid (HST.out.trans (decide_eq_true (show 0 ≤ x ∧ x ≤ 1048576 by omega)))
              go_wp2
              exact ⟨⟨j + 1, by omega, by go_num, rfl, HS2⟩, by simp [intOf]; omega⟩
        · obtain rfl : j = m := by omega
          have hCk := HC.out
          rw [List.take_of_length_le (by rw [HM.out]; omega)] at hCk
          have hat := okC_at hCk
          have hcl := cof_le hCk
          have hWG := weights_any w1 B j d cost (HR2.out.on P1) (fun i _ => hat i)
          have HAT := Lib.hid hat
          have HCK := Lib.hid hCk
          have HCL := Lib.hid hcl
          clear hat hCk hcl
          go_wp2_with fail
          refine hWG.mono ?_
          rintro e w3 ⟨rfl, P3⟩
          have hLT := HLT.out HCL.out w3 P3
          clear hWG
          go_wp2_with fail
          refine hLT.mono ?_
          rintro e w4 ⟨s, er, hs, rfl, P4⟩
          clear hLT
          have hCh := Lib.hid (show Ch l cost s (sumR (cof cost) s 24) er from .inr (.inr (.inr ⟨HZ.out, by rw [HO.out, HGT.out, HM.out]; exact HNB.out, HCK.out, hs, rfl⟩)))
          have PP := Lib.hid ((P1.trans P3).trans P4)
          have hT4 := HT.out.on PP.out
          by_cases her : er = 0
          · have hBs : Bst (natsOf l) (cof cost) s := by
              rcases hs with ⟨h1, _⟩ | ⟨_, _, _, h1⟩ | ⟨_, _, h1, _⟩
              · exact absurd HZ.out h1
              · omega
              · exact h1
            have hs24 := hBs.1
            have hin : ∀ i, s.testBit i = true → i < 24 → (i : Int) < (j : Int) := by
              intro i hb hi
              have h1 := greatest_ge hi ((orL_bit (natsOf l) i).2 (hBs.occurs HOK.out i hb))
              rw [HO.out, HGT.out] at h1
              have := HNB.out
              omega
            have HIN := Lib.hid hin
            have HT4 := Lib.hid hT4
            have htot : sumR (cof cost) s 24 ≤ 24 * 1048576 := by
              refine sumR_le _ _ _ (fun i => HCL.out i) 24
            have HTOT := Lib.hid htot
            subst her
            rw [errV_zero]
            clear hs hBs hin hT4 htot
            have HR4 := Lib.hid (HR2.out.on PP.out)
            go_wp2
            go_loop [5, 10] (fun t u => ∃ (tn un : Nat), t = .int .i64 (tn : Int) ∧ u = .int .i64 (un : Int) ∧ un < 16777216 ∧ Hid (Sub un s) ∧ Hid (tn + sumR (cof cost) un 24 = sumR (cof cost) s 24)) (fun _ u => (intOf u).toNat)
            case atStart => exact ⟨0, s, rfl, rfl, hs24, sub_refl s, by rw [Nat.zero_add]; exact rfl⟩
            case round =>
              obtain ⟨tn, un, rfl, rfl, hun, HSUB, HSUM⟩ := hrel
              by_cases hu0 : un = 0
              · subst hu0
                have hfin := HSUM.out
                rw [sumR_zero, Nat.add_zero] at hfin
                have HFIN := Lib.hid hfin
                clear hfin
                go_wp2
                go_ret3
                exact ⟨s, tn, 0, by rw [HFIN.out]; exact hCh.out, rfl, PP.out⟩
              · obtain ⟨i, dd, hi, hbi, hd, hsum, hels, _, hdrop, _⟩ := els_cons un hun hu0
                have hLe := least_any w4 (un : Int) HT4.out
                rw [cut_nat un hun, least_cons hels] at hLe
                have hdr := drop_run un dd hun hu0 hdrop
                have hij := HIN.out i ((sub_tb un s).1 HSUB.out i hbi) hi
                obtain ⟨ad, ea, _, hci⟩ := HR4.out.at_ i _ (VI_get (by rw [HM.out]; omega))
                cases ea
                have hx := HAT.out i
                have hsp := split_bit (cof cost) hi hbi
                rw [← hd] at hsp
                have hxx : cost.getD i 0 = ((cof cost i : Nat) : Int) := by unfold cof; omega
                rw [hxx] at hci
                obtain ⟨x, hxe⟩ : ∃ x, cof cost i = x := ⟨_, rfl⟩
                have hx20 := HCL.out i
                rw [hxe] at hci hsp hx20
                have hnext : tn + x + sumR (cof cost) dd 24 = sumR (cof cost) s 24 := by have := HSUM.out; omega
                have htn : tn + x ≤ 25165824 := by have := HTOT.out; omega
                have hnz : ¬ (un : Int) = 0 := by omega
                have hlt2 : dd < un := by have := Nat.two_pow_pos i; omega
                have hsb : Sub dd s := by rw [hd]; exact sub_trans (wo_sub _ _) HSUB.out
                have HN := Lib.hid hnext
                have HLT2 := Lib.hid hlt2
                have HSB := Lib.hid hsb
                have ei0 : (0 : Int) ≤ (i : Int) := by omega
                clear hd hsum hels hdrop hbi hx hsp hxx hxe hnext hlt2 hsb
                go_wp2_with (refine hLe.mono ?_; rintro e w' ⟨rfl, rfl⟩)
                exact ⟨⟨tn + x, dd, by go_num, rfl, Nat.lt_trans HLT2.out hun, HSB, HN⟩, by have := HLT2.out; simp [intOf]; omega⟩
          · have hs0 : s = 0 := by
              rcases hs with ⟨_, h1, _⟩ | ⟨_, _, h1, _⟩ | ⟨_, _, _, h1⟩
              · exact h1
              · exact h1
              · exact absurd h1 her
            subst hs0
            rw [sumR_zero] at hCh
            rw [errV_pos er her]
            clear hs hT4
            go_wp2
            go_ret3
            exact ⟨0, 0, er, hCh.out, by rw [errV_pos er her]; rfl, PP.out⟩
  · rw [if_neg hz]
    have HF := Lib.hid (show Ch l cost 0 0 (lerr l) from .inl ⟨hz, rfl, rfl, rfl⟩)
    generalize lerr l = E at hz HF ⊢
    rw [errV_pos E hz]
    go_wp2
    go_ret3
    exact ⟨0, 0, E, HF.out, by rw [errV_pos E hz]; rfl, P1⟩
end Go.Proofs.YtakkbemldccekaaDoor.Sb
