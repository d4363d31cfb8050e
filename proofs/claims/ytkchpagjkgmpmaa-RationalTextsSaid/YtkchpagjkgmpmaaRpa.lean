/-
  Parse of any text.
-/
import Derived.Test.YtkchpagjkgmpmaaRpw
namespace Go.Proofs.Ytkchpagjkgmpmaa
open Go.RowKit
set_option linter.unusedVariables false
namespace Num
theorem dl_len (s : ByteArray) : s.data.toList.length = s.size := Array.length_toList
/-- bytes as numbers -/
def nl (l : List UInt8) : List Nat := l.map UInt8.toNat
theorem bl_mk (l : List UInt8) : bl ⟨l.toArray⟩ = nl l := by unfold bl nl; simp
theorem size_mk (l : List UInt8) : (⟨l.toArray⟩ : ByteArray).size = l.length := by simp [ByteArray.size]
theorem index_one_none (c : UInt8) : ∀ l : List UInt8, c ∉ l → Lib.index l [c] = -1
  | [], _ => rfl
  | b :: l, h => by
    have hb : b ≠ c := fun e => h (by simp [e])
    have ih := index_one_none c l (fun e => h (by simp [e]))
    have hp : ([c] : List UInt8).isPrefixOf (b :: l) = false := by simp [List.isPrefixOf]; exact fun e => hb e.symm
    unfold Lib.index
    rw [if_neg (by rw [hp]; decide), ih]; rfl
theorem index_one_at (c : UInt8) : ∀ a b : List UInt8, c ∉ a → Lib.index (a ++ c :: b) [c] = a.length
  | [], b, _ => by
    have hp : ([c] : List UInt8).isPrefixOf (c :: b) = true := by simp [List.isPrefixOf]
    show Lib.index (c :: b) [c] = _
    unfold Lib.index
    rw [if_pos hp]; rfl
  | x :: a, b, h => by
    have hb : x ≠ c := fun e => h (by simp [e])
    have ih := index_one_at c a b (fun e => h (by simp [e]))
    have hp : ([c] : List UInt8).isPrefixOf (x :: (a ++ c :: b)) = false := by simp [List.isPrefixOf]; exact fun e => hb e.symm
    show Lib.index (x :: (a ++ c :: b)) [c] = _
    unfold Lib.index
    rw [if_neg (by rw [hp]; decide), ih]
    have : ((a.length : Int) == -1) = false := by rw [beq_eq_false_iff_ne]; omega
    rw [if_neg (by rw [this]; decide)]
    simp
theorem cut_none (c : UInt8) (l : List UInt8) (h : c ∉ l) : Lib.cut l [c] = (l, [], false) := by
  unfold Lib.cut
  rw [index_one_none c l h, if_neg (by decide)]
theorem cut_at (c : UInt8) (a b : List UInt8) (h : c ∉ a) : Lib.cut (a ++ c :: b) [c] = (a, b, true) := by
  unfold Lib.cut
  rw [index_one_at c a b h, if_pos (by omega)]
  simp
theorem split_at (c : UInt8) : ∀ l : List UInt8, c ∉ l ∨ ∃ a b, l = a ++ c :: b ∧ c ∉ a
  | [] => .inl (by simp)
  | x :: l => by
    by_cases hx : x = c
    · exact .inr ⟨[], l, by rw [hx]; rfl, by simp⟩
    · rcases split_at c l with h | ⟨a, b, rfl, h⟩
      · exact .inl (by simp; exact ⟨fun e => hx e.symm, h⟩)
      · exact .inr ⟨x :: a, b, rfl, by simp; exact ⟨fun e => hx e.symm, h⟩⟩
theorem dv_one_cons (l : List Nat) : dv (49 :: l) = 10 ^ l.length + dv l := by
  generalize hm : l.reverse = m
  obtain rfl : l = m.reverse := by rw [← hm, List.reverse_reverse]
  clear hm
  induction m with
  | nil => rfl
  | cons d m ih =>
    rw [List.reverse_cons, ← List.cons_append, dv_snoc, dv_snoc, ih, List.length_append]
    simp only [List.length_cons, List.length_nil, Nat.pow_succ]
    omega
/-- what a decimal number is worth -/
def DecR (neg : Bool) (a b : List UInt8) : Option Rat := if textB ⟨a.toArray⟩ = true ∧ textB (ByteArray.mk #[49] ++ ⟨b.toArray⟩) = true ∧ 0 < b.length then some (fr neg (dv (nl a) * 10 ^ b.length + dv (nl b)) (10 ^ b.length)) else none
theorem OptPost.wide {w : World} {o : Option Rat} {L M : Nat} {e : Ending} {w' : World} (h : OptPost w o L e w') (k : L ≤ M) : OptPost w o M e w' := by
  cases o with
  | none => exact h
  | some r =>
    obtain ⟨v, h1, h2, h3⟩ := h
    exact ⟨v, h1, h2.wide k, h3⟩
theorem pdec_any (w : World) (neg : Bool) (a b : List UInt8) (ha : a.length ≤ 64) (hb : b.length ≤ 64) :
    Calls Try.prog 45 #[.bool neg, .string ⟨a.toArray⟩, .string ⟨b.toArray⟩] w (OptPost w (DecR neg a b) 200) := by
  have s1 := size_mk a
  have s2 := size_mk b
  by_cases h : textB ⟨a.toArray⟩ = true ∧ textB (ByteArray.mk #[49] ++ ⟨b.toArray⟩) = true ∧ 0 < b.length
  · have e : DecR neg a b = some (fr neg (dv (nl a) * 10 ^ b.length + dv (nl b)) (10 ^ b.length)) := by unfold DecR; rw [if_pos h]
    rw [e]
    have hv : dv (bl (ByteArray.mk #[49] ++ ⟨b.toArray⟩)) = 10 ^ (⟨b.toArray⟩ : ByteArray).size + dv (nl b) := by
      have : bl (ByteArray.mk #[49] ++ ⟨b.toArray⟩) = 49 :: nl b := by unfold bl nl; simp
      rw [this, dv_one_cons, s2]; unfold nl; rw [List.length_map]
    have := pdec_good w neg ⟨a.toArray⟩ ⟨b.toArray⟩ (by omega) (by omega) h.1 h.2.1 (by omega) (dv (nl b)) hv
    rw [bl_mk, s2] at this
    exact this
  · have e : DecR neg a b = none := by unfold DecR; rw [if_neg h]
    rw [e]
    exact pdec_bad w neg ⟨a.toArray⟩ ⟨b.toArray⟩ (by omega) (by omega) (by rw [s2]; exact h)
set_option maxRecDepth 100000 in
set_option maxHeartbeats 1600000 in
theorem parse_point (w : World) (hx : MX w) (s : ByteArray) (hs : s.size ≤ 300) (D : List UInt8) (neg : Bool) (hD : Lib.trimPrefix s.data.toList [45] = D) (hneg : Lib.hasPrefix s.data.toList [45] = neg) (a b : List UInt8) (hab : D = a ++ 46 :: b) (ha : 46 ∉ a) :
    Calls Try.prog 10 #[.string s] w (OptPost w (if s.size ≤ 64 then DecR neg a b else none) 200) := by
  have B := (On.refl w).alloc (.cells #[.bool false, .slice none 0 0, .slice none 0 0] 24)
  have HO := Lib.hid (Own.new w 24 #[.bool false, .slice none 0 0, .slice none 0 0])
  have hx1 := hx.on B
  have hDl : D.length ≤ 300 := by
        rw [← hD]
        have : s.data.toList.length ≤ 300 := by rw [dl_len]; exact hs
        unfold Lib.trimPrefix
        split
        · rw [List.length_drop]; omega
        · exact this
  have HD := Lib.hid hD
  have HN := Lib.hid hneg
  clear hD hneg
  have HC1 : Hid (Lib.cut D [46] = (a, b, true)) := Lib.hid (by rw [hab]; exact cut_at 46 a b ha)
  have hal : a.length + b.length + 1 = D.length := by rw [hab]; simp; omega
  clear hab ha
  by_cases h64 : s.size ≤ 64
  · rw [if_pos h64]
    have hal2 : D.length ≤ 64 := by
        rw [← HD.out]
        have : s.data.toList.length ≤ 64 := by rw [dl_len]; exact h64
        unfold Lib.trimPrefix
        split
        · rw [List.length_drop]; omega
        · exact this
    obtain ⟨po, hpo⟩ : ∃ o, DecR neg a b = o := ⟨_, rfl⟩
    rw [hpo]
    have HPO := Lib.hid hpo
    clear hpo
    go_enter Try.func10, Try.ntmps10
    go_wp2_with fail
    refine (Try.strings_CutPrefix _ _ _).mono ?_
    rintro e w' ⟨rfl, rfl⟩
    rw [HD.out, HN.out]
    go_wp2_with fail
    obtain ⟨_, m, hm⟩ := hx1
    refine (Try.strings_Cut _ _ m _ (by rw [size_mk]; omega) hm).mono ?_
    rintro e w' ⟨rfl, k, rfl⟩
    rw [HC1.out]
    go_wp2_with fail
    have hcall := pdec_any ((w.alloc (.cells #[.bool false, .slice none 0 0, .slice none 0 0] 24)).drewN k) neg a b (by omega) (by omega)
    rw [HPO.out] at hcall
    cases po with
    | none =>
      have HC := Lib.hid hcall
      clear hcall
      refine HC.out.mono ?_
      rintro e w8 ⟨rfl, P8⟩
      have r0 : w8.cell? ⟨w.heap.size, 0, none⟩ = some (.bool false) := ((HO.out.drewN k).on P8).cell 0
      have r1 : w8.cell? ⟨w.heap.size, 1, none⟩ = some (.slice none 0 0) := ((HO.out.drewN k).on P8).cell 1
      have r2 : w8.cell? ⟨w.heap.size, 2, none⟩ = some (.slice none 0 0) := ((HO.out.drewN k).on P8).cell 2
      have rf0 := ((HO.out.drewN k).on P8).frozen 0
      have rf1 := ((HO.out.drewN k).on P8).frozen 1
      have rf2 := ((HO.out.drewN k).on P8).frozen 2
      go_wp2
      have hon := on3 (g := w.heap.size) ((B.drewN k).trans P8) (by omega) (.bool false) (.slice none 0 0) (.slice none 0 0)
      exact bodyPost_ret (v := .tuple #[.agg #[.bool false, .slice none 0 0, .slice none 0 0], .iface 52 (.int .i64 2)]) (by simp [results, Try.results10, go_sem, r0, r1, r2]) rfl ⟨rfl, by first | exact hon | exact (B.drewN k).trans P8⟩
    | some r =>
      have HC := Lib.hid hcall
      clear hcall
      refine HC.out.mono ?_
      rintro e w8 ⟨v, rfl, I, P8⟩
      obtain ⟨A8, n8, c8, xs8, A9, n9, c9, ys9, rfl, _⟩ := id I
      have r0 : w8.cell? ⟨w.heap.size, 0, none⟩ = some (.bool false) := ((HO.out.drewN k).on P8).cell 0
      have r1 : w8.cell? ⟨w.heap.size, 1, none⟩ = some (.slice none 0 0) := ((HO.out.drewN k).on P8).cell 1
      have r2 : w8.cell? ⟨w.heap.size, 2, none⟩ = some (.slice none 0 0) := ((HO.out.drewN k).on P8).cell 2
      have rf0 := ((HO.out.drewN k).on P8).frozen 0
      have rf1 := ((HO.out.drewN k).on P8).frozen 1
      have rf2 := ((HO.out.drewN k).on P8).frozen 2
      go_wp2
      have hon := on3 (g := w.heap.size) ((B.drewN k).trans P8) (by omega) (.bool (decide (r < 0))) (.slice A8 n8 c8) (.slice A9 n9 c9)
      exact bodyPost_ret (v := .tuple #[.agg #[.bool (decide (r < 0)), .slice A8 n8 c8, .slice A9 n9 c9], .nilIface]) (by simp [results, Try.results10, go_sem, r0, r1, r2]) rfl ⟨_, rfl, isR_put I ((HO.out.drewN k).on P8) _ _ _, hon⟩
  · rw [if_neg h64]
    have h64' : 64 < s.size := by omega
    clear h64
    go_enter Try.func10, Try.ntmps10
    go_wp2_with fail
    refine (Try.strings_CutPrefix _ _ _).mono ?_
    rintro e w' ⟨rfl, rfl⟩
    rw [HD.out, HN.out]
    go_wp2_with fail
    obtain ⟨_, m, hm⟩ := hx1
    refine (Try.strings_Cut _ _ m _ (by rw [size_mk]; omega) hm).mono ?_
    rintro e w' ⟨rfl, k, rfl⟩
    rw [HC1.out]
    have O3 := HO.out.drewN k
    have r0 : ((w.alloc (.cells #[.bool false, .slice none 0 0, .slice none 0 0] 24)).drewN k).cell? ⟨w.heap.size, 0, none⟩ = some (.bool false) := O3.cell 0
    have r1 : ((w.alloc (.cells #[.bool false, .slice none 0 0, .slice none 0 0] 24)).drewN k).cell? ⟨w.heap.size, 1, none⟩ = some (.slice none 0 0) := O3.cell 1
    have r2 : ((w.alloc (.cells #[.bool false, .slice none 0 0, .slice none 0 0] 24)).drewN k).cell? ⟨w.heap.size, 2, none⟩ = some (.slice none 0 0) := O3.cell 2
    have rf0 := O3.frozen 0
    have rf1 := O3.frozen 1
    have rf2 := O3.frozen 2
    go_wp2
    have hon := on3 (g := w.heap.size) (B.drewN k) (by omega) (.bool false) (.slice none 0 0) (.slice none 0 0)
    exact bodyPost_ret (v := .tuple #[.agg #[.bool false, .slice none 0 0, .slice none 0 0], .iface 52 (.int .i64 2)]) (by simp [results, Try.results10, go_sem, r0, r1, r2]) rfl ⟨rfl, by first | exact hon | exact B.drewN k | exact ((B.alloc _).drewN k)⟩
set_option maxRecDepth 100000 in
set_option maxHeartbeats 1600000 in
theorem parse_slash (w : World) (hx : MX w) (s : ByteArray) (hs : s.size ≤ 300) (D : List UInt8) (neg : Bool) (hD : Lib.trimPrefix s.data.toList [45] = D) (hneg : Lib.hasPrefix s.data.toList [45] = neg) (hp : 46 ∉ D) (a b : List UInt8) (hab : D = a ++ 47 :: b) (ha : 47 ∉ a) :
    Calls Try.prog 10 #[.string s] w (OptPost w (BrokenR neg (nl a) (nl b)) 200) := by
  have B := (On.refl w).alloc (.cells #[.bool false, .slice none 0 0, .slice none 0 0] 24)
  have HO := Lib.hid (Own.new w 24 #[.bool false, .slice none 0 0, .slice none 0 0])
  have hx1 := hx.on B
  have hDl : D.length ≤ 300 := by
        rw [← hD]
        have : s.data.toList.length ≤ 300 := by rw [dl_len]; exact hs
        unfold Lib.trimPrefix
        split
        · rw [List.length_drop]; omega
        · exact this
  have HD := Lib.hid hD
  have HN := Lib.hid hneg
  clear hD hneg
  have HC1 : Hid (Lib.cut D [46] = (D, [], false)) := Lib.hid (cut_none 46 D hp)
  have HC2 : Hid (Lib.cut D [47] = (a, b, true)) := Lib.hid (by rw [hab]; exact cut_at 47 a b ha)
  have hal : a.length + b.length + 1 = D.length := by rw [hab]; simp; omega
  clear hab ha hp
  obtain ⟨po, hpo⟩ : ∃ o, BrokenR neg (nl a) (nl b) = o := ⟨_, rfl⟩
  rw [hpo]
  have HPO := Lib.hid hpo
  clear hpo
  go_enter Try.func10, Try.ntmps10
  go_wp2_with fail
  refine (Try.strings_CutPrefix _ _ _).mono ?_
  rintro e w' ⟨rfl, rfl⟩
  rw [HD.out, HN.out]
  go_wp2_with fail
  obtain ⟨_, m, hm⟩ := hx1
  refine (Try.strings_Cut _ _ m _ (by rw [size_mk]; omega) hm).mono ?_
  rintro e w' ⟨rfl, k, rfl⟩
  rw [HC1.out]
  go_wp2_with fail
  have hm2 : ((w.alloc (.cells #[.bool false, .slice none 0 0, .slice none 0 0] 24)).drewN k).cell? ⟨0, 0, none⟩ = some (.int .i64 m) := hm
  refine (Try.strings_Cut _ _ m _ (by rw [size_mk]; omega) hm2).mono ?_
  rintro e w' ⟨rfl, k2, rfl⟩
  rw [HC2.out]
  go_wp2_with fail
  have hcall := (pbroken_any ((w.alloc (.cells #[.bool false, .slice none 0 0, .slice none 0 0] 24)).drewN (k + k2)) neg ⟨a.toArray⟩ ⟨b.toArray⟩ (by rw [size_mk]; omega) (by rw [size_mk]; omega)).mono (fun e w' h => OptPost.wide (M := 200) h (by decide))
  rw [bl_mk, bl_mk] at hcall
  rw [HPO.out] at hcall
  cases po with
  | none =>
    have HC := Lib.hid hcall
    clear hcall
    refine HC.out.mono ?_
    rintro e w8 ⟨rfl, P8⟩
    have r0 : w8.cell? ⟨w.heap.size, 0, none⟩ = some (.bool false) := ((HO.out.drewN (k + k2)).on P8).cell 0
    have r1 : w8.cell? ⟨w.heap.size, 1, none⟩ = some (.slice none 0 0) := ((HO.out.drewN (k + k2)).on P8).cell 1
    have r2 : w8.cell? ⟨w.heap.size, 2, none⟩ = some (.slice none 0 0) := ((HO.out.drewN (k + k2)).on P8).cell 2
    have rf0 := ((HO.out.drewN (k + k2)).on P8).frozen 0
    have rf1 := ((HO.out.drewN (k + k2)).on P8).frozen 1
    have rf2 := ((HO.out.drewN (k + k2)).on P8).frozen 2
    go_wp2
    have hon := on3 (g := w.heap.size) ((B.drewN (k + k2)).trans P8) (by omega) (.bool false) (.slice none 0 0) (.slice none 0 0)
    exact bodyPost_ret (v := .tuple #[.agg #[.bool false, .slice none 0 0, .slice none 0 0], .iface 52 (.int .i64 2)]) (by simp [results, Try.results10, go_sem, r0, r1, r2]) rfl ⟨rfl, by first | exact hon | exact (B.drewN (k + k2)).trans P8⟩
  | some r =>
    have HC := Lib.hid hcall
    clear hcall
    refine HC.out.mono ?_
    rintro e w8 ⟨v, rfl, I, P8⟩
    obtain ⟨A8, n8, c8, xs8, A9, n9, c9, ys9, rfl, _⟩ := id I
    have r0 : w8.cell? ⟨w.heap.size, 0, none⟩ = some (.bool false) := ((HO.out.drewN (k + k2)).on P8).cell 0
    have r1 : w8.cell? ⟨w.heap.size, 1, none⟩ = some (.slice none 0 0) := ((HO.out.drewN (k + k2)).on P8).cell 1
    have r2 : w8.cell? ⟨w.heap.size, 2, none⟩ = some (.slice none 0 0) := ((HO.out.drewN (k + k2)).on P8).cell 2
    have rf0 := ((HO.out.drewN (k + k2)).on P8).frozen 0
    have rf1 := ((HO.out.drewN (k + k2)).on P8).frozen 1
    have rf2 := ((HO.out.drewN (k + k2)).on P8).frozen 2
    go_wp2
    have hon := on3 (g := w.heap.size) ((B.drewN (k + k2)).trans P8) (by omega) (.bool (decide (r < 0))) (.slice A8 n8 c8) (.slice A9 n9 c9)
    exact bodyPost_ret (v := .tuple #[.agg #[.bool (decide (r < 0)), .slice A8 n8 c8, .slice A9 n9 c9], .nilIface]) (by simp [results, Try.results10, go_sem, r0, r1, r2]) rfl ⟨_, rfl, isR_put I ((HO.out.drewN (k + k2)).on P8) _ _ _, hon⟩
set_option maxRecDepth 100000 in
set_option maxHeartbeats 1600000 in
theorem parse_plain (w : World) (hx : MX w) (s : ByteArray) (hs : s.size ≤ 300) (D : List UInt8) (neg : Bool) (hD : Lib.trimPrefix s.data.toList [45] = D) (hneg : Lib.hasPrefix s.data.toList [45] = neg) (hp : 46 ∉ D) (hq : 47 ∉ D) :
    Calls Try.prog 10 #[.string s] w (OptPost w (WholeR neg (nl D)) 200) := by
  have B := (On.refl w).alloc (.cells #[.bool false, .slice none 0 0, .slice none 0 0] 24)
  have HO := Lib.hid (Own.new w 24 #[.bool false, .slice none 0 0, .slice none 0 0])
  have hx1 := hx.on B
  have hDl : D.length ≤ 300 := by
        rw [← hD]
        have : s.data.toList.length ≤ 300 := by rw [dl_len]; exact hs
        unfold Lib.trimPrefix
        split
        · rw [List.length_drop]; omega
        · exact this
  have HD := Lib.hid hD
  have HN := Lib.hid hneg
  clear hD hneg
  have HC1 : Hid (Lib.cut D [46] = (D, [], false)) := Lib.hid (cut_none 46 D hp)
  have HC2 : Hid (Lib.cut D [47] = (D, [], false)) := Lib.hid (cut_none 47 D hq)
  clear hp hq
  obtain ⟨po, hpo⟩ : ∃ o, WholeR neg (nl D) = o := ⟨_, rfl⟩
  rw [hpo]
  have HPO := Lib.hid hpo
  clear hpo
  go_enter Try.func10, Try.ntmps10
  go_wp2_with fail
  refine (Try.strings_CutPrefix _ _ _).mono ?_
  rintro e w' ⟨rfl, rfl⟩
  rw [HD.out, HN.out]
  go_wp2_with fail
  obtain ⟨_, m, hm⟩ := hx1
  refine (Try.strings_Cut _ _ m _ (by rw [size_mk]; omega) hm).mono ?_
  rintro e w' ⟨rfl, k, rfl⟩
  rw [HC1.out]
  go_wp2_with fail
  have hm2 : ((w.alloc (.cells #[.bool false, .slice none 0 0, .slice none 0 0] 24)).drewN k).cell? ⟨0, 0, none⟩ = some (.int .i64 m) := hm
  refine (Try.strings_Cut _ _ m _ (by rw [size_mk]; omega) hm2).mono ?_
  rintro e w' ⟨rfl, k2, rfl⟩
  rw [HC2.out]
  go_wp2_with fail
  have hcall := (pwhole_any ((w.alloc (.cells #[.bool false, .slice none 0 0, .slice none 0 0] 24)).drewN (k + k2)) neg ⟨D.toArray⟩ (by rw [size_mk]; omega)).mono (fun e w' h => OptPost.wide (M := 200) h (by decide))
  rw [bl_mk] at hcall
  rw [HPO.out] at hcall
  cases po with
  | none =>
    have HC := Lib.hid hcall
    clear hcall
    refine HC.out.mono ?_
    rintro e w8 ⟨rfl, P8⟩
    have r0 : w8.cell? ⟨w.heap.size, 0, none⟩ = some (.bool false) := ((HO.out.drewN (k + k2)).on P8).cell 0
    have r1 : w8.cell? ⟨w.heap.size, 1, none⟩ = some (.slice none 0 0) := ((HO.out.drewN (k + k2)).on P8).cell 1
    have r2 : w8.cell? ⟨w.heap.size, 2, none⟩ = some (.slice none 0 0) := ((HO.out.drewN (k + k2)).on P8).cell 2
    have rf0 := ((HO.out.drewN (k + k2)).on P8).frozen 0
    have rf1 := ((HO.out.drewN (k + k2)).on P8).frozen 1
    have rf2 := ((HO.out.drewN (k + k2)).on P8).frozen 2
    go_wp2
    have hon := on3 (g := w.heap.size) ((B.drewN (k + k2)).trans P8) (by omega) (.bool false) (.slice none 0 0) (.slice none 0 0)
    exact bodyPost_ret (v := .tuple #[.agg #[.bool false, .slice none 0 0, .slice none 0 0], .iface 52 (.int .i64 2)]) (by simp [results, Try.results10, go_sem, r0, r1, r2]) rfl ⟨rfl, by first | exact hon | exact (B.drewN (k + k2)).trans P8⟩
  | some r =>
    have HC := Lib.hid hcall
    clear hcall
    refine HC.out.mono ?_
    rintro e w8 ⟨v, rfl, I, P8⟩
    obtain ⟨A8, n8, c8, xs8, A9, n9, c9, ys9, rfl, _⟩ := id I
    have r0 : w8.cell? ⟨w.heap.size, 0, none⟩ = some (.bool false) := ((HO.out.drewN (k + k2)).on P8).cell 0
    have r1 : w8.cell? ⟨w.heap.size, 1, none⟩ = some (.slice none 0 0) := ((HO.out.drewN (k + k2)).on P8).cell 1
    have r2 : w8.cell? ⟨w.heap.size, 2, none⟩ = some (.slice none 0 0) := ((HO.out.drewN (k + k2)).on P8).cell 2
    have rf0 := ((HO.out.drewN (k + k2)).on P8).frozen 0
    have rf1 := ((HO.out.drewN (k + k2)).on P8).frozen 1
    have rf2 := ((HO.out.drewN (k + k2)).on P8).frozen 2
    go_wp2
    have hon := on3 (g := w.heap.size) ((B.drewN (k + k2)).trans P8) (by omega) (.bool (decide (r < 0))) (.slice A8 n8 c8) (.slice A9 n9 c9)
    exact bodyPost_ret (v := .tuple #[.agg #[.bool (decide (r < 0)), .slice A8 n8 c8, .slice A9 n9 c9], .nilIface]) (by simp [results, Try.results10, go_sem, r0, r1, r2]) rfl ⟨_, rfl, isR_put I ((HO.out.drewN (k + k2)).on P8) _ _ _, hon⟩
end Num
end Go.Proofs.Ytkchpagjkgmpmaa
