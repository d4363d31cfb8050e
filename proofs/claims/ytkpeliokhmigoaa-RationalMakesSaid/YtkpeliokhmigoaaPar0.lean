/-
  Texts that are read: what a string of bytes holds; isText.
-/
import Derived.Test.YtkpeliokhmigoaaText
import Derived.Lib.Strings
namespace Go.Proofs.Ytkpeliokhmigoaa
open Go.RowKit
set_option linter.unusedVariables false
namespace Num
/-- the bytes of a string -/
def bl (s : ByteArray) : List Nat := s.data.toList.map UInt8.toNat
theorem bl_length (s : ByteArray) : (bl s).length = s.size := by simp [bl]
theorem bl_lt (s : ByteArray) (k : Nat) : gw (bl s) k < 256 := by
  unfold gw bl
  rw [List.getD_eq_getElem?_getD, List.getElem?_map]
  cases h : s.data.toList[k]? with
  | none => simp
  | some u => simp; exact u.toNat_lt
theorem bl_get (s : ByteArray) (k : Nat) (h : k < s.size) : gw (bl s) k = s[k].toNat := by
  unfold gw bl
  rw [List.getD_eq_getElem?_getD, List.getElem?_map, List.getElem?_eq_getElem (by simpa using h)]
  rfl
theorem str_bl (s : ByteArray) : str (bl s) = s := by
  unfold str bl
  rw [List.map_map]
  have : (fun n => UInt8.ofNat n) ∘ UInt8.toNat = id := by funext u; simp
  rw [this, List.map_id]
theorem bl_str (bs : List Nat) (h : ∀ b ∈ bs, b < 256) : bl (str bs) = bs := by
  unfold bl str
  simp only [List.map_map]
  conv => rhs; rw [← List.map_id bs]
  apply List.map_congr_left
  intro b hb
  have := h b hb
  simp [UInt8.toNat_ofNat']
  omega
theorem bl_cut (s : ByteArray) (a : Nat) : bl (s.extract a s.size) = (bl s).drop a := by
  unfold bl
  rw [ByteArray.data_extract, Array.toList_extract, List.extract_eq_take_drop, List.take_of_length_le (by simp), List.map_drop]
theorem bl_take (s : ByteArray) (b : Nat) : bl (s.extract 0 b) = (bl s).take b := by
  unfold bl
  rw [ByteArray.data_extract, Array.toList_extract, List.extract_eq_take_drop, List.drop_zero, Nat.sub_zero, List.map_take]
/-- the value of digits, the most significant one first -/
def dv (l : List Nat) : Nat := dvb l.reverse
/-- the text of some number -/
def TextOk (l : List Nat) : Prop := l = [48] ∨ (0 < l.length ∧ gw l 0 ≠ 48 ∧ IsDig l)
instance (l : List Nat) : Decidable (TextOk l) := by unfold TextOk IsDig; infer_instance
theorem dv_snoc (l : List Nat) (d : Nat) : dv (l ++ [d]) = 10 * dv l + (d - 48) := by
  unfold dv; rw [List.reverse_append]; simp only [List.reverse_singleton, List.singleton_append, dvb]; omega
theorem dv_nil : dv [] = 0 := rfl
theorem TextOk.text {l : List Nat} (h : TextOk l) : IsText (dv l) l := by
  rcases h with rfl | ⟨h1, h2, h3⟩
  · exact .inl ⟨rfl, rfl⟩
  · refine .inr ⟨l.reverse, by simp, fun b hb => h3 b (List.mem_reverse.1 hb), rfl, by simpa using h1, ?_⟩
    have e : gw l.reverse (l.reverse.length - 1) = gw l 0 := by
      unfold gw
      rw [List.getD_eq_getElem?_getD, List.getD_eq_getElem?_getD, List.getElem?_reverse (by simp; omega)]
      simp
    rw [e]; exact h2
theorem IsText.ok {v : Nat} {l : List Nat} (h : IsText v l) : TextOk l ∧ dv l = v := by
  rcases h with ⟨rfl, rfl⟩ | ⟨ds, rfl, h1, h2, h3, h4⟩
  · exact ⟨.inl rfl, rfl⟩
  · refine ⟨.inr ⟨by simpa using h3, ?_, fun b hb => h1 b (List.mem_reverse.1 hb)⟩, by unfold dv; rw [List.reverse_reverse]; exact h2⟩
    have e : gw ds.reverse 0 = gw ds (ds.length - 1) := by
      unfold gw
      rw [List.getD_eq_getElem?_getD, List.getD_eq_getElem?_getD, List.getElem?_reverse h3]
      simp
    rw [e]; exact h4
def textB (s : ByteArray) : Bool := decide (TextOk (bl s))
theorem bl_toList (s : ByteArray) : bl s = s.toList.map UInt8.toNat := by rw [Lib.toList_data]; rfl
theorem toList_nil_iff (s : ByteArray) : s.toList = [] ↔ s.size = 0 := by
  rw [Lib.toList_data, ← List.length_eq_zero_iff]; rfl
theorem textB_nil (s : ByteArray) (h : s.size = 0) : textB s = false := by
  unfold textB
  have : bl s = [] := List.eq_nil_of_length_eq_zero (by rw [bl_length, h])
  rw [this]
  apply decide_eq_false
  rintro (h | ⟨h, _⟩)
  · cases h
  · simp at h
theorem textB_zero (s : ByteArray) (h : 0 < s.size) (h0 : gw (bl s) 0 = 48) : textB s = (s.toList == [48]) := by
  unfold textB
  rw [Bool.eq_iff_iff]
  simp only [decide_eq_true_eq, beq_iff_eq]
  constructor
  · rintro (h1 | ⟨_, h1, _⟩)
    · rw [bl_toList] at h1
      cases hl : s.toList with
      | nil => rw [hl] at h1; cases h1
      | cons x r =>
        rw [hl] at h1
        simp at h1
        obtain ⟨h2, rfl⟩ := h1
        congr 1
        apply UInt8.toNat_inj.1
        rw [h2]; rfl
    · exact absurd h0 h1
  · intro h1
    left
    rw [bl_toList, h1]; rfl
theorem isDig_take_succ (l : List Nat) (k : Nat) (h : k < l.length) : IsDig (l.take (k + 1)) ↔ IsDig (l.take k) ∧ (48 ≤ gw l k ∧ gw l k ≤ 57) := by
  rw [List.take_succ_eq_append_getElem h]
  have e : gw l k = l[k] := by simp [gw, List.getD_eq_getElem?_getD, h]
  rw [e]
  constructor
  · intro h1
    exact ⟨fun b hb => h1 b (List.mem_append_left _ hb), h1 l[k] (List.mem_append_right _ (List.mem_singleton.2 rfl))⟩
  · rintro ⟨h1, h2, h3⟩
    exact h1.snoc h2 h3
theorem textB_bad (s : ByteArray) (k : Nat) (h : k < s.size) (h0 : gw (bl s) 0 ≠ 48) (hk : ¬ (48 ≤ gw (bl s) k ∧ gw (bl s) k ≤ 57)) : textB s = false := by
  unfold textB
  apply decide_eq_false
  rintro (h1 | ⟨_, _, h1⟩)
  · rw [h1] at h0; exact h0 rfl
  · exact hk (h1.get (by rw [bl_length]; exact h))
theorem textB_good (s : ByteArray) (h : 0 < s.size) (h0 : gw (bl s) 0 ≠ 48) (hd : IsDig (bl s)) : textB s = true := by
  unfold textB
  exact decide_eq_true (.inr ⟨by rw [bl_length]; exact h, h0, hd⟩)
set_option maxHeartbeats 400000 in
theorem istext_any (w : World) (s : ByteArray) (hs : s.size ≤ 140737488351232) :
    Calls Try.prog 110 #[.string s] w fun e w' => e = .returned (.bool (textB s)) ∧ w' = w := by
  rcases Nat.eq_zero_or_pos s.size with hz | hz
  · have e1 := (toList_nil_iff s).2 hz
    have HB := Lib.hid (textB_nil s hz)
    clear hz
    go_enter Try.func110, Try.ntmps110
    go_wp2
    go_ret
    exact ⟨by rw [HB.out]; rfl, rfl⟩
  · have hne : ¬ s.toList = [] := fun e => by have := (toList_nil_iff s).1 e; omega
    have e1 : s.toList.isEmpty = false := by simp [hne]
    have hg := bl_get s 0 hz
    by_cases h0 : gw (bl s) 0 = 48
    · have HB := Lib.hid (textB_zero s hz h0)
      have e2 : ((s[0].toNat : Int) == 48) = true := by rw [← hg, h0]; rfl
      clear h0 hg
      go_enter Try.func110, Try.ntmps110
      go_wp2
      go_ret
      exact ⟨by rw [HB.out]; rfl, rfl⟩
    · have e2 : ((s[0].toNat : Int) == 48) = false := by rw [← hg]; simp; omega
      have H0 := Lib.hid h0
      clear h0 hg
      go_enter Try.func110, Try.ntmps110
      go_wp2
      go_loop [15] (fun i => ∃ k : Nat, k ≤ s.size ∧ i = .int .i64 (k : Int) ∧ IsDig ((bl s).take k)) (fun i => s.size - (intOf i).toNat)
      case atStart => exact ⟨0, by omega, rfl, by intro b hb; simp at hb⟩
      case round =>
        obtain ⟨k, hk, rfl, hd⟩ := hrel
        have HD := Lib.hid hd
        clear hd
        by_cases hlt : k < s.size
        · have hgk := bl_get s k hlt
          by_cases hdig : 48 ≤ s[k].toNat ∧ s[k].toNat ≤ 57
          · obtain ⟨d1, d2⟩ := hdig
            have HK := Lib.hid ((isDig_take_succ (bl s) k (by rw [bl_length]; exact hlt)).2 ⟨HD.out, by rw [hgk]; exact d1, by rw [hgk]; exact d2⟩)
            clear hgk
            go_wp2
            go_round
            case rel => exact ⟨k + 1, by omega, by go_num, HK.out⟩
            case measure => first | (simp [intOf]; done) | (simp [intOf]; omega)
          · have HB := Lib.hid (textB_bad s k hlt H0.out (by rw [hgk]; exact hdig))
            clear hgk
            by_cases d1 : 48 ≤ s[k].toNat
            · have d2 : ¬ s[k].toNat ≤ 57 := fun e => hdig ⟨d1, e⟩
              clear hdig
              go_wp2
              go_ret
              exact ⟨by rw [HB.out]; rfl, rfl⟩
            · clear hdig
              go_wp2
              go_ret
              exact ⟨by rw [HB.out]; rfl, rfl⟩
        · obtain rfl : k = s.size := by omega
          have HB := Lib.hid (textB_good s hz H0.out (by have := HD.out; rwa [List.take_of_length_le (by rw [bl_length]; exact Nat.le_refl _)] at this))
          go_wp2
          go_ret
          exact ⟨by rw [HB.out]; rfl, rfl⟩
end Num
end Go.Proofs.Ytkpeliokhmigoaa
