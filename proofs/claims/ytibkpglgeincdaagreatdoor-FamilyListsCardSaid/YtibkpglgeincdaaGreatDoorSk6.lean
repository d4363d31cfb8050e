/-
  Package family: Text, for lists of sets.
-/
import Derived.Test.YtibkpglgeincdaaGreatDoorSk1
import Derived.Test.YtibkpglgeincdaaGreatDoorSs7
namespace Go.Proofs.YtibkpglgeincdaaGreatDoor.Sb
open Go.RowKit Go.Lib
set_option linter.unusedVariables false
set_option maxRecDepth 100000
/-- the texts of the sets -/
def famL (k : List Nat) : List (List UInt8) := k.map textL
def ftext (k : List Nat) : List UInt8 := Lib.join (famL k) [32]
theorem textL_len (s : Nat) : (textL s).length ≤ 98 := by
  have h1 := join_len (digs s) (digs_le s)
  have h2 : (digs s).length ≤ 24 := by unfold digs; rw [List.length_map]; exact els_le s
  unfold textL
  simp only [List.length_append, List.length_cons, List.length_nil]
  omega
theorem famL_le (k : List Nat) : lens (famL k) ≤ 98 * (famL k).length := by
  unfold famL
  induction k with
  | nil => simp [lens]
  | cons x k ih =>
    have := textL_len x
    simp only [lens, List.map_cons, List.sum_cons, List.length_cons] at ih ⊢
    omega
theorem ftext_len (k : List Nat) : (ftext k).length ≤ 99 * k.length := by
  have h1 := famL_le k
  have h2 : (famL k).length = k.length := by unfold famL; rw [List.length_map]
  unfold ftext
  rw [← h2]
  generalize famL k = xs at *
  rcases xs with _ | ⟨x, r⟩
  · simp [join_nil]
  · rw [join_cons, List.length_append, joinTail_length]
    simp only [lens, List.map_cons, List.sum_cons, List.length_cons, List.length_nil] at h1 ⊢
    omega
theorem VS_len (xs : List (List UInt8)) : (VS xs).length = xs.length := by simp [VS]
theorem fjoin (w : World) (A4 : Option Addr) (k c4 base : Nat) (xs : List (List UInt8)) (hlen : xs.length = k) (hrow : w.ownsRow base 9 1 (.slice A4 k c4) k (VS xs)) (hk : k ≤ 1024) (hj : (Lib.join xs [32]).length ≤ 1000000) :
    Calls Tryz.prog 33 #[.slice A4 k c4, .string ⟨#[32]⟩] w fun e w' => e = .returned (.string (str (Lib.join xs [32]))) ∧ On w w' := by
  have R4 := rd_of_row hrow
  rcases Nat.eq_zero_or_pos k with h0 | h0
  · subst h0
    have e0 : xs = [] := List.eq_nil_of_length_eq_zero hlen
    rw [e0]
    refine Calls.mono (Tryz.strings_Join_none A4 c4 ⟨#[32]⟩ w) ?_
    rintro e w' ⟨rfl, rfl⟩
    exact ⟨rfl, On.refl _⟩
  · rcases hrow.2 with ⟨_, h1⟩ | ⟨g, cap, cur, hv, hb, hh, hcap2, hmax2, hsz2, htake⟩
    · omega
    injection hv with h1 h2 h3
    subst h1; subst h3
    have hjn := Tryz.strings_Join g 0 c4 (xs.map str) ⟨#[32]⟩ w ?_ ?_ ?_ ?_ ?_
    · rw [List.length_map, hlen] at hjn
      refine Calls.mono hjn ?_
      rintro e w' ⟨rfl, hb2⟩
      refine ⟨?_, hb2⟩
      have e1 : ((xs.map str).map fun x => x.data.toList) = xs := by rw [List.map_map]; simp [Function.comp_def, str]
      rw [e1]; rfl
    · intro j x hj
      have hx2 : (VS xs)[j]? = some (.string x) := by
        unfold VS
        rw [List.getElem?_map] at hj ⊢
        obtain ⟨y, hy, rfl⟩ := Option.map_eq_some_iff.1 hj
        rw [hy]; rfl
      obtain ⟨ad, e2, hb3, hc3⟩ := R4.at_ j _ hx2
      cases e2
      rw [add_plain] at hc3
      exact hc3
    · exact (Array.getElem?_eq_some_iff.1 hh).1
    · rw [List.length_map]; omega
    · rw [List.length_map]; omega
    · have e1 : ((xs.map str).map fun x => x.data.toList) = xs := by rw [List.map_map]; simp [Function.comp_def, str]
      rw [e1]
      show (Lib.join xs [32]).length ≤ _
      omega
set_option maxHeartbeats 4000000 in
theorem Text_ok (w : World) (A : Option Addr) (n c : Nat) (k : List Nat) (h : Rd w A n c (VI (ints k))) (hk : Ok k) (hl : k.length ≤ 1024) :
    Calls Tryz.prog 11 #[.slice A n c] w fun e w' => e = .returned (.tuple #[.string (str (ftext k)), .nilIface]) ∧ On w w' := by
  have hn : k.length = n := by have := h.len; rw [ints_len] at this; exact this
  have hA := accept1 w A n c _ h
  rw [lerr_ok hk hl, errV_zero] at hA
  have P1 := (On.refl w).alloc (.cells #[.slice A n c] 22)
  have h1 := h.on P1
  have hcap := h.cap
  have hmax := h.max
  have hn1 : n ≤ 1024 := by omega
  have HN := Lib.hid hn
  clear h hn
  go_enter Tryz.func11, Tryz.ntmps11
  go_wp2_with fail
  refine hA.mono ?_
  rintro e w1 ⟨rfl, rfl⟩
  generalize w.alloc (.cells #[.slice A n c] 22) = w1 at *
  clear hA
  have H := Lib.hid h1
  clear h1
  go_wp2
  go_loopw [5, 18] (fun v i wr => ∃ j : Nat, j ≤ n ∧ i = .int .i64 (j : Int) ∧ wr.ownsRow w1.heap.size 9 1 v j (VS ((famL k).take j)) ∧ On w1 wr) (fun _ i _ => n - (intOf i).toNat)
  case atStart => exact ⟨0, by omega, rfl, row_nil _ _ _, On.refl _⟩
  case round =>
    obtain ⟨j, hj, rfl, hrow, hon⟩ := hrel
    obtain ⟨A4, c4, rfl⟩ := row_form hrow
    have HR := Lib.hid hrow
    clear hrow
    by_cases hlt : j < n
    · have hjl : j < k.length := by rw [HN.out]; exact hlt
      obtain ⟨ad, e1, hb, hc⟩ := (H.out.on hon).at_ j _ (ints_get hjl)
      cases e1
      have hxm := hk _ (getD_mem hjl)
      have ht : (famL k).take (j + 1) = (famL k).take j ++ [textL (k.getD j 0)] := by
        have hkd : j < (famL k).length := by unfold famL; rw [List.length_map]; exact hjl
        rw [List.take_add_one, List.getElem?_eq_getElem hkd]
        simp [famL, hjl]
      obtain ⟨x, hx⟩ : ∃ x, k.getD j 0 = x := ⟨_, rfl⟩
      rw [hx] at hc hxm ht
      have hX := fun W => text_any W x hxm
      rw [errV_zero] at hX
      obtain ⟨T, hT⟩ : ∃ T, textL x = T := ⟨_, rfl⟩
      rw [hT] at hX ht
      have HT := Lib.hid ht
      clear ht hx hT hxm
      go_wp2_with (first | (with_reducible refine (hX _).mono ?_; rintro e w2 ⟨rfl, P2⟩; have HR2 := Lib.hid (row_on HR.out P2); have hon2 := hon.trans P2; have hsz := hon2.size) | (at_builtin; refine wpList_app rfl (.tmp 30) (.tmp 32) 54 rfl w1.heap.size 9 (.string ⟨#[]⟩) 16 Tryz.underlying54 infos rfl (by decide) (.slice A4 j c4) j (VS ((famL k).take j)) rfl (row_alloc HR2.out _) (some ⟨w2.heap.size, 0, none⟩) 1 1 [.string (str T)] rfl (rd_one _ _ _) (by simp [Value.oneCell']) (by omega) (by simp; omega) ?_; intro v' w5 hown5 hgrow5 _))
      refine ⟨⟨j + 1, by omega, by go_num, ?_, on_row (hon2.alloc _) (row_alloc HR2.out _) (Nat.le_refl _) hgrow5⟩, by simp [intOf]; omega⟩
      rw [HT.out]; unfold VS at hown5 ⊢; rw [List.map_append]; exact hown5
    · obtain rfl : j = n := by omega
      have hfl : (famL k).length = j := by unfold famL; rw [List.length_map]; exact HN.out
      have hd : (famL k).take j = famL k := List.take_of_length_le (by omega)
      rw [hd] at HR
      have hJ := fjoin _ A4 j c4 _ (famL k) hfl HR.out hn1 (by have h5 := ftext_len k; rw [HN.out] at h5; unfold ftext at h5; omega)
      clear hd hfl
      have hft : Lib.join (famL k) [32] = ftext k := rfl
      rw [hft] at hJ
      go_wp2_with (refine hJ.mono ?_; rintro e w6 ⟨rfl, P6⟩)
      go_ret2
      exact ⟨rfl, (P1.trans hon).trans P6⟩
end Go.Proofs.YtibkpglgeincdaaGreatDoor.Sb
