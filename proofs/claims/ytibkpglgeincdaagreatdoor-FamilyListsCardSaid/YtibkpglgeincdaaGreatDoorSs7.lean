/-
  Package sets: Text.
-/
import Derived.Test.YtibkpglgeincdaaGreatDoorSs3
namespace Go.Proofs.YtibkpglgeincdaaGreatDoor.Sb
open Go.RowKit Go.Lib
set_option linter.unusedVariables false
set_option maxRecDepth 100000
/-- a text of bytes -/
def str (l : List UInt8) : ByteArray := ⟨l.toArray⟩
def VS (xs : List (List UInt8)) : List Value := xs.map fun l => .string (str l)
/-- the elements in digits -/
def digs (s : Nat) : List (List UInt8) := (els s).map decDigits
/-- what Text returns -/
def textL (s : Nat) : List UInt8 := [123] ++ (Lib.join (digs s) [44, 32] ++ [125])
theorem infos : (Tryz.prog.info? 9).map (fun i => (i.zero, i.size, i.bytes)) = some (some (.string ⟨#[]⟩), 1, 16) := by kernel_rfl
set_option maxHeartbeats 1000000 in
theorem text_bad (w : World) (s : Int) (h : ¬ (0 ≤ s ∧ s < 16777216)) :
    Calls Tryz.prog 32 #[.int .i64 s] w fun e w' => e = .returned (.tuple #[.string (str []), errV 3]) ∧ w = w' := by
  have hL := list_bad w s h
  rw [errV_pos 3 (by decide)] at hL ⊢
  go_enter Tryz.func32, Tryz.ntmps32
  go_wp2_with (refine hL.mono ?_; rintro e w' ⟨rfl, rfl⟩)
  go_ret2
  exact ⟨rfl, rfl⟩
theorem dec_len (i : Nat) (h : i < 100) : (decDigits i).length ≤ 2 := by
  by_cases h1 : i < 10
  · rw [decDigits_one h1]; simp
  · rw [decDigits_two h1 h]; simp
theorem lens_le (xs : List (List UInt8)) (h : ∀ x ∈ xs, x.length ≤ 2) : lens xs ≤ 2 * xs.length := by
  induction xs with
  | nil => simp [lens]
  | cons y r ih =>
    have h1 := ih fun x hx => h x (List.mem_cons_of_mem _ hx)
    have h2 := h y (List.mem_cons_self ..)
    simp only [lens, List.map_cons, List.sum_cons, List.length_cons] at h1 ⊢
    omega
theorem join_len (xs : List (List UInt8)) (h : ∀ x ∈ xs, x.length ≤ 2) : (Lib.join xs [44, 32]).length ≤ 4 * xs.length := by
  rcases xs with _ | ⟨x, r⟩
  · simp [join_nil]
  · rw [join_cons, List.length_append, joinTail_length]
    have h1 := lens_le r fun y hy => h y (List.mem_cons_of_mem _ hy)
    have h2 := h x (List.mem_cons_self ..)
    simp only [List.length_cons, List.length_nil]
    omega
theorem digs_le (s : Nat) : ∀ x ∈ digs s, x.length ≤ 2 := by
  intro x hx
  obtain ⟨i, hi, rfl⟩ := List.mem_map.1 hx
  have := (mem_els s i).1 hi
  exact dec_len i (by omega)
set_option maxHeartbeats 2000000 in
theorem text_any (w : World) (s : Nat) (h : s < 16777216) :
    Calls Tryz.prog 32 #[.int .i64 (s : Int)] w fun e w' => e = .returned (.tuple #[.string (str (textL s)), errV 0]) ∧ On w w' := by
  have hL := list_any w s h
  have hle := els_le s
  go_enter Tryz.func32, Tryz.ntmps32
  go_wp2_with (refine hL.mono ?_; rintro e w1 ⟨A1, n1, c1, rfl, R1, P1⟩; rw [errV_zero])
  have hn : (els s).length = n1 := by have := R1.len; rw [VI_length, ints_length] at this; exact this
  have hcap := R1.cap
  have hmax := R1.max
  clear hL
  go_loopw [6, 19] (fun v i wr => ∃ k : Nat, k ≤ n1 ∧ i = .int .i64 (k : Int) ∧ wr.ownsRow w1.heap.size 9 1 v k (VS ((digs s).take k)) ∧ On w1 wr) (fun _ i _ => n1 - (intOf i).toNat)
  case atStart => exact ⟨0, by omega, rfl, row_nil _ _ _, On.refl _⟩
  case round =>
    obtain ⟨k, hk, rfl, hrow, hon⟩ := hrel
    obtain ⟨A4, c4, rfl⟩ := row_form hrow
    have hsz := hon.size
    have HR := Lib.hid hrow
    have HN := Lib.hid hn
    clear hrow
    by_cases hlt : k < n1
    · have hkl : k < (els s).length := by rw [HN.out]; exact hlt
      have hkl2 : k < (ints (els s)).length := by rw [ints_length]; exact hkl
      have R2 := R1.on hon
      obtain ⟨ad, rfl, hb, hc⟩ := R2.at_ k _ (VI_get hkl2)
      have hx : (ints (els s)).getD k 0 = (((els s)[k] : Nat) : Int) := by simp [ints, hkl]
      rw [hx] at hc
      obtain ⟨x, hxe⟩ : ∃ x, (els s)[k] = x := ⟨_, rfl⟩
      have hx24 : x < 24 := ((mem_els s x).1 (by rw [← hxe]; exact List.getElem_mem hkl)).1
      rw [hxe] at hc
      have hI := fun W => Tryz.strconv_Itoa_small x (by omega) W
      have ht : (digs s).take (k + 1) = (digs s).take k ++ [decDigits x] := by
        have hkd : k < (digs s).length := by simp [digs, hkl]
        rw [List.take_add_one, List.getElem?_eq_getElem hkd]
        simp [digs, hxe]
      have HT := Lib.hid ht
      clear ht hx hxe hn
      go_wp2_with (first | (with_reducible refine (hI _).mono ?_; rintro e w' ⟨rfl, hw'⟩; rw [hw']; clear hw') | (at_builtin; refine wpList_app rfl (.tmp 23) (.tmp 26) 54 rfl w1.heap.size 9 (.string ⟨#[]⟩) 16 Tryz.underlying54 infos rfl (by decide) (.slice A4 k c4) k (VS ((digs s).take k)) rfl (row_alloc HR.out _) (some ⟨wr.heap.size, 0, none⟩) 1 1 [.string (str (decDigits x))] rfl (rd_one _ _ _) (by simp [Value.oneCell']) (by omega) (by simp; omega) ?_; intro v' w5 hown5 hgrow5 _))
      refine ⟨⟨k + 1, by omega, by go_num, ?_, ?_⟩, ?_⟩
      · rw [HT.out]; unfold VS at hown5 ⊢; rw [List.map_append]; exact hown5
      · exact on_row (hon.alloc _) (row_alloc HR.out _) (Nat.le_refl _) hgrow5
      · simp [intOf]; omega
    · obtain rfl : k = n1 := by omega
      have hd : (digs s).take k = digs s := List.take_of_length_le (by simp [digs]; rw [HN.out]; omega)
      rw [hd] at HR
      have hlen : (digs s).length = k := by simp [digs]; exact HN.out
      have hjl := join_len (digs s) (digs_le s)
      have hJ : Calls Tryz.prog 33 #[.slice A4 k c4, .string ⟨#[44, 32]⟩] wr fun e w' => e = .returned (.string (str (Lib.join (digs s) [44, 32]))) ∧ On wr w' := by
        have R4 := rd_of_row HR.out
        rcases Nat.eq_zero_or_pos k with h0 | h0
        · subst h0
          have e0 : digs s = [] := List.eq_nil_of_length_eq_zero hlen
          rw [e0]
          refine Calls.mono (Tryz.strings_Join_none A4 c4 ⟨#[44, 32]⟩ wr) ?_
          rintro e w' ⟨rfl, rfl⟩
          exact ⟨rfl, On.refl _⟩
        · rcases HR.out.2 with ⟨_, h1⟩ | ⟨g, cap, cur, hv, hb, hh, hcap2, hmax2, hsz2, htake⟩
          · omega
          injection hv with h1 h2 h3
          subst h1; subst h3
          have hjn := Tryz.strings_Join g 0 c4 ((digs s).map str) ⟨#[44, 32]⟩ wr ?_ ?_ ?_ ?_ ?_
          · rw [List.length_map, hlen] at hjn
            refine Calls.mono hjn ?_
            rintro e w' ⟨rfl, hb2⟩
            refine ⟨?_, hb2⟩
            have e1 : (((digs s).map str).map fun x => x.data.toList) = digs s := by rw [List.map_map]; simp [Function.comp_def, str]
            rw [e1]; rfl
          · intro j x hj
            have hx2 : (VS (digs s))[j]? = some (.string x) := by
              unfold VS
              rw [List.getElem?_map] at hj ⊢
              obtain ⟨y, hy, rfl⟩ := Option.map_eq_some_iff.1 hj
              rw [hy]; rfl
            obtain ⟨ad, e2, hb3, hc3⟩ := R4.at_ j _ hx2
            cases e2
            rw [add_plain] at hc3
            exact hc3
          · exact (Array.getElem?_eq_some_iff.1 hh).1
          · rw [List.length_map]; omega
          · rw [List.length_map]; omega
          · have e1 : (((digs s).map str).map fun x => x.data.toList) = digs s := by rw [List.map_map]; simp [Function.comp_def, str]
            rw [e1]
            show (Lib.join (digs s) [44, 32]).length ≤ _
            omega
      clear hd hn
      have HD := Lib.hid hlen
      clear hlen
      have htx : textL s = [123] ++ (Lib.join (digs s) [44, 32] ++ [125]) := rfl
      have HX := Lib.hid htx
      clear htx
      generalize Lib.join (digs s) [44, 32] = jl at *
      have hq : (str jl).size ≤ 100 := by show jl.toArray.size ≤ 100; simp; have := HD.out; have := HN.out; omega
      have hq2 : (({ data := #[123] } : ByteArray) ++ str jl).size ≤ 101 := by
        show (({ data := #[123] } : ByteArray) ++ { data := jl.toArray }).size ≤ 101
        rw [show (({ data := #[123] } : ByteArray) ++ { data := jl.toArray }) = { data := ([123] ++ jl).toArray } from by simp [ByteArray.mk_append_mk]]
        show ([123] ++ jl).toArray.size ≤ 101
        simp
        have : jl.length ≤ 100 := by simpa [str, ByteArray.size] using hq
        omega
      go_wp2_with (refine hJ.mono ?_; rintro e w6 ⟨rfl, P6⟩)
      go_ret2
      refine ⟨?_, (P1.trans hon).trans P6⟩
      rw [HX.out]
      have e5 : str ([123] ++ (jl ++ [125])) = ({ data := #[123] } : ByteArray) ++ str jl ++ { data := #[125] } := by
        unfold str
        simp [ByteArray.mk_append_mk]
      rw [e5]; rfl
end Go.Proofs.YtibkpglgeincdaaGreatDoor.Sb
