/-
  The specification's Text of sets; what Text returns, in one.
-/
import Derived.Test.YtibkpglgeincdaaGreatDoorSt1
namespace Go.Proofs.YtibkpglgeincdaaGreatDoor.Sb
open Go.RowKit Go.Lib
set_option linter.unusedVariables false
set_option maxRecDepth 100000
def digs2 (l : List Nat) : List (List UInt8) := l.map dig2
theorem digs_eq (s : Nat) : digs s = digs2 (els s) := by
  unfold digs digs2
  refine List.map_congr_left fun i hi => ?_
  have := ((mem_els s i).1 hi).1
  exact dec_dig2 i (by omega)
/-- the text of the first elements -/
def headT (l : List Nat) : List UInt8 := 123 :: Lib.join (digs2 l) [44, 32]
theorem join_snoc (x : List UInt8) (l : List (List UInt8)) (h : l ≠ []) : Lib.join (l ++ [x]) [44, 32] = Lib.join l [44, 32] ++ ([44, 32] ++ x) := by
  rcases l with _ | ⟨y, l⟩
  · exact absurd rfl h
  · rw [List.cons_append, join_cons, join_cons]
    simp [joinTail]
theorem dig2_len (i : Nat) : (dig2 i).length ≤ 2 := by unfold dig2; split <;> simp
theorem digs2_le (l : List Nat) : ∀ x ∈ digs2 l, x.length ≤ 2 := by
  intro x hx
  obtain ⟨i, _, rfl⟩ := List.mem_map.1 hx
  exact dig2_len i
theorem headT_len (l : List Nat) (h : l.length ≤ 24) : (headT l).length ≤ 200 := by
  unfold headT
  have h1 := join_len (digs2 l) (digs2_le l)
  have h2 : (digs2 l).length = l.length := by simp [digs2]
  rw [List.length_cons]; omega
theorem headT_one (i : Nat) : headT [i] = 123 :: dig2 i := by unfold headT digs2; rw [List.map_cons, List.map_nil, join_one]
theorem headT_snoc (l : List Nat) (i : Nat) (h : l ≠ []) : headT (l ++ [i]) = (headT l ++ [44, 32]) ++ dig2 i := by
  unfold headT digs2
  rw [List.map_append, List.map_cons, List.map_nil, join_snoc _ _ (by simpa using h)]
  simp
theorem str_app (a b : List UInt8) : str a ++ str b = str (a ++ b) := by unfold str; simp [ByteArray.mk_append_mk]
theorem str_size (a : List UInt8) : (str a).size = a.length := by show a.toArray.size = _; simp
set_option maxHeartbeats 1000000 in
theorem rtext_bad (w : World) (s : Int) (h : ¬ (0 ≤ s ∧ s < 16777216)) :
    Calls Tryz.prog 39 #[.int .i64 s] w fun e w' => e = .returned (.tuple #[.string (str []), .int .i64 3]) ∧ w = w' := by
  have hV := fun W => rvalid_any W s
  rw [decide_eq_false h] at hV
  go_enter Tryz.func39, Tryz.ntmps39
  go_wp2_with (refine (hV _).mono ?_; rintro e w' ⟨rfl, rfl⟩)
  go_ret2
  exact ⟨rfl, rfl⟩
set_option maxHeartbeats 2000000 in
theorem rtext_any (w : World) (s : Nat) (h : s < 16777216) :
    Calls Tryz.prog 39 #[.int .i64 (s : Int)] w fun e w' => e = .returned (.tuple #[.string (str (textL s)), .int .i64 0]) ∧ On w w' := by
  have hV := fun W => rvalid_any W (s : Int)
  rw [decide_eq_true (show (0 : Int) ≤ (s : Int) ∧ (s : Int) < 16777216 by omega)] at hV
  have hE := fun W => elements_any W (s : Int)
  rw [cut_nat s h] at hE
  have hle := els_le s
  have htx : textL s = headT (els s) ++ [125] := by unfold textL headT; rw [digs_eq]; simp
  have h24 := fun i hi => ((mem_els s i).1 hi).1
  have HX := Lib.hid htx
  clear htx h
  obtain ⟨l, hl⟩ : ∃ l, els s = l := ⟨_, rfl⟩
  rw [hl] at HX hE hle h24
  clear hl
  go_enter Tryz.func39, Tryz.ntmps39
  go_wp2_with (first | (with_reducible refine (hV _).mono ?_; rintro e w' ⟨rfl, rfl⟩) | fail)
  refine (hE _).mono ?_
  rintro e w1 ⟨A1, n1, c1, rfl, R1, P1⟩
  have hn : l.length = n1 := by have := R1.len; rw [VI_length, ints_length] at this; exact this
  have hcap := R1.cap
  have hmax := R1.max
  clear hE hV
  go_wp2
  go_loopw [4, 13] (fun o i wr => ∃ k : Nat, k ≤ n1 ∧ i = .int .i64 (k : Int) ∧ o = .string (str (headT (l.take k))) ∧ On w1 wr) (fun _ i _ => n1 - (intOf i).toNat)
  case atStart => exact ⟨0, by omega, rfl, rfl, On.refl _⟩
  case round =>
    obtain ⟨k, hk, rfl, rfl, hon⟩ := hrel
    have hT := headT_len (l.take k) (by rw [List.length_take]; omega)
    have hsz := str_size (headT (l.take k))
    rw [← hsz] at hT
    have HN := Lib.hid hn
    clear hsz hn
    by_cases hlt : k < n1
    · have hkl : k < l.length := by rw [HN.out]; exact hlt
      have R2 := R1.on hon
      have hc1 : (VI (ints l))[k]? = some (.int .i64 ((l[k] : Nat) : Int)) := by simp [VI, ints, hkl]
      obtain ⟨ad, rfl, hb, hc⟩ := R2.at_ k _ hc1
      obtain ⟨x, hx⟩ : ∃ x, l[k] = x := ⟨_, rfl⟩
      have hx24 := h24 x (by rw [← hx]; exact List.getElem_mem hkl)
      rw [hx] at hc
      have hD := fun W => digits_any W x hx24
      have ht : l.take (k + 1) = l.take k ++ [x] := by rw [List.take_add_one, List.getElem?_eq_getElem hkl, hx]; rfl
      have hds : (str (dig2 x)).size ≤ 2 := by rw [str_size]; exact dig2_len x
      by_cases hk0 : k = 0
      · subst hk0
        have hnew : headT (l.take 1) = headT (l.take 0) ++ dig2 x := by rw [ht]; exact headT_one x
        rw [List.take_zero] at hnew hT ⊢
        have HNE := Lib.hid hnew
        clear hc1 hx ht hnew
        rw [add_nil] at hc
        go_wp2_with (first | (refine (hD _).mono ?_; rintro e w2 ⟨rfl, P2⟩) | fail)
        refine ⟨⟨1, by omega, rfl, ?_, hon.trans P2⟩, by simp [intOf]; omega⟩
        rw [HNE.out, ← str_app]
      · have hkp : (0 : Int) < (k : Int) := by omega
        have hne : l.take k ≠ [] := by
          intro e
          have h5 : (l.take k).length = k := by rw [List.length_take]; omega
          rw [e] at h5
          exact hk0 h5.symm
        have hnew : headT (l.take (k + 1)) = (headT (l.take k) ++ [44, 32]) ++ dig2 x := by rw [ht]; exact headT_snoc _ x hne
        have HNE := Lib.hid hnew
        have hs2 : (str (headT (l.take k)) ++ { data := #[44, 32] }).size ≤ 202 := by
          have e : (str (headT (l.take k)) ++ { data := #[44, 32] }) = str (headT (l.take k) ++ [44, 32]) := str_app _ [44, 32]
          rw [e, str_size, List.length_append]
          rw [str_size] at hT
          simp; omega
        clear hc1 hx ht hnew hne
        go_wp2_with (first | (refine (hD _).mono ?_; rintro e w2 ⟨rfl, P2⟩) | fail)
        refine ⟨⟨k + 1, by omega, by go_num, ?_, hon.trans P2⟩, by simp [intOf]; omega⟩
        rw [HNE.out, ← str_app, ← str_app]; rfl
    · obtain rfl : k = n1 := by omega
      have hd : l.take k = l := List.take_of_length_le (by rw [HN.out]; omega)
      rw [hd] at hT ⊢
      clear hd
      go_wp2
      go_ret2
      refine ⟨?_, P1.trans hon⟩
      rw [HX.out, ← str_app]; rfl
/-- what Text returns -/
def textS (s : Int) : List UInt8 × Nat := if 0 ≤ s ∧ s < 16777216 then (textL (cut s), 0) else ([], 3)
theorem text_all (w : World) (s : Int) : Calls Tryz.prog 32 #[.int .i64 s] w fun e w' => e = .returned (.tuple #[.string (str (textS s).1), errV (textS s).2]) ∧ On w w' := by
  unfold textS
  by_cases h : 0 ≤ s ∧ s < 16777216
  · rw [if_pos h]
    obtain ⟨n, rfl⟩ : ∃ n : Nat, s = (n : Int) := ⟨s.toNat, by omega⟩
    rw [cut_nat n (by omega)]
    exact text_any w n (by omega)
  · rw [if_neg h]
    refine (text_bad w s h).mono ?_
    rintro e w' ⟨rfl, rfl⟩
    exact ⟨rfl, On.refl _⟩
theorem rtext_all (w : World) (s : Int) : Calls Tryz.prog 39 #[.int .i64 s] w fun e w' => e = .returned (.tuple #[.string (str (textS s).1), .int .i64 ((textS s).2 : Nat)]) ∧ On w w' := by
  unfold textS
  by_cases h : 0 ≤ s ∧ s < 16777216
  · rw [if_pos h]
    obtain ⟨n, rfl⟩ : ∃ n : Nat, s = (n : Int) := ⟨s.toNat, by omega⟩
    rw [cut_nat n (by omega)]
    exact rtext_any w n (by omega)
  · rw [if_neg h]
    refine (rtext_bad w s h).mono ?_
    rintro e w' ⟨rfl, rfl⟩
    exact ⟨rfl, On.refl _⟩
end Go.Proofs.YtibkpglgeincdaaGreatDoor.Sb
