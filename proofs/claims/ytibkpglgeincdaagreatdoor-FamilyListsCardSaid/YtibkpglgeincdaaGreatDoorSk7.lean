/-
  The specification's Text of a list of sets; and both for any list.
-/
import Derived.Test.YtibkpglgeincdaaGreatDoorSk2
import Derived.Test.YtibkpglgeincdaaGreatDoorSk6
import Derived.Test.YtibkpglgeincdaaGreatDoorSt2
namespace Go.Proofs.YtibkpglgeincdaaGreatDoor.Sb
open Go.RowKit Go.Lib
set_option linter.unusedVariables false
set_option maxRecDepth 100000
theorem fjoin_snoc (x : List UInt8) (l : List (List UInt8)) (h : l ≠ []) : Lib.join (l ++ [x]) [32] = Lib.join l [32] ++ ([32] ++ x) := by
  rcases l with _ | ⟨y, l⟩
  · exact absurd rfl h
  · rw [List.cons_append, join_cons, join_cons]
    simp [joinTail]
theorem ftext_one (x : Nat) : ftext [x] = textL x := by unfold ftext famL; rw [List.map_cons, List.map_nil, join_one]
theorem ftext_snoc (l : List Nat) (x : Nat) (h : l ≠ []) : ftext (l ++ [x]) = (ftext l ++ [32]) ++ textL x := by
  unfold ftext famL
  rw [List.map_append, List.map_cons, List.map_nil, fjoin_snoc _ _ (by simpa using h)]
  simp
set_option maxHeartbeats 4000000 in
theorem rText_ok (w : World) (A : Option Addr) (n c : Nat) (k : List Nat) (h : Rd w A n c (VI (ints k))) (hk : Ok k) (hl : k.length ≤ 1024) :
    Calls Tryz.prog 17 #[.slice A n c] w fun e w' => e = .returned (.tuple #[.string (str (ftext k)), .int .i64 0]) ∧ On w w' := by
  have hn : k.length = n := by have := h.len; rw [ints_len] at this; exact this
  have hA := Error_any w A n c _ h
  rw [lerr_ok hk hl] at hA
  have hcap := h.cap
  have hmax := h.max
  have hn1 : n ≤ 1024 := by omega
  have HN := Lib.hid hn
  have H := Lib.hid h
  clear h hn
  go_enter Tryz.func17, Tryz.ntmps17
  go_wp2_with fail
  refine hA.mono ?_
  rintro e w' ⟨rfl, rfl⟩
  clear hA
  go_wp2
  go_loopw [5, 17] (fun o i wr => ∃ j : Nat, j ≤ n ∧ i = .int .i64 (j : Int) ∧ o = .string (str (ftext (k.take j))) ∧ On w wr) (fun _ i _ => n - (intOf i).toNat)
  case atStart => exact ⟨0, by omega, rfl, rfl, On.refl _⟩
  case round =>
    obtain ⟨j, hj, rfl, rfl, hon⟩ := hrel
    have hT : (ftext (k.take j)).length ≤ 101376 := by
      have h1 := ftext_len (k.take j)
      have h2 : (k.take j).length ≤ 1024 := by rw [List.length_take]; omega
      omega
    have hsz := str_size (ftext (k.take j))
    rw [← hsz] at hT
    clear hsz
    by_cases hlt : j < n
    · have hjl : j < k.length := by rw [HN.out]; exact hlt
      obtain ⟨ad, e1, hb, hc⟩ := (H.out.on hon).at_ j _ (ints_get hjl)
      cases e1
      have hxm := hk _ (getD_mem hjl)
      have ht := take_get hjl
      obtain ⟨x, hx⟩ : ∃ x, k.getD j 0 = x := ⟨_, rfl⟩
      rw [hx] at hc hxm ht
      have hX := fun W => rtext_any W x hxm
      have hds : (str (textL x)).size ≤ 98 := by rw [str_size]; exact textL_len x
      by_cases hk0 : j = 0
      · subst hk0
        have hnew : ftext (k.take 1) = ftext (k.take 0) ++ textL x := by rw [ht, List.take_zero, List.nil_append, ftext_one]; rfl
        obtain ⟨T, hTT⟩ : ∃ T, textL x = T := ⟨_, rfl⟩
        rw [hTT] at hX hds hnew
        rw [List.take_zero] at hnew hT ⊢
        have HNE := Lib.hid hnew
        clear hx ht hnew hTT hxm
        rw [add_nil] at hc
        go_wp2_with (first | (refine (hX _).mono ?_; rintro e w2 ⟨rfl, P2⟩) | fail)
        refine ⟨⟨1, by omega, rfl, ?_, hon.trans P2⟩, by simp [intOf]; omega⟩
        rw [HNE.out, ← str_app]
      · have hkp : (0 : Int) < (j : Int) := by omega
        have hne : k.take j ≠ [] := by
          intro e
          have h5 : (k.take j).length = j := by rw [List.length_take]; omega
          rw [e] at h5
          exact hk0 h5.symm
        have hnew : ftext (k.take (j + 1)) = (ftext (k.take j) ++ [32]) ++ textL x := by rw [ht]; exact ftext_snoc _ x hne
        obtain ⟨T, hTT⟩ : ∃ T, textL x = T := ⟨_, rfl⟩
        rw [hTT] at hX hds hnew
        have HNE := Lib.hid hnew
        have hs2 : (str (ftext (k.take j)) ++ { data := #[32] }).size ≤ 101377 := by
          have e : (str (ftext (k.take j)) ++ { data := #[32] }) = str (ftext (k.take j) ++ [32]) := str_app _ [32]
          rw [e, str_size, List.length_append]
          rw [str_size] at hT
          simp; omega
        clear hx ht hnew hne hTT hxm
        go_wp2_with (first | (refine (hX _).mono ?_; rintro e w2 ⟨rfl, P2⟩) | fail)
        refine ⟨⟨j + 1, by omega, by go_num, ?_, hon.trans P2⟩, by simp [intOf]; omega⟩
        rw [HNE.out, ← str_app, ← str_app]; rfl
    · obtain rfl : j = n := by omega
      have hd : k.take j = k := List.take_of_length_le (by rw [HN.out]; omega)
      rw [hd] at hT ⊢
      clear hd
      go_wp2
      go_ret2
      exact ⟨rfl, hon⟩
def textR (l : List Int) : List UInt8 × Nat := if lerr l = 0 then (ftext (natsOf l), 0) else ([], lerr l)
set_option maxHeartbeats 2000000 in
theorem Text_badl (w : World) (A : Option Addr) (n c : Nat) (l : List Int) (h : Rd w A n c (VI l)) (hb : lerr l ≠ 0) :
    Calls Tryz.prog 11 #[.slice A n c] w fun e w' => e = .returned (.tuple #[.string (str []), errV (lerr l)]) ∧ On w w' := by
  have hA := accept1 w A n c l h
  have P1 := (On.refl w).alloc (.cells #[.slice A n c] 22)
  generalize lerr l = E at *
  rw [errV_pos E hb] at hA ⊢
  clear h
  go_enter Tryz.func11, Tryz.ntmps11
  go_wp2_with fail
  refine hA.mono ?_
  rintro e w1 ⟨rfl, rfl⟩
  generalize w.alloc (.cells #[.slice A n c] 22) = w1 at *
  go_wp2
  go_ret2
  exact ⟨rfl, P1⟩
set_option maxHeartbeats 2000000 in
theorem rText_badl (w : World) (A : Option Addr) (n c : Nat) (l : List Int) (h : Rd w A n c (VI l)) (hb : lerr l ≠ 0) :
    Calls Tryz.prog 17 #[.slice A n c] w fun e w' => e = .returned (.tuple #[.string (str []), .int .i64 (lerr l : Nat)]) ∧ On w w' := by
  have hA := Error_any w A n c l h
  generalize lerr l = E at *
  have h0 : ¬ (E : Int) = 0 := by omega
  clear h
  go_enter Tryz.func17, Tryz.ntmps17
  go_wp2_with fail
  refine hA.mono ?_
  rintro e w1 ⟨rfl, rfl⟩
  go_wp2
  go_ret2
  exact ⟨rfl, On.refl _⟩
theorem Text_all (w : World) (A : Option Addr) (n c : Nat) (l : List Int) (h : Rd w A n c (VI l)) :
    Calls Tryz.prog 11 #[.slice A n c] w fun e w' => e = .returned (.tuple #[.string (str (textR l).1), errV (textR l).2]) ∧ On w w' := by
  unfold textR
  by_cases hb : lerr l = 0
  · rw [if_pos hb]
    obtain ⟨e1, o1, l1⟩ := lerr_nats l hb
    rw [e1] at h
    exact Text_ok w A n c _ h o1 l1
  · rw [if_neg hb]
    exact Text_badl w A n c l h hb
theorem rText_all (w : World) (A : Option Addr) (n c : Nat) (l : List Int) (h : Rd w A n c (VI l)) :
    Calls Tryz.prog 17 #[.slice A n c] w fun e w' => e = .returned (.tuple #[.string (str (textR l).1), .int .i64 ((textR l).2 : Nat)]) ∧ On w w' := by
  unfold textR
  by_cases hb : lerr l = 0
  · rw [if_pos hb]
    obtain ⟨e1, o1, l1⟩ := lerr_nats l hb
    rw [e1] at h
    exact rText_ok w A n c _ h o1 l1
  · rw [if_neg hb]
    exact rText_badl w A n c l h hb
end Go.Proofs.YtibkpglgeincdaaGreatDoor.Sb
