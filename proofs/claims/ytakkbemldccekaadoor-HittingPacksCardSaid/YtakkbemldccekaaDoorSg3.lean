/-
  Package family and its specification: Plus, Product, Same, for any lists.
-/
import Derived.Test.YtakkbemldccekaaDoorSg2
import Derived.Test.YtakkbemldccekaaDoorSf8
namespace Go.Proofs.YtakkbemldccekaaDoor.Sb
open Go.RowKit
set_option linter.unusedVariables false
set_option maxRecDepth 100000
/-- the sets of a list without errors -/
def natsOf (l : List Int) : List Nat := l.map Int.toNat
theorem nats_ints (k : List Nat) : natsOf (ints k) = k := by
  unfold natsOf ints
  rw [List.map_map]
  have : (Int.toNat ∘ fun (i : Nat) => (i : Int)) = id := by funext x; simp
  rw [this, List.map_id]
theorem lerr_nats (l : List Int) (h : lerr l = 0) : l = ints (natsOf l) ∧ Ok (natsOf l) ∧ (natsOf l).length ≤ 1024 := by
  obtain ⟨k, rfl, hk, hl⟩ := lerr_zero l h
  rw [nats_ints]
  exact ⟨rfl, hk, hl⟩
/-- the first error of two lists -/
def both (l k : List Int) : Nat := if lerr l = 0 then lerr k else lerr l
theorem both_zero {l k : List Int} (h : both l k = 0) : lerr l = 0 ∧ lerr k = 0 := by
  unfold both at h
  split at h
  · exact ⟨by assumption, h⟩
  · omega
def lim (L : List Nat) : List Nat × Nat := if L.length ≤ 1024 then (L, 0) else ([], 4)
def plusR (l k : List Int) : List Nat × Nat := if both l k = 0 then lim (minL (natsOf l ++ natsOf k)) else ([], both l k)
def prodR (l k : List Int) : List Nat × Nat := if both l k = 0 then lim (minL (uni (natsOf l) (natsOf k))) else ([], both l k)
def sameR (l k : List Int) : Bool × Nat := if both l k = 0 then (decide (minL (natsOf l) = minL (natsOf k)), 0) else (false, both l k)
theorem GivesM.lim {w w' : World} {L : List Nat} {e : Ending} (h : GivesM w L e w') : GivesI w (ints (lim L).1) (lim L).2 e w' := by
  obtain ⟨P, h | h⟩ := h
  · obtain ⟨hle, A, n, c, he, hr⟩ := h
    unfold Sb.lim
    rw [if_pos hle]
    exact ⟨A, n, c, he, hr, P⟩
  · obtain ⟨hgt, he⟩ := h
    unfold Sb.lim
    rw [if_neg (by omega)]
    exact ⟨none, 0, 0, he, Rd.nil_ _, P⟩
set_option maxHeartbeats 1000000 in
theorem minimals_bad (w : World) (A : Option Addr) (n c : Nat) (l : List Int) (h : Rd w A n c (VI l)) (B : Option Addr) (m d : Nat) (k : List Int) (h2 : Rd w B m d (VI k)) (hb : both l k ≠ 0) :
    Calls Tryd.prog 60 #[.slice A n c, .slice B m d] w fun e w' => e = .returned (.tuple #[.slice none 0 0, .slice none 0 0, errV (both l k)]) ∧ On w w' := by
  have hA := accept2 w A n c _ h B m d _ h2
  have P1 := (On.refl w).alloc (.cells #[.slice A n c, .slice B m d] 22)
  have e : (if lerr l = 0 then lerr k else lerr l) = both l k := rfl
  rw [e] at hA
  generalize both l k = E at *
  rw [errV_pos E hb] at hA ⊢
  clear h h2 e
  go_enter Tryd.func60, Tryd.ntmps60
  go_wp2_with fail
  refine hA.mono ?_
  rintro e w1 ⟨rfl, rfl⟩
  generalize w.alloc (.cells #[.slice A n c, .slice B m d] 22) = w1 at *
  go_wp2
  go_ret3
  exact ⟨rfl, P1⟩
set_option maxHeartbeats 1000000 in
theorem Product_bad (w : World) (A : Option Addr) (n c : Nat) (l : List Int) (h : Rd w A n c (VI l)) (B : Option Addr) (m d : Nat) (k : List Int) (h2 : Rd w B m d (VI k)) (hb : both l k ≠ 0) :
    Calls Tryd.prog 34 #[.slice A n c, .slice B m d] w fun e w' => e = .returned (.tuple #[.slice none 0 0, errV (both l k)]) ∧ On w w' := by
  have hM := minimals_bad w A n c l h B m d k h2 hb
  generalize both l k = E at *
  rw [errV_pos E hb] at hM ⊢
  clear h h2
  go_enter Tryd.func34, Tryd.ntmps34
  go_wp2_with fail
  refine hM.mono ?_
  rintro e w1 ⟨rfl, P1⟩
  go_wp2
  go_ret2
  exact ⟨rfl, P1⟩
theorem Product_all (w : World) (A : Option Addr) (n c : Nat) (l : List Int) (h : Rd w A n c (VI l)) (B : Option Addr) (m d : Nat) (k : List Int) (h2 : Rd w B m d (VI k)) :
    Calls Tryd.prog 34 #[.slice A n c, .slice B m d] w (GivesI w (ints (prodR l k).1) (prodR l k).2) := by
  unfold prodR
  by_cases hb : both l k = 0
  · rw [if_pos hb]
    obtain ⟨h3, h4⟩ := both_zero hb
    obtain ⟨e1, o1, l1⟩ := lerr_nats l h3
    obtain ⟨e2, o2, l2⟩ := lerr_nats k h4
    rw [e1] at h
    rw [e2] at h2
    exact (Product_ok w A n c _ h o1 l1 B m d _ h2 o2 l2).mono fun e w' hg => hg.lim
  · rw [if_neg hb]
    refine (Product_bad w A n c l h B m d k h2 hb).mono ?_
    rintro e w' ⟨rfl, P⟩
    exact ⟨none, 0, 0, rfl, Rd.nil_ _, P⟩
set_option maxHeartbeats 1000000 in
theorem equal_any (w : World) (A : Option Addr) (n c : Nat) (l : List Int) (A' : Option Addr) (n' c' : Nat) (l' : List Int) (h : Rd w A n c (VI l)) (h' : Rd w A' n' c' (VI l')) :
    Calls Tryd.prog 62 #[.slice A n c, .slice A' n' c'] w fun e w' => e = .returned (.bool (decide (l = l'))) ∧ On w w' := by
  have hn : l.length = n := by have := h.len; rw [VI_length] at this; exact this
  have hn' : l'.length = n' := by have := h'.len; rw [VI_length] at this; exact this
  have hcap := h.cap
  have hmax := h.max
  have hcap' := h'.cap
  have hmax' := h'.max
  by_cases hl : n = n'
  · subst hl
    have HN := Lib.hid hn
    have HN' := Lib.hid hn'
    clear hn hn'
    go_enter Tryd.func62, Tryd.ntmps62
    go_wp2
    go_loopw [13] (fun i wr => ∃ k : Nat, k ≤ n ∧ i = .int .i64 (k : Int) ∧ l.take k = l'.take k ∧ On w wr) (fun i _ => n - (intOf i).toNat)
    case atStart => exact ⟨0, by omega, rfl, rfl, On.refl _⟩
    case round =>
      obtain ⟨k, hk, rfl, ht, hon⟩ := hrel
      have HT := Lib.hid ht
      clear ht
      by_cases hlt : k < n
      · have hkl : k < l.length := by rw [HN.out]; exact hlt
        have hkl' : k < l'.length := by rw [HN'.out]; exact hlt
        obtain ⟨ad, rfl, hb, hc⟩ := (h.on hon).at_ k _ (VI_get hkl)
        obtain ⟨ad', rfl, hb', hc'⟩ := (h'.on hon).at_ k _ (VI_get hkl')
        have e1 : l.getD k 0 = l[k] := by simp [hkl]
        have e2 : l'.getD k 0 = l'[k] := by simp [hkl']
        obtain ⟨x, hx⟩ : ∃ x, l.getD k 0 = x := ⟨_, rfl⟩
        obtain ⟨y, hy⟩ : ∃ y, l'.getD k 0 = y := ⟨_, rfl⟩
        have HX := Lib.hid hx
        have HY := Lib.hid hy
        rw [hx] at hc
        rw [hy] at hc'
        clear hx hy
        have E1 := Lib.hid e1
        have E2 := Lib.hid e2
        clear e1 e2
        by_cases hxy : x = y
        · subst hxy
          go_wp2
          go_region
          all_goals go_wp2
          refine ⟨⟨k + 1, by omega, by go_num, ?_, hon.drew⟩, by simp [intOf]; omega⟩
          rw [List.take_add_one, List.take_add_one, HT.out, List.getElem?_eq_getElem hkl, List.getElem?_eq_getElem hkl', ← E1.out, ← E2.out, HX.out, HY.out]
        · have hd : decide (l = l') = false := by
            apply decide_eq_false
            rintro rfl
            exact hxy (HX.out.symm.trans HY.out)
          have HD := Lib.hid hd
          clear hd
          go_wp2
          go_region
          all_goals go_wp2
          go_ret
          exact ⟨by rw [HD.out]; rfl, hon.drew⟩
      · obtain rfl : k = n := by omega
        have hd : decide (l = l') = true := by
          apply decide_eq_true
          have := HT.out
          rwa [List.take_of_length_le (by rw [HN.out]; omega), List.take_of_length_le (by rw [HN'.out]; omega)] at this
        have HD := Lib.hid hd
        clear hd
        go_wp2
        go_ret
        exact ⟨by rw [HD.out]; rfl, hon⟩
  · have hd : decide (l = l') = false := decide_eq_false fun e => hl (by rw [← hn, ← hn', e])
    rw [hd]
    clear hd hn hn'
    have hl2 : ¬ (n : Int) = (n' : Int) := by omega
    go_enter Tryd.func62, Tryd.ntmps62
    go_wp2
    go_ret
    exact ⟨rfl, On.refl _⟩
theorem ints_inj {a b : List Nat} : ints a = ints b ↔ a = b := by
  constructor
  · intro h
    have := congrArg natsOf h
    rwa [nats_ints, nats_ints] at this
  · rintro rfl; rfl
set_option maxHeartbeats 1000000 in
theorem Same_all (w : World) (A : Option Addr) (n c : Nat) (l : List Int) (h : Rd w A n c (VI l)) (B : Option Addr) (m d : Nat) (k : List Int) (h2 : Rd w B m d (VI k)) :
    Calls Tryd.prog 37 #[.slice A n c, .slice B m d] w fun e w' => e = .returned (.tuple #[.bool (sameR l k).1, errV (sameR l k).2]) ∧ On w w' := by
  unfold sameR
  by_cases hb : both l k = 0
  · rw [if_pos hb]
    obtain ⟨h3, h4⟩ := both_zero hb
    obtain ⟨e1, o1, l1⟩ := lerr_nats l h3
    obtain ⟨e2, o2, l2⟩ := lerr_nats k h4
    rw [e1] at h
    rw [e2] at h2
    have hM := minimals_ok w A n c _ h o1 l1 B m d _ h2 o2 l2
    generalize minL (natsOf l) = ma at *
    generalize minL (natsOf k) = mb at *
    clear h h2 e1 e2 hb h3 h4
    show Calls _ _ _ _ fun e w' => e = .returned (.tuple #[.bool (decide (ma = mb)), .nilIface]) ∧ On w w'
    obtain ⟨b, hbd⟩ : ∃ b, decide (ma = mb) = b := ⟨_, rfl⟩
    rw [hbd]
    have HBD := Lib.hid hbd
    clear hbd
    go_enter Tryd.func37, Tryd.ntmps37
    go_wp2_with fail
    refine hM.mono ?_
    rintro e w1 ⟨A1, n1, c1, B1, m1, d1, rfl, R1, R2, P1⟩
    have hE := equal_any w1 A1 n1 c1 _ B1 m1 d1 _ R1 R2
    have ed : decide (ints ma = ints mb) = decide (ma = mb) := by
      by_cases e : ma = mb
      · rw [decide_eq_true e, decide_eq_true (ints_inj.2 e)]
      · rw [decide_eq_false e, decide_eq_false fun e2 => e (ints_inj.1 e2)]
    rw [ed, HBD.out] at hE
    clear hM ed
    go_wp2_with fail
    refine hE.mono ?_
    rintro e w2 ⟨rfl, P2⟩
    go_wp2
    go_ret2
    exact ⟨rfl, P1.trans P2⟩
  · rw [if_neg hb]
    have hM := minimals_bad w A n c l h B m d k h2 hb
    generalize both l k = E at *
    show Calls _ _ _ _ fun e w' => e = .returned (.tuple #[.bool false, errV E]) ∧ On w w'
    rw [errV_pos E hb] at hM ⊢
    clear h h2
    go_enter Tryd.func37, Tryd.ntmps37
    go_wp2_with fail
    refine hM.mono ?_
    rintro e w1 ⟨rfl, P1⟩
    go_wp2
    go_ret2
    exact ⟨rfl, P1⟩
/-- a list of the specification, and the number of an error -/
def GivesK (w : World) (l : List Nat) (c : Nat) (e : Ending) (w' : World) : Prop := ∃ A n k, e = .returned (.tuple #[.slice A n k, .int .i64 (c : Int)]) ∧ Rd w' A n k (VI (ints l)) ∧ On w w'
set_option maxHeartbeats 1000000 in
theorem rboth_any (w : World) (A : Option Addr) (n c : Nat) (l : List Int) (h : Rd w A n c (VI l)) (B : Option Addr) (m d : Nat) (k : List Int) (h2 : Rd w B m d (VI k)) :
    Calls Tryd.prog 42 #[.slice A n c, .slice B m d] w fun e w' => e = .returned (.int .i64 (both l k : Nat)) ∧ w = w' := by
  have h1 := fun W hW => Error_any W A n c l hW
  have h3 := fun W hW => Error_any W B m d k hW
  unfold both
  generalize lerr l = E at *
  generalize lerr k = F at *
  by_cases h0 : E = 0
  · subst h0
    rw [if_pos rfl]
    go_enter Tryd.func42, Tryd.ntmps42
    go_wp2_with fail
    refine (h1 _ h).mono ?_
    rintro e w' ⟨rfl, rfl⟩
    go_wp2_with fail
    refine (h3 _ h2).mono ?_
    rintro e w' ⟨rfl, rfl⟩
    go_wp2
    go_ret
    exact ⟨rfl, rfl⟩
  · rw [if_neg h0]
    have h0' : ¬ (E : Int) = 0 := by omega
    go_enter Tryd.func42, Tryd.ntmps42
    go_wp2_with fail
    refine (h1 _ h).mono ?_
    rintro e w' ⟨rfl, rfl⟩
    go_wp2
    go_ret
    exact ⟨rfl, rfl⟩
set_option maxHeartbeats 1000000 in
theorem rlimited_any (w : World) (A : Option Addr) (n c : Nat) (L : List Nat) (h : Rd w A n c (VI (ints L))) :
    Calls Tryd.prog 66 #[.slice A n c] w (GivesK w (lim L).1 (lim L).2) := by
  have hn : L.length = n := by have := h.len; rw [ints_len] at this; exact this
  unfold lim
  by_cases hl : L.length ≤ 1024
  · rw [if_pos hl]
    have hl2 : ¬ (n : Int) > 1024 := by omega
    have H := Lib.hid h
    clear h hn hl
    go_enter Tryd.func66, Tryd.ntmps66
    go_wp2
    go_ret2
    exact ⟨_, _, _, rfl, H.out, On.refl _⟩
  · rw [if_neg hl]
    have hl2 : (n : Int) > 1024 := by omega
    clear h hn hl
    go_enter Tryd.func66, Tryd.ntmps66
    go_wp2
    go_ret2
    exact ⟨none, 0, 0, rfl, Rd.nil_ _, On.refl _⟩
end Go.Proofs.YtakkbemldccekaaDoor.Sb
