/-
  Package family: minimals, Product, Covers, Support, Restrict.
-/
import Derived.Test.YtakkbemldccekaaDoorSf7
namespace Go.Proofs.YtakkbemldccekaaDoor.Sb
open Go.RowKit
set_option linter.unusedVariables false
set_option maxRecDepth 100000
set_option maxHeartbeats 2000000 in
theorem minimals_ok (w : World) (A : Option Addr) (n c : Nat) (k : List Nat) (h : Rd w A n c (VI (ints k))) (hk : Ok k) (hl : k.length ≤ 1024)
    (B : Option Addr) (m d : Nat) (k2 : List Nat) (h2 : Rd w B m d (VI (ints k2))) (hk2 : Ok k2) (hl2 : k2.length ≤ 1024) :
    Calls Tryd.prog 60 #[.slice A n c, .slice B m d] w fun e w' => ∃ A n c B m d, e = .returned (.tuple #[.slice A n c, .slice B m d, .nilIface]) ∧ Rd w' A n c (VI (ints (minL k))) ∧ Rd w' B m d (VI (ints (minL k2))) ∧ On w w' := by
  have hn : k.length = n := by have := h.len; rw [ints_len] at this; exact this
  have hm : k2.length = m := by have := h2.len; rw [ints_len] at this; exact this
  have hA := accept2 w A n c _ h B m d _ h2
  rw [lerr_ok hk hl, if_pos rfl, lerr_ok hk2 hl2, errV_zero] at hA
  have P1 := (On.refl w).alloc (.cells #[.slice A n c, .slice B m d] 22)
  have h' := h.on P1
  have h2' := h2.on P1
  have hb1 := min_len1 hl
  have hb2 := min_len1 hl2
  clear h h2
  go_enter Tryd.func60, Tryd.ntmps60
  go_wp2_with fail
  refine hA.mono ?_
  rintro e w1 ⟨rfl, rfl⟩
  generalize w.alloc (.cells #[.slice A n c, .slice B m d] 22) = w1 at *
  clear hA
  have hM := minimal_any w1 A n c k h' hk (by omega)
  go_wp2_with fail
  refine hM.mono ?_
  rintro e w2 hg
  obtain ⟨A2, n2, c2, rfl, R2, P2⟩ := hg.ok hb1
  have hM2 := minimal_any w2 B m d k2 (h2'.on P2) hk2 (by omega)
  clear hM hg
  go_wp2_with fail
  refine hM2.mono ?_
  rintro e w3 hg
  obtain ⟨A3, n3, c3, rfl, R3, P3⟩ := hg.ok hb2
  clear hM2 hg
  go_wp2
  go_ret3
  exact ⟨_, _, _, _, _, _, rfl, R2.on P3, R3, (P1.trans P2).trans P3⟩
theorem minL_prod {a b : List Nat} (ha : Ok a) (hb : Ok b) : minL (uni2 (minL a) (minL b)) = minL (uni a b) :=
  minL_eq (uni2_ok (minL_ok ha) (minL_ok hb)) (uni_ok ha hb) fun s => by rw [cov_uni2, cov_uni, cov_min ha, cov_min hb]
set_option maxHeartbeats 2000000 in
theorem Product_ok (w : World) (A : Option Addr) (n c : Nat) (k : List Nat) (h : Rd w A n c (VI (ints k))) (hk : Ok k) (hl : k.length ≤ 1024)
    (B : Option Addr) (m d : Nat) (k2 : List Nat) (h2 : Rd w B m d (VI (ints k2))) (hk2 : Ok k2) (hl2 : k2.length ≤ 1024) :
    Calls Tryd.prog 34 #[.slice A n c, .slice B m d] w (GivesM w (minL (uni k k2))) := by
  have hMs := minimals_ok w A n c k h hk hl B m d k2 h2 hk2 hl2
  have hb1 := min_len1 hl
  have hb2 := min_len1 hl2
  have ho1 := minL_ok hk
  have ho2 := minL_ok hk2
  have hp := minL_prod hk hk2
  generalize minL k = ma at *
  generalize minL k2 = mb at *
  clear h h2
  go_enter Tryd.func34, Tryd.ntmps34
  go_wp2_with fail
  refine hMs.mono ?_
  rintro e w1 ⟨A1, n1, c1, B1, m1, d1, rfl, R1, R2, P1⟩
  have hU := unions_any w1 A1 n1 c1 ma R1 ho1 hb1 B1 m1 d1 mb R2 ho2 hb2
  clear hMs
  go_wp2_with fail
  refine hU.mono ?_
  rintro e w2 ⟨A2, n2, c2, rfl, R3, hsm, P2⟩
  have hM := minimal_any w2 A2 n2 c2 _ R3 (uni2_ok ho1 ho2) hsm
  rw [hp] at hM
  clear hU hp hsm
  go_wp2_with fail
  refine hM.mono ?_
  rintro e w3 ⟨P4, hres⟩
  have P : On w w3 := (P1.trans P2).trans P4
  rcases hres with ⟨hle, A3, n3, c3, rfl, R3⟩ | ⟨hgt, rfl⟩
  · have HLE := Lib.hid hle
    clear hle hM
    rw [errV_zero]
    go_wp2
    go_ret2
    exact ⟨P, .inl ⟨HLE.out, _, _, _, rfl, R3⟩⟩
  · have HGT := Lib.hid hgt
    clear hgt hM
    rw [errV_pos 4 (by decide)]
    go_wp2
    go_ret2
    exact ⟨P, .inr ⟨HGT.out, rfl⟩⟩
set_option maxHeartbeats 1000000 in
theorem Covers_ok (w : World) (A : Option Addr) (n c : Nat) (k : List Nat) (h : Rd w A n c (VI (ints k))) (hk : Ok k) (hl : k.length ≤ 1024) (s : Nat) (hs : s < 16777216) :
    Calls Tryd.prog 29 #[.slice A n c, .int .i64 (s : Int)] w fun e w' => e = .returned (.tuple #[.bool (cov k s), .nilIface]) ∧ On w w' := by
  have hA := accept1 w A n c _ h
  rw [lerr_ok hk hl, errV_zero] at hA
  have P1 := (On.refl w).alloc (.cells #[.slice A n c] 22)
  have hC := covers_any (w.alloc (.cells #[.slice A n c] 22)) A n c k s (h.alloc _) hk hs
  have hV := fun W => valid_any W (s : Int)
  rw [in_range s hs] at hV
  clear h
  generalize cov k s = b at *
  go_enter Tryd.func29, Tryd.ntmps29
  go_wp2_with fail
  refine hA.mono ?_
  rintro e w1 ⟨rfl, rfl⟩
  generalize w.alloc (.cells #[.slice A n c] 22) = w1 at *
  clear hA
  go_wp2_with fail
  refine (hV _).mono ?_
  rintro e w' ⟨rfl, rfl⟩
  go_wp2_with fail
  refine hC.mono ?_
  rintro e w' ⟨rfl, rfl⟩
  go_wp2
  go_ret2
  exact ⟨rfl, P1⟩
/-- the union -/
def orL : List Nat → Nat
  | [] => 0
  | x :: l => x ||| orL l
theorem orL_append (l k : List Nat) : orL (l ++ k) = orL l ||| orL k := by
  induction l with
  | nil => simp [orL]
  | cons x l ih => simp only [List.cons_append, orL, ih, Nat.or_assoc]
theorem orL_ok {l : List Nat} (h : Ok l) : orL l < 16777216 := by
  induction l with
  | nil => simp [orL]
  | cons x l ih => exact or_lt24 (h x (List.mem_cons_self ..)) (ih fun y hy => h y (List.mem_cons_of_mem _ hy))
theorem orL_take {l : List Nat} {j : Nat} (h : j < l.length) : orL (l.take (j + 1)) = orL (l.take j) ||| l.getD j 0 := by
  rw [take_get h, orL_append]; simp [orL]
set_option maxHeartbeats 1000000 in
theorem Support_ok (w : World) (A : Option Addr) (n c : Nat) (k : List Nat) (h : Rd w A n c (VI (ints k))) (hk : Ok k) (hl : k.length ≤ 1024) :
    Calls Tryd.prog 36 #[.slice A n c] w fun e w' => e = .returned (.tuple #[.int .i64 (orL k : Nat), .nilIface]) ∧ On w w' := by
  have hn : k.length = n := by have := h.len; rw [ints_len] at this; exact this
  have hA := accept1 w A n c _ h
  rw [lerr_ok hk hl, errV_zero] at hA
  have P1 := (On.refl w).alloc (.cells #[.slice A n c] 22)
  have h1 := h.on P1
  have hcap := h.cap
  have hmax := h.max
  have HN := Lib.hid hn
  clear h hn
  go_enter Tryd.func36, Tryd.ntmps36
  go_wp2_with fail
  refine hA.mono ?_
  rintro e w1 ⟨rfl, rfl⟩
  generalize w.alloc (.cells #[.slice A n c] 22) = w1 at *
  clear hA
  have H := Lib.hid h1
  clear h1
  go_wp2
  go_loopw [5, 16] (fun u i wr => ∃ j : Nat, j ≤ n ∧ i = .int .i64 (j : Int) ∧ u = .int .i64 ((orL (k.take j) : Nat) : Int) ∧ w1 = wr) (fun _ i _ => n - (intOf i).toNat)
  case atStart => exact ⟨0, by omega, rfl, rfl, rfl⟩
  case round =>
    obtain ⟨j, hj, rfl, rfl, rfl⟩ := hrel
    by_cases hlt : j < n
    · have hjl : j < k.length := by rw [HN.out]; exact hlt
      obtain ⟨ad, e1, hb, hc⟩ := H.out.at_ j _ (ints_get hjl)
      cases e1
      have hst := orL_take hjl
      have hxm := getD_mem hjl
      have h24 : orL (k.take j) < 16777216 := orL_ok fun x hx => hk x (List.mem_of_mem_take hx)
      obtain ⟨x, hx⟩ : ∃ x, k.getD j 0 = x := ⟨_, rfl⟩
      obtain ⟨u, hu⟩ : ∃ u, orL (k.take j) = u := ⟨_, rfl⟩
      rw [hx] at hc hst hxm
      rw [hu] at hst h24 ⊢
      have hor := or_step u x h24 (hk x hxm)
      rw [← hst] at hor
      have HO := Lib.hid hor
      clear hx hu hst hxm h24 hor
      go_wp2
      go_roundw
      case rel => exact ⟨j + 1, by omega, by go_num, by rw [← HO.out], trivial⟩
      case measure => simp [intOf]; omega
    · obtain rfl : j = n := by omega
      have e0 : k.take j = k := List.take_of_length_le (by rw [HN.out]; omega)
      rw [e0]
      clear e0
      go_wp2
      go_ret2
      exact ⟨rfl, P1⟩
/-- what is left -/
def left (k : List Nat) (f s : Nat) : List Nat := (k.filter fun x => x &&& s == 0).map fun x => without x f
theorem left_ok {k : List Nat} (hk : Ok k) (f s : Nat) : Ok (left k f s) := fun z hz => by
  unfold left at hz
  rw [List.mem_map] at hz
  obtain ⟨x, hx, rfl⟩ := hz
  exact Nat.lt_of_le_of_lt (without_le x f) (hk x (List.mem_filter.1 hx).1)
theorem left_len (k : List Nat) (f s : Nat) : (left k f s).length ≤ k.length := by
  unfold left
  rw [List.length_map]
  exact List.length_filter_le _ _
theorem left_take {k : List Nat} {j : Nat} (h : j < k.length) (f s : Nat) : left (k.take (j + 1)) f s = if k.getD j 0 &&& s == 0 then left (k.take j) f s ++ [without (k.getD j 0) f] else left (k.take j) f s := by
  unfold left
  rw [take_get h, List.filter_append, List.map_append]
  cases hc : (k.getD j 0 &&& s == 0) <;> simp only [List.filter_cons, hc, List.filter_nil] <;> simp
end Go.Proofs.YtakkbemldccekaaDoor.Sb
