/-
  Package family: minimals, Product, Covers, Support, Restrict.
-/
import Derived.Test.YtibkpglgeincdaaGreatDoorSf7
namespace Go.Proofs.YtibkpglgeincdaaGreatDoor.Sb
open Go.RowKit
set_option linter.unusedVariables false
set_option maxRecDepth 100000
set_option maxHeartbeats 2000000 in
theorem minimals_ok (w : World) (A : Option Addr) (n c : Nat) (k : List Nat) (h : Rd w A n c (VI (ints k))) (hk : Ok k) (hl : k.length ≤ 1024)
    (B : Option Addr) (m d : Nat) (k2 : List Nat) (h2 : Rd w B m d (VI (ints k2))) (hk2 : Ok k2) (hl2 : k2.length ≤ 1024) :
    Calls Tryz.prog 42 #[.slice A n c, .slice B m d] w fun e w' => ∃ A n c B m d, e = .returned (.tuple #[.slice A n c, .slice B m d, .nilIface]) ∧ Rd w' A n c (VI (ints (minL k))) ∧ Rd w' B m d (VI (ints (minL k2))) ∧ On w w' := by
  have hn : k.length = n := by have := h.len; rw [ints_len] at this; exact this
  have hm : k2.length = m := by have := h2.len; rw [ints_len] at this; exact this
  have hA := accept2 w A n c _ h B m d _ h2
  rw [lerr_ok hk hl, if_pos rfl, lerr_ok hk2 hl2, errV_zero] at hA
  have P1 := (On.refl w).alloc (.cells #[.slice A n c, .slice B m d] 22)
  have h' := h.on P1
  have h2' := h2.on P1
  have hb1 := min_len1 hl
  have hb2 := min_len1 hl2
  clear h h2
  go_enter Tryz.func42, Tryz.ntmps42
  go_wp2_with fail
  refine hA.mono ?_
  rintro e w1 ⟨rfl, rfl⟩
  generalize w.alloc (.cells #[.slice A n c, .slice B m d] 22) = w1 at *
  clear hA
  have hM := minimal_any w1 A n c k h' hk (by omega)
  go_wp2_with fail
  refine hM.mono ?_
  rintro e w2 hg
  obtain ⟨A2, n2, c2, rfl, R2, P2⟩ := hg.ok hb1
  have hM2 := minimal_any w2 B m d k2 (h2'.on P2) hk2 (by omega)
  clear hM hg
  go_wp2_with fail
  refine hM2.mono ?_
  rintro e w3 hg
  obtain ⟨A3, n3, c3, rfl, R3, P3⟩ := hg.ok hb2
  clear hM2 hg
  go_wp2
  go_ret3
  exact ⟨_, _, _, _, _, _, rfl, R2.on P3, R3, (P1.trans P2).trans P3⟩
theorem minL_prod {a b : List Nat} (ha : Ok a) (hb : Ok b) : minL (uni2 (minL a) (minL b)) = minL (uni a b) :=
  minL_eq (uni2_ok (minL_ok ha) (minL_ok hb)) (uni_ok ha hb) fun s => by rw [cov_uni2, cov_uni, cov_min ha, cov_min hb]
set_option maxHeartbeats 2000000 in
theorem Product_ok (w : World) (A : Option Addr) (n c : Nat) (k : List Nat) (h : Rd w A n c (VI (ints k))) (hk : Ok k) (hl : k.length ≤ 1024)
    (B : Option Addr) (m d : Nat) (k2 : List Nat) (h2 : Rd w B m d (VI (ints k2))) (hk2 : Ok k2) (hl2 : k2.length ≤ 1024) :
    Calls Tryz.prog 22 #[.slice A n c, .slice B m d] w (GivesM w (minL (uni k k2))) := by
  have hMs := minimals_ok w A n c k h hk hl B m d k2 h2 hk2 hl2
  have hb1 := min_len1 hl
  have hb2 := min_len1 hl2
  have ho1 := minL_ok hk
  have ho2 := minL_ok hk2
  have hp := minL_prod hk hk2
  generalize minL k = ma at *
  generalize minL k2 = mb at *
  clear h h2
  go_enter Tryz.func22, Tryz.ntmps22
  go_wp2_with fail
  refine hMs.mono ?_
  rintro e w1 ⟨A1, n1, c1, B1, m1, d1, rfl, R1, R2, P1⟩
  have hU := unions_any w1 A1 n1 c1 ma R1 ho1 hb1 B1 m1 d1 mb R2 ho2 hb2
  clear hMs
  go_wp2_with fail
  refine hU.mono ?_
  rintro e w2 ⟨A2, n2, c2, rfl, R3, hsm, P2⟩
  have hM := minimal_any w2 A2 n2 c2 _ R3 (uni2_ok ho1 ho2) hsm
  rw [hp] at hM
  clear hU hp hsm
  go_wp2_with fail
  refine hM.mono ?_
  rintro e w3 ⟨P4, hres⟩
  have P : On w w3 := (P1.trans P2).trans P4
  rcases hres with ⟨hle, A3, n3, c3, rfl, R3⟩ | ⟨hgt, rfl⟩
  · have HLE := Lib.hid hle
    clear hle hM
    rw [errV_zero]
    go_wp2
    go_ret2
    exact ⟨P, .inl ⟨HLE.out, _, _, _, rfl, R3⟩⟩
  · have HGT := Lib.hid hgt
    clear hgt hM
    rw [errV_pos 4 (by decide)]
    go_wp2
    go_ret2
    exact ⟨P, .inr ⟨HGT.out, rfl⟩⟩
/-- the union -/
def orL : List Nat → Nat
  | [] => 0
  | x :: l => x ||| orL l
theorem orL_append (l k : List Nat) : orL (l ++ k) = orL l ||| orL k := by
  induction l with
  | nil => simp [orL]
  | cons x l ih => simp only [List.cons_append, orL, ih, Nat.or_assoc]
theorem orL_ok {l : List Nat} (h : Ok l) : orL l < 16777216 := by
  induction l with
  | nil => simp [orL]
  | cons x l ih => exact or_lt24 (h x (List.mem_cons_self ..)) (ih fun y hy => h y (List.mem_cons_of_mem _ hy))
theorem orL_take {l : List Nat} {j : Nat} (h : j < l.length) : orL (l.take (j + 1)) = orL (l.take j) ||| l.getD j 0 := by
  rw [take_get h, orL_append]; simp [orL]
set_option maxHeartbeats 1000000 in
theorem Support_ok (w : World) (A : Option Addr) (n c : Nat) (k : List Nat) (h : Rd w A n c (VI (ints k))) (hk : Ok k) (hl : k.length ≤ 1024) :
    Calls Tryz.prog 9 #[.slice A n c] w fun e w' => e = .returned (.tuple #[.int .i64 (orL k : Nat), .nilIface]) ∧ On w w' := by
  have hn : k.length = n := by have := h.len; rw [ints_len] at this; exact this
  have hA := accept1 w A n c _ h
  rw [lerr_ok hk hl, errV_zero] at hA
  have P1 := (On.refl w).alloc (.cells #[.slice A n c] 22)
  have h1 := h.on P1
  have hcap := h.cap
  have hmax := h.max
  have HN := Lib.hid hn
  clear h hn
  go_enter Tryz.func9, Tryz.ntmps9
  go_wp2_with fail
  refine hA.mono ?_
  rintro e w1 ⟨rfl, rfl⟩
  generalize w.alloc (.cells #[.slice A n c] 22) = w1 at *
  clear hA
  have H := Lib.hid h1
  clear h1
  go_wp2
  go_loopw [5, 16] (fun u i wr => ∃ j : Nat, j ≤ n ∧ i = .int .i64 (j : Int) ∧ u = .int .i64 ((orL (k.take j) : Nat) : Int) ∧ w1 = wr) (fun _ i _ => n - (intOf i).toNat)
  case atStart => exact ⟨0, by omega, rfl, rfl, rfl⟩
  case round =>
    obtain ⟨j, hj, rfl, rfl, rfl⟩ := hrel
    by_cases hlt : j < n
    · have hjl : j < k.length := by rw [HN.out]; exact hlt
      obtain ⟨ad, e1, hb, hc⟩ := H.out.at_ j _ (ints_get hjl)
      cases e1
      have hst := orL_take hjl
      have hxm := getD_mem hjl
      have h24 : orL (k.take j) < 16777216 := orL_ok fun x hx => hk x (List.mem_of_mem_take hx)
      obtain ⟨x, hx⟩ : ∃ x, k.getD j 0 = x := ⟨_, rfl⟩
      obtain ⟨u, hu⟩ : ∃ u, orL (k.take j) = u := ⟨_, rfl⟩
      rw [hx] at hc hst hxm
      rw [hu] at hst h24 ⊢
      have hor := or_step u x h24 (hk x hxm)
      rw [← hst] at hor
      have HO := Lib.hid hor
      clear hx hu hst hxm h24 hor
      go_wp2
      go_roundw
      case rel => exact ⟨j + 1, by omega, by go_num, by rw [← HO.out], trivial⟩
      case measure => simp [intOf]; omega
    · obtain rfl : j = n := by omega
      have e0 : k.take j = k := List.take_of_length_le (by rw [HN.out]; omega)
      rw [e0]
      clear e0
      go_wp2
      go_ret2
      exact ⟨rfl, P1⟩
/-- what is left -/
def left (k : List Nat) (f s : Nat) : List Nat := (k.filter fun x => x &&& s == 0).map fun x => without x f
theorem left_ok {k : List Nat} (hk : Ok k) (f s : Nat) : Ok (left k f s) := fun z hz => by
  unfold left at hz
  rw [List.mem_map] at hz
  obtain ⟨x, hx, rfl⟩ := hz
  exact Nat.lt_of_le_of_lt (without_le x f) (hk x (List.mem_filter.1 hx).1)
theorem left_len (k : List Nat) (f s : Nat) : (left k f s).length ≤ k.length := by
  unfold left
  rw [List.length_map]
  exact List.length_filter_le _ _
theorem left_take {k : List Nat} {j : Nat} (h : j < k.length) (f s : Nat) : left (k.take (j + 1)) f s = if k.getD j 0 &&& s == 0 then left (k.take j) f s ++ [without (k.getD j 0) f] else left (k.take j) f s := by
  unfold left
  rw [take_get h, List.filter_append, List.map_append]
  cases hc : (k.getD j 0 &&& s == 0) <;> simp only [List.filter_cons, hc, List.filter_nil] <;> simp
set_option maxHeartbeats 4000000 in
theorem Restrict_ok (w : World) (A : Option Addr) (n c : Nat) (k : List Nat) (h : Rd w A n c (VI (ints k))) (hk : Ok k) (hl : k.length ≤ 1024) (f s : Nat) (hf : f < 16777216) (hs : s < 16777216) (hfs : f &&& s = 0) :
    Calls Tryz.prog 23 #[.slice A n c, .int .i64 (f : Int), .int .i64 (s : Int)] w fun e w' => ∃ A n c, e = .returned (.tuple #[.slice A n c, .nilIface]) ∧ Rd w' A n c (VI (ints (minL (left k f s)))) ∧ On w w' := by
  have hn : k.length = n := by have := h.len; rw [ints_len] at this; exact this
  have hA := accept1 w A n c _ h
  rw [lerr_ok hk hl, errV_zero] at hA
  have P1 := (On.refl w).alloc (.cells #[.slice A n c] 22)
  have h1 := h.on P1
  have hcap := h.cap
  have hmax := h.max
  have hV := fun W => valid_any W (f : Int)
  have hV2 := fun W => valid_any W (s : Int)
  rw [in_range f hf] at hV
  rw [in_range s hs] at hV2
  have hand := and_nat f s hf hs
  rw [hfs] at hand
  have HN := Lib.hid hn
  clear h hn
  go_enter Tryz.func23, Tryz.ntmps23
  go_wp2_with fail
  refine hA.mono ?_
  rintro e w1 ⟨rfl, rfl⟩
  generalize w.alloc (.cells #[.slice A n c] 22) = w1 at *
  clear hA
  have H := Lib.hid h1
  clear h1
  go_wp2_with (first | (with_reducible refine (hV _).mono ?_; rintro e w' ⟨rfl, rfl⟩) | (with_reducible refine (hV2 _).mono ?_; rintro e w' ⟨rfl, rfl⟩))
  clear hV hV2 hand
  go_loopw [9, 34] (fun v i wr => ∃ j : Nat, j ≤ n ∧ i = .int .i64 (j : Int) ∧ wr.ownsRow w1.heap.size 3 1 v (left (k.take j) f s).length (VI (ints (left (k.take j) f s))) ∧ On w1 wr) (fun _ i _ => n - (intOf i).toNat)
  case atStart => exact ⟨0, by omega, rfl, row_nil _ _ _, On.refl _⟩
  case round =>
    obtain ⟨j, hj, rfl, hrow, hon⟩ := hrel
    obtain ⟨A4, c4, rfl⟩ := row_form hrow
    have HROW := Lib.hid hrow
    clear hrow
    by_cases hlt : j < n
    · have hjl : j < k.length := by rw [HN.out]; exact hlt
      obtain ⟨ad, e1, hb, hc⟩ := (H.out.on hon).at_ j _ (ints_get hjl)
      cases e1
      have hst := left_take hjl f s
      have hxm := getD_mem hjl
      have hll := left_len (k.take j) f s
      have htl : (k.take j).length ≤ 1024 := by rw [List.length_take]; omega
      have hb9 : (left (k.take j) f s).length + 1 ≤ 1000000000 := by omega
      obtain ⟨x, hx⟩ : ∃ x, k.getD j 0 = x := ⟨_, rfl⟩
      rw [hx] at hc hst hxm
      have hx24 := hk x hxm
      have ha1 := and_nat x s hx24 hs
      have ha2 := andNot_nat x f (by omega) (by omega)
      have hsz := hon.size
      obtain ⟨a, ha⟩ : ∃ a, x &&& s = a := ⟨_, rfl⟩
      obtain ⟨z, hz⟩ : ∃ z, without x f = z := ⟨_, rfl⟩
      rw [ha] at ha1 hst
      rw [hz] at ha2 hst
      have HST := Lib.hid hst
      have HB := Lib.hid hb9
      have HA2 := Lib.hid ha2
      clear hx hxm hst hll htl hb9 hx24 ha hz ha2
      by_cases h0 : a = 0
      · subst h0
        go_wp2_with (at_builtin; refine wpList_app rfl (.tmp 42) (.tmp 46) 22 rfl w1.heap.size 3 (.int .i64 0) 8 Tryz.underlying22 infoi rfl (by decide) (.slice A4 (left (k.take j) f s).length c4) _ (VI (ints (left (k.take j) f s))) rfl (row_alloc HROW.out _) (some ⟨wr.heap.size, 0, none⟩) 1 1 [.int .i64 (z : Int)] (by first | rfl | (rw [← HA2.out]; rfl)) (by first | exact rd_one _ _ _ | (rw [← HA2.out]; exact rd_one _ _ _)) (by simp [Value.oneCell']) HB.out (by simp; omega) ?_; intro v' w5 hown5 hgrow5 _)
        have hs2 : left (k.take (j + 1)) f s = left (k.take j) f s ++ [z] := by simpa using HST.out
        refine ⟨⟨j + 1, by omega, by go_num, ?_, ?_⟩, by simp [intOf]; omega⟩
        · rw [hs2, List.length_append, List.length_singleton, VI_snoc]; exact hown5
        · exact on_row (hon.alloc _) (row_alloc HROW.out _) (Nat.le_refl _) hgrow5
      · have hn0 : ¬ (a : Int) = 0 := by omega
        have hs2 : left (k.take (j + 1)) f s = left (k.take j) f s := by
          have e9 := HST.out
          rw [if_neg (by simpa using h0)] at e9
          exact e9
        have HS2 := Lib.hid hs2
        clear hs2
        go_wp2
        go_roundw
        case rel =>
          refine ⟨j + 1, by omega, by go_num, ?_, hon⟩
          rw [HS2.out]; exact HROW.out
        case measure => simp [intOf]; omega
    · obtain rfl : j = n := by omega
      have e0 : k.take j = k := List.take_of_length_le (by rw [HN.out]; omega)
      have hrd := rd_of_row HROW.out
      rw [e0] at hrd ⊢
      have hll := Nat.le_trans (left_len k f s) hl
      have hM := minimal_any wr A4 _ c4 _ hrd (left_ok hk f s) (by omega)
      have hb9 := min_len1 hll
      clear e0 hrd hll
      go_wp2_with fail
      refine hM.mono ?_
      rintro e w2 hg
      obtain ⟨A2, n2, c2, rfl, R2, P2⟩ := hg.ok hb9
      clear hM hg
      go_wp2
      go_ret2
      exact ⟨_, _, _, rfl, R2, (P1.trans hon).trans P2⟩
end Go.Proofs.YtibkpglgeincdaaGreatDoor.Sb
