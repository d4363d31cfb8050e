/-
  Texts of the lower functions, joined: Ref1, Ref2, DlMath, Knuth, Lead, Est, Subm, Dl, Div, Diva, Leh, Lehm, Lehw, Lehs, Gcds, Gcd.
-/
import Derived.Test.YtkchpagjkgmpmaaGreatNatA
import Derived.Deep.LoopGhost
import Derived.Deep.RegionHeld3
import Derived.Deep.DeepCutAuto
namespace Go.Proofs.YtkchpagjkgmpmaaGreat
open Go.RowKit
set_option linter.unusedVariables false
namespace Num
section
theorem word_is (w : World) (A : Option Addr) (n c : Nat) (xs : List Nat) (h : Rd w A n c xs) (i : Int) (k : Nat) (hi : i = (k : Int)) (h1 : k ≤ 1000000000) :
    Calls Tryz.prog 116 #[.slice A n c, .int .i64 i] w fun e w' => e = .returned (.int .u64 ((gw xs k : Nat) : Int)) ∧ w = w' := by
  subst hi
  have hcap := h.cap
  have hmax := h.max
  by_cases hk : k < n
  · obtain ⟨ad, rfl, hb, hcell⟩ := h.at_ k hk
    have hg := h.ok.get k
    go_enter Tryz.func116, Tryz.ntmps116
    go_wp2
    go_ret
    exact ⟨rfl, rfl⟩
  · have hg := Lib.hid (getD_ge (l := xs) (k := k) (by rw [h.len]; omega))
    go_enter Tryz.func116, Tryz.ntmps116
    go_wp2
    go_ret
    exact ⟨by rw [hg.out]; rfl, rfl⟩
theorem own_empty (w : World) (t : TypeId) (k : IntKind) : (w.alloc (.cells #[] t)).ownsRow w.heap.size t 1 (.slice (some ⟨w.heap.size, 0, none⟩) 0 0) 0 (VW k []) :=
  ⟨rfl, .inr ⟨w.heap.size, 0, #[], rfl, Nat.le_refl _, heap_alloc_new w _, Nat.le_refl _, by decide, rfl, rfl⟩⟩
theorem Rd.nil_app {w : World} {A : Option Addr} {n c : Nat} {xs : List Nat} (h : Rd w A n c xs) : A = none → n = 0 ∧ c = 0 := fun e => by
  have h1 := h.none_ e
  have h2 := h.cap
  omega
theorem Rd.cells_app {w : World} {A : Option Addr} {n c : Nat} {xs : List Nat} (h : Rd w A n c xs) : ∀ ad, A = some ad → ∀ j, j < n → w.cell? (ad.add j) = some (.int .u32 (gw xs j : Int)) := by
  intro ad e j hj
  obtain ⟨ad2, e2, hb, hc⟩ := h.at_ j hj
  rw [e] at e2
  injection e2 with e2
  subst e2
  exact hc
/-- Gives, and the memory is new -/
def GivesN (w : World) (v L : Nat) (e : Ending) (w' : World) : Prop := ∃ A n c, e = .returned (.slice A n c) ∧ Nm w' A n c v L ∧ On w w' ∧ ∀ ad, A = some ad → w.heap.size ≤ ad.block
def GivesN2 (w : World) (v L : Nat) (er : Value) (e : Ending) (w' : World) : Prop := ∃ A n c, e = .returned (.tuple #[.slice A n c, er]) ∧ Nm w' A n c v L ∧ On w w' ∧ ∀ ad, A = some ad → w.heap.size ≤ ad.block
theorem row_new {w : World} {base : Nat} {e : TypeId} {A : Option Addr} {n c : Nat} {xs : List Value} (h : w.ownsRow base e 1 (.slice A n c) n xs) : ∀ ad, A = some ad → base ≤ ad.block := by
  intro ad e1
  rcases h.2 with ⟨hv, _⟩ | ⟨g, cap, cur, hv, hb, _⟩
  · injection hv with h1 h2 h3
    rw [h1] at e1; cases e1
  · injection hv with h1 h2 h3
    rw [h1] at e1
    injection e1 with e1
    rw [← e1]; exact hb
set_option maxHeartbeats 800000 in
theorem rtrim_new (w : World) (A : Option Addr) (n c L : Nat) (xs : List Nat) (h : Rd w A n c xs) (hL : tl xs ≤ L) (hn : n ≤ 100000000) :
    Calls Tryz.prog 114 #[.slice A n c] w (GivesN w (val xs) L) := by
  have hlen := h.len
  have hcap := h.cap
  have hmax := h.max
  have htl : tl xs ≤ n := by rw [← h.len]; exact tl_le xs
  go_enter Tryz.func114, Tryz.ntmps114
  go_wp2
  go_loop [3] (fun i => ∃ k : Nat, k ≤ n ∧ i = .int .i64 k ∧ tl (xs.take k) = tl xs) (fun i => (intOf i).toNat)
  case atStart => exact ⟨n, Nat.le_refl _, rfl, by rw [List.take_of_length_le (by omega)]⟩
  case round =>
    obtain ⟨k, hk, rfl, ht⟩ := hrel
    have HT := Lib.hid ht
    clear ht
    by_cases hz : 0 < k ∧ gw xs (k - 1) = 0
    · obtain ⟨k, rfl⟩ : ∃ j, k = j + 1 := ⟨k - 1, by omega⟩
      rw [Nat.add_sub_cancel] at hz
      obtain ⟨ad, rfl, hb, hcell⟩ := h.at_ k (by omega)
      have H0 := Lib.hid hz.2
      rw [hz.2] at hcell
      clear hz
      go_wp2
      go_round
      case rel => exact ⟨k, by omega, by go_num, by rw [← HT.out, tl_take_zero xs k (by omega) H0.out]⟩
      case measure => first | (simp [intOf]; done) | (simp [intOf]; omega)
    · have hk2 : tl xs = k := by
        rw [← HT.out]
        rcases Nat.eq_zero_or_pos k with h0 | h0
        · subst h0; rfl
        · obtain ⟨j, rfl⟩ : ∃ j, k = j + 1 := ⟨k - 1, by omega⟩
          exact tl_take_pos xs j (by omega) (by intro e; exact hz ⟨h0, by rw [Nat.add_sub_cancel]; exact e⟩)
      have T := h.take (k := k) hk
      have TA := T.alloc (.cells #[] 66)
      have HO := Lib.hid (own_empty w 66 .u32)
      have HN := Lib.hid TA.nil_app
      have HC := Lib.hid TA.cells_app
      have HL := Lib.hid T.len
      have HK2 := Lib.hid hk2
      have HZ := Lib.hid hz
      clear hz hk2 TA
      rcases k with _ | k
      · clear hlen
        go_wp2_with (at_builtin; refine wpList_app rfl (.tmp 18) (.tmp 21) 22 rfl w.heap.size 66 (.int .u32 0) 4 Tryz.underlying22 info32 rfl (by decide) .u32 (.slice (some ⟨w.heap.size, 0, none⟩) 0 0) 0 [] rfl HO.out A 0 c (xs.take 0) rfl HL.out HN.out HC.out (by omega) (by simp) ?_; intro v' w1 hown1 hgrow hor)
        go_ret
        rw [Nat.zero_add, List.nil_append] at hown1
        obtain ⟨A', c', rfl⟩ := row_form hown1
        refine ⟨A', 0, c', rfl, ⟨[], rd_of_row Ok.nil hown1, clean_nil, (val_of_tl_zero xs HK2.out).symm, by omega⟩, Below.grown ((Below.refl _ _).alloc (Nat.le_refl _) _) hgrow (by simp) (fun k e => by cases e; exact Nat.le_refl _), row_new hown1⟩
      · obtain ⟨ad, rfl, hb, hcell⟩ := h.at_ k (by omega)
        have hne : (((gw xs k : Nat) : Int) == 0) = false := by
          have : gw xs k ≠ 0 := fun e => HZ.out ⟨by omega, by rw [Nat.add_sub_cancel]; exact e⟩
          simp; omega
        clear hlen
        go_wp2_with (at_builtin; refine wpList_app rfl (.tmp 18) (.tmp 21) 22 rfl w.heap.size 66 (.int .u32 0) 4 Tryz.underlying22 info32 rfl (by decide) .u32 (.slice (some ⟨w.heap.size, 0, none⟩) 0 0) 0 [] rfl HO.out (some ad) (k + 1) c (xs.take (k + 1)) rfl HL.out HN.out HC.out (by omega) (by simp) ?_; intro v' w1 hown1 hgrow hor)
        go_ret
        rw [Nat.zero_add, List.nil_append] at hown1
        obtain ⟨A', c', rfl⟩ := row_form hown1
        have hcl := clean_take xs
        have hvl := val_take_tl xs
        rw [HK2.out] at hcl hvl
        refine ⟨A', k + 1, c', rfl, ⟨xs.take (k + 1), rd_of_row (h.ok.take _) hown1, hcl, hvl, by rw [← HK2.out]; exact hL⟩, Below.grown ((Below.refl _ _).alloc (Nat.le_refl _) _) hgrow (by simp) (fun k e => by cases e; exact Nat.le_refl _), row_new hown1⟩
theorem rtrim_any (w : World) (A : Option Addr) (n c L : Nat) (xs : List Nat) (h : Rd w A n c xs) (hL : tl xs ≤ L) (hn : n ≤ 100000000) :
    Calls Tryz.prog 114 #[.slice A n c] w (Gives w (val xs) L) :=
  (rtrim_new w A n c L xs h hL hn).mono fun _ _ ⟨A, n, c, he, hN, hO, _⟩ => ⟨A, n, c, he, hN, hO⟩
end
section
theorem val_split_any (l : List Nat) (k : Nat) : val l = val (l.take k) + BB ^ k * val (l.drop k) := by
  rcases Nat.lt_or_ge l.length k with h | h
  · rw [List.take_of_length_le (by omega), List.drop_of_length_le (by omega)]; simp [val]
  · exact val_split l k h
theorem val_take_lt {l : List Nat} (h : Ok l) (k : Nat) : val (l.take k) < BB ^ k := by
  have h1 := val_lt (h.take k)
  have h2 : BB ^ (l.take k).length ≤ BB ^ k := Nat.pow_le_pow_right BB_pos (by rw [List.length_take]; omega)
  omega
theorem val_lt_word {a b : List Nat} (ha : Ok a) (k : Nat) (hd : val (a.drop (k + 1)) = val (b.drop (k + 1))) (hw : gw a k < gw b k) : val a < val b := by
  have h1 := val_split_any a k
  have h2 := val_split_any b k
  rw [val_drop_any a k] at h1
  rw [val_drop_any b k, ← hd] at h2
  have h3 := val_take_lt ha k
  generalize val (a.drop (k + 1)) = t at *
  have h4 : BB ^ k * (gw a k + BB * t) + BB ^ k ≤ BB ^ k * (gw b k + BB * t) := by
    rw [← Nat.mul_succ]; exact Nat.mul_le_mul_left _ (by omega)
  omega
theorem cmp_word' {xs ys : List Nat} (hx : Ok xs) (hy : Ok ys) (k : Nat) (hd : val (xs.drop (k + 1)) = val (ys.drop (k + 1))) (hne : gw xs k ≠ gw ys k) : cmpI (gw xs k) (gw ys k) = cmpI (val xs) (val ys) := by
  rcases Nat.lt_or_gt_of_ne hne with h | h
  · rw [cmpI_lt h, cmpI_lt (val_lt_word hx k hd h)]
  · rw [cmpI_gt h, cmpI_gt (val_lt_word hy k hd.symm h)]
theorem num_nil (w : World) : Calls Tryz.prog 14 #[.nilIface] w fun e w' => e = .returned (.int .i64 0) ∧ w = w' := by
  go_enter Tryz.func14, Tryz.ntmps14
  go_wp2
  go_ret
  exact ⟨rfl, rfl⟩
theorem num_err (w : World) (x : Int) : Calls Tryz.prog 14 #[.iface 51 (.int .i64 x)] w fun e w' => e = .returned (.int .i64 x) ∧ w = w' := by
  have hta : ∀ W, (Instr.typeAssert (.iface 51 (.int .i64 x)) 30 51 true).run Tryz.prog W = .ok (.tuple #[.int .i64 x, .bool true]) W := fun _ => by kernel_rfl
  go_enter Tryz.func14, Tryz.ntmps14
  go_wp2
  go_ret
  exact ⟨rfl, rfl⟩
set_option maxHeartbeats 800000 in
theorem rcmp_any (w : World) (A A' : Option Addr) (n c n' c' : Nat) (xs ys : List Nat) (h : Rd w A n c xs) (k : Rd w A' n' c' ys) (hn : n ≤ 100000000) (hn' : n' ≤ 100000000) :
    Calls Tryz.prog 85 #[.slice A n c, .slice A' n' c'] w fun e w' => e = .returned (.int .i64 (cmpI (val xs) (val ys))) ∧ w = w' := by
  obtain ⟨m, hm, h1, h2⟩ : ∃ m, max n n' = m ∧ n ≤ m ∧ n' ≤ m := ⟨_, rfl, by omega, by omega⟩
  have hmm : max (n : Int) (n' : Int) = (m : Int) := by omega
  have hml : m ≤ 100000000 := by omega
  have HM := Lib.hid hm
  clear hm
  go_enter Tryz.func85, Tryz.ntmps85
  go_wp2
  go_loop [5] (fun i => ∃ k : Nat, k ≤ m ∧ i = .int .i64 ((k : Int) - 1) ∧ val (xs.drop k) = val (ys.drop k)) (fun i => (intOf i + 1).toNat)
  case atStart => exact ⟨m, Nat.le_refl _, rfl, by rw [List.drop_of_length_le (by rw [h.len]; exact h1), List.drop_of_length_le (by rw [k.len]; exact h2)]⟩
  case round =>
    obtain ⟨j, hj, rfl, hd⟩ := hrel
    have HD := Lib.hid hd
    clear hd
    rcases j with _ | j
    · go_wp2
      go_ret
      have h0 := HD.out
      simp only [List.drop_zero] at h0
      exact ⟨by rw [cmpI_eq h0]; rfl, rfl⟩
    · rw [show ((j + 1 : Nat) : Int) - 1 = (j : Int) from by omega]
      have gx := h.ok.get j
      have gy := k.ok.get j
      rcases Nat.lt_trichotomy (gw xs j) (gw ys j) with hlt | heq | hgt
      · have HC := Lib.hid (cmp_word' h.ok k.ok j HD.out (by omega))
        have HL := Lib.hid (cmpI_lt hlt)
        go_wp2_with fail
        refine (word_is _ _ _ _ _ h _ j rfl (by omega)).mono ?_
        rintro e w' ⟨rfl, rfl⟩
        go_wp2_with fail
        refine (word_is _ _ _ _ _ k _ j rfl (by omega)).mono ?_
        rintro e w' ⟨rfl, rfl⟩
        go_wp2
        go_ret
        exact ⟨ret_int (by rw [← HC.out, HL.out]), rfl⟩
      · have HE := Lib.hid heq
        have hnl : ¬ gw xs j < gw ys j := by omega
        have hng : ¬ gw ys j < gw xs j := by omega
        clear heq
        go_wp2_with fail
        refine (word_is _ _ _ _ _ h _ j rfl (by omega)).mono ?_
        rintro e w' ⟨rfl, rfl⟩
        go_wp2_with fail
        refine (word_is _ _ _ _ _ k _ j rfl (by omega)).mono ?_
        rintro e w' ⟨rfl, rfl⟩
        go_wp2_with fail
        refine (word_is _ _ _ _ _ h _ j rfl (by omega)).mono ?_
        rintro e w' ⟨rfl, rfl⟩
        go_wp2_with fail
        refine (word_is _ _ _ _ _ k _ j rfl (by omega)).mono ?_
        rintro e w' ⟨rfl, rfl⟩
        go_wp2
        go_round
        case rel => exact ⟨j, by omega, by go_num, by rw [val_drop_any xs, val_drop_any ys, HD.out, HE.out]⟩
        case measure => first | (simp [intOf]; done) | (simp [intOf]; omega)
      · have HC := Lib.hid (cmp_word' h.ok k.ok j HD.out (by omega))
        have HL := Lib.hid (cmpI_gt hgt)
        have hnl : ¬ gw xs j < gw ys j := by omega
        go_wp2_with fail
        refine (word_is _ _ _ _ _ h _ j rfl (by omega)).mono ?_
        rintro e w' ⟨rfl, rfl⟩
        go_wp2_with fail
        refine (word_is _ _ _ _ _ k _ j rfl (by omega)).mono ?_
        rintro e w' ⟨rfl, rfl⟩
        go_wp2_with fail
        refine (word_is _ _ _ _ _ h _ j rfl (by omega)).mono ?_
        rintro e w' ⟨rfl, rfl⟩
        go_wp2_with fail
        refine (word_is _ _ _ _ _ k _ j rfl (by omega)).mono ?_
        rintro e w' ⟨rfl, rfl⟩
        go_wp2
        go_ret
        exact ⟨ret_int (by rw [← HC.out, HL.out]), rfl⟩
set_option maxHeartbeats 800000 in
theorem rof_any (w : World) (x : Int) (h0 : -9223372036854775808 ≤ x) (h1 : x ≤ 9223372036854775807) :
    Calls Tryz.prog 121 #[.int .i64 x] w (Gives w x.toNat 2) := by
  by_cases hx : x < 0
  · have hmx : max x 0 = 0 := by omega
    have hz : x.toNat = 0 := by omega
    rw [hz]
    clear hz
    go_enter Tryz.func121, Tryz.ntmps121
    go_wp2_with fail
    have R := rd_two w 66 0 0 (by decide) (by decide)
    refine (rtrim_any _ _ _ _ 2 _ R (tl_le _) (by decide)).mono ?_
    rintro e w2 ⟨A2, n2, c2, rfl, N2, P2⟩
    go_wp2
    go_ret
    exact ⟨_, _, _, rfl, N2, ((On.refl w).alloc _).trans P2⟩
  · obtain ⟨k, rfl⟩ := Int.eq_ofNat_of_zero_le (show 0 ≤ x from by omega)
    have hmx : max (k : Int) 0 = (k : Int) := by omega
    rw [Int.toNat_natCast]
    go_enter Tryz.func121, Tryz.ntmps121
    go_wp2_with fail
    rw [show ((k : Int) % 4294967296) = ((k % 4294967296 : Nat) : Int) from by omega, show ((k : Int) / 4294967296) = ((k / 4294967296 : Nat) : Int) from by omega]
    have R := rd_two w 66 (k % 4294967296) (k / 4294967296) (by omega) (by omega)
    have hv : val [k % 4294967296, k / 4294967296] = k := by simp only [val, BB]; omega
    have HV := Lib.hid hv
    clear hv
    refine (rtrim_any _ _ _ _ 2 _ R (tl_le _) (by decide)).mono ?_
    rintro e w2 ⟨A2, n2, c2, rfl, N2, P2⟩
    rw [HV.out] at N2
    go_wp2
    go_ret
    exact ⟨_, _, _, rfl, N2, ((On.refl w).alloc _).trans P2⟩
end
section
theorem top_part (rs : List Nat) (ok : Ok rs) (i lb V : Nat) (hlt : val (rs.drop (i + 1)) < V) (hV : V ≤ BB ^ lb) :
    val (rs.drop (i + (lb + 1))) = 0 ∧ val ((rs.drop i).take (lb + 1)) = val (rs.drop i) ∧ val (rs.drop i) < V * BB := by
  have h1 := val_drop_any rs i
  have h2 : gw rs i < BB := ok.get i
  have h3 : BB * (val (rs.drop (i + 1)) + 1) ≤ BB * V := Nat.mul_le_mul_left _ hlt
  have h4 : BB * V ≤ BB * BB ^ lb := Nat.mul_le_mul_left _ hV
  have h5 := val_split_any (rs.drop i) (lb + 1)
  rw [List.drop_drop] at h5
  have h6 : BB ^ (lb + 1) = BB * BB ^ lb := by rw [Nat.pow_succ, Nat.mul_comm]
  rw [Nat.mul_add, Nat.mul_one] at h3
  have h7 : val (rs.drop (i + (lb + 1))) = 0 := by
    rcases Nat.eq_zero_or_pos (val (rs.drop (i + (lb + 1)))) with h | h
    · exact h
    · have h8 : BB ^ (lb + 1) * 1 ≤ BB ^ (lb + 1) * val (rs.drop (i + (lb + 1))) := Nat.mul_le_mul_left _ h
      omega
  rw [h7, Nat.mul_zero, Nat.add_zero] at h5
  refine ⟨h7, h5.symm, ?_⟩
  rw [Nat.mul_comm V]
  omega
theorem dl_step (rs rs5 qs : List Nat) (i lb V U0 : Nat) (hi : i < qs.length) (hl : i + (lb + 1) ≤ rs.length) (h5 : rs5.length = lb + 1) (hV : 0 < V) (hz : val (rs.drop (i + (lb + 1))) = 0)
    (h : U0 = val (rs.take (i + 1)) + BB ^ (i + 1) * (val (rs.drop (i + 1)) + V * val (qs.drop (i + 1)))) (hv5 : val rs5 = val (rs.drop i) % V) :
    U0 = val ((rs.take i ++ rs5 ++ rs.drop (i + (lb + 1))).take i) + BB ^ i * (val ((rs.take i ++ rs5 ++ rs.drop (i + (lb + 1))).drop i) + V * val ((qs.set i (val (rs.drop i) / V)).drop i)) ∧ val ((rs.take i ++ rs5 ++ rs.drop (i + (lb + 1))).drop i) < V := by
  have hlt : (rs.take i).length = i := by rw [List.length_take]; omega
  have e1 : (rs.take i ++ rs5 ++ rs.drop (i + (lb + 1))).take i = rs.take i := by rw [List.append_assoc]; exact List.take_left' hlt
  have e2 : (rs.take i ++ rs5 ++ rs.drop (i + (lb + 1))).drop i = rs5 ++ rs.drop (i + (lb + 1)) := by rw [List.append_assoc]; exact List.drop_left' hlt
  have e3 : val (rs5 ++ rs.drop (i + (lb + 1))) = val (rs.drop i) % V := by rw [val_append, hz, Nat.mul_zero, Nat.add_zero, hv5]
  have e4 : val ((qs.set i (val (rs.drop i) / V)).drop i) = val (rs.drop i) / V + BB * val (qs.drop (i + 1)) := by
    rw [val_drop_any, gw_set _ _ _ _ hi, if_pos rfl]
    congr 2
    have : (qs.set i (val (rs.drop i) / V)).drop (i + 1) = qs.drop (i + 1) := by
      apply List.ext_getElem?
      intro j
      rw [List.getElem?_drop, List.getElem?_drop, List.getElem?_set, if_neg (by omega)]
    rw [this]
  rw [e1, e2, e3, e4]
  refine ⟨?_, Nat.mod_lt _ hV⟩
  have d := Nat.div_add_mod (val (rs.drop i)) V
  have h1 := val_drop_any rs i
  rw [h, val_take_succ_any]
  have e5 : val (rs.drop i) % V + V * (val (rs.drop i) / V + BB * val (qs.drop (i + 1))) = gw rs i + BB * (val (rs.drop (i + 1)) + V * val (qs.drop (i + 1))) := by
    rw [Nat.mul_add V, Nat.mul_add BB, ← Nat.mul_assoc V, ← Nat.mul_assoc BB V, Nat.mul_comm V BB]
    omega
  rw [e5, Nat.mul_add (BB ^ i), Nat.pow_succ, ← Nat.mul_assoc, Nat.add_assoc]
theorem dl_end (R V Q a b p : Nat) (hp : 0 < p) (hb : 0 < b) (hV : V = b * p) (h : a * p = R + V * Q) (hR : R < V) : Q = a / b ∧ R = (a % b) * p := by
  have h1 : a * p / V = Q := by rw [h, Nat.add_mul_div_left _ _ (by omega), Nat.div_eq_of_lt hR, Nat.zero_add]
  have h2 : a * p % V = R := by rw [h, Nat.add_mul_mod_self_left, Nat.mod_eq_of_lt hR]
  rw [hV] at h1 h2
  rw [Nat.mul_div_mul_right _ _ hp] at h1
  rw [Nat.mul_mod_mul_right] at h2
  exact ⟨h1.symm, h2.symm⟩
/-- the divisor shifted so that its first bit is set -/
theorem norm_div (bs : List Nat) (ok : Ok bs) (m t : Nat) (hl : bs.length = m + 1) (ht : gw bs m ≠ 0) (hs : nb (gw bs m) + t = 32) : 2 ^ (32 * (m + 1) - 1) ≤ val bs * 2 ^ t ∧ val bs * 2 ^ t < BB ^ (m + 1) := by
  have h1 := nb_val bs ok m hl ht
  have h2 := nb_lt (val bs)
  have hp : 0 < nb (gw bs m) := by unfold nb; rw [if_neg ht]; omega
  have hv0 : val bs ≠ 0 := by intro e; rw [e] at h1; simp [nb_zero] at h1; omega
  have h3 := nb_ge (val bs) hv0
  constructor
  · have : 2 ^ (32 * (m + 1) - 1) = 2 ^ (nb (val bs) - 1) * 2 ^ t := by rw [← Nat.pow_add]; congr 1; omega
    rw [this]
    exact Nat.mul_le_mul_right _ h3
  · have : BB ^ (m + 1) = 2 ^ nb (val bs) * 2 ^ t := by rw [← Nat.pow_add, show BB = 2 ^ 32 from rfl, ← Nat.pow_mul]; congr 1; omega
    rw [this]
    exact Nat.mul_lt_mul_of_pos_right h2 (Nat.pow_pos (by decide))
theorem norm_top (vs : List Nat) (ok : Ok vs) (m : Nat) (hl : vs.length = m + 1) (h : 2 ^ (32 * (m + 1) - 1) ≤ val vs) : 2147483648 ≤ gw vs m := by
  have h1 := val_split vs m (by omega)
  rw [val_drop_any, List.drop_of_length_le (by omega)] at h1
  simp only [val, Nat.mul_zero, Nat.add_zero] at h1
  have h2 := val_take_lt ok m
  have e : (2 : Nat) ^ (32 * (m + 1) - 1) = BB ^ m * 2147483648 := by
    rw [show BB = 2 ^ 32 from rfl, ← Nat.pow_mul, show (2147483648 : Nat) = 2 ^ 31 from rfl, ← Nat.pow_add]; congr 1
  rw [e] at h
  apply Nat.le_of_lt_succ
  apply Nat.lt_of_mul_lt_mul_left (a := BB ^ m)
  show BB ^ m * 2147483648 < BB ^ m * (gw vs m + 1)
  rw [Nat.mul_add, Nat.mul_one]
  omega
theorem dl_start (rs : List Nat) (okr : Ok rs) (ql m la s X Y : Nat) (h : val rs = X * 2 ^ s) (hX : X < BB ^ la) (hla : la ≤ ql + (m + 1)) (hy : BB ^ (m + 1) ≤ Y) : val (rs.drop ql) < Y * 2 ^ s := by
  rw [← val_div rs okr, h]
  apply Nat.div_lt_of_lt_mul
  have h1 : BB ^ la ≤ BB ^ ql * BB ^ (m + 1) := by rw [← Nat.pow_add]; exact Nat.pow_le_pow_right BB_pos hla
  have h2 : BB ^ ql * BB ^ (m + 1) ≤ BB ^ ql * Y := Nat.mul_le_mul_left _ hy
  rw [← Nat.mul_assoc]
  exact Nat.mul_lt_mul_of_pos_right (Nat.lt_of_lt_of_le hX (Nat.le_trans h1 h2)) (Nat.pow_pos (by decide))
theorem norm_tl (l : List Nat) (ok : Ok l) (m : Nat) (h1 : 2 ^ (32 * (m + 1) - 1) ≤ val l) (h2 : val l < BB ^ (m + 1)) : tl l = m + 1 := by
  have a := tl_len_of_lt (m + 1) h2
  rcases Nat.lt_or_ge (tl l) (m + 1) with h | h
  · exfalso
    have h3 := val_lt (ok.take (tl l))
    rw [val_take_tl, List.length_take, Nat.min_eq_left (tl_le _)] at h3
    have h4 : BB ^ tl l ≤ 2 ^ (32 * (m + 1) - 1) := by
      rw [show BB = 2 ^ 32 from rfl, ← Nat.pow_mul]
      exact Nat.pow_le_pow_right (by decide) (by omega)
    exact absurd (Nat.lt_of_lt_of_le h3 h4) (Nat.not_lt.2 h1)
  · exact Nat.le_antisymm a h
theorem norm_pos (v s k : Nat) (h : 2 ^ k ≤ v * 2 ^ s) : 0 < v := by
  rcases Nat.eq_zero_or_pos v with h0 | h0
  · rw [h0, Nat.zero_mul] at h
    exact absurd h (Nat.not_le.2 (Nat.pow_pos (by decide)))
  · exact h0
end
section
/-- the estimate is never less than the digit: the first guess. P is B^(n-1): V = f * P + v', U = t * P + u' -/
theorem est_first (U V q t f P : Nat) (hq : q * V ≤ U) (hV : f * P ≤ V) (hU : U < (t + 1) * P) (hf : 0 < f) : q ≤ t / f := by
  rw [Nat.le_div_iff_mul_le hf]
  apply Nat.le_of_lt_succ
  apply Nat.lt_of_mul_lt_mul_right (a := P)
  have h1 : q * (f * P) ≤ q * V := Nat.mul_le_mul_left _ hV
  rw [Nat.mul_assoc]
  exact Nat.lt_of_le_of_lt (Nat.le_trans h1 hq) hU
/-- .. and each correction. P is B^(n-2): the first two words of V are f, s, the first three of U are T -/
theorem est_step (U V q d f s T P B r u : Nat) (hq : q * V ≤ U) (hV : (f * B + s) * P ≤ V) (hU : U < (T + 1) * P) (hT : T = (d * f + r) * B + u) (hc : r * B + u < d * s) (hqd : q ≤ d) : q + 1 ≤ d := by
  rcases Nat.lt_or_ge q d with h | h
  · exact h
  · exfalso
    have hqd' : q = d := Nat.le_antisymm hqd h
    subst hqd'
    have h1 : T + 1 ≤ q * (f * B + s) := by
      rw [hT, Nat.mul_add, Nat.add_mul, ← Nat.mul_assoc]; omega
    have h2 : (T + 1) * P ≤ q * (f * B + s) * P := Nat.mul_le_mul_right _ h1
    have h3 : q * ((f * B + s) * P) ≤ q * V := Nat.mul_le_mul_left _ hV
    rw [Nat.mul_assoc] at h2
    omega
/-- at the end it is at most one too great: by the second test -/
theorem est_end1 (U V d f s T P B r u : Nat) (hV : V < (f * B + s + 1) * P) (hV2 : f * B * P ≤ V) (hf : 0 < f) (hU : T * P ≤ U) (hT : T = (d * f + r) * B + u) (hc : d * s ≤ r * B + u) (hd : d < B) : d * V < U + V := by
  have h1 : d * (f * B + s) ≤ T := by rw [hT, Nat.mul_add, Nat.add_mul, ← Nat.mul_assoc]; omega
  rcases Nat.eq_zero_or_pos d with h0 | h0
  · subst h0
    have : 0 < V := by
      rcases Nat.eq_zero_or_pos V with h | h
      · subst h
        have hP : P = 0 := by
          rcases Nat.eq_zero_or_pos P with hp | hp
          · exact hp
          · have : 0 < f * B * P := Nat.mul_pos (Nat.mul_pos hf (by omega)) hp
            omega
        rw [hP] at hV; omega
      · exact h
    omega
  · have h2 : d * V < d * ((f * B + s + 1) * P) := Nat.mul_lt_mul_of_pos_left hV h0
    have h3 : d * ((f * B + s + 1) * P) = d * (f * B + s) * P + d * P := by
      rw [Nat.add_mul, Nat.mul_add, ← Nat.mul_assoc, Nat.one_mul]
    have h4 : d * (f * B + s) * P ≤ T * P := Nat.mul_le_mul_right _ h1
    have h5 : d * P ≤ B * P := Nat.mul_le_mul_right _ (by omega)
    have h6 : B * P ≤ f * B * P := by rw [Nat.mul_assoc]; exact Nat.le_mul_of_pos_left _ hf
    omega
/-- .. by the first test -/
theorem est_end2 (U V d f t P B r : Nat) (hV : V < (f + 1) * P) (hP : 0 < P) (hU : t * P ≤ U) (hT : t = d * f + r) (hr : B ≤ r) (hd : d < B) : d * V ≤ U := by
  have h1 : d * V ≤ d * ((f + 1) * P) := Nat.mul_le_mul_left _ (by omega)
  have h2 : d * ((f + 1) * P) = (d * f + d) * P := by rw [← Nat.mul_assoc, Nat.mul_add, Nat.mul_one]
  have h3 : (d * f + d) * P ≤ t * P := Nat.mul_le_mul_right _ (by omega)
  omega
/-- what an estimate d of the digit of U by V is good for -/
def IsEst (U V d : Nat) : Prop := U / V ≤ d ∧ d ≤ U / V + 1
theorem isEst_of {U V d : Nat} (hV : 0 < V) (h1 : U / V ≤ d) (h2 : d * V < U + V) : IsEst U V d := by
  refine ⟨h1, ?_⟩
  rcases d with _ | d
  · exact Nat.zero_le _
  · have h3 : d * V < U := by rw [Nat.add_mul] at h2; omega
    have : d ≤ U / V := (Nat.le_div_iff_mul_le hV).2 (by omega)
    omega
/-- one step of the subtraction of a multiple -/
theorem subm_step (P a x v y c b S q : Nat) (hx : x < 4294967296) (hc : c < 4294967296) (hb : b ≤ 1) (h : S + v * q = a + P * (c + b)) :
    S + P * ((x + 8589934592 - (c + y * q) % 4294967296 - b) % 4294967296) + (v + P * y) * q = a + P * x + P * BB * ((c + y * q) / 4294967296 + (if x < (c + y * q) % 4294967296 + b then 1 else 0)) := by
  have h0 : (x + 8589934592 - (c + y * q) % 4294967296 - b) % 4294967296 + (c + y * q) % 4294967296 + b = x + 4294967296 * (if x < (c + y * q) % 4294967296 + b then 1 else 0) := by
    have := Nat.mod_lt (c + y * q) (show 0 < 4294967296 by decide)
    split <;> omega
  have h1 := Nat.div_add_mod (c + y * q) 4294967296
  generalize (if x < (c + y * q) % 4294967296 + b then 1 else 0) = b' at *
  generalize (x + 8589934592 - (c + y * q) % 4294967296 - b) % 4294967296 = D at *
  generalize (c + y * q) % 4294967296 = lo at *
  generalize (c + y * q) / 4294967296 = hi at *
  have h2 : P * (D + lo + b) = P * (x + 4294967296 * b') := by rw [h0]
  have h3 : P * (4294967296 * hi + lo) = P * (c + y * q) := by rw [h1]
  simp only [Nat.mul_add, Nat.add_mul, BB] at *
  rw [← Nat.mul_assoc] at h2 h3
  rw [Nat.mul_assoc P y q]
  omega
end
section
theorem val_top2 (l : List Nat) (h : Ok l) (m : Nat) (hl : l.length = m + 2) : ∃ low, low < BB ^ m ∧ val l = (gw l (m + 1) * BB + gw l m) * BB ^ m + low := by
  refine ⟨val (l.take m), by have := val_lt (h.take m); rwa [List.length_take, Nat.min_eq_left (by omega)] at this, ?_⟩
  rw [val_split l m (by omega), val_drop l m (by omega), val_drop l (m + 1) (by omega), List.drop_of_length_le (by omega)]
  simp only [val, Nat.mul_zero, Nat.add_zero]
  rw [Nat.mul_comm (BB ^ m), Nat.mul_comm BB, Nat.add_comm (gw l m)]
  omega
theorem val_top3 (l : List Nat) (h : Ok l) (m : Nat) (hl : l.length = m + 3) : ∃ low, low < BB ^ m ∧ val l = ((gw l (m + 2) * BB + gw l (m + 1)) * BB + gw l m) * BB ^ m + low := by
  refine ⟨val (l.take m), by have := val_lt (h.take m); rwa [List.length_take, Nat.min_eq_left (by omega)] at this, ?_⟩
  rw [val_split l m (by omega), val_drop l m (by omega), val_drop l (m + 1) (by omega), val_drop l (m + 2) (by omega), List.drop_of_length_le (by omega)]
  simp only [val, Nat.mul_zero, Nat.add_zero]
  rw [Nat.mul_comm (BB ^ m), Nat.mul_comm BB, Nat.mul_comm BB, Nat.add_comm (gw l (m + 1)), Nat.add_comm (gw l m)]
  omega
/-- what is known of a part U and the divisor V by their leading words -/
structure Lead (U V p0 p1 p2 q1 q2 P B : Nat) : Prop where
  pos : 0 < V
  lt : U < V * B
  pP : 0 < P
  v1 : (q1 * B + q2) * P ≤ V
  v2 : V < (q1 * B + q2 + 1) * P
  u1 : ((p0 * B + p1) * B + p2) * P ≤ U
  u2 : U < ((p0 * B + p1) * B + p2 + 1) * P
theorem lead_first {U V p0 p1 p2 q1 q2 P B : Nat} (h : Lead U V p0 p1 p2 q1 q2 P B) (hB : 0 < B) (hp2 : p2 < B) (hq1 : 0 < q1) : U / V ≤ (p0 * B + p1) / q1 := by
  refine est_first U V (U / V) (p0 * B + p1) q1 (B * P) (Nat.div_mul_le_self _ _) ?_ ?_ hq1
  · have := h.v1
    rw [Nat.add_mul, Nat.mul_assoc] at this
    exact Nat.le_trans (Nat.le_add_right _ _) this
  · have h1 := h.u2
    have h2 : ((p0 * B + p1) * B + p2 + 1) * P ≤ ((p0 * B + p1 + 1) * B) * P := Nat.mul_le_mul_right _ (by rw [Nat.add_mul (p0 * B + p1) 1]; omega)
    rw [Nat.mul_assoc] at h2
    omega
theorem lead_lt {U V p0 p1 p2 q1 q2 P B : Nat} (h : Lead U V p0 p1 p2 q1 q2 P B) : U / V < B := Nat.div_lt_of_lt_mul h.lt
theorem lead_step {U V p0 p1 p2 q1 q2 P B d r : Nat} (h : Lead U V p0 p1 p2 q1 q2 P B) (hd : U / V ≤ d) (ht : d * q1 + r = p0 * B + p1) (hc : r * B + p2 < d * q2) : U / V + 1 ≤ d :=
  est_step U V (U / V) d q1 q2 ((p0 * B + p1) * B + p2) P B r p2 (Nat.div_mul_le_self _ _) h.v1 h.u2 (by rw [ht]) hc hd
theorem lead_end1 {U V p0 p1 p2 q1 q2 P B d r : Nat} (h : Lead U V p0 p1 p2 q1 q2 P B) (hq1 : 0 < q1) (hd : U / V ≤ d) (hdB : d < B) (ht : d * q1 + r = p0 * B + p1) (hc : d * q2 ≤ r * B + p2) : IsEst U V d := by
  refine isEst_of h.pos hd (est_end1 U V d q1 q2 ((p0 * B + p1) * B + p2) P B r p2 h.v2 ?_ hq1 h.u1 (by rw [ht]) hc hdB)
  have := h.v1
  rw [Nat.add_mul] at this
  omega
theorem lead_end2 {U V p0 p1 p2 q1 q2 P B d r : Nat} (h : Lead U V p0 p1 p2 q1 q2 P B) (hB : 0 < B) (hq2 : q2 < B) (hd : U / V ≤ d) (hdB : d < B) (ht : d * q1 + r = p0 * B + p1) (hr : B ≤ r) : IsEst U V d := by
  have hpos := h.pos
  refine isEst_of hpos hd (Nat.lt_of_le_of_lt (est_end2 U V d q1 (p0 * B + p1) (B * P) B r ?_ (Nat.mul_pos hB h.pP) ?_ ht.symm hr hdB) (by omega))
  · have h1 := h.v2
    have h2 : (q1 * B + q2 + 1) * P ≤ ((q1 + 1) * B) * P := Nat.mul_le_mul_right _ (by rw [Nat.add_mul q1 1]; omega)
    rw [Nat.mul_assoc] at h2
    omega
  · have := h.u1
    rw [Nat.add_mul, Nat.mul_assoc] at this
    omega
theorem lead_of (us vs : List Nat) (hu : Ok us) (hv : Ok vs) (m : Nat) (l1 : us.length = m + 3) (l2 : vs.length = m + 2) (htop : 0 < gw vs (m + 1)) (hlt : val us < val vs * BB) :
    Lead (val us) (val vs) (gw us (m + 2)) (gw us (m + 1)) (gw us m) (gw vs (m + 1)) (gw vs m) (BB ^ m) BB := by
  obtain ⟨a, ha, e1⟩ := val_top3 us hu m l1
  obtain ⟨b, hb, e2⟩ := val_top2 vs hv m l2
  have hP : 0 < BB ^ m := Nat.pow_pos BB_pos
  refine ⟨?_, hlt, hP, by rw [e2]; omega, by rw [e2, Nat.add_mul _ 1]; omega, by rw [e1]; omega, by rw [e1, Nat.add_mul _ 1]; omega⟩
  rw [e2]
  have : 0 < (gw vs (m + 1) * BB + gw vs m) * BB ^ m := Nat.mul_pos (by have : 0 < gw vs (m + 1) * BB := Nat.mul_pos htop BB_pos
                                                                        omega) hP
  omega
end
section
theorem est_back (d q r t : Nat) (hd : 1 ≤ d) (h : d * q + r = t) : (d - 1) * q + (r + q) = t := by
  obtain ⟨g, rfl⟩ : ∃ x, d = x + 1 := ⟨d - 1, by omega⟩
  rw [Nat.add_mul, Nat.one_mul] at h
  rw [Nat.add_sub_cancel]
  omega
theorem pred_val (d : Nat) (hd : 1 ≤ d) : Value.int .u64 ((d : Int) - 1) = Value.int .u64 ((d - 1 : Nat) : Int) := by
  rw [show ((d - 1 : Nat) : Int) = (d : Int) - 1 from by omega]
theorem guess_nat (t q1 : Nat) (hq : 0 < q1) : ∃ d r, min (t / q1) 4294967295 = d ∧ d * q1 + r = t ∧ d < 4294967296 ∧ ∀ Q, Q ≤ t / q1 → Q < 4294967296 → Q ≤ d := by
  have h := (Nat.le_div_iff_mul_le hq).1 (Nat.min_le_left (t / q1) 4294967295)
  obtain ⟨r, hr⟩ := Nat.le.dest h
  generalize t / q1 = x at *
  exact ⟨min x 4294967295, r, rfl, hr, by omega, fun Q h1 h2 => by omega⟩
theorem guess_int (p0 p1 q1 : Nat) (hp0 : p0 < 4294967296) (hp1 : p1 < 4294967296) (hq1 : q1 < 4294967296) (hq : 0 < q1) : ∃ d r : Nat, min (((p0 : Int) * 4294967296 + (p1 : Int)) / (q1 : Int)) 4294967295 = (d : Int) ∧
    IntKind.u64.wrap ((p0 : Int) * 4294967296 + (p1 : Int) - IntKind.u64.wrap ((d : Int) * (q1 : Int))) = (r : Int) ∧ d * q1 + r = p0 * 4294967296 + p1 ∧ d < 4294967296 ∧ r ≤ 18446744073709551615 ∧ ∀ Q, Q ≤ (p0 * 4294967296 + p1) / q1 → Q < 4294967296 → Q ≤ d := by
  obtain ⟨t, ht⟩ : ∃ t, p0 * 4294967296 + p1 = t := ⟨_, rfl⟩
  have ht2 : (p0 : Int) * 4294967296 + (p1 : Int) = (t : Int) := by omega
  have ht3 : t ≤ 18446744073709551615 := by omega
  rw [ht2, ht]
  obtain ⟨d, r, e1, e2, e3, e4⟩ := guess_nat t q1 hq
  refine ⟨d, r, ?_, ?_, e2, e3, by omega, e4⟩
  · rw [← e1, ← Int.natCast_ediv]
    generalize t / q1 = x at *
    omega
  · rw [mul_wrap d q1 e3 hq1]
    generalize d * q1 = y at *
    rw [IntWalk.u64_in _ (by omega)]
    omega
set_option maxRecDepth 100000 in
set_option maxHeartbeats 1000000 in
theorem est_any (w : World) (A A' : Option Addr) (c c' m : Nat) (us vs : List Nat) (hu : Rd w A (m + 3) c us) (hv : Rd w A' (m + 2) c' vs) (hm : m ≤ 100000) (htop : 2147483648 ≤ gw vs (m + 1)) (hlt : val us < val vs * BB) :
    Calls Tryz.prog 133 #[.slice A (m + 3) c, .slice A' (m + 2) c'] w fun e w' => ∃ d, e = .returned (.int .u32 ((d : Nat) : Int)) ∧ IsEst (val us) (val vs) d ∧ d < 4294967296 ∧ On w w' := by
  obtain ⟨au, rfl, hbu, u0⟩ := hu.at_ (m + 2) (by omega)
  obtain ⟨au', e1, _, u1⟩ := hu.at_ (m + 1) (by omega)
  injection e1 with e1; subst e1
  obtain ⟨au', e1, _, u2⟩ := hu.at_ m (by omega)
  injection e1 with e1; subst e1
  obtain ⟨av, rfl, hbv, v1⟩ := hv.at_ (m + 1) (by omega)
  obtain ⟨av', e1, _, v2⟩ := hv.at_ m (by omega)
  injection e1 with e1; subst e1
  have b0 := hu.ok.get (m + 2)
  have b1 := hu.ok.get (m + 1)
  have b2 := hu.ok.get m
  have d1 := hv.ok.get (m + 1)
  have d2 := hv.ok.get m
  have HLD := Lib.hid (lead_of us vs hu.ok hv.ok m hu.len hv.len (by omega) hlt)
  have hc1 := hu.cap
  have hc2 := hv.cap
  have hm1 := hu.max
  have hm2 := hv.max
  have hor := or64' (gw us (m + 2)) (gw us (m + 1)) b0 b1
  have hd0 : 0 < gw vs (m + 1) := by omega
  clear hu hv hlt
  generalize gw us (m + 2) = p0 at *
  generalize gw us (m + 1) = p1 at *
  generalize gw us m = p2 at *
  generalize gw vs (m + 1) = q1 at *
  generalize gw vs m = q2 at *
  obtain ⟨N, hN⟩ : ∃ N, m + 2 = N := ⟨_, rfl⟩
  obtain ⟨N1, hN1⟩ : ∃ N, m + 3 = N := ⟨_, rfl⟩
  obtain ⟨M1, hM1⟩ : ∃ N, m + 1 = N := ⟨_, rfl⟩
  have w1 : IntKind.i64.wrap ((N : Int) - 1) = (M1 : Int) := by rw [IntWalk.i64_in _ (by omega)]; omega
  have w2 : IntKind.i64.wrap ((N : Int) - 2) = (m : Int) := by rw [IntWalk.i64_in _ (by omega)]; omega
  have i1 : M1 < N := by omega
  have i2 : m < N := by omega
  have i3 : N < N1 := by omega
  have i4 : M1 < N1 := by omega
  have i5 : m < N1 := by omega
  have i6 : N ≤ 100002 := by omega
  rw [hN] at u0
  rw [hM1] at u1 v1
  rw [hN1, hN]
  rw [hN1] at hc1
  rw [hN] at hc2
  clear hN hN1 hM1
  go_enter Tryz.func133, Tryz.ntmps133
  go_wp2
  go_quiet (fail)
  go_wp2
  go_quiet (fail)
  go_wp2
  have hon : On w (w.drewN (nq)) := (On.refl w).drewN _
  obtain ⟨d0, r0, c1, c3, hdr, hdB, hrB, hfirst⟩ := guess_int p0 p1 q1 b0 b1 d1 hd0
  rw [c1, c3]
  have HD0 : Hid (val us / val vs ≤ d0) := Lib.hid (hfirst _ (lead_first HLD.out BB_pos b2 hd0) (lead_lt HLD.out))
  have HDR := Lib.hid hdr
  clear c1 c3 hdr hfirst hor
  have hmul := fun x (hx : x < 4294967296) => mul_wrap x q2 hx d2
  have HMU := Lib.hid hmul
  clear hmul
  go_loopg [9, 10] d0 (fun d s9 s10 wr => ∃ r : Nat, s9 = .int .u64 (d : Int) ∧ s10 = .int .u64 (r : Int) ∧ val us / val vs ≤ d ∧ d < 4294967296 ∧ r ≤ 18446744073709551615 ∧ d * q1 + r = p0 * 4294967296 + p1 ∧ On w wr)
  case atStart => exact ⟨r0, rfl, rfl, HD0.out, hdB, hrB, HDR.out, (On.refl w).drewN _⟩
  case round =>
    obtain ⟨r, rfl, rfl, hq, hd, hr, hdr, hon⟩ := hrel
    have HQ := Lib.hid hq
    have HR := Lib.hid hdr
    clear hq hdr
    have u3 : wr.cell? (au.add m) = some (.int .u32 (p2 : Int)) := (Below.cell hon (by rw [block_of_add]; exact hbu)).trans u2
    by_cases h1 : r < 4294967296
    · obtain ⟨pq, hpq⟩ : ∃ x, gk * q2 = x := ⟨_, rfl⟩
      obtain ⟨rp, hrp⟩ : ∃ x, r * 4294967296 + p2 = x := ⟨_, rfl⟩
      have hor := or64' r p2 h1 b2
      have hmb := mul_bound gk q2 hd d2
      have HM := HMU.out gk hd
      rw [hrp] at hor
      rw [hpq] at hmb HM
      have h1i : (r : Int) ≤ 4294967295 := by omega
      have hdec : decide ((r : Int) < 4294967296) = true := decide_eq_true (by omega)
      by_cases h2 : rp < pq
      · have hst := lead_step HLD.out HQ.out HR.out (by rw [BB_eq, hrp, hpq]; exact h2)
        have HST := Lib.hid hst
        have hd1 : 1 ≤ gk := Nat.le_trans (Nat.le_add_left 1 _) hst
        have HRP := Lib.hid hrp
        have HPQ := Lib.hid hpq
        have e9 : Value.int .u64 ((gk : Int) - 1) = Value.int .u64 ((gk - 1 : Nat) : Int) := pred_val gk hd1
        have e10 : (gk - 1) * q1 + (r + q1) = p0 * 4294967296 + p1 := est_back _ _ _ _ hd1 HR.out
        have E10 := Lib.hid e10
        have E9 := Lib.hid e9
        have hrq : r + q1 ≤ 18446744073709551615 := by omega
        have HRQ := Lib.hid hrq
        clear hst hrp hpq hr h1 e9 e10 hrq
        go_wp2
        go_roundg (gk - 1)
        case measure => omega
        case rel =>
          have := HST.out
          exact ⟨r + q1, E9.out, by rw [Int.natCast_add], by omega, by omega, HRQ.out, E10.out, hon⟩
      · have hend := lead_end1 HLD.out hd0 HQ.out hd HR.out (by rw [BB_eq, hrp, hpq]; omega)
        have HEND := Lib.hid hend
        clear hend hrp hpq hr h1
        go_wp2
        go_ret
        exact ⟨gk, rfl, HEND.out, hd, hon⟩
    · have hend := lead_end2 HLD.out BB_pos d2 HQ.out hd HR.out (by rw [BB_eq]; omega)
      have HEND := Lib.hid hend
      have hdec : decide ((r : Int) < 4294967296) = false := decide_eq_false (by omega)
      clear hend hr h1
      go_wp2
      go_ret
      exact ⟨gk, rfl, HEND.out, hd, hon⟩
end
section
theorem subm_step' (P a x v y c b S q pq lo hi D b' : Nat) (hx : x < 4294967296) (hc : c < 4294967296) (hb : b ≤ 1) (hpq : y * q = pq) (hlo : (c + pq) % 4294967296 = lo) (hhi : (c + pq) / 4294967296 = hi) (hD : (x + 8589934592 - lo - b) % 4294967296 = D) (hb' : bw x lo b = b') (h : S + v * q = a + P * (c + b)) :
    S + P * D + (v + P * y) * q = a + P * x + P * BB * (hi + b') := by
  subst hb'; subst hD; subst hlo; subst hhi; subst hpq
  exact subm_step P a x v y c b S q hx hc hb h
/-- what is left when the borrow is settled -/
theorem subm_end (P U V d S b' : Nat) (hV : 0 < V) (hU : U < V * BB) (hVP : V * BB ≤ P) (hS : S < P) (hest : IsEst U V d) (h : S + V * d = U + P * b') (hb : b' ≤ 1) :
    (b' = 0 → d = U / V ∧ S = U % V) ∧ (b' = 1 → d = U / V + 1 ∧ S + V = P + U % V) := by
  obtain ⟨h1, h2⟩ := hest
  have h3 := Nat.div_add_mod U V
  have h4 := Nat.mod_lt U hV
  constructor
  · rintro rfl
    rw [Nat.mul_zero, Nat.add_zero] at h
    rcases Nat.lt_or_ge (U / V) d with hlt | hge
    · have : d = U / V + 1 := by omega
      rw [this, Nat.mul_add, Nat.mul_one] at h
      omega
    · have : d = U / V := by omega
      rw [this] at h
      exact ⟨this, by omega⟩
  · rintro rfl
    rw [Nat.mul_one] at h
    rcases Nat.lt_or_ge (U / V) d with hlt | hge
    · have : d = U / V + 1 := by omega
      rw [this, Nat.mul_add, Nat.mul_one] at h
      exact ⟨this, by omega⟩
    · have : d = U / V := by omega
      rw [this] at h
      omega
theorem pred32 (d q : Nat) (h : d = q + 1) (hd : d < 4294967296) : ((d : Int) - 1) % 4294967296 = (q : Int) := by omega
theorem fix_plain (P B x t z D V R : Nat) (hP : 0 < P) (h1 : x + P * t = z + V) (h2 : z + P * D + V = P * B + R) (hR : R < P) (hx : x < P) : D + t = B ∧ x = R := by
  have h3 : x + P * (D + t) = R + P * B := by rw [Nat.mul_add]; omega
  have h4 := congrArg (· / P) h3
  have h5 := congrArg (· % P) h3
  simp only [Nat.add_mul_div_left _ _ hP, Nat.div_eq_of_lt hx, Nat.div_eq_of_lt hR, Nat.zero_add, Nat.add_mul_mod_self_left, Nat.mod_eq_of_lt hx, Nat.mod_eq_of_lt hR] at h4 h5
  exact ⟨h4, h5⟩
/-- what subtractMultiple leaves -/
def SubmPost (w : World) (g : Nat) (cur : Array Value) (o n U V : Nat) (e : Ending) (w' : World) : Prop :=
  ∃ (cur' : Array Value) (rs : List Nat), e = .returned (.int .u32 ((U / V : Nat) : Int)) ∧ Own w' g 66 cur' ∧ Has cur' o rs ∧ rs.length = n ∧ val rs = U % V ∧ Same cur cur' o n ∧ Only g w w'
set_option maxRecDepth 100000 in
set_option maxHeartbeats 2000000 in
theorem subm_any (w : World) (g o N ca m cb : Nat) (cur : Array Value) (us : List Nat) (A : Option Addr) (vs : List Nat) (d : Nat) (hown : Own w g 66 cur) (hh : Has cur o us) (hN : N = m + 1) (hn : us.length = N) (hc : N ≤ ca) (hm : m ≤ 100000) (hm0 : 0 < m) (hv : Rd w A m cb vs) (hne : ∀ ad, A = some ad → ad.block ≠ g) (hd : d < 4294967296) (hpos : 0 < val vs) (hU : val us < val vs * BB) (hest : IsEst (val us) (val vs) d) :
    Calls Tryz.prog 132 #[.slice (some ⟨g, o, none⟩) N ca, .slice A m cb, .int .u32 (d : Int)] w (SubmPost w g cur o N (val us) (val vs)) := by
  have HN := Lib.hid hn
  have HO := Lib.hid hown
  have HE := Lib.hid hne
  have HU := Lib.hid hU
  have HP := Lib.hid hpos
  have HS := Lib.hid hest
  have HNN := Lib.hid hN
  have hNm : m < N := by omega
  have hNs : N ≤ 100001 := by omega
  clear hn hown hne hU hpos hest hN
  go_enter Tryz.func132, Tryz.ntmps132
  go_wp2
  go_loopw [7, 8, 14] (fun cy bo i wr => ∃ (k c b : Nat) (cur' : Array Value) (rs : List Nat), k ≤ m ∧ i = .int .i64 (k : Int) ∧ cy = .int .u64 (c : Int) ∧ bo = .int .u32 (b : Int) ∧ c < 4294967296 ∧ b ≤ 1 ∧ Own wr g 66 cur' ∧ Has cur' o rs ∧ rs.length = N ∧ rs.drop k = us.drop k ∧ val (rs.take k) + val (vs.take k) * d = val (us.take k) + BB ^ k * (c + b) ∧ Same cur cur' o N ∧ Only g w wr) (fun _ _ i _ => m - (intOf i).toNat)
  case atStart => exact ⟨0, 0, 0, cur, us, by omega, rfl, rfl, rfl, by decide, by omega, HO.out, hh, HN.out, rfl, by simp [val], Same.refl _ _ _, Only.refl _ _⟩
  case round =>
    obtain ⟨k, c, b, cur', rs, hk, rfl, rfl, rfl, hcl, hb, hown', hh', hl', hdk, hvk, hsame, honly⟩ := hrel
    have H1 := Lib.hid hl'
    have H2 := Lib.hid hdk
    have H3 := Lib.hid hvk
    have H4 := Lib.hid hown'
    clear hl' hdk hvk hown'
    by_cases hlt : k < m
    · obtain ⟨ad, rfl, hbk, hca⟩ := (hv.only honly HE.out).at_ k hlt
      have hy := hv.ok.get k
      have hx := hh'.ok.get k
      have hw := hh'.get k (by rw [H1.out]; omega)
      have hcell : wr.cell? ⟨g, o + k, none⟩ = some (.int .u32 ((gw rs k : Nat) : Int)) := (H4.out.cell _).trans hw
      have hfroz : wr.frozen? ⟨g, o + k, none⟩ = false := H4.out.frozen _
      have hkN : k < N := by omega
      clear hw
      obtain ⟨pq, hpq⟩ : ∃ x, gw vs k * d = x := ⟨_, rfl⟩
      have hmb := mul_bound (gw vs k) d hy hd
      have HM := mul_wrap (gw vs k) d hy hd
      rw [hpq] at hmb HM
      obtain ⟨lo, hlo⟩ : ∃ x, (c + pq) % 4294967296 = x := ⟨_, rfl⟩
      obtain ⟨hi, hhi⟩ : ∃ x, (c + pq) / 4294967296 = x := ⟨_, rfl⟩
      have hlob : lo < 4294967296 := by omega
      have hhib : hi < 4294967296 := by omega
      have HLO : Hid (((c : Int) + (pq : Int)) % 4294967296 = (lo : Int)) := Lib.hid (by omega)
      have HHI : Hid (((c : Int) + (pq : Int)) / 4294967296 = (hi : Int)) := Lib.hid (by omega)
      have HPQ := Lib.hid hpq
      have HL := Lib.hid hlo
      have HH := Lib.hid hhi
      clear hpq hlo hhi
      go_wp2_with fail
      rw [HLO.out]
      refine (sub32_any _ (gw rs k) lo b hx hlob hb).mono ?_
      rintro e w' ⟨rfl, rfl⟩
      obtain ⟨D, hD⟩ : ∃ x, (gw rs k + 8589934592 - lo - b) % 4294967296 = x := ⟨_, rfl⟩
      obtain ⟨b', hb'⟩ : ∃ x, bw (gw rs k) lo b = x := ⟨_, rfl⟩
      have hDb : D < 4294967296 := by omega
      have hbb : b' ≤ 1 := by rw [← hb']; exact bw_le _ _ _
      rw [hD, hb']
      have HD := Lib.hid hD
      have HB := Lib.hid hb'
      clear hD hb'
      have hdd := H2.out
      have hgs : gw us k = gw rs k := by
        have h1 := getD_drop us k 0
        have h2 := getD_drop rs k 0
        rw [← hdd] at h1
        rw [Nat.add_zero] at h1 h2
        omega
      have HST := Lib.hid (subm_step' (BB ^ k) (val (us.take k)) (gw rs k) (val (vs.take k)) (gw vs k) c b (val (rs.take k)) d pq lo hi D b' hx hcl hb HPQ.out HL.out HH.out HD.out HB.out H3.out)
      have HGS := Lib.hid hgs
      have HDD := Lib.hid hdd
      clear hgs hdd
      go_wp2
      rw [HHI.out]
      refine ⟨⟨k + 1, hi, b', _, _, by omega, by go_num, rfl, rfl, hhib, hbb, H4.out.set_ _ _, hh'.set_ (by rw [H1.out]; omega) hDb, by rw [List.length_set, H1.out], ?_, ?_, hsame.set_ hkN _, honly.set_ _ _⟩, by simp [intOf]; omega⟩
      · rw [drop_set_same, ← List.drop_drop, ← List.drop_drop, HDD.out]
      · rw [set_take_succ _ _ _ (by rw [H1.out]; omega), val_take_succ_any us, val_take_succ_any vs, HGS.out, Nat.pow_succ]
        exact HST.out
    · obtain rfl : k = m := by omega
      have hx := hh'.ok.get k
      have hw := hh'.get k (by rw [H1.out]; omega)
      have hcell : wr.cell? ⟨g, o + k, none⟩ = some (.int .u32 ((gw rs k : Nat) : Int)) := (H4.out.cell _).trans hw
      have hfroz : wr.frozen? ⟨g, o + k, none⟩ = false := H4.out.frozen _
      clear hw
      go_wp2_with fail
      refine (sub32_any _ (gw rs k) c b hx hcl hb).mono ?_
      rintro e w' ⟨rfl, rfl⟩
      obtain ⟨D, hD⟩ : ∃ x, (gw rs k + 8589934592 - c - b) % 4294967296 = x := ⟨_, rfl⟩
      obtain ⟨b', hb'⟩ : ∃ x, bw (gw rs k) c b = x := ⟨_, rfl⟩
      have hDb : D < 4294967296 := by omega
      have hbb : b' ≤ 1 := by rw [← hb']; exact bw_le _ _ _
      rw [hD, hb']
      have hl1 : us.length = k + 1 := by rw [HN.out, HNN.out]
      have hl2 : rs.length = k + 1 := by rw [H1.out, HNN.out]
      have hgs : gw us k = gw rs k := by
        have h1 := getD_drop us k 0
        have h2 := getD_drop rs k 0
        rw [← H2.out] at h1
        rw [Nat.add_zero] at h1 h2
        omega
      have hst := subm_step' (BB ^ k) (val (us.take k)) (gw rs k) (val (vs.take k)) 0 c b (val (rs.take k)) d 0 c 0 D b' hx hcl hb (by omega) (by rw [Nat.add_zero, Nat.mod_eq_of_lt hcl]) (by rw [Nat.add_zero, Nat.div_eq_of_lt hcl]) hD hb' H3.out
      have hvs : vs.take k = vs := List.take_of_length_le (by rw [hv.len]; exact Nat.le_refl _)
      have hus : val (us.take k) + BB ^ k * gw us k = val us := by
        rw [← val_take_succ_any, List.take_of_length_le (by omega)]
      have hval2 : val (rs.set k D) = val (rs.take k) + BB ^ k * D := by
        rw [← set_take_succ rs k D (by omega), List.take_of_length_le (by rw [List.length_set]; omega)]
      rw [Nat.mul_zero, Nat.add_zero, hvs, ← hgs, hus, Nat.zero_add, ← hval2] at hst
      have hS := val_lt (hh'.ok.set k D hDb)
      rw [List.length_set, hl2, Nat.pow_succ] at hS
      have hvl := val_lt hv.ok
      rw [hv.len] at hvl
      have hend := subm_end (BB ^ k * BB) (val us) (val vs) d (val (rs.set k D)) b' HP.out HU.out (Nat.mul_le_mul_right _ (Nat.le_of_lt hvl)) hS HS.out hst hbb
      have HEND := Lib.hid hend
      have HLS : Hid ((rs.set k D).length = N) := Lib.hid (by rw [List.length_set, H1.out])
      have HHS := hh'.set_ (j := k) (x := D) (by omega) hDb
      have HVL := Lib.hid hvl
      have HV2 := Lib.hid hval2
      have HGD : Hid (gw (rs.set k D) k = D) := Lib.hid (by rw [gw_set _ _ _ _ (by omega), if_pos rfl])
      clear hD hb' hl1 hl2 hgs hst hvs hus hval2 hS hvl hend
      have HOW := H4.out.set_ (o + k) (.int .u32 (D : Int))
      have hsame2 := hsame.set_ hNm (.int .u32 (D : Int))
      have honly2 := honly.set_ (o + k) (.int .u32 (D : Int))
      rcases Nat.eq_zero_or_pos b' with h0 | h0
      · have E := Lib.hid (HEND.out.1 h0)
        subst h0
        clear HEND
        go_wp2
        go_ret
        exact ⟨_, _, ret_int (by rw [E.out.1]), HOW, HHS, HLS.out, E.out.2, hsame2, honly2⟩
      · have E := Lib.hid (HEND.out.2 (by omega))
        obtain rfl : b' = 1 := by omega
        clear HEND
        go_wp2
        generalize wr.setCell ⟨g, o + k, none⟩ (.int .u32 (D : Int)) = ws at *
        generalize hzs : rs.set k D = zs at *
        have hzl := HLS.out
        have hc3 : ws.cell? ⟨g, o + k, none⟩ = some (.int .u32 (D : Int)) := by
          have h1 := (HOW.cell (o + k)).trans (HHS.get k (by omega))
          rw [HGD.out] at h1
          exact h1
        have hc4 : ws.frozen? ⟨g, o + k, none⟩ = false := HOW.frozen _
        have hc3i : (0 : Int) ≤ (k : Int) := by omega
        have hc3j : (k : Int) < (N : Int) := by omega
        have HCU := Lib.hid (show (cur'.setIfInBounds (o + k) (Value.int .u32 (D : Int)))[o + k]? = some (.int .u32 (D : Int)) from by have h1 := HHS.get k (by omega); rw [HGD.out] at h1; exact h1)
        have HZL := Lib.hid hzl
        have HVS := Lib.hid (hv.only honly2 HE.out)
        clear hzl hzs
        go_region_with (go_at_call 127; refine (addm_any _ g o N ca k cb _ zs A vs _ (HOW.drewN _) HHS HZL.out (by omega) (by omega) (HVS.out.drewN _) (fun _ => HE.out) (by omega) (by decide) (by decide)).mono ?_; rintro e w5 ⟨t, cur5, xs5, rfl, ht5, ho5, hh5, hl5, hd5, hv5, hsame5, honly5⟩; have hc5 := (ho5.cell (o + k)).trans ((hsame5.2 (o + k) (.inr (Nat.le_refl _))).trans HCU.out); have hc6 : w5.frozen? ⟨g, o + k, none⟩ = false := ho5.frozen _; have HO5 := Lib.hid ho5; have HL5 := Lib.hid hl5; have HV5 := Lib.hid hv5; have HD5 := Lib.hid hd5; clear ho5 hl5 hv5 hd5)
        all_goals (go_wp2; go_ret)
        all_goals
          have hz1 : val zs = val (zs.take k) + BB ^ k * D := by
            rw [← HGD.out, ← val_take_succ_any, List.take_of_length_le (by rw [HZL.out, HNN.out]; exact Nat.le_refl _)]
          have hx1 : val (xs5.take k) < BB ^ k := by
            have h1 := val_lt (hh5.ok.take k)
            rwa [List.length_take, HL5.out, HZL.out, HNN.out, Nat.min_eq_left (Nat.le_succ k)] at h1
          have hfix := fix_plain (BB ^ k) BB (val (xs5.take k)) t (val (zs.take k)) D (val vs) (val us % val vs) (Nat.pow_pos BB_pos) (by have h1 := HV5.out; rwa [show (1 : Int).toNat = 1 from rfl, Nat.mul_one] at h1) (by rw [← hz1]; exact E.out.2) (Nat.lt_trans (Nat.mod_lt _ HP.out) HVL.out) hx1
          have hdt : ((D : Int) + (t : Int)) % 4294967296 = ((0 : Nat) : Int) := by
            have h1 := hfix.1
            rw [BB_eq] at h1
            omega
          have hdd : ((d : Int) - 1) % 4294967296 = ((val us / val vs : Nat) : Int) := pred32 d _ E.out.1 hd
          rw [hdt]
          have hlen : xs5.length = k + 1 := by rw [HL5.out, HZL.out, HNN.out]
          refine ⟨_, _, ret_int hdd, HO5.out.set_ _ _, hh5.set_ (j := k) (x := 0) (by omega) (by decide), by rw [List.length_set, HL5.out, HZL.out], ?_, ?_, ((honly2.drewN _).trans honly5).set_ _ _⟩
          · have h1 := set_take_succ xs5 k 0 (by omega)
            rw [List.take_of_length_le (by rw [List.length_set]; omega)] at h1
            rw [h1, Nat.mul_zero, Nat.add_zero]
            exact hfix.2
          · exact ((hsame2.trans (hsame5.wide (Nat.le_refl _) (by omega))).set_ hNm _)
end
section
theorem est_wrap (w : World) (A A' : Option Addr) (c c' m N N1 : Nat) (us vs : List Nat) (hN : m + 2 = N) (hN1 : N1 = N + 1) (hu : Rd w A N1 c us) (hv : Rd w A' N c' vs) (hm : m ≤ 100000) (htop : 2147483648 ≤ gw vs (m + 1)) (hlt : val us < val vs * BB) :
    Calls Tryz.prog 133 #[.slice A N1 c, .slice A' N c'] w fun e w' => ∃ d, e = .returned (.int .u32 ((d : Nat) : Int)) ∧ IsEst (val us) (val vs) d ∧ d < 4294967296 ∧ On w w' := by
  subst hN; subst hN1
  exact est_any w A A' c c' m us vs hu hv hm htop hlt
/-- quotient and rest, without an error -/
def QR2 (w : World) (a b L M : Nat) (e : Ending) (w' : World) : Prop :=
  ∃ A n c A' n' c', e = .returned (.tuple #[.slice A n c, .slice A' n' c']) ∧ Nm w' A n c (a / b) L ∧ Nm w' A' n' c' (a % b) M ∧ On w w'
set_option maxRecDepth 100000 in
set_option maxHeartbeats 2000000 in
theorem divlong_any (w : World) (A A' : Option Addr) (la ca m cb : Nat) (xs ys : List Nat) (h : Rd w A la ca xs) (k : Rd w A' (m + 2) cb ys) (htop : gw ys (m + 1) ≠ 0) (hle : m + 2 ≤ la) (hla : la ≤ 10000) :
    Calls Tryz.prog 108 #[.slice A la ca, .slice A' (m + 2) cb] w (QR2 w (val xs) (val ys) la (m + 2)) := by
  obtain ⟨N, hN⟩ : ∃ N, m + 2 = N := ⟨_, rfl⟩
  obtain ⟨M1, hM1⟩ : ∃ N, m + 1 = N := ⟨_, rfl⟩
  obtain ⟨ab, rfl, hbb, hcb⟩ := k.at_ (m + 1) (by omega)
  have hyb := k.ok.get (m + 1)
  have hkc := k.cap
  have hkm := k.max
  have hnb : nb (gw ys (m + 1)) ≤ 32 := (nb_le_iff _ _).2 (by omega)
  have hnp : 0 < nb (gw ys (m + 1)) := by unfold nb; rw [if_neg htop]; omega
  obtain ⟨s, hs⟩ : ∃ s, nb (gw ys (m + 1)) + s = 32 := ⟨32 - nb (gw ys (m + 1)), by omega⟩
  have HN := Lib.hid (norm_div ys k.ok (m + 1) s k.len htop hs)
  have HYG := Lib.hid (clean_ge (clean_of_last (m + 1) k.len htop) (m + 1) k.len)
  have HXL : Hid (val xs < BB ^ la) := by have := val_lt h.ok; rw [h.len] at this; exact this
  have HBP : Hid (0 < val ys) := norm_pos _ _ _ HN.out.1
  have HB := Lib.hid (bitLen_nb (gw ys (m + 1)) (by omega))
  have hs31 : s ≤ 31 := by omega
  have hsb : (32 : Int) - ((nb (gw ys (m + 1)) : Nat) : Int) = (s : Int) := by omega
  have HSB := Lib.hid hsb
  clear hsb hs hnb hnp htop
  have w1 : IntKind.i64.wrap ((N : Int) - 1) = (M1 : Int) := by rw [IntWalk.i64_in _ (by omega)]; omega
  have i1 : M1 < N := by omega
  have i2 : N ≤ m + 2 := by omega
  have i3 : m + 2 ≤ N := by omega
  have i4 : N ≤ 10000 := by omega
  have k2 : Rd w (some ab) N cb ys := by rw [← hN]; exact k
  rw [hM1] at hcb hyb HB HSB
  rw [hN]
  rw [hN] at hkc
  have HNN := Lib.hid hN
  clear hN hM1 k
  go_enter Tryz.func108, Tryz.ntmps108
  go_wp2_with fail
  refine (Tryz.bits_LeadingZeros32 ((gw ys M1 : Nat) : Int) _ (by omega) (by omega)).mono ?_
  rintro e w' ⟨rfl, hw⟩
  rw [hw]
  clear hw w'
  rw [Int.toNat_natCast, HB.out, HSB.out]
  go_wp2_with fail
  refine (shl_any _ _ _ _ _ k2 (by omega) _ (by omega) (by omega)).mono ?_
  rintro e w1 ⟨g1, cur1, vs1, rfl, hg1, ho1, hh1, hl1, hv1, hon1⟩
  rw [Int.toNat_natCast] at hl1 hv1 ⊢
  rw [show N + s / 32 + 1 = N + 1 from by omega] at hl1 ⊢
  have R1 := Rd.own (n := N + 1) (c := N + 1) ho1 hh1 hl1 (Nat.le_refl _) (by omega)
  have htl : tl vs1 = N := by rw [← HNN.out]; exact norm_tl vs1 hh1.ok (m + 1) (by rw [hv1]; exact HN.out.1) (by rw [hv1]; exact HN.out.2)
  have RV := R1.take (k := N) (by omega)
  have hvv : val (vs1.take N) = val ys * 2 ^ s := by rw [← htl, val_take_tl, hv1]
  have HTL := Lib.hid htl
  have hg1l := ho1.lt
  clear hl1 hv1 hh1 ho1 htl
  generalize hvs : vs1.take N = vs at *
  have HVV := Lib.hid hvv
  clear hvs hvv
  go_wp2_with fail
  refine (trim_any _ _ _ _ _ R1).mono ?_
  rintro e w' ⟨rfl, rfl⟩
  rw [HTL.out]
  clear R1 HTL
  go_wp2_with fail
  refine (shl_any _ _ _ _ _ (h.on hon1) (by omega) _ (by omega) (by omega)).mono ?_
  rintro e w2 ⟨g2, cur2, rs0, rfl, hg2, ho2, hh2, hl2, hv2, hon2⟩
  rw [Int.toNat_natCast] at hl2 hv2 ⊢
  rw [show la + s / 32 + 1 = la + 1 from by omega] at hl2 ⊢
  have RV2 := RV.on hon2
  have hg2l := ho2.lt
  have hg12 : g1 < g2 := by omega
  have HL2 := Lib.hid hl2
  have HV2 := Lib.hid hv2
  have HO2 := Lib.hid ho2
  have hon := hon1.trans hon2
  clear hl2 hv2 ho2 RV hon1 hon2
  obtain ⟨ql, hql1, hql2⟩ : ∃ ql, ql + (m + 1) ≤ la ∧ la ≤ ql + (m + 1) := ⟨la - (m + 1), by omega, by omega⟩
  have hmk := run_mk ql (by omega) w2
  rw [show ((ql : Nat) : Int) = (la : Int) - (N : Int) + 1 from by omega] at hmk
  have hvl : vs.length = N := RV2.len
  have HTOP := Lib.hid (norm_top vs RV2.ok (m + 1) (by rw [hvl, HNN.out]) (by rw [HVV.out]; exact HN.out.1))
  have HVB : Hid (val vs ≤ BB ^ N) := by rw [← hvl]; exact Nat.le_of_lt (val_lt RV2.ok)
  have HVP : Hid (0 < val vs) := by rw [HVV.out]; exact Nat.mul_pos HBP.out (Nat.pow_pos (by decide))
  have HST : Hid (val (rs0.drop ql) < val vs) := by rw [HVV.out]; exact dl_start rs0 hh2.ok ql m la s (val xs) (val ys) HV2.out HXL.out hql2 HYG.out
  clear hvl
  go_wp2
  go_loopw [9] (fun i wr => ∃ (k : Nat) (c2 : Array Value) (rs : List Nat) (c3 : Array Value) (qs : List Nat), k ≤ ql ∧ i = .int .i64 ((k : Int) - 1) ∧ Own wr g2 66 c2 ∧ Has c2 0 rs ∧ rs.length = la + 1 ∧ Own wr w2.heap.size 66 c3 ∧ Has c3 0 qs ∧ qs.length = ql ∧ Rd wr (some ⟨g1, 0, none⟩) N (N + 1) vs ∧ val xs * 2 ^ s = val (rs.take k) + BB ^ k * (val (rs.drop k) + val vs * val (qs.drop k)) ∧ val (rs.drop k) < val vs ∧ On w wr) (fun i _ => (intOf i + 1).toNat)
  case atStart => exact ⟨ql, cur2, rs0, _, _, Nat.le_refl _, rfl, HO2.out.alloc _, hh2, HL2.out, Own.new _ _ _, has_made _, by simp, RV2.alloc _, by rw [List.drop_of_length_le (l := List.replicate ql 0) (by simp), show val ([] : List Nat) = 0 from rfl, Nat.mul_zero, Nat.add_zero, ← val_split_any, HV2.out], HST.out, hon.alloc _⟩
  case round =>
    obtain ⟨k, c2, rs, c3, qs, hk, rfl, ho2, hh2', hl2', ho3, hh3, hl3, RVr, heq, hlt, honr⟩ := hrel
    have H1 := Lib.hid hl2'
    have H2 := Lib.hid hl3
    have H3 := Lib.hid heq
    have H4 := Lib.hid hlt
    have H5 := Lib.hid ho2
    have H6 := Lib.hid ho3
    clear hl2' hl3 heq hlt ho2 ho3
    rcases k with _ | i
    · have h3 := H3.out
      simp only [List.take_zero, List.drop_zero, Nat.pow_zero, Nat.one_mul, show val ([] : List Nat) = 0 from rfl, Nat.zero_add] at h3
      have h4 := H4.out
      simp only [List.drop_zero] at h4
      have HE := Lib.hid (dl_end (val rs) (val vs) (val qs) (val xs) (val ys) (2 ^ s) (Nat.pow_pos (by decide)) HBP.out HVV.out h3 h4)
      have Rq := Rd.own (n := ql) (c := ql) H6.out hh3 H2.out (Nat.le_refl _) (by omega)
      have Rr := Rd.own (n := la + 1) (c := la + 1) H5.out hh2' H1.out (Nat.le_refl _) (by omega)
      have Rt := Rr.take (k := tl rs) (by rw [← H1.out]; exact tl_le rs)
      have htr : tl rs ≤ la + 1 := by rw [← H1.out]; exact tl_le rs
      have htq : tl qs ≤ la := by have := tl_le qs; rw [H2.out] at this; omega
      have HYL : Hid (val ys < BB ^ (m + 2)) := Lib.hid (by have := val_lt k2.ok; rwa [k2.len, ← HNN.out] at this)
      clear h3 h4
      go_wp2_with fail
      refine (trim_any _ _ _ _ _ Rq).mono ?_
      rintro e w' ⟨rfl, rfl⟩
      go_wp2_with fail
      refine (trim_any _ _ _ _ _ Rr).mono ?_
      rintro e w' ⟨rfl, rfl⟩
      go_wp2_with fail
      refine (shr_any _ _ _ _ _ Rt (by omega) _ (by omega) (by omega)).mono ?_
      rintro e w6 ⟨A6, n6, c6, rfl, ⟨ts, RT, CT, VT, LT⟩, hon6⟩
      rw [Int.toNat_natCast, val_take_tl, HE.out.2, Nat.mul_div_cancel _ (Nat.pow_pos (by decide))] at VT
      have N1 := nm_trim (Rq.on hon6) (L := la) htq
      rw [HE.out.1] at N1
      have HVT := Lib.hid VT
      clear VT
      go_wp2
      go_ret2
      refine ⟨_, _, _, _, _, _, rfl, N1, ⟨ts, RT, CT, HVT.out, ?_⟩, honr.trans hon6⟩
      have h5 := clean_len CT (m + 2) (by rw [HVT.out]; exact Nat.lt_trans (Nat.mod_lt _ HBP.out) HYL.out)
      rw [RT.len] at h5
      exact Nat.le_trans h5 i3
    · rw [show ((i + 1 : Nat) : Int) - 1 = (i : Int) from by omega]
      have HTP := Lib.hid (top_part rs hh2'.ok i N (val vs) H4.out HVB.out)
      have hpart := hh2'.part (i := i) (n := N + 1) (by rw [H1.out]; omega)
      have hpl : ((rs.drop i).take (N + 1)).length = N + 1 := by rw [List.length_take, List.length_drop, H1.out]; omega
      have HPL := Lib.hid hpl
      have RP := Rd.own (n := N + 1) (c := la + 1 - i) H5.out (by rw [Nat.zero_add] at hpart; exact hpart) hpl (by omega) (by omega)
      clear hpl
      have hiq : i < ql := by omega
      go_wp2_with fail
      rw [show i + N + 1 - i = N + 1 from by omega]
      refine (est_wrap _ _ _ _ _ m N (N + 1) _ _ HNN.out rfl RP RVr (by omega) HTOP.out (by rw [HTP.out.2.1]; exact HTP.out.2.2)).mono ?_
      rintro e w4 ⟨d, rfl, hest, hd, hon4⟩
      rw [HTP.out.2.1] at hest
      have hpart2 : Has c2 i ((rs.drop i).take (N + 1)) := by rw [Nat.zero_add] at hpart; exact hpart
      have HES := Lib.hid hest
      clear hest RP hpart
      go_wp2_with fail
      refine (subm_any w4 g2 i (N + 1) (la + 1 - i) N (N + 1) c2 _ (some ⟨g1, 0, none⟩) vs d (H5.out.on hon4) hpart2 rfl HPL.out (by omega) (by omega) (by omega) (RVr.on hon4) (fun ad e => by injection e with e; subst e; show g1 ≠ g2; omega) hd HVP.out (by rw [HTP.out.2.1]; exact HTP.out.2.2) (by rw [HTP.out.2.1]; exact HES.out)).mono ?_
      rintro e w5 ⟨c5, rs5, rfl, ho5, hh5, hl5, hv5, hsame5, honly5⟩
      rw [HTP.out.2.1] at hv5 ⊢
      have hj := hh2'.join (cur' := c5) (i := i) (n := N + 1) (ys := rs5) (by rw [H1.out]; omega) hl5 (by rw [Nat.zero_add]; exact hh5) (by rw [Nat.zero_add]; exact hsame5)
      have hstep := dl_step rs rs5 qs i N (val vs) (val xs * 2 ^ s) (by rw [H2.out]; omega) (by rw [H1.out]; omega) hl5 HVP.out HTP.out.1 H3.out hv5
      have hnl : (rs.take i ++ rs5 ++ rs.drop (i + (N + 1))).length = la + 1 := by rw [List.length_append, List.length_append, hl5, List.length_take, List.length_drop, H1.out]; omega
      have HSTEP := Lib.hid hstep
      have HNL := Lib.hid hnl
      have HJ := Lib.hid hj
      have HO5 := Lib.hid ho5
      have h3w := (H6.out.on hon4).only honly5 (by omega)
      have hqd : val (rs.drop i) / val vs < 4294967296 := Nat.div_lt_of_lt_mul HTP.out.2.2
      obtain ⟨qd, hqe⟩ : ∃ x, val (rs.drop i) / val vs = x := ⟨_, rfl⟩
      rw [hqe] at hqd ⊢
      have HQE := Lib.hid hqe
      have H3W := Lib.hid h3w
      have RV5 := (RVr.on hon4).only honly5 (fun ad e => by injection e with e; subst e; show g1 ≠ g2; omega)
      have hon5 : On w w5 := (honr.trans hon4).only honly5 (by omega)
      have hcell : w5.cell? ⟨w2.heap.size, i, none⟩ = some (.int .u32 ((gw qs i : Nat) : Int)) := (H3W.out.cell _).trans (by have := hh3.get i (by rw [H2.out]; omega); rwa [Nat.zero_add] at this)
      have hfroz : w5.frozen? ⟨w2.heap.size, i, none⟩ = false := H3W.out.frozen _
      have hA := hh3.set_ (j := i) (x := qd) (by rw [H2.out]; omega) hqd
      rw [Nat.zero_add] at hA
      clear hstep hnl hj ho5 h3w hqe hv5 hl5 hsame5 hpart2 RVr
      have hst := HSTEP.out
      rw [HQE.out] at hst
      have HST2 := Lib.hid hst
      clear hst
      go_wp2
      exact ⟨⟨i, c5, _, _, qs.set i qd, by omega, rfl, HO5.out.far (by show g2 ≠ w2.heap.size; omega) _, HJ.out, HNL.out, H3W.out.set_ _ _, hA, by rw [List.length_set, H2.out], RV5.only ((Only.refl w2.heap.size w5).set_ i _) (fun ad e => by injection e with e; subst e; show g1 ≠ w2.heap.size; omega), HST2.out.1, HST2.out.2, hon5.setCell (by show w.heap.size ≤ w2.heap.size; exact hon.size) _⟩, by simp [intOf]⟩
end
section
/-- quotient and rest -/
def QR (w : World) (a b L M : Nat) (e : Ending) (w' : World) : Prop :=
  ∃ A n c A' n' c', e = .returned (.tuple #[.slice A n c, .slice A' n' c', .nilIface]) ∧ Nm w' A n c (a / b) L ∧ Nm w' A' n' c' (a % b) M ∧ On w w'
theorem clean_val_zero {l : List Nat} (h : tl l = 0) : val l = 0 := val_of_tl_zero l h
theorem tl_zero_of_val {l : List Nat} (h : val l = 0) : tl l = 0 := by
  rcases Nat.eq_zero_or_pos (tl l) with h0 | h0
  · exact h0
  · have := val_pos (clean_take l) (by rw [List.length_take, Nat.min_eq_left (tl_le l)]; exact h0)
    rw [val_take_tl, h] at this; omega
set_option maxHeartbeats 400000 in
theorem div_zero (w : World) (A A' : Option Addr) (n c n' c' : Nat) (xs ys : List Nat) (h : Rd w A n c xs) (k : Rd w A' n' c' ys) (h0 : tl ys = 0) :
    Calls Tryz.prog 110 #[.slice A n c, .slice A' n' c'] w fun e w' => e = .returned (.tuple #[.slice none 0 0, .slice none 0 0, .iface 51 (.int .i64 8)]) ∧ w = w' := by
  have H0 := Lib.hid h0
  clear h0
  go_enter Tryz.func110, Tryz.ntmps110
  go_wp2_with fail
  refine (trim_any _ _ _ _ _ h).mono ?_
  rintro e w' ⟨rfl, rfl⟩
  go_wp2_with fail
  refine (trim_any _ _ _ _ _ k).mono ?_
  rintro e w' ⟨rfl, rfl⟩
  rw [H0.out]
  go_wp2
  go_ret3
  exact ⟨rfl, rfl⟩
set_option maxHeartbeats 400000 in
theorem div_less (w : World) (A A' : Option Addr) (n c n' c' L M : Nat) (xs ys : List Nat) (h : Rd w A n c xs) (k : Rd w A' n' c' ys) (h0 : tl xs < tl ys) (hn : n ≤ 100000000) (hM : tl ys ≤ M) :
    Calls Tryz.prog 110 #[.slice A n c, .slice A' n' c'] w (QR w (val xs) (val ys) L M) := by
  have T := h.take (k := tl xs) (by rw [← h.len]; exact tl_le xs)
  have hlt : val xs < val ys := by
    have := val_lt_of_len (a := xs.take (tl xs)) (b := ys.take (tl ys)) T.ok (clean_take ys) (by rw [List.length_take, List.length_take, Nat.min_eq_left (tl_le _), Nat.min_eq_left (tl_le _)]; exact h0)
    rwa [val_take_tl, val_take_tl] at this
  have hq : val xs / val ys = 0 := Nat.div_eq_of_lt hlt
  have hr : val xs % val ys = val xs := Nat.mod_eq_of_lt hlt
  have HQ := Lib.hid hq
  have HR := Lib.hid hr
  have hle : tl xs ≤ n := by rw [← h.len]; exact tl_le xs
  clear hq hr hlt
  go_enter Tryz.func110, Tryz.ntmps110
  go_wp2_with fail
  refine (trim_any _ _ _ _ _ h).mono ?_
  rintro e w' ⟨rfl, rfl⟩
  go_wp2_with fail
  refine (trim_any _ _ _ _ _ k).mono ?_
  rintro e w' ⟨rfl, rfl⟩
  have h1 : 0 < tl ys := by omega
  have hb1 : (((tl ys : Nat) : Int) == 0) = false := by simp; omega
  have C := clean_take xs
  have V := Lib.hid (val_take_tl xs)
  generalize tl ys = m' at *
  generalize hzs : xs.take (tl xs) = zs at *
  generalize tl xs = m at *
  clear hzs
  have hb2 : decide (m < m') = true := decide_eq_true h0
  go_wp2_with fail
  refine (clone_any _ _ _ _ _ T (by omega)).mono ?_
  rintro e w' ⟨A1, c1, rfl, R1, hon, _⟩
  go_wp2
  go_ret3
  exact ⟨_, _, _, _, _, _, rfl, ⟨[], Rd.nil_, clean_nil, by rw [HQ.out]; rfl, by omega⟩, ⟨zs, R1, C, by rw [HR.out, V.out], by omega⟩, hon⟩
set_option maxHeartbeats 800000 in
theorem div_word (w : World) (A A' : Option Addr) (n c n' c' L M : Nat) (xs ys : List Nat) (h : Rd w A n c xs) (k : Rd w A' n' c' ys) (h0 : tl ys = 1) (h1 : 1 ≤ tl xs) (hn : n ≤ 100000000) (hL : tl xs ≤ L) (hM : 2 ≤ M) :
    Calls Tryz.prog 110 #[.slice A n c, .slice A' n' c'] w (QR w (val xs) (val ys) L M) := by
  have T := h.take (k := tl xs) (by rw [← h.len]; exact tl_le xs)
  have T' := k.take (k := tl ys) (by rw [← k.len]; exact tl_le ys)
  have C := clean_take xs
  have C' := clean_take ys
  have V := Lib.hid (val_take_tl xs)
  have V' := Lib.hid (val_take_tl ys)
  have hle : tl xs ≤ n := by rw [← h.len]; exact tl_le xs
  rw [← V.out, ← V'.out]
  clear V V'
  generalize xs.take (tl xs) = zs at *
  generalize ys.take (tl ys) = us at *
  rw [h0] at T'
  have hlast := clean_last C' 0 T'.len
  have hv : val us = gw us 0 := by
    obtain ⟨u, rfl⟩ := List.length_eq_one_iff.1 T'.len
    simp [val, gw]
  rw [hv]
  have HZ := Lib.hid h0
  clear h0 hv C'
  go_enter Tryz.func110, Tryz.ntmps110
  go_wp2_with fail
  refine (trim_any _ _ _ _ _ h).mono ?_
  rintro e w' ⟨rfl, rfl⟩
  go_wp2_with fail
  refine (trim_any _ _ _ _ _ k).mono ?_
  rintro e w' ⟨rfl, rfl⟩
  rw [HZ.out]
  obtain ⟨ad, rfl, hb, hc⟩ := T'.at_ 0 (by omega)
  have hw0 := T'.ok.get 0
  generalize tl xs = m at *
  have hb1 : decide (m < 1) = false := decide_eq_false (by omega)
  go_wp2_with fail
  refine (clone_any _ _ _ _ _ T (by omega)).mono ?_
  rintro e w1 ⟨A1, c1, rfl, R1, hon, hown⟩
  obtain ⟨g, cur, rfl, hg, ho, hh⟩ := hown (by omega)
  have hc1 : w1.cell? ad = some (.int .u32 ((gw us 0 : Nat) : Int)) := (Below.cell hon hb).trans (by rw [add_nil] at hc; exact hc)
  go_wp2_with fail
  refine (divw_any w1 g 0 m c1 cur zs _ ho hh R1.len R1.cap (by omega) (by omega) (by omega) (by omega)).mono ?_
  rintro e w2 ⟨cur', qs, rfl, ho2, hh2, hl2, hv2, _, honly⟩
  rw [Int.toNat_natCast] at hv2 ⊢
  have R2 := Rd.own (n := m) (c := c1) ho2 hh2 (by rw [hl2, R1.len]) R1.cap R1.max
  have hon2 : On w w2 := hon.only honly hg
  have HV2 := Lib.hid hv2
  have HL2 := Lib.hid hl2
  clear hv2 hl2
  have hrl : val zs % gw us 0 < 4294967296 := Nat.lt_trans (Nat.mod_lt _ (by omega)) hw0
  generalize hrr : val zs % gw us 0 = rr at *
  have HRR := Lib.hid hrr
  clear hrr
  go_wp2_with fail
  refine (trim_any _ _ _ _ _ R2).mono ?_
  rintro e w' ⟨rfl, rfl⟩
  have N1 := nm_trim R2 (L := L) (Nat.le_trans (tl_le _) (by rw [R2.len]; omega))
  rw [HV2.out] at N1
  go_wp2_with fail
  refine (of64_any _ _ (by omega) (by omega)).mono ?_
  rintro e w3 ⟨A3, n3, c3, rfl, N3, hon3⟩
  rw [Int.toNat_natCast] at N3
  go_wp2
  go_ret3
  obtain ⟨ws, r1, r2, r3, r4⟩ := N3
  exact ⟨_, _, _, _, _, _, rfl, N1.on hon3, ⟨ws, r1, r2, by rw [r3, HRR.out], by omega⟩, hon2.trans hon3⟩
end
section
set_option maxHeartbeats 800000 in
theorem div_long (w : World) (A A' : Option Addr) (n c n' c' : Nat) (xs ys : List Nat) (h : Rd w A n c xs) (k : Rd w A' n' c' ys) (m : Nat) (h0 : tl ys = m + 2) (h1 : tl ys ≤ tl xs) (hn : n ≤ 10000) :
    Calls Tryz.prog 110 #[.slice A n c, .slice A' n' c'] w (QR w (val xs) (val ys) (tl xs) (tl ys)) := by
  have T := h.take (k := tl xs) (by rw [← h.len]; exact tl_le xs)
  have T' := k.take (k := tl ys) (by rw [← k.len]; exact tl_le ys)
  have hle : tl xs ≤ n := by rw [← h.len]; exact tl_le xs
  have hlast := clean_last (clean_take ys) (m + 1) (by rw [List.length_take, Nat.min_eq_left (tl_le ys), h0])
  rw [← val_take_tl xs, ← val_take_tl ys]
  generalize xs.take (tl xs) = zs at *
  generalize ys.take (tl ys) = us at *
  have HLA := Lib.hid hlast
  have H0 := Lib.hid h0
  rw [h0] at h1 T'
  rw [h0]
  clear hlast h0
  go_enter Tryz.func110, Tryz.ntmps110
  go_wp2_with fail
  refine (trim_any _ _ _ _ _ h).mono ?_
  rintro e w' ⟨rfl, rfl⟩
  go_wp2_with fail
  refine (trim_any _ _ _ _ _ k).mono ?_
  rintro e w' ⟨rfl, rfl⟩
  rw [H0.out]
  generalize tl xs = l at *
  have hd1 : decide ((l : Int) < (m : Int) + 2) = false := decide_eq_false (by omega)
  have hd2 : (((m : Int) + 2) == 0) = false := by simp; omega
  have hd3 : (((m : Int) + 2) == 1) = false := by simp; omega
  go_wp2_with fail
  refine (divlong_any _ _ _ _ _ _ _ _ _ T T' HLA.out h1 (by omega)).mono ?_
  rintro e w1 ⟨A1, n1, c1, A2, n2, c2, rfl, N1, N2, hon⟩
  go_wp2
  go_ret3
  exact ⟨_, _, _, _, _, _, rfl, N1, N2, hon⟩
/-- Div, the divisor not 0 -/
theorem div_any (w : World) (A A' : Option Addr) (n c n' c' L M : Nat) (xs ys : List Nat) (h : Rd w A n c xs) (k : Rd w A' n' c' ys) (hv : 0 < val ys) (hn : n ≤ 10000) (hL : tl xs ≤ L) (hM : tl ys ≤ M) (hM2 : 2 ≤ M) :
    Calls Tryz.prog 110 #[.slice A n c, .slice A' n' c'] w (QR w (val xs) (val ys) L M) := by
  have hp : 0 < tl ys := by
    rcases Nat.eq_zero_or_pos (tl ys) with h0 | h0
    · rw [val_of_tl_zero ys h0] at hv; omega
    · exact h0
  rcases Nat.lt_or_ge (tl xs) (tl ys) with hlt | hge
  · exact div_less w A A' n c n' c' L M xs ys h k hlt (by omega) hM
  · rcases Nat.lt_or_ge (tl ys) 2 with h1 | h2
    · exact div_word w A A' n c n' c' L M xs ys h k (by omega) (by omega) (by omega) hL hM2
    · obtain ⟨m, hm⟩ : ∃ m, tl ys = m + 2 := ⟨tl ys - 2, by omega⟩
      refine (div_long w A A' n c n' c' xs ys h k m hm hge hn).mono ?_
      rintro e w' ⟨A1, n1, c1, A2, n2, c2, he, ⟨q, q1, q2, q3, q4⟩, ⟨r, r1, r2, r3, r4⟩, hon⟩
      exact ⟨A1, n1, c1, A2, n2, c2, he, ⟨q, q1, q2, q3, by omega⟩, ⟨r, r1, r2, r3, by omega⟩, hon⟩
end
section
/-- the steps made so far lead from x and y to a*x + b*y and c*x + d*y; p and q are the same of the leading parts p0 and q0 -/
structure Steps (x y p0 q0 a b c d p q : Int) : Prop where
  hp : p = a * p0 + b * q0
  hq : q = c * p0 + d * q0
  sg : (0 ≤ a ∧ b ≤ 0 ∧ c ≤ 0 ∧ 0 ≤ d) ∨ (a ≤ 0 ∧ 0 ≤ b ∧ 0 ≤ c ∧ d ≤ 0)
  pa : 0 ≤ p + a
  pb : 0 ≤ p + b
  qc : 0 ≤ q + c
  qd : 0 ≤ q + d
  ba : -1073741824 ≤ a ∧ a ≤ 1073741824
  bb : -1073741824 ≤ b ∧ b ≤ 1073741824
  bc : -1073741824 ≤ c ∧ c ≤ 1073741824
  bd : -1073741824 ≤ d ∧ d ≤ 1073741824
  bp : p ≤ 4611686018427387904
  bq : q ≤ 4611686018427387904
  y0 : 0 ≤ c * x + d * y
  yx : c * x + d * y ≤ a * x + b * y
  xx : a * x + b * y ≤ x
  gc : Int.gcd (a * x + b * y) (c * x + d * y) = Int.gcd x y
  lt : (a = 1 ∧ b = 0 ∧ c = 0 ∧ d = 1) ∨ c * x + d * y < y
theorem Steps.start (x y p0 q0 : Int) (hy : 0 ≤ y) (hyx : y ≤ x) (hp : 0 ≤ p0) (hq : 0 ≤ q0) (hp2 : p0 ≤ 4611686018427387904) (hq2 : q0 ≤ 4611686018427387904) : Steps x y p0 q0 1 0 0 1 p0 q0 := by
  refine ⟨by omega, by omega, by omega, by omega, by omega, by omega, by omega, by omega, by omega, by omega, by omega, by omega, by omega, by omega, by omega, by omega, ?_, .inl ⟨rfl, rfl, rfl, rfl⟩⟩
  rw [Int.one_mul, Int.zero_mul, Int.add_zero, Int.zero_mul, Int.one_mul, Int.zero_add]
theorem lo_mul {c K l : Int} (hc : c ≤ 0) (h : l ≤ K) : c * K ≤ c * l := Int.mul_le_mul_of_nonpos_left hc h
theorem hi_mul {c K l : Int} (hc : 0 ≤ c) (h : l ≤ K) : c * l ≤ c * K := Int.mul_le_mul_of_nonneg_left h hc
/-- with coefficients of opposite signs: the sum's lower bound -/
theorem low_ge {x y K p0 q0 c d z : Int} (hx0 : 0 ≤ x - K * p0) (hx1 : x - K * p0 ≤ K) (hy0 : 0 ≤ y - K * q0) (hy1 : y - K * q0 ≤ K) (hK : 0 ≤ K) (hz : z = c * p0 + d * q0)
    (hs : (c ≤ 0 ∧ 0 ≤ d) ∨ (0 ≤ c ∧ d ≤ 0)) (h1 : 0 ≤ z + c) (h2 : 0 ≤ z + d) : 0 ≤ c * x + d * y := by
  have e : c * x + d * y = K * z + c * (x - K * p0) + d * (y - K * q0) := by subst hz; grind
  rcases hs with ⟨hc, hd⟩ | ⟨hc, hd⟩
  · have a1 := lo_mul hc hx1
    have a2 := Int.mul_nonneg hd hy0
    have a3 : 0 ≤ K * (z + c) := Int.mul_nonneg hK h1
    rw [Int.mul_add, Int.mul_comm K c] at a3
    omega
  · have a1 := lo_mul hd hy1
    have a2 := Int.mul_nonneg hc hx0
    have a3 : 0 ≤ K * (z + d) := Int.mul_nonneg hK h2
    rw [Int.mul_add, Int.mul_comm K d] at a3
    omega
/-- .. and that it is below 0 -/
theorem low_lt {x y K p0 q0 c d z : Int} (hx0 : 0 ≤ x - K * p0) (hx1 : x - K * p0 ≤ K) (hy0 : 0 ≤ y - K * q0) (hy1 : y - K * q0 ≤ K) (hK : 0 < K) (hz : z = c * p0 + d * q0)
    (hs : (c ≤ 0 ∧ 0 ≤ d) ∨ (0 ≤ c ∧ d ≤ 0)) (h1 : z + c < 0) (h2 : z + d < 0) : c * x + d * y < 0 := by
  have e : c * x + d * y = K * z + c * (x - K * p0) + d * (y - K * q0) := by subst hz; grind
  rcases hs with ⟨hc, hd⟩ | ⟨hc, hd⟩
  · have a1 := hi_mul hd hy1
    have a2 : c * (x - K * p0) ≤ 0 := Int.mul_nonpos_of_nonpos_of_nonneg hc hx0
    have a3 : K * (z + d) < 0 := Int.mul_neg_of_pos_of_neg hK h2
    rw [Int.mul_add, Int.mul_comm K d] at a3
    omega
  · have a1 := hi_mul hc hx1
    have a2 : d * (y - K * q0) ≤ 0 := Int.mul_nonpos_of_nonpos_of_nonneg hd hy0
    have a3 : K * (z + c) < 0 := Int.mul_neg_of_pos_of_neg hK h1
    rw [Int.mul_add, Int.mul_comm K c] at a3
    omega
theorem gcd_step (X Y t : Int) : Int.gcd Y (X - t * Y) = Int.gcd X Y := by
  rw [Int.gcd_sub_mul_right_right, Int.gcd_comm]
/-- one step more -/
theorem Steps.step {x y p0 q0 a b c d p q K t : Int} (h : Steps x y p0 q0 a b c d p q) (hK : 0 < K) (hx0 : 0 ≤ x - K * p0) (hx1 : x - K * p0 ≤ K) (hy0 : 0 ≤ y - K * q0) (hy1 : y - K * q0 ≤ K)
    (h1 : q + c ≠ 0) (h2 : q + d ≠ 0) (ht : 0 ≤ t) (l1 : t * (q + c) ≤ p + a) (u1 : p + a < (t + 1) * (q + c)) (l2 : t * (q + d) ≤ p + b) (u2 : p + b < (t + 1) * (q + d))
    (bc : -1073741824 ≤ a - t * c ∧ a - t * c ≤ 1073741824) (bd : -1073741824 ≤ b - t * d ∧ b - t * d ≤ 1073741824) :
    Steps x y p0 q0 c d (a - t * c) (b - t * d) q (p - t * q) := by
  have hqc := h.qc
  have hqd := h.qd
  have hq0 : 0 ≤ q := by rcases h.sg with ⟨_, _, s3, s4⟩ | ⟨_, _, s3, s4⟩ <;> omega
  have hsg : (0 ≤ c ∧ d ≤ 0 ∧ a - t * c ≤ 0 ∧ 0 ≤ b - t * d) ∨ (c ≤ 0 ∧ 0 ≤ d ∧ 0 ≤ a - t * c ∧ b - t * d ≤ 0) := by
    rcases h.sg with ⟨s1, s2, s3, s4⟩ | ⟨s1, s2, s3, s4⟩
    · right
      have e1 : t * c ≤ 0 := Int.mul_nonpos_of_nonneg_of_nonpos ht s3
      have e2 := Int.mul_nonneg ht s4
      exact ⟨s3, s4, by omega, by omega⟩
    · left
      have e1 := Int.mul_nonneg ht s3
      have e2 : t * d ≤ 0 := Int.mul_nonpos_of_nonneg_of_nonpos ht s4
      exact ⟨s3, s4, by omega, by omega⟩
  have hz : p - t * q = (a - t * c) * p0 + (b - t * d) * q0 := by rw [h.hp, h.hq]; grind
  rw [Int.mul_add] at l1 l2
  rw [Int.add_mul, Int.one_mul, Int.mul_add] at u1 u2
  have htq := Int.mul_nonneg ht hq0
  have hs2 : (a - t * c ≤ 0 ∧ 0 ≤ b - t * d) ∨ (0 ≤ a - t * c ∧ b - t * d ≤ 0) := by
    rcases hsg with ⟨_, _, s3, s4⟩ | ⟨_, _, s3, s4⟩
    · exact .inl ⟨s3, s4⟩
    · exact .inr ⟨s3, s4⟩
  have hge := low_ge hx0 hx1 hy0 hy1 (Int.le_of_lt hK) hz hs2 (by omega) (by omega)
  have hlt : (a - t * c - c) * x + (b - t * d - d) * y < 0 := by
    refine low_lt (z := p - t * q - q) hx0 hx1 hy0 hy1 hK ?_ ?_ (by omega) (by omega)
    · rw [hz]; have := h.hq; grind
    · rcases hsg with ⟨s1, s2, s3, s4⟩ | ⟨s1, s2, s3, s4⟩
      · exact .inl ⟨by omega, by omega⟩
      · exact .inr ⟨by omega, by omega⟩
  have hyx : (a - t * c) * x + (b - t * d) * y < c * x + d * y := by
    have e : (a - t * c - c) * x + (b - t * d - d) * y = (a - t * c) * x + (b - t * d) * y - (c * x + d * y) := by grind
    omega
  have hYy : c * x + d * y ≤ y := by
    rcases h.lt with ⟨_, _, e3, e4⟩ | e
    · subst e3; subst e4; omega
    · omega
  refine ⟨h.hq, hz, hsg, hqc, hqd, by omega, by omega, h.bc, h.bd, bc, bd, h.bq, by have := h.bp; omega, hge, by omega, Int.le_trans h.yx h.xx, ?_, .inr (by omega)⟩
  rw [← h.gc]
  have e : (a - t * c) * x + (b - t * d) * y = (a * x + b * y) - t * (c * x + d * y) := by grind
  rw [e, gcd_step]
end
section
/-- the three words from place m on -/
theorem val_div_pow (xs : List Nat) (h : Ok xs) (m : Nat) : val xs / BB ^ m = val (xs.drop m) := by
  have hp : 0 < BB ^ m := Nat.pow_pos BB_pos
  rcases Nat.lt_or_ge xs.length m with hl | hl
  · rw [List.drop_of_length_le (by omega)]
    have h1 := val_lt h
    have h2 : BB ^ xs.length ≤ BB ^ m := Nat.pow_le_pow_right BB_pos (by omega)
    exact Nat.div_eq_of_lt (by omega)
  · rw [val_split xs m hl, Nat.add_mul_div_left _ _ hp]
    have := val_lt (h.take m)
    rw [List.length_take, Nat.min_eq_left hl] at this
    rw [Nat.div_eq_of_lt this, Nat.zero_add]
theorem val_drop_any' (l : List Nat) (k : Nat) : val (l.drop k) = gw l k + BB * val (l.drop (k + 1)) := by
  rcases Nat.lt_or_ge k l.length with h | h
  · exact val_drop l k h
  · rw [List.drop_of_length_le h, List.drop_of_length_le (by omega), getD_ge h]; rfl
theorem val_three (xs : List Nat) (h : Ok xs) (m : Nat) (hl : xs.length ≤ m + 3) : val xs / BB ^ m = (gw xs (m + 2) * BB + gw xs (m + 1)) * BB + gw xs m := by
  rw [val_div_pow xs h m, val_drop_any' xs m, val_drop_any' xs (m + 1), val_drop_any' xs (m + 2), List.drop_of_length_le (show xs.length ≤ m + 2 + 1 by omega)]
  simp only [val, Nat.mul_zero, Nat.add_zero]
  rw [Nat.mul_comm BB, Nat.mul_comm BB, Nat.add_comm (gw xs (m + 1))]
  omega
/-- what leading computes: two words shifted, and the bits of the third that come in -/
theorem lead_bits (t g s : Nat) (hs : s ≤ 31) : (t * 2 ^ s + g * 2 ^ s / 4294967296) / 4 = (t * 4294967296 + g) / 2 ^ (34 - s) := by
  have h1 : t * 2 ^ s + g * 2 ^ s / 4294967296 = (t * 4294967296 + g) * 2 ^ s / 4294967296 := by
    rw [Nat.add_mul, show t * 4294967296 * 2 ^ s = (t * 2 ^ s) * 4294967296 from by rw [Nat.mul_right_comm], Nat.mul_comm (t * 2 ^ s) 4294967296, Nat.mul_add_div (by decide)]
  rw [h1, Nat.div_div_eq_div_mul, show (4294967296 : Nat) * 4 = 2 ^ (34 - s) * 2 ^ s from by rw [← Nat.pow_add, show 34 - s + s = 34 from by omega], Nat.mul_div_mul_right _ _ (Nat.pow_pos (by decide))]
/-- the remainder of the cut -/
theorem cut_low (v K : Nat) (hK : 0 < K) : 0 ≤ (v : Int) - (K : Int) * ((v / K : Nat) : Int) ∧ (v : Int) - (K : Int) * ((v / K : Nat) : Int) ≤ (K : Int) := by
  have h1 := Nat.div_add_mod v K
  have h2 := Nat.mod_lt v hK
  have h3 : (K : Int) * ((v / K : Nat) : Int) = ((K * (v / K) : Nat) : Int) := by rw [Int.natCast_mul]
  rw [h3]
  omega
/-- one word of the sum of two multiples -/
theorem comb_step (P v t a b s r x y T : Int) (h : v + P * t = s * a + r * b) (hT : T = t + (s * x + r * y)) :
    v + P * (T % 4294967296) + P * 4294967296 * (T / 4294967296) = s * (a + P * x) + r * (b + P * y) := by
  have h1 := Int.mul_ediv_add_emod T 4294967296
  have h2 : P * (T % 4294967296) + P * 4294967296 * (T / 4294967296) = P * T := by
    rw [Int.mul_assoc, ← Int.mul_add]; congr 1; omega
  rw [Int.add_assoc, h2, hT]
  grind
theorem comb_mul (s x : Int) (hs : -1073741824 ≤ s ∧ s ≤ 1073741824) (hx : 0 ≤ x ∧ x ≤ 4294967295) : -4611686017353646080 ≤ s * x ∧ s * x ≤ 4611686017353646080 := by
  have h1 : s * x ≤ 1073741824 * x := Int.mul_le_mul_of_nonneg_right hs.2 hx.1
  have h2 : (-1073741824) * x ≤ s * x := Int.mul_le_mul_of_nonneg_right hs.1 hx.1
  omega
/-- the end: nothing is carried -/
theorem comb_end (v P t z : Int) (h : v + P * t = z) (hv : 0 ≤ v) (hvP : v < P) (hz : 0 ≤ z) (hzP : z < P) : v = z := by
  have ht : t = 0 := by
    rcases Int.lt_trichotomy t 0 with h0 | h0 | h0
    · have : P * t ≤ P * (-1) := Int.mul_le_mul_of_nonneg_left (by omega) (by omega)
      omega
    · exact h0
    · have : P * 1 ≤ P * t := Int.mul_le_mul_of_nonneg_left (by omega) (by omega)
      omega
  subst ht
  omega
end
section
theorem lead_or (T g s : Nat) (hs : s ≤ 31) (hg : g < 4294967296) (hT : T * 2 ^ s < 18446744073709551616) : bits .or .u64 ((T * 2 ^ s : Nat) : Int) (((g * 2 ^ s : Nat) : Int) / 4294967296) = ((T * 2 ^ s + g * 2 ^ s / 4294967296 : Nat) : Int) := by
  have hp : 0 < 2 ^ s := Nat.pow_pos (by decide)
  have h1 : g * 2 ^ s / 4294967296 < 2 ^ s := Nat.div_lt_of_lt_mul (by rw [Nat.mul_comm 4294967296]; rw [Nat.mul_comm g]; exact Nat.mul_lt_mul_of_pos_left hg hp)
  have h2 : 2 ^ s ≤ 2147483648 := Nat.pow_le_pow_right (by decide) hs
  rw [show ((g * 2 ^ s : Nat) : Int) / 4294967296 = ((g * 2 ^ s / 4294967296 : Nat) : Int) from by rw [Int.natCast_ediv]; rfl, u64_or_nat _ _ hT (by omega), nat_join s _ _ (Nat.mul_mod_left _ _) h1]
theorem lead_wrap (T s : Nat) (hT : T * 2 ^ s < 18446744073709551616) : IntKind.u64.wrap ((T : Int) * 2 ^ s) = ((T * 2 ^ s : Nat) : Int) := by
  rw [cast_shl]; exact IntWalk.u64_in _ (by omega)
theorem lead_top (a b s : Nat) (hs : s ≤ 31) (hb : b < 4294967296) (ha : a * 2 ^ s < 4294967296) : (a * 4294967296 + b) * 2 ^ s < 18446744073709551616 := by
  have h2 : 2 ^ s ≤ 2147483648 := Nat.pow_le_pow_right (by decide) hs
  have hp : 0 < 2 ^ s := Nat.pow_pos (by decide)
  have h3 : b * 2 ^ s < 4294967296 * 2 ^ s := Nat.mul_lt_mul_of_pos_right hb hp
  rw [Nat.add_mul, Nat.mul_right_comm]
  have h4 : a * 2 ^ s + 2 ^ s ≤ 4294967296 := by
    obtain ⟨q, hq⟩ : ∃ q, 4294967296 = 2 ^ s * q := ⟨2 ^ (32 - s), by rw [← Nat.pow_add, show s + (32 - s) = 32 from by omega]⟩
    rw [hq, Nat.mul_comm a] at ha
    have h5 := Nat.lt_of_mul_lt_mul_left ha
    have h6 : 2 ^ s * (a + 1) ≤ 2 ^ s * q := Nat.mul_le_mul_left _ h5
    rw [← hq, Nat.mul_add, Nat.mul_comm (2 ^ s) a] at h6
    omega
  have h5 : (a * 2 ^ s + 2 ^ s) * 4294967296 ≤ 4294967296 * 4294967296 := Nat.mul_le_mul_right _ h4
  rw [Nat.add_mul] at h5
  omega
set_option maxHeartbeats 400000 in
theorem leading_any (w : World) (A : Option Addr) (n c m s : Nat) (xs : List Nat) (h : Rd w A n c xs) (hn : n ≤ m + 3) (hm : m ≤ 100000) (hs : s ≤ 31) (htop : gw xs (m + 2) * 2 ^ s < 4294967296) (N : Int) (hN : N = (m : Int) + 3) :
    Calls Tryz.prog 129 #[.slice A n c, .int .i64 N, .int .i64 (s : Int)] w fun e w' => e = .returned (.int .i64 ((val xs / (2 ^ (34 - s) * BB ^ m) : Nat) : Int)) ∧ w' = w := by
  have g0 := h.ok.get m
  have g1 := h.ok.get (m + 1)
  have g2 := h.ok.get (m + 2)
  have hT := lead_top _ _ s hs g1 htop
  have hv := val_three xs h.ok m (by rw [h.len]; exact hn)
  have hb := lead_bits (gw xs (m + 2) * 4294967296 + gw xs (m + 1)) (gw xs m) s hs
  have he : val xs / (2 ^ (34 - s) * BB ^ m) = ((gw xs (m + 2) * 4294967296 + gw xs (m + 1)) * 2 ^ s + gw xs m * 2 ^ s / 4294967296) / 4 := by
    rw [hb, Nat.mul_comm, ← Nat.div_div_eq_div_mul, hv]; rfl
  rw [he]
  have h32 : (gw xs (m + 2) * 4294967296 + gw xs (m + 1)) * 2 ^ s + gw xs m * 2 ^ s / 4294967296 < 18446744073709551616 := by
    have h2 := lead_or (gw xs (m + 2) * 4294967296 + gw xs (m + 1)) (gw xs m) s hs g0 hT
    have h3 : (4294967296 : Nat) ∣ 18446744073709551616 := ⟨4294967296, rfl⟩
    have hp : 0 < 2 ^ s := Nat.pow_pos (by decide)
    have h1 : gw xs m * 2 ^ s / 4294967296 < 2 ^ s := Nat.div_lt_of_lt_mul (by rw [Nat.mul_comm 4294967296]; rw [Nat.mul_comm (gw xs m)]; exact Nat.mul_lt_mul_of_pos_left g0 hp)
    have h4 : (gw xs (m + 2) * 4294967296 + gw xs (m + 1)) * 2 ^ s + 2 ^ s ≤ 18446744073709551616 := by
      obtain ⟨q, hq⟩ : ∃ q, 18446744073709551616 = 2 ^ s * q := ⟨2 ^ (64 - s), by rw [← Nat.pow_add, show s + (64 - s) = 64 from by omega]⟩
      rw [hq, Nat.mul_comm _ (2 ^ s)] at hT
      have h5 := Nat.lt_of_mul_lt_mul_left hT
      have h6 : 2 ^ s * (gw xs (m + 2) * 4294967296 + gw xs (m + 1) + 1) ≤ 2 ^ s * q := Nat.mul_le_mul_left _ h5
      rw [← hq, Nat.mul_add, Nat.mul_comm (2 ^ s) (gw xs (m + 2) * 4294967296 + gw xs (m + 1))] at h6
      omega
    omega
  have w2 := lead_wrap _ s hT
  have w3 := shl_wrap (gw xs m) s g0 (by omega)
  have o1 := or64' (gw xs (m + 2)) (gw xs (m + 1)) g2 g1
  have o2 := lead_or _ (gw xs m) s hs g0 hT
  clear he hb hv htop
  generalize hTT : gw xs (m + 2) * 4294967296 + gw xs (m + 1) = T at *
  have HT := Lib.hid hTT
  clear hTT
  have hz : 0 ≤ gw xs m * 2 ^ s := Nat.zero_le _
  subst hN
  go_enter Tryz.func129, Tryz.ntmps129
  go_wp2_with fail
  refine (at_is _ _ _ _ _ h _ (m + 2) (by omega) (by omega)).mono ?_
  rintro e w' ⟨rfl, rfl⟩
  go_wp2_with fail
  refine (at_is _ _ _ _ _ h _ (m + 1) (by omega) (by omega)).mono ?_
  rintro e w' ⟨rfl, rfl⟩
  go_wp2_with fail
  refine (at_is _ _ _ _ _ h _ m (by omega) (by omega)).mono ?_
  rintro e w' ⟨rfl, rfl⟩
  go_wp2
  go_ret
  exact ⟨ret_int (by rw [cast_shl, cast_shl, o2, show ((T * 2 ^ s + gw xs m * 2 ^ s / 4294967296 : Nat) : Int) / 4 = (((T * 2 ^ s + gw xs m * 2 ^ s / 4294967296) / 4 : Nat) : Int) from by rw [Int.natCast_ediv]; rfl]; exact IntWalk.wrap64_in _ (by omega)), rfl⟩
/-- the same, the result under a name -/
theorem leading_is (w : World) (A : Option Addr) (n c m s v : Nat) (xs : List Nat) (h : Rd w A n c xs) (hn : n ≤ m + 3) (hm : m ≤ 100000) (hs : s ≤ 31) (htop : gw xs (m + 2) * 2 ^ s < 4294967296) (N : Int) (hN : N = (m : Int) + 3) (hv : val xs / (2 ^ (34 - s) * BB ^ m) = v) :
    Calls Tryz.prog 129 #[.slice A n c, .int .i64 N, .int .i64 (s : Int)] w fun e w' => e = .returned (.int .i64 ((v : Nat) : Int)) ∧ w' = w := by
  subst hv
  exact leading_any w A n c m s xs h hn hm hs htop N hN
theorem small_yes (w : World) (x : Int) (h : -1073741824 ≤ x ∧ x ≤ 1073741824) :
    Calls Tryz.prog 130 #[.int .i64 x] w fun e w' => e = .returned (.bool true) ∧ w' = w := by
  obtain ⟨h1, h2⟩ := h
  go_enter Tryz.func130, Tryz.ntmps130
  go_wp2
  go_ret
  exact ⟨rfl, rfl⟩
theorem small_no (w : World) (x : Int) (h : ¬ (-1073741824 ≤ x ∧ x ≤ 1073741824)) :
    Calls Tryz.prog 130 #[.int .i64 x] w fun e w' => e = .returned (.bool false) ∧ w' = w := by
  by_cases h1 : -1073741824 ≤ x
  · have h2 : ¬ x ≤ 1073741824 := fun e => h ⟨h1, e⟩
    clear h
    go_enter Tryz.func130, Tryz.ntmps130
    go_wp2
    go_ret
    exact ⟨rfl, rfl⟩
  · clear h
    go_enter Tryz.func130, Tryz.ntmps130
    go_wp2
    go_ret
    exact ⟨rfl, rfl⟩
set_option maxHeartbeats 1000000 in
/-- s*x + t*y, which is not below 0 and has no more words than x -/
theorem combine_any (w : World) (A A' : Option Addr) (n c n' c' : Nat) (xs ys : List Nat) (h : Rd w A n c xs) (k : Rd w A' n' c' ys) (hn : n ≤ 100000) (hle : n' ≤ n) (s t : Int) (hs : -1073741824 ≤ s ∧ s ≤ 1073741824) (ht : -1073741824 ≤ t ∧ t ≤ 1073741824)
    (z : Nat) (hz : s * (val xs : Int) + t * (val ys : Int) = (z : Int)) (hzl : z < BB ^ n) :
    Calls Tryz.prog 109 #[.int .i64 s, .int .i64 t, .slice A n c, .slice A' n' c'] w (Gives w z n) := by
  have hmk := run_mk n (by omega) w
  have HZ := Lib.hid hz
  have HZL := Lib.hid hzl
  obtain ⟨hs1, hs2⟩ := hs
  obtain ⟨ht1, ht2⟩ := ht
  clear hz hzl
  go_enter Tryz.func109, Tryz.ntmps109
  go_wp2
  go_loopw [10, 18] (fun cy i wr => ∃ (j : Nat) (v : Int) (cur : Array Value) (ss : List Nat), j ≤ n ∧ i = .int .i64 (j : Int) ∧ cy = .int .i64 v ∧ -2147483648 ≤ v ∧ v ≤ 2147483647 ∧ Own wr w.heap.size 66 cur ∧ Has cur 0 ss ∧ ss.length = n ∧ (val (ss.take j) : Int) + (BB ^ j : Nat) * v = s * (val (xs.take j) : Int) + t * (val (ys.take j) : Int) ∧ On w wr) (fun _ i _ => n - (intOf i).toNat)
  case atStart => exact ⟨0, 0, _, _, by omega, rfl, rfl, by omega, by omega, Own.new _ _ _, has_made _, by simp, by simp [val], (On.refl w).alloc _⟩
  case round =>
    obtain ⟨j, v, cur, ss, hj, rfl, rfl, hv1, hv2, hown, hh, hl, hv, hon⟩ := hrel
    have H1 := Lib.hid hl
    have H2 := Lib.hid hv
    have H3 := Lib.hid hown
    clear hl hv hown
    by_cases hlt : j < n
    · obtain ⟨ad, rfl, hb, hc⟩ := (h.on hon).at_ j hlt
      have T2 := k.on hon
      have gx := h.ok.get j
      have gy := k.ok.get j
      have m1 := comb_mul s (gw xs j : Int) ⟨hs1, hs2⟩ (by omega)
      have m2 := comb_mul t (gw ys j : Int) ⟨ht1, ht2⟩ (by omega)
      obtain ⟨m11, m12⟩ := m1
      obtain ⟨m21, m22⟩ := m2
      have hcell : wr.cell? ⟨w.heap.size, j, none⟩ = some (.int .u32 ((gw ss j : Nat) : Int)) := (H3.out.cell _).trans (by have := hh.get j (by rw [H1.out]; omega); rwa [Nat.zero_add] at this)
      have hfroz : wr.frozen? ⟨w.heap.size, j, none⟩ = false := H3.out.frozen _
      go_wp2_with fail
      refine (at_is _ _ _ _ _ T2 _ j (by omega) (by omega)).mono ?_
      rintro e w' ⟨rfl, rfl⟩
      go_wp2
      have e0 : ((v + (s * (gw xs j : Int) + t * (gw ys j : Int))) % 4294967296) = ((((v + (s * (gw xs j : Int) + t * (gw ys j : Int))) % 4294967296).toNat : Nat) : Int) := by omega
      have hA := hh.set_ (j := j) (x := ((v + (s * (gw xs j : Int) + t * (gw ys j : Int))) % 4294967296).toNat) (by rw [H1.out]; omega) (by omega)
      rw [Nat.zero_add] at hA
      rw [e0]
      refine ⟨⟨j + 1, (v + (s * (gw xs j : Int) + t * (gw ys j : Int))) / 4294967296, _, _, by omega, by go_num, rfl, by omega, by omega, H3.out.set_ _ _, hA, by rw [List.length_set, H1.out], ?_, hon.setCell (Nat.le_refl _) _⟩, by simp [intOf]; omega⟩
      rw [set_take_succ _ _ _ (by rw [H1.out]; omega), val_take_succ_any, val_take_succ_any, Nat.pow_succ, Int.natCast_add, Int.natCast_add, Int.natCast_add, Int.natCast_mul, Int.natCast_mul, Int.natCast_mul, Int.natCast_mul, ← e0]
      exact comb_step _ _ _ _ _ _ _ _ _ _ H2.out rfl
    · obtain rfl : j = n := by omega
      have R := Rd.own (n := j) (c := j) H3.out hh H1.out (Nat.le_refl _) (by omega)
      go_wp2_with fail
      refine (trim_any _ _ _ _ _ R).mono ?_
      rintro e w' ⟨rfl, rfl⟩
      go_wp2
      go_ret
      have hN := nm_trim R (L := j) (Nat.le_trans (tl_le _) (by rw [H1.out]; omega))
      have hval : val ss = z := by
        have h2 := H2.out
        rw [List.take_of_length_le (Nat.le_of_eq H1.out), List.take_of_length_le (Nat.le_of_eq h.len), List.take_of_length_le (by rw [k.len]; exact hle), HZ.out] at h2
        have hvl := val_lt hh.ok
        rw [H1.out] at hvl
        have := comb_end _ _ _ _ h2 (by omega) (by omega) (by omega) (by have := HZL.out; omega)
        omega
      rw [hval] at hN
      exact ⟨_, _, _, rfl, hN, hon⟩
end
section
/-- what a call of leadingSteps says -/
def StepsPost (w : World) (x y : Nat) (e : Ending) (w' : World) : Prop :=
  ∃ p0 q0 a b c d p q : Int, e = .returned (.agg #[.int .i64 a, .int .i64 b, .int .i64 c, .int .i64 d]) ∧ Steps x y p0 q0 a b c d p q ∧ On w w'
theorem gw_top (xs : List Nat) (h : Ok xs) (m : Nat) (hl : xs.length ≤ m + 1) : gw xs m = val xs / BB ^ m := by
  rw [val_div_pow xs h m, val_drop_any' xs m, List.drop_of_length_le (by omega)]
  simp [val]
theorem lead_lt62 (x m s t : Nat) (hs : s ≤ 31) (ht : x / BB ^ (m + 2) = t) (hts : t * 2 ^ s < 4294967296) : x / (2 ^ (34 - s) * BB ^ m) < 4611686018427387904 := by
  have hp : 0 < 2 ^ (34 - s) * BB ^ m := Nat.mul_pos (Nat.pow_pos (by decide)) (Nat.pow_pos BB_pos)
  rw [Nat.div_lt_iff_lt_mul hp]
  have h1 : t < 2 ^ (32 - s) := by
    have h2 : t * 2 ^ s < 2 ^ (32 - s) * 2 ^ s := by rw [← Nat.pow_add, show 32 - s + s = 32 from by omega]; exact hts
    exact Nat.lt_of_mul_lt_mul_right h2
  have h3 : x < 2 ^ (32 - s) * BB ^ (m + 2) := by
    rw [← Nat.div_lt_iff_lt_mul (Nat.pow_pos BB_pos), ht]; exact h1
  have h4 : 4611686018427387904 * (2 ^ (34 - s) * BB ^ m) = 2 ^ (32 - s) * BB ^ (m + 2) := by
    rw [show 34 - s = 32 - s + 2 from by omega, Nat.pow_add 2 (32 - s) 2, Nat.pow_add BB m 2]
    have e : BB ^ 2 = 18446744073709551616 := by decide
    rw [e]
    generalize 2 ^ (32 - s) = u
    generalize BB ^ m = v
    rw [show (2 : Nat) ^ 2 = 4 from rfl, Nat.mul_comm u 4, Nat.mul_assoc 4 u v, ← Nat.mul_assoc 4611686018427387904 4 (u * v), Nat.mul_comm v, ← Nat.mul_assoc u, Nat.mul_comm u 18446744073709551616, Nat.mul_assoc 18446744073709551616 u v]
  omega
theorem lehm_mul (t c : Int) (h0 : 0 ≤ t) (h1 : t ≤ 1073741824) (h : -1073741824 ≤ c ∧ c ≤ 1073741824) : -1152921504606846976 ≤ t * c ∧ t * c ≤ 1152921504606846976 := by
  have a1 := Int.mul_le_mul_of_nonneg_left h.1 h0
  have a2 := Int.mul_le_mul_of_nonneg_left h.2 h0
  omega
/-- what the quotient takes off the leading part is no more than there is -/
theorem lehm_quot {x y p0 q0 a b c d p q t t' : Int} (h : Steps x y p0 q0 a b c d p q) (p1 : 0 < q + c) (p2 : 0 < q + d) (ht : 0 ≤ t) (l1 : t * (q + c) ≤ p + a) (l2 : t' * (q + d) ≤ p + b) (e : t = t') : 0 ≤ t * q ∧ t * q ≤ 4611686019501129728 := by
  subst e
  have hq0 : 0 ≤ q := by rcases h.sg with ⟨_, _, s3, s4⟩ | ⟨_, _, s3, s4⟩ <;> omega
  refine ⟨Int.mul_nonneg ht hq0, ?_⟩
  have := h.bp
  have := h.ba
  have := h.bb
  rcases h.sg with ⟨_, _, s3, s4⟩ | ⟨_, _, s3, s4⟩
  · have := Int.mul_le_mul_of_nonneg_left (show q ≤ q + d by omega) ht
    omega
  · have := Int.mul_le_mul_of_nonneg_left (show q ≤ q + c by omega) ht
    omega
theorem own_next (w : World) (o : Obj) (t : TypeId) (cur : Array Value) : Own ((w.alloc o).alloc (.cells cur t)) (w.heap.size + 1) t cur := by
  have h := Own.new (w.alloc o) t cur
  rwa [show (w.alloc o).heap.size = w.heap.size + 1 from by simp] at h
set_option maxRecDepth 100000 in
set_option maxHeartbeats 2000000 in
theorem steps_any (w : World) (A A' : Option Addr) (m c n' c' : Nat) (xs ys : List Nat) (h : Rd w A (m + 3) c xs) (k : Rd w A' n' c' ys) (hm : m ≤ 10000) (hle : n' ≤ m + 3) (htop : gw xs (m + 2) ≠ 0) (hv : val ys ≤ val xs) :
    Calls Tryz.prog 107 #[.slice A (m + 3) c, .slice A' n' c'] w (StepsPost w (val xs) (val ys)) := by
  obtain ⟨ad, rfl, hb, hcell⟩ := h.at_ (m + 2) (by omega)
  have gx := h.ok.get (m + 2)
  have hc := h.cap
  have hmx := h.max
  have hnb : nb (gw xs (m + 2)) ≤ 32 := (nb_le_iff _ _).2 (by omega)
  have hnp : 0 < nb (gw xs (m + 2)) := by unfold nb; rw [if_neg htop]; omega
  obtain ⟨s, hs⟩ : ∃ s, nb (gw xs (m + 2)) + s = 32 := ⟨32 - nb (gw xs (m + 2)), by omega⟩
  have hs31 : s ≤ 31 := by omega
  have hxt : gw xs (m + 2) * 2 ^ s < 4294967296 := by
    have h1 := nb_lt (gw xs (m + 2))
    have h2 : gw xs (m + 2) * 2 ^ s < 2 ^ nb (gw xs (m + 2)) * 2 ^ s := Nat.mul_lt_mul_of_pos_right h1 (Nat.pow_pos (by decide))
    rw [← Nat.pow_add, hs] at h2
    exact h2
  have ex := gw_top xs h.ok (m + 2) (by rw [h.len]; omega)
  have ey := gw_top ys k.ok (m + 2) (by rw [k.len]; omega)
  have hyt : gw ys (m + 2) * 2 ^ s < 4294967296 := by
    have h1 : gw ys (m + 2) ≤ gw xs (m + 2) := by rw [ex, ey]; exact Nat.div_le_div_right hv
    have h2 : gw ys (m + 2) * 2 ^ s ≤ gw xs (m + 2) * 2 ^ s := Nat.mul_le_mul_right _ h1
    omega
  have hpl := lead_lt62 (val xs) m s _ hs31 ex.symm hxt
  have hql := lead_lt62 (val ys) m s _ hs31 ey.symm hyt
  obtain ⟨K, hK⟩ : ∃ K, 2 ^ (34 - s) * BB ^ m = K := ⟨_, rfl⟩
  have hKp : 0 < K := by rw [← hK]; exact Nat.mul_pos (Nat.pow_pos (by decide)) (Nat.pow_pos BB_pos)
  have lx := cut_low (val xs) K hKp
  have ly := cut_low (val ys) K hKp
  have hB := bitLen_nb (gw xs (m + 2)) (by omega)
  have HB := Lib.hid hB
  have hsb : (32 : Int) - ((nb (gw xs (m + 2)) : Nat) : Int) = (s : Int) := by omega
  have HSB := Lib.hid hsb
  rw [hK] at hpl hql
  have HLX := Lib.hid lx
  have HLY := Lib.hid ly
  have HK := Lib.hid hK
  obtain ⟨P0, hP⟩ : ∃ P0, val xs / K = P0 := ⟨_, rfl⟩
  obtain ⟨Q0, hQ⟩ : ∃ Q0, val ys / K = Q0 := ⟨_, rfl⟩
  rw [hP] at hpl HLX
  rw [hQ] at hql HLY
  have HP := Lib.hid hP
  have HQ := Lib.hid hQ
  have hst := Steps.start (val xs : Int) (val ys : Int) (P0 : Int) (Q0 : Int) (by omega) (by omega) (by omega) (by omega) (by omega) (by omega)
  have HST := Lib.hid hst
  have HXT := Lib.hid hxt
  have HYT := Lib.hid hyt
  clear hB hsb lx ly hK hst hP hQ hnb hnp hs htop hxt hyt ex ey hv
  obtain ⟨N, hN⟩ : ∃ N, m + 3 = N := ⟨_, rfl⟩
  obtain ⟨M1, hM1⟩ : ∃ N, m + 2 = N := ⟨_, rfl⟩
  have w1 : IntKind.i64.wrap ((N : Int) - 1) = (M1 : Int) := by rw [IntWalk.i64_in _ (by omega)]; omega
  have i1 : M1 < N := by omega
  have hN2 : (N : Int) = (m : Int) + 3 := by omega
  have HN2 := Lib.hid hN2
  have h' : Rd w (some ad) N c xs := by rw [← hN]; exact h
  have hle' : N ≤ m + 3 := by omega
  rw [hM1] at hcell gx HB HSB
  rw [hN] at hc ⊢
  clear h hN hM1 hN2
  have h1 := h'.alloc (.cells #[.int .i64 0, .int .i64 0, .int .i64 0, .int .i64 0] 83)
  have k1 := k.alloc (.cells #[.int .i64 0, .int .i64 0, .int .i64 0, .int .i64 0] 83)
  have hc1 : (w.alloc (.cells #[.int .i64 0, .int .i64 0, .int .i64 0, .int .i64 0] 83)).cell? (ad.add M1) = some (.int .u32 ((gw xs M1 : Nat) : Int)) := by
    obtain ⟨ad2, e2, _, hc2⟩ := h1.at_ M1 i1
    injection e2 with e2
    subst e2
    exact hc2
  go_enter Tryz.func107, Tryz.ntmps107
  go_wp2_with fail
  refine (Tryz.bits_LeadingZeros32 ((gw xs M1 : Nat) : Int) _ (by omega) (by omega)).mono ?_
  rintro e w' ⟨rfl, hw⟩
  rw [hw]
  clear hw w'
  rw [Int.toNat_natCast, HB.out, HSB.out]
  go_wp2_with fail
  refine (leading_is _ _ _ _ m s P0 _ h1 hle' (by omega) hs31 HXT.out _ HN2.out (by rw [HK.out]; exact HP.out)).mono ?_
  rintro e w' ⟨rfl, rfl⟩
  go_wp2_with fail
  refine (leading_is _ _ _ _ m s Q0 _ k1 hle (by omega) hs31 HYT.out _ HN2.out (by rw [HK.out]; exact HQ.out)).mono ?_
  rintro e w' ⟨rfl, rfl⟩
  go_wp2
  go_loopg [6, 7] Q0 (fun g pv qv wr => ∃ a b c d p q : Int, pv = .int .i64 p ∧ qv = .int .i64 q ∧ 0 ≤ q + c ∧ q + c ≤ (g : Int) ∧ Own wr (w.heap.size + 1) 83 #[.int .i64 a, .int .i64 b, .int .i64 c, .int .i64 d] ∧ Own wr w.heap.size 83 #[.int .i64 0, .int .i64 0, .int .i64 0, .int .i64 0] ∧ Steps (val xs) (val ys) P0 Q0 a b c d p q ∧ On w wr)
  case atStart => exact ⟨1, 0, 0, 1, P0, Q0, rfl, rfl, by omega, by omega, own_next w _ _ _, (Own.new _ _ _).alloc _, HST.out, ((On.refl w).alloc _).alloc _⟩
  case round =>
    obtain ⟨a, b, c, d, p, q, rfl, rfl, hq0, hqg, ho1, ho2, hS, hon⟩ := hrel
    have c0 : wr.cell? ⟨w.heap.size + 1, 0, none⟩ = some (.int .i64 a) := ho1.cell 0
    have c1 : wr.cell? ⟨w.heap.size + 1, 1, none⟩ = some (.int .i64 b) := ho1.cell 1
    have c2 : wr.cell? ⟨w.heap.size + 1, 2, none⟩ = some (.int .i64 c) := ho1.cell 2
    have c3 : wr.cell? ⟨w.heap.size + 1, 3, none⟩ = some (.int .i64 d) := ho1.cell 3
    have f10 := ho1.frozen 0
    have f11 := ho1.frozen 1
    have f12 := ho1.frozen 2
    have f13 := ho1.frozen 3
    have e0 : wr.cell? ⟨w.heap.size, 0, none⟩ = some (.int .i64 0) := ho2.cell 0
    have e1 : wr.cell? ⟨w.heap.size, 1, none⟩ = some (.int .i64 0) := ho2.cell 1
    have e2 : wr.cell? ⟨w.heap.size, 2, none⟩ = some (.int .i64 0) := ho2.cell 2
    have e3 : wr.cell? ⟨w.heap.size, 3, none⟩ = some (.int .i64 0) := ho2.cell 3
    have f20 := ho2.frozen 0
    have f21 := ho2.frozen 1
    have f22 := ho2.frozen 2
    have f23 := ho2.frozen 3
    have HS := Lib.hid hS
    have HO1 := Lib.hid ho1
    have HO2 := Lib.hid ho2
    obtain ⟨sp, sq, sg, pa, pb, qc, qd, ⟨ba1, ba2⟩, ⟨bb1, bb2⟩, ⟨bc1, bc2⟩, ⟨bd1, bd2⟩, bp, bq, y0, yx, xx, gc, lt⟩ := hS
    clear sp sq sg y0 yx xx gc lt ho1 ho2
    by_cases h1 : q + c = 0
    · have t1 : (q + c != 0) = false := by simp [h1]
      have H1 := Lib.hid h1
      clear h1
      go_wp2
      exact bodyPost_ret (v := .agg #[.int .i64 a, .int .i64 b, .int .i64 c, .int .i64 d]) (by simp [results, Tryz.results107, go_sem, e0, e1, e2, e3]) rfl ⟨P0, Q0, a, b, c, d, p, q, rfl, HS.out, (((hon.setCell (Nat.le_refl _) _).setCell (Nat.le_refl _) _).setCell (Nat.le_refl _) _).setCell (Nat.le_refl _) _⟩
    · have t1 : (q + c != 0) = true := by rw [bne_iff_ne]; exact h1
      have p1 : 0 < q + c := by omega
      have H1 := Lib.hid h1
      clear h1
      by_cases h2 : q + d = 0
      · have t2 : (q + d != 0) = false := by simp [h2]
        have H2 := Lib.hid h2
        clear h2
        go_wp2
        exact bodyPost_ret (v := .agg #[.int .i64 a, .int .i64 b, .int .i64 c, .int .i64 d]) (by simp [results, Tryz.results107, go_sem, e0, e1, e2, e3]) rfl ⟨P0, Q0, a, b, c, d, p, q, rfl, HS.out, (((hon.setCell (Nat.le_refl _) _).setCell (Nat.le_refl _) _).setCell (Nat.le_refl _) _).setCell (Nat.le_refl _) _⟩
      · have t2 : (q + d != 0) = true := by rw [bne_iff_ne]; exact h2
        have p2 : 0 < q + d := by omega
        have H2 := Lib.hid h2
        clear h2
        have l1 := Int.ediv_mul_le (p + a) (show q + c ≠ 0 from H1.out)
        have u1 := Int.lt_ediv_add_one_mul_self (p + a) p1
        have l2 := Int.ediv_mul_le (p + b) (show q + d ≠ 0 from H2.out)
        have u2 := Int.lt_ediv_add_one_mul_self (p + b) p2
        have g1 : 0 ≤ (p + a) / (q + c) := Int.ediv_nonneg pa (by omega)
        have g2 : 0 ≤ (p + b) / (q + d) := Int.ediv_nonneg pb (by omega)
        by_cases h3 : (p + a) / (q + c) = (p + b) / (q + d)
        · have t3 : ((p + a) / (q + c) != (p + b) / (q + d)) = false := by simp [h3]
          have H3 := Lib.hid h3
          clear h3
          by_cases h4 : 1073741824 < (p + a) / (q + c)
          · have H4 := Lib.hid h4
            go_wp2
            exact bodyPost_ret (v := .agg #[.int .i64 a, .int .i64 b, .int .i64 c, .int .i64 d]) (by simp [results, Tryz.results107, go_sem, e0, e1, e2, e3]) rfl ⟨P0, Q0, a, b, c, d, p, q, rfl, HS.out, (((hon.setCell (Nat.le_refl _) _).setCell (Nat.le_refl _) _).setCell (Nat.le_refl _) _).setCell (Nat.le_refl _) _⟩
          · have H4 := Lib.hid h4
            have h4' : (p + a) / (q + c) ≤ 1073741824 := by omega
            have m1 := lehm_mul ((p + a) / (q + c)) c g1 h4' ⟨bc1, bc2⟩
            have m2 := lehm_mul ((p + a) / (q + c)) d g1 h4' ⟨bd1, bd2⟩
            have m3 := lehm_quot HS.out p1 p2 g1 l1 l2 H3.out
            obtain ⟨m11, m12⟩ := m1
            obtain ⟨m21, m22⟩ := m2
            obtain ⟨m31, m32⟩ := m3
            have ga1 := HO1.out.alloc (.cells #[.int .i64 c, .int .i64 d, .int .i64 (a - (p + a) / (q + c) * c), .int .i64 (b - (p + a) / (q + c) * d)] 83)
            have ga2 := HO2.out.alloc (.cells #[.int .i64 c, .int .i64 d, .int .i64 (a - (p + a) / (q + c) * c), .int .i64 (b - (p + a) / (q + c) * d)] 83)
            have ga3 := Own.new wr 83 #[.int .i64 c, .int .i64 d, .int .i64 (a - (p + a) / (q + c) * c), .int .i64 (b - (p + a) / (q + c) * d)]
            have gn : w.heap.size + 1 ≠ wr.heap.size := Nat.ne_of_lt HO1.out.lt
            have GA1 := Lib.hid ga1
            have GA2 := Lib.hid ga2
            have GA3 := Lib.hid ga3
            have GN := Lib.hid gn
            clear ga1 ga2 ga3 gn
            by_cases h5 : -1073741824 ≤ a - (p + a) / (q + c) * c ∧ a - (p + a) / (q + c) * c ≤ 1073741824
            · have H5 := Lib.hid h5
              go_wp2_with fail
              refine (small_yes _ _ H5.out).mono ?_
              rintro e w' ⟨rfl, rfl⟩
              obtain ⟨wx, hwx⟩ : ∃ wx, wr.alloc (.cells #[.int .i64 c, .int .i64 d, .int .i64 (a - (p + a) / (q + c) * c), .int .i64 (b - (p + a) / (q + c) * d)] 83) = wx := ⟨_, rfl⟩
              rw [hwx] at GA1 GA2 GA3 ⊢
              have honx : On w wx := by rw [← hwx]; exact hon.alloc _
              clear hwx
              clear c0 e0 f10 f20 c1 e1 f11 f21 c2 e2 f12 f22 c3 e3 f13 f23
              have c0 : wx.cell? ⟨w.heap.size + 1, 0, none⟩ = some (.int .i64 a) := GA1.out.cell 0
              have c1 : wx.cell? ⟨w.heap.size + 1, 1, none⟩ = some (.int .i64 b) := GA1.out.cell 1
              have c2 : wx.cell? ⟨w.heap.size + 1, 2, none⟩ = some (.int .i64 c) := GA1.out.cell 2
              have c3 : wx.cell? ⟨w.heap.size + 1, 3, none⟩ = some (.int .i64 d) := GA1.out.cell 3
              have e0 : wx.cell? ⟨w.heap.size, 0, none⟩ = some (.int .i64 0) := GA2.out.cell 0
              have e1 : wx.cell? ⟨w.heap.size, 1, none⟩ = some (.int .i64 0) := GA2.out.cell 1
              have e2 : wx.cell? ⟨w.heap.size, 2, none⟩ = some (.int .i64 0) := GA2.out.cell 2
              have e3 : wx.cell? ⟨w.heap.size, 3, none⟩ = some (.int .i64 0) := GA2.out.cell 3
              have n0 : wx.cell? ⟨wr.heap.size, 0, none⟩ = some (.int .i64 c) := GA3.out.cell 0
              have n1 : wx.cell? ⟨wr.heap.size, 1, none⟩ = some (.int .i64 d) := GA3.out.cell 1
              have n2 : wx.cell? ⟨wr.heap.size, 2, none⟩ = some (.int .i64 (a - (p + a) / (q + c) * c)) := GA3.out.cell 2
              have n3 : wx.cell? ⟨wr.heap.size, 3, none⟩ = some (.int .i64 (b - (p + a) / (q + c) * d)) := GA3.out.cell 3
              have f10 := GA1.out.frozen 0
              have f20 := GA2.out.frozen 0
              have f11 := GA1.out.frozen 1
              have f21 := GA2.out.frozen 1
              have f12 := GA1.out.frozen 2
              have f22 := GA2.out.frozen 2
              have f13 := GA1.out.frozen 3
              have f23 := GA2.out.frozen 3
            
              clear h5
              by_cases h6 : -1073741824 ≤ b - (p + a) / (q + c) * d ∧ b - (p + a) / (q + c) * d ≤ 1073741824
              · go_wp2_with fail
                refine (small_yes _ _ h6).mono ?_
                rintro e w' ⟨rfl, rfl⟩
                go_wp2
                have HS2 := HS.out.step (K := (K : Int)) (t := (p + a) / (q + c)) (by omega) HLX.out.1 HLX.out.2 HLY.out.1 HLY.out.2 H1.out H2.out g1 l1 u1 (by rw [H3.out]; exact l2) (by rw [H3.out]; exact u2) H5.out h6
                have hms : p + a < (p + a) / (q + c) * (q + c) + (q + c) := by have := u1; rw [Int.add_mul, Int.one_mul] at this; exact this
                rw [Int.mul_add] at hms
                have hz := HS2.qc
                go_roundg ((p - (p + a) / (q + c) * q) + (a - (p + a) / (q + c) * c)).toNat
                case measure => omega
                case rel =>
                  refine ⟨c, d, _, _, q, _, rfl, rfl, hz, by omega, (((GA1.out.set_ 0 _).set_ 1 _).set_ 2 _).set_ 3 _, (((GA2.out.far (by show w.heap.size ≠ w.heap.size + 1; omega) _).far (by show w.heap.size ≠ w.heap.size + 1; omega) _).far (by show w.heap.size ≠ w.heap.size + 1; omega) _).far (by show w.heap.size ≠ w.heap.size + 1; omega) _, HS2, ?_⟩
                  exact (((honx.setCell (by show w.heap.size ≤ w.heap.size + 1; omega) _).setCell (by show w.heap.size ≤ w.heap.size + 1; omega) _).setCell (by show w.heap.size ≤ w.heap.size + 1; omega) _).setCell (by show w.heap.size ≤ w.heap.size + 1; omega) _
              · have H6 := Lib.hid h6
                clear h6
                go_wp2_with fail
                refine (small_no _ _ H6.out).mono ?_
                rintro e w' ⟨rfl, rfl⟩
                go_wp2
                exact bodyPost_ret (v := .agg #[.int .i64 a, .int .i64 b, .int .i64 c, .int .i64 d]) (by simp [results, Tryz.results107, go_sem, e0, e1, e2, e3]) rfl ⟨P0, Q0, a, b, c, d, p, q, rfl, HS.out, (((honx.setCell (Nat.le_refl _) _).setCell (Nat.le_refl _) _).setCell (Nat.le_refl _) _).setCell (Nat.le_refl _) _⟩
            · have H5 := Lib.hid h5
              clear h5
              go_wp2_with fail
              refine (small_no _ _ H5.out).mono ?_
              rintro e w' ⟨rfl, rfl⟩
              obtain ⟨wx, hwx⟩ : ∃ wx, wr.alloc (.cells #[.int .i64 c, .int .i64 d, .int .i64 (a - (p + a) / (q + c) * c), .int .i64 (b - (p + a) / (q + c) * d)] 83) = wx := ⟨_, rfl⟩
              rw [hwx] at GA1 GA2 GA3 ⊢
              have honx : On w wx := by rw [← hwx]; exact hon.alloc _
              clear hwx
              clear c0 e0 f10 f20 c1 e1 f11 f21 c2 e2 f12 f22 c3 e3 f13 f23
              have c0 : wx.cell? ⟨w.heap.size + 1, 0, none⟩ = some (.int .i64 a) := GA1.out.cell 0
              have c1 : wx.cell? ⟨w.heap.size + 1, 1, none⟩ = some (.int .i64 b) := GA1.out.cell 1
              have c2 : wx.cell? ⟨w.heap.size + 1, 2, none⟩ = some (.int .i64 c) := GA1.out.cell 2
              have c3 : wx.cell? ⟨w.heap.size + 1, 3, none⟩ = some (.int .i64 d) := GA1.out.cell 3
              have e0 : wx.cell? ⟨w.heap.size, 0, none⟩ = some (.int .i64 0) := GA2.out.cell 0
              have e1 : wx.cell? ⟨w.heap.size, 1, none⟩ = some (.int .i64 0) := GA2.out.cell 1
              have e2 : wx.cell? ⟨w.heap.size, 2, none⟩ = some (.int .i64 0) := GA2.out.cell 2
              have e3 : wx.cell? ⟨w.heap.size, 3, none⟩ = some (.int .i64 0) := GA2.out.cell 3
              have n0 : wx.cell? ⟨wr.heap.size, 0, none⟩ = some (.int .i64 c) := GA3.out.cell 0
              have n1 : wx.cell? ⟨wr.heap.size, 1, none⟩ = some (.int .i64 d) := GA3.out.cell 1
              have n2 : wx.cell? ⟨wr.heap.size, 2, none⟩ = some (.int .i64 (a - (p + a) / (q + c) * c)) := GA3.out.cell 2
              have n3 : wx.cell? ⟨wr.heap.size, 3, none⟩ = some (.int .i64 (b - (p + a) / (q + c) * d)) := GA3.out.cell 3
              have f10 := GA1.out.frozen 0
              have f20 := GA2.out.frozen 0
              have f11 := GA1.out.frozen 1
              have f21 := GA2.out.frozen 1
              have f12 := GA1.out.frozen 2
              have f22 := GA2.out.frozen 2
              have f13 := GA1.out.frozen 3
              have f23 := GA2.out.frozen 3
              go_wp2
              exact bodyPost_ret (v := .agg #[.int .i64 a, .int .i64 b, .int .i64 c, .int .i64 d]) (by simp [results, Tryz.results107, go_sem, e0, e1, e2, e3]) rfl ⟨P0, Q0, a, b, c, d, p, q, rfl, HS.out, (((honx.setCell (Nat.le_refl _) _).setCell (Nat.le_refl _) _).setCell (Nat.le_refl _) _).setCell (Nat.le_refl _) _⟩
        · have t3 : ((p + a) / (q + c) != (p + b) / (q + d)) = true := by rw [bne_iff_ne]; exact h3
          have H3 := Lib.hid h3
          clear h3
          go_wp2
          exact bodyPost_ret (v := .agg #[.int .i64 a, .int .i64 b, .int .i64 c, .int .i64 d]) (by simp [results, Tryz.results107, go_sem, e0, e1, e2, e3]) rfl ⟨P0, Q0, a, b, c, d, p, q, rfl, HS.out, (((hon.setCell (Nat.le_refl _) _).setCell (Nat.le_refl _) _).setCell (Nat.le_refl _) _).setCell (Nat.le_refl _) _⟩
end
section
set_option maxHeartbeats 400000 in
theorem gcd64_any (w : World) (x y : Nat) (hx : x ≤ 18446744073709551615) (hy : y ≤ 18446744073709551615) :
    Calls Tryz.prog 112 #[.int .u64 (x : Int), .int .u64 (y : Int)] w fun e w' => e = .returned (.int .u64 ((Nat.gcd x y : Nat) : Int)) ∧ On w w' := by
  go_enter Tryz.func112, Tryz.ntmps112
  go_wp2
  go_loopw [0, 1] (fun u v wr => ∃ a b : Nat, u = .int .u64 (a : Int) ∧ v = .int .u64 (b : Int) ∧ a ≤ 18446744073709551615 ∧ b ≤ 18446744073709551615 ∧ Nat.gcd a b = Nat.gcd x y ∧ On w wr) (fun _ v _ => (intOf v).toNat)
  case atStart => exact ⟨x, y, rfl, rfl, hx, hy, rfl, On.refl _⟩
  case round =>
    obtain ⟨a, b, rfl, rfl, ha, hb, hg, hon⟩ := hrel
    have HG := Lib.hid hg
    clear hg
    by_cases h0 : b = 0
    · subst h0
      go_wp2
      go_ret
      exact ⟨ret_int (by rw [← HG.out, Nat.gcd_zero_right]), hon⟩
    · have hb1 : ((b : Int) != 0) = true := by rw [bne_iff_ne]; omega
      have hb2 : ((b : Int) == 0) = false := by simp; omega
      have h1 : 0 < b := by omega
      have hm := Nat.mod_lt a h1
      have hgc := Lib.hid (Nat.gcd_comm a b)
      have hgr := Lib.hid (Nat.gcd_rec b a)
      go_wp2
      go_quiet (fail)
      go_wp2
      rw [← Int.natCast_emod]
      exact ⟨⟨b, a % b, rfl, rfl, hb, by omega, by rw [Nat.gcd_comm, ← hgr.out, ← hgc.out, HG.out], hon.drewN nq⟩, by simp [intOf]; omega⟩
set_option maxHeartbeats 1000000 in
theorem gcd_small (w : World) (A A' : Option Addr) (n c n' c' : Nat) (xs ys : List Nat) (h : Rd w A n c xs) (k : Rd w A' n' c' ys) (hn : n ≤ 10000) (hn' : n' ≤ 10000) (h2 : tl xs ≤ 2) (h2' : tl ys ≤ 2) :
    Calls Tryz.prog 78 #[.slice A n c, .slice A' n' c'] w (Gives w (Nat.gcd (val xs) (val ys)) 2) := by
  have T := h.take (k := tl xs) (by rw [← h.len]; exact tl_le xs)
  have T' := k.take (k := tl ys) (by rw [← k.len]; exact tl_le ys)
  have C := clean_take xs
  have C' := clean_take ys
  rw [← val_take_tl xs, ← val_take_tl ys]
  generalize xs.take (tl xs) = zs at *
  generalize ys.take (tl ys) = us at *
  go_enter Tryz.func78, Tryz.ntmps78
  go_wp2_with fail
  refine (trim_any _ _ _ _ _ h).mono ?_
  rintro e w' ⟨rfl, rfl⟩
  go_wp2_with fail
  refine (clone_any _ _ _ _ _ T (by omega)).mono ?_
  rintro e w1 ⟨A1, c1, rfl, R1, hon1, _⟩
  go_wp2_with fail
  refine (trim_any _ _ _ _ _ (k.on hon1)).mono ?_
  rintro e w' ⟨rfl, rfl⟩
  go_wp2_with fail
  refine (clone_any _ _ _ _ _ (T'.on hon1) (by omega)).mono ?_
  rintro e w2 ⟨A2, c2, rfl, R2, hon2, _⟩
  have R3 := R1.on hon2
  have hon := hon1.trans hon2
  clear h k T T' R1 hon1 hon2
  go_wp2_with fail
  refine (cmp_any _ _ _ _ _ _ _ _ _ R3 R2).mono ?_
  rintro e w3 ⟨rfl, hon3⟩
  have R4 := R3.on hon3
  have R5 := R2.on hon3
  have hon := hon.trans hon3
  clear R3 R2 hon3
  generalize tl xs = m at *
  generalize tl ys = m' at *
  clear xs ys
  have hce : ∀ a b : Nat, a < b ∨ b ≤ a := fun a b => Nat.lt_or_ge a b
  have HR4 := Lib.hid R4
  have HR5 := Lib.hid R5
  have HC4 := Lib.hid C
  have HC5 := Lib.hid C'
  clear R4 R5 C C'
  go_upto_if 22 with (fail)
  go_cut [5, 6] (fun s5 s6 wx => ∃ (A1 : Option Addr) (n1 c1 : Nat) (l1 : List Nat) (A2 : Option Addr) (n2 c2 : Nat) (l2 : List Nat), s5 = .slice A1 n1 c1 ∧ s6 = .slice A2 n2 c2 ∧ Rd wx A1 n1 c1 l1 ∧ Rd wx A2 n2 c2 l2 ∧ Clean l1 ∧ Clean l2 ∧ n1 ≤ 2 ∧ n2 ≤ 2 ∧ val l2 ≤ val l1 ∧ Nat.gcd (val l1) (val l2) = Nat.gcd (val zs) (val us) ∧ On w wx)
  case first =>
    rcases hce (val zs) (val us) with h | h
    · rw [cmpI_lt h]
      have H := Lib.hid h
      clear h
      go_wp2
      go_meet
      exact ⟨_, _, _, us, _, _, _, zs, rfl, rfl, HR5.out, HR4.out, HC5.out, HC4.out, h2', h2, Nat.le_of_lt H.out, Nat.gcd_comm _ _, hon⟩
    · have hge : 0 ≤ cmpI (val zs) (val us) := by
        rcases Nat.lt_or_eq_of_le h with h | h
        · rw [cmpI_gt h]; decide
        · rw [cmpI_eq h.symm]; decide
      have H := Lib.hid h
      clear h
      generalize cmpI (val zs) (val us) = ci at *
      go_wp2
      go_meet
      exact ⟨_, _, _, zs, _, _, _, us, rfl, rfl, HR4.out, HR5.out, HC4.out, HC5.out, h2, h2', H.out, rfl, hon⟩
  case rest =>
    obtain ⟨A3, n3, c3, l3, A4, n4, c4, l4, rfl, rfl, R3, R4, C3, C4, hn3, hn4, hle, hg, hon⟩ := hcut
    have HG := Lib.hid hg
    clear hg
    have T3 := R3.at_
    go_wp2
    go_loopw [5, 6] (fun s5 s6 wr => s5 = .slice A3 n3 c3 ∧ s6 = .slice A4 n4 c4 ∧ wc = wr) (fun _ _ _ => 0)
    case atStart => exact ⟨rfl, rfl, rfl⟩
    case round =>
      obtain ⟨rfl, rfl, rfl⟩ := hrel
      rcases Nat.eq_zero_or_pos n4 with h0 | h0
      · subst h0
        obtain rfl := List.eq_nil_of_length_eq_zero R4.len
        have hgz : Nat.gcd (val zs) (val us) = val l3 := by rw [← HG.out]; simp [val]
        have HGZ := Lib.hid hgz
        clear hgz T3
        go_wp2
        go_ret
        exact ⟨_, _, _, rfl, ⟨l3, R3, C3, HGZ.out.symm, hn3⟩, hon⟩
      · have hb1 : ((n4 : Int) == 0) = false := by simp; omega
        clear T3
        have hv3 := val_lt R3.ok
        have hv4 := val_lt R4.ok
        rw [R3.len] at hv3
        rw [R4.len] at hv4
        have hp3 : BB ^ n3 ≤ BB ^ 2 := Nat.pow_le_pow_right BB_pos hn3
        have hp4 : BB ^ n4 ≤ BB ^ 2 := Nat.pow_le_pow_right BB_pos hn4
        have hbb : BB ^ 2 = 18446744073709551616 := by decide
        have hm3 : val l3 ≤ 18446744073709551615 := by omega
        have hm4 : val l4 ≤ 18446744073709551615 := by omega
        clear hv3 hv4 hp3 hp4 hbb
        go_wp2_with fail
        refine (to64_any _ _ _ _ _ R3 hn3).mono ?_
        rintro e w' ⟨rfl, rfl⟩
        go_wp2_with fail
        refine (to64_any _ _ _ _ _ R4 hn4).mono ?_
        rintro e w' ⟨rfl, rfl⟩
        go_wp2_with fail
        refine (gcd64_any _ _ _ hm3 hm4).mono ?_
        rintro e w5 ⟨rfl, hon5⟩
        have hgl : Nat.gcd (val l3) (val l4) ≤ 18446744073709551615 := by
          have h1 : 0 < val l4 := val_pos C4 (by rw [R4.len]; exact h0)
          exact Nat.le_trans (Nat.le_of_dvd h1 (Nat.gcd_dvd_right _ _)) hm4
        rw [HG.out] at hgl ⊢
        generalize Nat.gcd (val zs) (val us) = gg at *
        go_wp2_with fail
        refine (of64_any _ _ (by omega) (by omega)).mono ?_
        rintro e w6 ⟨A6, n6, c6, rfl, N6, hon6⟩
        rw [Int.toNat_natCast] at N6
        go_wp2
        go_ret
        exact ⟨_, _, _, rfl, N6, (hon.trans hon5).trans hon6⟩
end
section
/-- coefficients with which combine may be called -/
def CombOk (x y n : Nat) (s t : Int) : Prop := (-1073741824 ≤ s ∧ s ≤ 1073741824) ∧ (-1073741824 ≤ t ∧ t ≤ 1073741824) ∧ 0 ≤ s * (x : Int) + t * (y : Int) ∧ s * (x : Int) + t * (y : Int) < (BB ^ n : Nat)
theorem combine_of (w : World) (A A' : Option Addr) (n c n' c' : Nat) (xs ys : List Nat) (h : Rd w A n c xs) (k : Rd w A' n' c' ys) (hn : n ≤ 100000) (hle : n' ≤ n) (s t : Int) (ok : CombOk (val xs) (val ys) n s t) :
    Calls Tryz.prog 109 #[.int .i64 s, .int .i64 t, .slice A n c, .slice A' n' c'] w (Gives w (s * (val xs : Int) + t * (val ys : Int)).toNat n) := by
  obtain ⟨h1, h2, h3, h4⟩ := ok
  exact combine_any w A A' n c n' c' xs ys h k hn hle s t h1 h2 _ (by omega) (by omega)
/-- what two steps of Lehmer's make of two numbers -/
theorem lehmer_ok {x y n : Nat} {p0 q0 a b c d p q : Int} (h : Steps (x : Int) (y : Int) p0 q0 a b c d p q) (hb : b ≠ 0) (hx : x < BB ^ n) :
    CombOk x y n a b ∧ CombOk x y n c d ∧ (c * (x : Int) + d * (y : Int)).toNat < y ∧ (c * (x : Int) + d * (y : Int)).toNat ≤ (a * (x : Int) + b * (y : Int)).toNat ∧ Nat.gcd (a * (x : Int) + b * (y : Int)).toNat (c * (x : Int) + d * (y : Int)).toNat = Nat.gcd x y := by
  have y0 := h.y0
  have yx := h.yx
  have xx := h.xx
  have lt : c * (x : Int) + d * (y : Int) < (y : Int) := by
    rcases h.lt with ⟨_, e, _, _⟩ | e
    · exact absurd e hb
    · exact e
  have gc := h.gc
  refine ⟨⟨h.ba, h.bb, by omega, by omega⟩, ⟨h.bc, h.bd, by omega, by omega⟩, by omega, by omega, ?_⟩
  obtain ⟨u, hu⟩ := Int.eq_ofNat_of_zero_le (show 0 ≤ a * (x : Int) + b * (y : Int) by omega)
  obtain ⟨v, hv⟩ := Int.eq_ofNat_of_zero_le y0
  rw [hu, hv] at gc ⊢
  rw [Int.toNat_natCast, Int.toNat_natCast]
  rwa [Int.gcd_natCast_natCast, Int.gcd_natCast_natCast] at gc
theorem two_words {w : World} {A : Option Addr} {n c : Nat} {xs : List Nat} (h : Rd w A n c xs) (hn : n ≤ 2) : val xs ≤ 18446744073709551615 := by
  have h1 := val_lt h.ok
  rw [h.len] at h1
  have h2 : BB ^ n ≤ BB ^ 2 := Nat.pow_le_pow_right BB_pos hn
  have h3 : BB ^ 2 = 18446744073709551616 := by decide
  omega
theorem gcd_le2 {x y : Nat} (hx : x ≤ 18446744073709551615) (hy : y ≤ 18446744073709551615) : Nat.gcd x y ≤ 18446744073709551615 := by
  rcases Nat.eq_zero_or_pos y with h | h
  · subst h; rw [Nat.gcd_zero_right]; exact hx
  · exact Nat.le_trans (Nat.le_of_dvd h (Nat.gcd_dvd_right _ _)) hy
theorem clean_len_le {xs ys : List Nat} (hx : Ok xs) (cy : Clean ys) (h : val ys ≤ val xs) : ys.length ≤ xs.length := by
  apply Nat.le_of_not_lt
  intro hlt
  have := val_lt_of_len hx cy hlt
  omega
theorem steps_of (w : World) (A A' : Option Addr) (n c n' c' : Nat) (xs ys : List Nat) (h : Rd w A n c xs) (k : Rd w A' n' c' ys) (C : Clean xs) (hm : n ≤ 10000) (hle : n' ≤ n) (h3 : 2 < n) (hv : val ys ≤ val xs) :
    Calls Tryz.prog 107 #[.slice A n c, .slice A' n' c'] w (StepsPost w (val xs) (val ys)) := by
  obtain ⟨m, rfl⟩ : ∃ m, n = m + 3 := ⟨n - 3, by omega⟩
  exact steps_any w A A' m c n' c' xs ys h k (by omega) hle (clean_last C (m + 2) h.len) hv
theorem divlong_of (w : World) (A A' : Option Addr) (n c n' c' : Nat) (xs ys : List Nat) (h : Rd w A n c xs) (k : Rd w A' n' c' ys) (C : Clean ys) (hm : n ≤ 10000) (hle : n' ≤ n) (h3 : 1 < n') :
    Calls Tryz.prog 108 #[.slice A n c, .slice A' n' c'] w (QR2 w (val xs) (val ys) n n') := by
  obtain ⟨m, rfl⟩ : ∃ m, n' = m + 2 := ⟨n' - 2, by omega⟩
  exact divlong_any w A A' n c m c' xs ys h k (clean_last C (m + 1) k.len) hle hm
set_option maxRecDepth 100000 in
set_option maxHeartbeats 2000000 in
theorem gcd_any (w : World) (A A' : Option Addr) (n c n' c' L : Nat) (xs ys : List Nat) (h : Rd w A n c xs) (k : Rd w A' n' c' ys) (hn : n ≤ 10000) (hn' : n' ≤ 10000) (hL : tl xs ≤ L) (hL' : tl ys ≤ L) (hL2 : 2 ≤ L) (hLb : L ≤ 10000) :
    Calls Tryz.prog 78 #[.slice A n c, .slice A' n' c'] w (Gives w (Nat.gcd (val xs) (val ys)) L) := by
  have T := h.take (k := tl xs) (by rw [← h.len]; exact tl_le xs)
  have T' := k.take (k := tl ys) (by rw [← k.len]; exact tl_le ys)
  have C := clean_take xs
  have C' := clean_take ys
  rw [← val_take_tl xs, ← val_take_tl ys]
  generalize xs.take (tl xs) = zs at *
  generalize ys.take (tl ys) = us at *
  go_enter Tryz.func78, Tryz.ntmps78
  go_wp2_with fail
  refine (trim_any _ _ _ _ _ h).mono ?_
  rintro e w' ⟨rfl, rfl⟩
  go_wp2_with fail
  refine (clone_any _ _ _ _ _ T (by omega)).mono ?_
  rintro e w1 ⟨A1, c1, rfl, R1, hon1, _⟩
  go_wp2_with fail
  refine (trim_any _ _ _ _ _ (k.on hon1)).mono ?_
  rintro e w' ⟨rfl, rfl⟩
  go_wp2_with fail
  refine (clone_any _ _ _ _ _ (T'.on hon1) (by omega)).mono ?_
  rintro e w2 ⟨A2, c2, rfl, R2, hon2, _⟩
  have R3 := R1.on hon2
  have hon := hon1.trans hon2
  clear h k T T' R1 hon1 hon2
  go_wp2_with fail
  refine (cmp_any _ _ _ _ _ _ _ _ _ R3 R2).mono ?_
  rintro e w3 ⟨rfl, hon3⟩
  have R4 := R3.on hon3
  have R5 := R2.on hon3
  have hon := hon.trans hon3
  clear R3 R2 hon3
  generalize tl xs = m at *
  generalize tl ys = m' at *
  clear xs ys
  have hce : ∀ a b : Nat, a < b ∨ b ≤ a := fun a b => Nat.lt_or_ge a b
  have HR4 := Lib.hid R4
  have HR5 := Lib.hid R5
  have HC4 := Lib.hid C
  have HC5 := Lib.hid C'
  clear R4 R5 C C'
  go_upto_if 22 with (fail)
  go_cut [5, 6] (fun s5 s6 wx => ∃ (A1 : Option Addr) (n1 c1 : Nat) (l1 : List Nat) (A2 : Option Addr) (n2 c2 : Nat) (l2 : List Nat), s5 = .slice A1 n1 c1 ∧ s6 = .slice A2 n2 c2 ∧ Rd wx A1 n1 c1 l1 ∧ Rd wx A2 n2 c2 l2 ∧ Clean l1 ∧ Clean l2 ∧ n1 ≤ L ∧ n2 ≤ L ∧ val l2 ≤ val l1 ∧ Nat.gcd (val l1) (val l2) = Nat.gcd (val zs) (val us) ∧ On w wx)
  case first =>
    rcases hce (val zs) (val us) with h | h
    · rw [cmpI_lt h]
      have H := Lib.hid h
      clear h
      go_wp2
      go_meet
      exact ⟨_, _, _, us, _, _, _, zs, rfl, rfl, HR5.out, HR4.out, HC5.out, HC4.out, hL', hL, Nat.le_of_lt H.out, Nat.gcd_comm _ _, hon⟩
    · have hge : 0 ≤ cmpI (val zs) (val us) := by
        rcases Nat.lt_or_eq_of_le h with h | h
        · rw [cmpI_gt h]; decide
        · rw [cmpI_eq h.symm]; decide
      have H := Lib.hid h
      clear h
      generalize cmpI (val zs) (val us) = ci at *
      go_wp2
      go_meet
      exact ⟨_, _, _, zs, _, _, _, us, rfl, rfl, HR4.out, HR5.out, HC4.out, HC5.out, hL, hL', H.out, rfl, hon⟩
  case rest =>
    clear HR4 HR5 HC4 HC5 hL hL' hon
    generalize Nat.gcd (val zs) (val us) = gg at *
    obtain ⟨A3, n3, c3, l3, A4, n4, c4, l4, rfl, rfl, R3, R4, C3, C4, hn3, hn4, hle, hg, hon⟩ := hcut
    go_wp2
    go_loopg [5, 6] (val l4) (fun gh s5 s6 wx => ∃ (A1 : Option Addr) (n1 c1 : Nat) (l1 : List Nat) (A2 : Option Addr) (n2 c2 : Nat) (l2 : List Nat), s5 = .slice A1 n1 c1 ∧ s6 = .slice A2 n2 c2 ∧ Rd wx A1 n1 c1 l1 ∧ Rd wx A2 n2 c2 l2 ∧ Clean l1 ∧ Clean l2 ∧ n1 ≤ L ∧ n2 ≤ L ∧ val l2 ≤ val l1 ∧ val l2 ≤ gh ∧ Nat.gcd (val l1) (val l2) = gg ∧ On w wx)
    case atStart => exact ⟨A3, n3, c3, l3, A4, n4, c4, l4, rfl, rfl, R3, R4, C3, C4, hn3, hn4, hle, Nat.le_refl _, hg, hon⟩
    case round =>
      clear R3 R4 C3 C4 hn3 hn4 hle hg hon
      obtain ⟨A1, n1, c1, l1, A2, n2, c2, l2, rfl, rfl, R1, R2, C1, C2, hn1, hn2, hle, hgh, hg, hon⟩ := hrel
      have HG := Lib.hid hg
      clear hg
      have hlen : n2 ≤ n1 := by have := clean_len_le R1.ok C2 hle; rwa [R1.len, R2.len] at this
      by_cases hgt : 2 < n2
      · have hp2 : 0 < val l2 := val_pos C2 (by rw [R2.len]; omega)
        go_wp2_with fail
        refine (steps_of _ _ _ _ _ _ _ _ _ R1 R2 C1 (by omega) hlen (by omega) hle).mono ?_
        rintro e w1 ⟨p0, q0, a, b, c, d, p, q, rfl, hS, hon1⟩
        have HS := Lib.hid hS
        clear hS
        have R1' := R1.on hon1
        have R2' := R2.on hon1
        have honw := hon.trans hon1
        clear R1 R2 hon hon1
        have hne := @val_lt l1 R1'.ok
        rw [R1'.len] at hne
        by_cases hb : b = 0
        · have t1 : (b == 0) = true := by simp [hb]
          have HB := Lib.hid hb
          clear hb
          go_wp2_with fail
          refine (divlong_of _ _ _ _ _ _ _ _ _ (R1'.alloc _) (R2'.alloc _) C2 (by omega) hlen (by omega)).mono ?_
          rintro e w2 ⟨A5, n5, c5, A6, n6, c6, rfl, _, ⟨rs, RR, CR, VR, LR⟩, hon2⟩
          have hlt : val l1 % val l2 < val l2 := Nat.mod_lt _ hp2
          have HG2 : Hid (Nat.gcd (val l2) (val rs) = gg) := Lib.hid (by rw [VR, Nat.gcd_comm, ← Nat.gcd_rec, Nat.gcd_comm, HG.out])
          have HV := Lib.hid VR
          have HL := Lib.hid hlt
          clear VR hlt
          go_wp2
          go_roundg (val rs)
          case measure => have := HV.out; have := HL.out; omega
          case rel => exact ⟨_, _, _, l2, _, _, _, rs, rfl, rfl, (R2'.alloc _).on hon2, RR, C2, CR, hn2, by omega, by have := HV.out; have := HL.out; omega, Nat.le_refl _, HG2.out, (honw.alloc _).trans hon2⟩
        · have t1 : (b == 0) = false := by simp [hb]
          have HL := Lib.hid (lehmer_ok HS.out hb hne)
          clear hb hne
          go_wp2
          have hown := Own.new w1 83 #[.int .i64 a, .int .i64 b, .int .i64 c, .int .i64 d]
          have hond := honw.alloc (.cells #[.int .i64 a, .int .i64 b, .int .i64 c, .int .i64 d] 83)
          have R1d := R1'.alloc (.cells #[.int .i64 a, .int .i64 b, .int .i64 c, .int .i64 d] 83)
          have R2d := R2'.alloc (.cells #[.int .i64 a, .int .i64 b, .int .i64 c, .int .i64 d] 83)
          obtain ⟨wd, hwd⟩ : ∃ wd, w1.alloc (.cells #[.int .i64 a, .int .i64 b, .int .i64 c, .int .i64 d] 83) = wd := ⟨_, rfl⟩
          rw [hwd] at hown hond R1d R2d ⊢
          clear hwd R1' R2' honw
          have d0 : wd.cell? ⟨w1.heap.size, 0, none⟩ = some (.int .i64 a) := hown.cell 0
          have d1 : wd.cell? ⟨w1.heap.size, 1, none⟩ = some (.int .i64 b) := hown.cell 1
          have d2 : wd.cell? ⟨w1.heap.size, 2, none⟩ = some (.int .i64 c) := hown.cell 2
          have d3 : wd.cell? ⟨w1.heap.size, 3, none⟩ = some (.int .i64 d) := hown.cell 3
          have ok1 := HL.out.1
          have ok2 := HL.out.2.1
          go_region_held3 (fun W => On wd W ∧ W.cell? ⟨w1.heap.size, 0, none⟩ = some (.int .i64 a) ∧ W.cell? ⟨w1.heap.size, 1, none⟩ = some (.int .i64 b) ∧ W.cell? ⟨w1.heap.size, 2, none⟩ = some (.int .i64 c) ∧ W.cell? ⟨w1.heap.size, 3, none⟩ = some (.int .i64 d))
            (first
              | exact ⟨(On.refl wd).drew, d0, d1, d2, d3⟩
              | (go_split_ands; exact ⟨On.trans (by assumption) P7, cell_later (On.below P7) (by assumption), cell_later (On.below P7) (by assumption), cell_later (On.below P7) (by assumption), cell_later (On.below P7) (by assumption)⟩))
            ((go_at_call 109; refine (combine_of _ _ _ _ _ _ _ _ _ (R1d.on ?_) (R2d.on ?_) (by omega) hlen _ _ ?_).mono ?_; (first | assumption | (go_split_ands; assumption)); (first | assumption | (go_split_ands; assumption)); (first | exact ok1 | exact ok2); rintro e w' ⟨A7, n7, c7, rfl, N7, P7⟩))
          rename_i wa Aa na ca Na Pa hHe
          have Nb := Na.on P7
          have honz : On w w' := hond.trans hHe.1
          have HH := Lib.hid hHe
          clear hHe Na Pa P7 d0 d1 d2 d3 hown R1d R2d hond ok1 ok2
          obtain ⟨X, hX⟩ : ∃ X, (a * (val l1 : Int) + b * (val l2 : Int)).toNat = X := ⟨_, rfl⟩
          obtain ⟨Y, hY⟩ : ∃ Y, (c * (val l1 : Int) + d * (val l2 : Int)).toNat = Y := ⟨_, rfl⟩
          have HLL := HL.out.2.2
          rw [hX, hY] at HLL
          rw [hX] at Nb
          rw [hY] at N7
          clear hX hY HL
          obtain ⟨g1, g2, g3⟩ := HLL
          rw [HG.out] at g3
          obtain ⟨la, Ra, Ca, Va, La⟩ := Nb
          obtain ⟨lb, Rb, Cb, Vb, Lb⟩ := N7
          rw [← Va, ← Vb] at g3
          rw [← Va, ← Vb] at g2
          rw [← Vb] at g1
          have HG3 := Lib.hid g3
          clear g3 Va Vb
          go_wp2
          go_roundg (val lb)
          case measure => omega
          case rel => exact ⟨_, _, _, la, _, _, _, lb, rfl, rfl, Ra, Rb, Ca, Cb, by omega, by omega, g2, Nat.le_refl _, HG3.out, honz⟩
      · rcases Nat.eq_zero_or_pos n2 with h0 | h0
        · subst h0
          obtain rfl := List.eq_nil_of_length_eq_zero R2.len
          have hgz : gg = val l1 := by rw [← HG.out]; simp [val]
          have HGZ := Lib.hid hgz
          clear hgz
          go_wp2
          go_ret
          exact ⟨_, _, _, rfl, ⟨l1, R1, C1, HGZ.out.symm, hn1⟩, hon⟩
        · have hb1 : ((n2 : Int) == 0) = false := by simp; omega
          have hp2 : 0 < val l2 := val_pos C2 (by rw [R2.len]; omega)
          by_cases h2 : 2 < n1
          · go_wp2_with fail
            refine (div_any _ _ _ _ _ _ _ n1 2 _ _ R1 R2 hp2 (by omega) (by rw [C1, R1.len]; omega) (by rw [C2, R2.len]; omega) (by omega)).mono ?_
            rintro e w1 ⟨A5, n5, c5, A6, n6, c6, rfl, _, ⟨rs, RR, CR, VR, LR⟩, hon1⟩
            have HG2 : Hid (Nat.gcd (val l2) (val rs) = gg) := Lib.hid (by rw [VR, Nat.gcd_comm, ← Nat.gcd_rec, Nat.gcd_comm, HG.out])
            have R2' := R2.on hon1
            clear VR
            have hm3 : val l2 ≤ 18446744073709551615 := two_words R2' (by omega)
            have hm4 : val rs ≤ 18446744073709551615 := two_words RR (by omega)
            go_wp2_with fail
            refine (to64_any _ _ _ _ _ R2' (by omega)).mono ?_
            rintro e w' ⟨rfl, rfl⟩
            go_wp2_with fail
            refine (to64_any _ _ _ _ _ RR (by omega)).mono ?_
            rintro e w' ⟨rfl, rfl⟩
            go_wp2_with fail
            refine (gcd64_any _ _ _ hm3 hm4).mono ?_
            rintro e w5 ⟨rfl, hon5⟩
            rw [HG2.out]
            have hgl2 : gg ≤ 18446744073709551615 := by rw [← HG2.out]; exact gcd_le2 hm3 hm4
            go_wp2_with fail
            refine (of64_any _ _ (by omega) (by omega)).mono ?_
            rintro e w6 ⟨A6, n6, c6, rfl, N6, hon6⟩
            rw [Int.toNat_natCast] at N6
            go_wp2
            go_ret
            obtain ⟨l6, r1, r2, r3, r4⟩ := N6
            exact ⟨_, _, _, rfl, ⟨l6, r1, r2, r3, by omega⟩, ((hon.trans hon1).trans hon5).trans hon6⟩
          · have hz : ¬ 2 < n1 := h2
            have hm3 : val l1 ≤ 18446744073709551615 := two_words R1 (by omega)
            have hm4 : val l2 ≤ 18446744073709551615 := two_words R2 (by omega)
            go_wp2_with fail
            refine (to64_any _ _ _ _ _ R1 (by omega)).mono ?_
            rintro e w' ⟨rfl, rfl⟩
            go_wp2_with fail
            refine (to64_any _ _ _ _ _ R2 (by omega)).mono ?_
            rintro e w' ⟨rfl, rfl⟩
            go_wp2_with fail
            refine (gcd64_any _ _ _ hm3 hm4).mono ?_
            rintro e w5 ⟨rfl, hon5⟩
            rw [HG.out]
            have hgl2 : gg ≤ 18446744073709551615 := by rw [← HG.out]; exact gcd_le2 hm3 hm4
            go_wp2_with fail
            refine (of64_any _ _ (by omega) (by omega)).mono ?_
            rintro e w6 ⟨A6, n6, c6, rfl, N6, hon6⟩
            rw [Int.toNat_natCast] at N6
            go_wp2
            go_ret
            obtain ⟨l6, r1, r2, r3, r4⟩ := N6
            exact ⟨_, _, _, rfl, ⟨l6, r1, r2, r3, by omega⟩, (hon.trans hon5).trans hon6⟩
end
end Num
end Go.Proofs.YtkchpagjkgmpmaaGreat
