/-
  Text: the decimal digits.
-/
import Derived.Test.YtkpeliokhmigoaaRev
import Derived.Test.YtkpeliokhmigoaaDec
import Derived.Test.YtkpeliokhmigoaaDiv
import Derived.Laws.BytesArg
import Derived.Deep.LoopGhost
namespace Go.Proofs.Ytkpeliokhmigoaa
open Go.RowKit
set_option linter.unusedVariables false
namespace Num
theorem own_of_row8 {w : World} {base : Nat} {e : TypeId} {v : Value} {n : Nat} {xs : List Nat} (ho : ∀ u ∈ xs, u < 256) (h : w.ownsRow base e 1 v n (VW .u8 xs)) (hn : 0 < n) :
    ∃ g cap cur, v = .slice (some ⟨g, 0, none⟩) n cap ∧ base ≤ g ∧ Own w g e cur ∧ HasB cur 0 xs ∧ n ≤ cap ∧ cap ≤ 9223372036854775807 := by
  have hl : xs.length = n := by have := h.1; rw [VW_length] at this; omega
  rcases h.2 with ⟨_, h0⟩ | ⟨g, cap, cur, rfl, hb, hh, hcap, hmax, hsz, htake⟩
  · omega
  · refine ⟨g, cap, cur, rfl, hb, hh, ⟨ho, fun j hj => ?_⟩, hcap, by unfold maxLen at hmax; exact hmax⟩
    have h1 : (VW .u8 xs)[j]? = some (.int .u8 (gw xs j : Int)) := by
      unfold VW; rw [List.getElem?_map, List.getElem?_eq_getElem hj]; simp [gw, List.getD_eq_getElem?_getD, hj]
    rw [← htake, List.getElem?_take] at h1
    split at h1
    · simpa using h1
    · cases h1
/-- the text of v -/
def TextPost (w : World) (v : Nat) (e : Ending) (w' : World) : Prop := ∃ bs, e = .returned (.string (str bs)) ∧ IsText v bs ∧ On w w'
theorem str_of_nums (bs : List Nat) : strOfNums (bs.map fun (n : Nat) => (n : Int)) = str bs := by
  unfold strOfNums str
  rw [List.map_map]
  congr 1
theorem own_far_row {w w' : World} {base g : Nat} {t e : TypeId} {cur : Array Value} {v : Value} {n : Nat} {xs : List Value} (h : Own w g t cur) (hr : w.ownsRow base e 1 v n xs) (hb : g < base) (hg : w.grownBy w' v.ownBlock) : Own w' g t cur := by
  refine (hg.block g h.lt ?_).trans h
  intro he
  rcases hr.2 with ⟨rfl, _⟩ | ⟨g', cap, cur', rfl, hbb, _⟩
  · simp [Value.ownBlock] at he
  · simp [Value.ownBlock] at he; omega
theorem on_row {w0 w w' : World} {base : Nat} {e : TypeId} {v : Value} {n : Nat} {xs : List Value} (h : On w0 w) (hr : w.ownsRow base e 1 v n xs) (hb : w0.heap.size ≤ base) (hg : w.grownBy w' v.ownBlock) : On w0 w' :=
  Below.grown h hg h.size (fun k he => by
    rcases hr.2 with ⟨rfl, _⟩ | ⟨g', cap, cur', rfl, hbb, _⟩
    · simp [Value.ownBlock] at he
    · simp [Value.ownBlock] at he; omega)
theorem cells_one8 (w : World) (t : TypeId) (d : Nat) : ∀ ad, (some ⟨w.heap.size, 0, none⟩ : Option Addr) = some ad → ∀ j, j < 1 → (w.alloc (.cells #[.int .u8 (d : Int)] t)).cell? (ad.add j) = some (.int .u8 ((gw [d] j : Nat) : Int)) := by
  intro ad e j hj
  injection e with e; subst e
  obtain rfl : j = 0 := by omega
  rw [add_nil, (Own.new w t _).cell]
  rfl
theorem row_only {w w' : World} {base g : Nat} {e : TypeId} {v : Value} {n : Nat} {xs : List Value} (hr : w.ownsRow base e 1 v n xs) (hb : g < base) (hg : Only g w w') : w'.ownsRow base e 1 v n xs :=
  hr.kept hg (by
    rcases hr.2 with ⟨rfl, _⟩ | ⟨g', cap, cur', rfl, hbb, _⟩
    · left; rfl
    · right; simp [Value.ownBlock]; omega)
theorem dig_step (D N G : Nat) : D + 10 ^ N * (48 + G % 10 - 48) + 10 ^ (N + 1) * (G / 10) = D + 10 ^ N * G := by
  have h : 10 ^ N * (G % 10) + 10 ^ N * (10 * (G / 10)) = 10 ^ N * G := by rw [← Nat.mul_add, Nat.mod_add_div]
  rw [Nat.add_sub_cancel_left, Nat.pow_succ, Nat.mul_assoc]
  omega
theorem group_step (D N G Q : Nat) : D + 10 ^ N * G + 10 ^ (N + 9) * Q = D + 10 ^ N * (G + 1000000000 * Q) := by
  rw [Nat.pow_add, Nat.mul_add, Nat.mul_assoc, Nat.add_assoc]
set_option maxRecDepth 100000 in
set_option maxHeartbeats 2000000 in
theorem text_any (w : World) (A : Option Addr) (n c : Nat) (xs : List Nat) (h : Rd w A n c xs) (hn : n ≤ 10000) :
    Calls Try.prog 55 #[.slice A n c] w (TextPost w (val xs)) := by
  have T := h.take (k := tl xs) (by rw [← h.len]; exact tl_le xs)
  have C := clean_take xs
  have hm : tl xs ≤ n := by rw [← h.len]; exact tl_le xs
  rw [← val_take_tl xs]
  generalize xs.take (tl xs) = zs at *
  go_enter Try.func55, Try.ntmps55
  go_wp2_with fail
  refine (trim_any _ _ _ _ _ h).mono ?_
  rintro e w' ⟨rfl, rfl⟩
  generalize tl xs = m at *
  clear h xs
  go_wp2_with fail
  refine (clone_any _ _ _ _ _ T (by omega)).mono ?_
  rintro e w1 ⟨A1, c1, rfl, R1, hon1, hown⟩
  rcases Nat.eq_zero_or_pos m with h0 | h0
  · subst h0
    obtain rfl := List.eq_nil_of_length_eq_zero T.len
    clear hown
    go_wp2
    go_ret
    exact ⟨[48], rfl, .inl ⟨rfl, rfl⟩, hon1⟩
  · obtain ⟨g, cur, rfl, hg, ho, hh⟩ := hown h0
    clear hown
    have hb1 : ((m : Int) == 0) = false := by simp; omega
    have hvlt := val_lt T.ok
    rw [T.len] at hvlt
    have hvpos : 0 < val zs := val_pos C (by rw [T.len]; exact h0)
    have HV := Lib.hid hvlt
    have HP := Lib.hid hvpos
    have HL := Lib.hid T.len
    have HO := Lib.hid ho
    have hgl := ho.lt
    have hs1 := hon1.size
    have hc1 := R1.cap
    have hc2 := R1.max
    clear hvlt hvpos ho T R1
    go_wp2
    go_loopg [3, 4, 5] (val zs) (fun r s3 s4 s5 wr => ∃ (k : Nat) (cur' : Array Value) (rs ds : List Nat), s3 = .slice (some ⟨g, 0, none⟩) k c1 ∧ k ≤ m ∧ Own wr g 53 cur' ∧ Has cur' 0 rs ∧ rs.length = k ∧ Clean rs ∧ val rs = r ∧ wr.ownsRow w1.heap.size 5 1 s4 ds.length (VW .u8 ds) ∧ IsDig ds ∧ dvb ds + 10 ^ ds.length * r = val zs ∧ On w wr ∧ w1.heap.size ≤ wr.heap.size ∧ ds.length ≤ 200000)
    case atStart =>
      exact ⟨m, cur, zs, [], rfl, Nat.le_refl _, HO.out, hh, HL.out, C, rfl, World.ownsRow_nil _ _ _ _, IsDig.nil, by simp [dvb], hon1, Nat.le_refl _, by simp⟩
    case round =>
      obtain ⟨k, cur', rs, ds, rfl, hk, ho', hh', hl', C', hv', hrow, hdig, hval, hon', hsz, hdsl⟩ := hrel
      rcases Nat.eq_zero_or_pos k with hk0 | hk0
      · subst hk0
        obtain rfl := List.eq_nil_of_length_eq_zero hl'
        subst hv'
        have hdv : dvb ds = val zs := by rw [← hval]; simp [val]
        have hdl : 0 < ds.length := by
          rcases Nat.eq_zero_or_pos ds.length with h | h
          · have := HP.out
            rw [List.eq_nil_of_length_eq_zero h] at hdv
            simp [dvb] at hdv; omega
          · exact h
        obtain ⟨gd, cap, cd, rfl, hgd, hod, hbd, hcd, hmd⟩ := own_of_row8 (fun u hu => by have := hdig u hu; omega) hrow hdl
        have H1 := Lib.hid hdv
        have H2 := Lib.hid hod
        clear hval hdv hrow hod hl' C' ho' hh'
        obtain ⟨wo, hwo⟩ : ∃ wo, wo = wr := ⟨_, rfl⟩
        subst hwo
        go_wp2
        go_loopg [4] ds.length (fun r s4 wx => ∃ k, r = k ∧ 0 < k ∧ k ≤ ds.length ∧ s4 = .slice (some ⟨gd, 0, none⟩) k cap ∧ dvb (ds.take k) = val zs ∧ wo = wx)
        case atStart => exact ⟨_, rfl, hdl, Nat.le_refl _, rfl, by rw [List.take_of_length_le (Nat.le_refl _), H1.out], rfl⟩
        case round =>
          obtain ⟨k, rfl, hk0, hkl, rfl, hkv, rfl⟩ := hrel
          have K1 := Lib.hid hkv
          clear hkv
          obtain ⟨k', rfl⟩ : ∃ k', gk = k' + 1 := ⟨gk - 1, by omega⟩
          have hc := (H2.out.cell _).trans (hbd.get k' (by omega))
          rw [Nat.zero_add] at hc
          have hdg := hdig.get (k := k') (by omega)
          by_cases h48 : gw ds k' = 48
          · have K2 := Lib.hid h48
            rw [h48] at hc
            clear h48
            go_wp2
            go_roundg k'
            case measure => omega
            case rel =>
              have e1 := dvb_take_succ ds k' (by omega)
              rw [K2.out, Nat.sub_self, Nat.mul_zero, Nat.add_zero, K1.out] at e1
              refine ⟨k', rfl, ?_, by omega, by congr 1, e1.symm, rfl⟩
              rcases Nat.eq_zero_or_pos k' with h | h
              · subst h; have := HP.out; simp [dvb] at e1; omega
              · exact h
          · have hne : (((gw ds k' : Nat) : Int) == 48) = false := by simp; omega
            have K2 := Lib.hid h48
            clear h48
            have hbt : HasB cd 0 (ds.take (k' + 1)) := ⟨fun u hu => hbd.1 u (List.mem_of_mem_take hu), fun j hj => by
              rw [List.length_take] at hj
              rw [getD_take (by omega)]; exact hbd.get j (by omega)⟩
            have htl : (ds.take (k' + 1)).length = k' + 1 := by rw [List.length_take]; omega
            go_wp2_with fail
            refine (reverse_any wo gd 0 (k' + 1) cap cd (ds.take (k' + 1)) H2.out hbt htl (by omega)).mono ?_
            rintro e w7 ⟨cur7, rfl, ho7, hb7, _, honly7⟩
            have hconv := run_convert_bytes_arg (P := Try.prog) w7 102 5 Try.underlying102 Try.underlying5 gd 0 (k' + 1) cap ((ds.take (k' + 1)).reverse.map fun (n : Nat) => (n : Int)) (by rw [List.length_map, List.length_reverse, htl]) (fun i hi => by
              rw [Own.cell ho7]
              have e := hb7.get i (by rw [List.length_reverse, htl]; exact hi)
              rw [e]
              congr 2
              have hi2 : i < (ds.take (k' + 1)).reverse.length := by rw [List.length_reverse, htl]; exact hi
              simp only [gw, List.getD_eq_getElem?_getD, List.getElem?_map, List.getElem?_eq_getElem hi2, Option.map_some, Option.getD_some]) 9 Try.underlying9
            rw [str_of_nums] at hconv
            generalize hbs : str (ds.take (k' + 1)).reverse = sb at *
            have HBS := Lib.hid hbs
            clear hbs
            go_wp2
            go_ret
            refine ⟨(ds.take (k' + 1)).reverse, by rw [HBS.out]; rfl, .inr ⟨ds.take (k' + 1), rfl, hdig.take _, K1.out, by omega, ?_⟩, hon'.only honly7 (by omega)⟩
            rw [htl, Nat.add_sub_cancel, getD_take (by omega)]
            exact K2.out
      · have hr0 : 0 < val rs := val_pos C' (by omega)
        subst hv'
        have hfew := few_digits (d := ds.length) (r := val rs) (v := val zs) (n := m) (by omega) hr0 HV.out
        have H1 := Lib.hid hl'
        have H2 := Lib.hid hval
        have H3 := Lib.hid ho'
        have H4 := Lib.hid hrow
        have H5 := Lib.hid C'
        have hq := Nat.div_lt_self hr0 (show 1 < 1000000000 by decide)
        have H6 := Lib.hid hq
        clear hl' hval ho' hrow C' hq
        go_wp2_with fail
        refine (divw_any wr g 0 k c1 cur' rs 1000000000 H3.out hh' H1.out (by omega) (by omega) hk0 (by decide) (by decide)).mono ?_
        rw [show (1000000000 : Int).toNat = 1000000000 from rfl]
        rintro e w2 ⟨cur2, qs, rfl, ho2, hh2, hl2, hv2, _, honly⟩
        have R2 := Rd.own (n := k) (c := c1) ho2 hh2 (by rw [hl2, H1.out]) (by omega) hc2
        have hon2 : On w w2 := hon'.only honly hg
        have hsz2 : w1.heap.size ≤ w2.heap.size := Nat.le_trans hsz honly.size
        have hrow2 := row_only H4.out hgl honly
        have HV2 := Lib.hid hv2
        have HO2 := Lib.hid ho2
        have HR2 := Lib.hid hrow2
        clear hv2 hl2 ho2 hrow2
        have hG : val rs % 1000000000 < 1000000000 := Nat.mod_lt _ (by decide)
        generalize hGG : val rs % 1000000000 = G at *
        have HG := Lib.hid hGG
        clear hGG
        go_wp2_with fail
        refine (trim_any _ _ _ _ _ R2).mono ?_
        rintro e w' ⟨rfl, rfl⟩
        have htq : tl qs ≤ k := by rw [← R2.len]; exact tl_le qs
        go_wp2
        go_loopw [4, 5, 19] (fun s4 s5 i wx => ∃ (j : Nat) (es : List Nat), j ≤ 9 ∧ i = .int .i64 (j : Int) ∧ s5 = .int .u32 ((G / 10 ^ j : Nat) : Int) ∧ wx.ownsRow w1.heap.size 5 1 s4 es.length (VW .u8 es) ∧ IsDig es ∧ es.length = ds.length + j ∧ dvb es + 10 ^ es.length * (G / 10 ^ j) = dvb ds + 10 ^ ds.length * G ∧ Own wx g 53 cur2 ∧ On w wx ∧ w1.heap.size ≤ wx.heap.size) (fun _ _ i _ => 9 - (intOf i).toNat)
        case atStart => exact ⟨0, ds, by omega, rfl, by simp, HR2.out, hdig, rfl, by simp, HO2.out, hon2, hsz2⟩
        case round =>
          obtain ⟨j, es, hj, rfl, rfl, hre, hde, hle, hve, hoe, hone, hszx⟩ := hrel
          have E1 := Lib.hid hle
          have E2 := Lib.hid hve
          have E3 := Lib.hid hre
          have E4 := Lib.hid hoe
          clear hle hve hre hoe
          by_cases hlt : j < 9
          · have hel : es.length ≤ 1000000 := by rw [E1.out]; omega
            have hdd := Nat.mod_lt (G / 10 ^ j) (show 0 < 10 by decide)
            have hGj : G / 10 ^ j < 1000000000 := Nat.lt_of_le_of_lt (Nat.div_le_self _ _) hG
            have HN : Hid (G / 10 ^ j / 10 = G / 10 ^ (j + 1)) := by rw [Nat.pow_succ, ← Nat.div_div_eq_div_mul]; rfl
            generalize G / 10 ^ j = Gj at *
            have hcell := cells_one8 wr 5 (48 + Gj % 10)
            rw [show (((48 + Gj % 10 : Nat)) : Int) = 48 + (Gj : Int) % 10 from by omega] at hcell
            have HC := Lib.hid hcell
            clear hcell
            go_wp2_with (at_builtin; refine wpList_app rfl (.tmp 21) (.tmp 26) 102 rfl w1.heap.size 5 (.int .u8 0) 1 Try.underlying102 info8 rfl (by decide) .u8 _ es.length es rfl (E3.out.alloc _) (some ⟨wr.heap.size, 0, none⟩) 1 1 [48 + Gj % 10] rfl rfl (fun e => by cases e) HC.out (by omega) (by simp; omega) ?_; intro v' w5 hown5 hgrow5 _)
            have hE2 := E2.out
            refine ⟨⟨j + 1, es ++ [48 + Gj % 10], by omega, by go_num, by rw [← HN.out, Int.natCast_ediv]; rfl, by rw [List.length_append]; exact hown5, hde.snoc (by omega) (by omega), by rw [List.length_append, E1.out]; simp only [List.length_singleton]; omega, ?_, own_far_row (E4.out.alloc _) (E3.out.alloc _) hgl hgrow5, on_row (hone.alloc _) (E3.out.alloc _) hs1 hgrow5, Nat.le_trans hszx (Nat.le_trans (by simp) hgrow5.size)⟩, by simp [intOf]; omega⟩
            rw [dvb_snoc, List.length_append, List.length_singleton, ← HN.out, dig_step]
            exact hE2
          · obtain rfl : j = 9 := by omega
            have hE1 := E1
            go_wp2
            go_roundg (val qs)
            case measure => rw [HV2.out]; exact H6.out
            case rel =>
              refine ⟨tl qs, cur2, qs.take (tl qs), es, rfl, Nat.le_trans htq hk, E4.out, ?_, ?_, clean_take qs, val_take_tl qs, E3.out, hde, ?_, hone, hszx, by rw [hE1.out]; omega⟩
              · have := hh2.part (i := 0) (n := tl qs) (by rw [Nat.zero_add]; exact tl_le qs)
                simpa using this
              · rw [List.length_take, Nat.min_eq_left (tl_le qs)]
              · have e2 := E2.out
                rw [Nat.div_eq_of_lt (show G < 10 ^ 9 from hG), Nat.mul_zero, Nat.add_zero] at e2
                rw [e2, E1.out, group_step, ← HG.out, HV2.out, Nat.mod_add_div]
                exact H2.out
end Num
end Go.Proofs.Ytkpeliokhmigoaa
