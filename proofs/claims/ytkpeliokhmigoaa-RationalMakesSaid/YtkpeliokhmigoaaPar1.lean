/-
  scaleAndAdd: a number times a word, plus a word, in place.
-/
import Derived.Test.YtkpeliokhmigoaaPar0
import Derived.Test.YtkpeliokhmigoaaRup
namespace Go.Proofs.Ytkpeliokhmigoaa
open Go.RowKit
set_option linter.unusedVariables false
namespace Num
theorem own_of_row' {w : World} {base : Nat} {e : TypeId} {v : Value} {n : Nat} {xs : List Nat} (ho : Ok xs) (h : w.ownsRow base e 1 v n (VW .u32 xs)) (hn : 0 < n) :
    ∃ g cap cur, v = .slice (some ⟨g, 0, none⟩) n cap ∧ base ≤ g ∧ Own w g e cur ∧ Has cur 0 xs ∧ n ≤ cap ∧ cap ≤ 9223372036854775807 ∧ cur.size = cap := by
  have hl : xs.length = n := by have := h.1; rw [VW_length] at this; omega
  rcases h.2 with ⟨_, h0⟩ | ⟨g, cap, cur, rfl, hb, hh, hcap, hmax, hsz, htake⟩
  · omega
  · refine ⟨g, cap, cur, rfl, hb, hh, ⟨ho, fun j hj => ?_⟩, hcap, by unfold maxLen at hmax; exact hmax, by rw [hsz, Nat.mul_one]⟩
    have h1 : (VW .u32 xs)[j]? = some (.int .u32 (gw xs j : Int)) := by
      unfold VW; rw [List.getElem?_map, List.getElem?_eq_getElem hj]; simp [gw, List.getD_eq_getElem?_getD, hj]
    rw [← htake, List.getElem?_take] at h1
    split at h1
    · simpa using h1
    · cases h1
theorem row_of_own {w : World} {g base n cap : Nat} {e : TypeId} {cur : Array Value} {xs : List Nat} (h : Own w g e cur) (hb : base ≤ g) (hh : Has cur 0 xs) (hn : xs.length = n) (hcap : n ≤ cap) (hmax : cap ≤ 9223372036854775807) (hsz : cur.size = cap) :
    w.ownsRow base e 1 (.slice (some ⟨g, 0, none⟩) n cap) n (VW .u32 xs) := by
  refine ⟨by rw [VW_length]; omega, .inr ⟨g, cap, cur, rfl, hb, h, hcap, by unfold maxLen; exact hmax, by omega, ?_⟩⟩
  rw [Nat.mul_one]
  apply List.ext_getElem?
  intro j
  rw [List.getElem?_take]
  by_cases hj : j < n
  · rw [if_pos hj]
    have h1 := hh.get j (by omega)
    rw [Nat.zero_add] at h1
    have h2 : (VW .u32 xs)[j]? = some (.int .u32 (gw xs j : Int)) := by
      unfold VW; rw [List.getElem?_map, List.getElem?_eq_getElem (by omega)]; simp [gw, List.getD_eq_getElem?_getD, show j < xs.length from by omega]
    rw [h2, ← h1]; simp
  · rw [if_neg hj, List.getElem?_eq_none (by rw [VW_length]; omega)]
theorem clean_of_val {l : List Nat} (n : Nat) (ok : Ok l) (hl : l.length = n + 1) (h : BB ^ n ≤ val l) : Clean l := by
  apply clean_of_last n hl
  intro h0
  have h1 := val_split l n (by omega)
  rw [val_drop l n (by omega), h0, List.drop_of_length_le (by omega)] at h1
  have h2 := val_lt (ok.take n)
  rw [List.length_take, Nat.min_eq_left (by omega)] at h2
  simp [val] at h1
  omega
theorem sa_step (P v a t x q d : Nat) (h : v + P * t = a * q + d) : v + P * ((t + x * q) % 4294967296) + P * BB * ((t + x * q) / 4294967296) = (a + P * x) * q + d := by
  have h1 := Nat.div_add_mod (t + x * q) 4294967296
  have h2 : P * ((t + x * q) % 4294967296) + P * BB * ((t + x * q) / 4294967296) = P * (t + x * q) := by
    rw [Nat.mul_assoc, ← Nat.mul_add]; congr 1; simp only [BB]; omega
  rw [Nat.mul_add, ← Nat.mul_assoc] at h2
  rw [Nat.add_mul]
  omega
theorem grown_on {w w' : World} (h : On w w') (row : Option Nat) : w.grownBy w' row := ⟨h.os, h.tape, h.output, h.size, fun i hi _ => h.block i hi⟩
/-- what a call of scaleAndAdd says -/
def ScalePost (w : World) (base : Nat) (v : Value) (n y : Nat) (cl : Prop) (e : Ending) (w' : World) : Prop :=
  ∃ (v' : Value) (n' : Nat) (ys : List Nat), e = .returned v' ∧ w'.ownsRow base 53 1 v' n' (VW .u32 ys) ∧ Ok ys ∧ ys.length = n' ∧ n' ≤ n + 1 ∧ val ys = y ∧ (cl → Clean ys) ∧ w.grownBy w' v.ownBlock
theorem sa_bound (t x q : Nat) (ht : t < 4294967296) (hx : x < 4294967296) (hq : q < 4294967296) : t + x * q ≤ 18446744073709551615 ∧ x * q ≤ 18446744065119617025 := by
  have h1 : x * q ≤ 4294967295 * 4294967295 := Nat.mul_le_mul (by omega) (by omega)
  omega
set_option maxHeartbeats 800000 in
theorem scale_nil (w : World) (base : Nat) (A : Option Addr) (c : Nat) (q d : Nat) (hrow : w.ownsRow base 53 1 (.slice A 0 c) 0 (VW .u32 [])) (hb : base ≤ w.heap.size) (hq : q < 4294967296) (hd : d < 4294967296) :
    Calls Try.prog 111 #[.slice A 0 c, .int .u32 (q : Int), .int .u32 (d : Int)] w (ScalePost w base (.slice A 0 c) 0 d True) := by
  have H3 := Lib.hid hrow
  clear hrow
  by_cases h0 : d = 0
  · subst h0
    go_enter Try.func111, Try.ntmps111
    go_wp2
    go_loopw [7, 13] (fun cy i wr => i = .int .i64 0 ∧ cy = .int .u64 0 ∧ wr = w) (fun _ i _ => (intOf i).toNat)
    case atStart => exact ⟨rfl, rfl, rfl⟩
    case round =>
      obtain ⟨rfl, rfl, rfl⟩ := hrel
      go_wp2
      go_ret
      exact ⟨_, 0, [], rfl, H3.out, Ok.nil, rfl, by omega, rfl, fun _ => clean_nil, World.grownBy.refl _ _⟩
  · have hb1 : ((d : Int) != 0) = true := by rw [bne_iff_ne]; omega
    have hb2 : ((d : Int) == 0) = false := by simp; omega
    have hcell := cells_one32 w 53 d
    have HC := Lib.hid hcell
    have H0 := Lib.hid h0
    clear hcell h0
    go_enter Try.func111, Try.ntmps111
    go_wp2
    go_loopw [7, 13] (fun cy i wr => i = .int .i64 0 ∧ cy = .int .u64 (d : Int) ∧ wr = w) (fun _ i _ => (intOf i).toNat)
    case atStart => exact ⟨rfl, rfl, rfl⟩
    case round =>
      obtain ⟨rfl, rfl, rfl⟩ := hrel
      go_wp2_with (at_builtin; refine wpList_app rfl (.tmp 36) (.tmp 39) 22 rfl base 53 (.int .u32 0) 4 Try.underlying22 info32 rfl (by decide) .u32 _ 0 [] rfl (H3.out.alloc _) (some ⟨wr.heap.size, 0, none⟩) 1 1 [d] rfl rfl (fun e => by cases e) HC.out (by omega) (by simp; omega) ?_; intro v' w5 hown5 hgrow5 _)
      go_ret
      refine ⟨_, 1, [d], rfl, by simpa using hown5, Ok.one hd, rfl, by omega, by simp [val], fun _ => clean_snoc [] d H0.out, ?_⟩
      exact (grown_on ((On.refl wr).alloc _) _).trans hgrow5
set_option maxHeartbeats 1000000 in
theorem scale_pos (w : World) (base : Nat) (v : Value) (n : Nat) (xs : List Nat) (q d : Nat) (hrow : w.ownsRow base 53 1 v n (VW .u32 xs)) (ok : Ok xs) (hl : xs.length = n) (hn0 : 0 < n) (hn : n ≤ 100000) (hb : base ≤ w.heap.size) (hq : q < 4294967296) (hd : d < 4294967296) (hq1 : 1 ≤ q) :
    Calls Try.prog 111 #[v, .int .u32 (q : Int), .int .u32 (d : Int)] w (ScalePost w base v n (val xs * q + d) (Clean xs)) := by
  obtain ⟨g, cap, cur, rfl, hbg, hown, hh, hcap, hmax, hsz⟩ := own_of_row' ok hrow hn0
  have HL := Lib.hid hl
  have HS := Lib.hid hsz
  clear hl hsz hrow
  go_enter Try.func111, Try.ntmps111
  go_wp2
  go_loopw [7, 13] (fun cy i wr => ∃ (k t : Nat) (cur' : Array Value) (zs : List Nat), k ≤ n ∧ i = .int .i64 (k : Int) ∧ cy = .int .u64 (t : Int) ∧ t < 4294967296 ∧ Own wr g 53 cur' ∧ Has cur' 0 zs ∧ zs.length = n ∧ zs.drop k = xs.drop k ∧ val (zs.take k) + BB ^ k * t = val (xs.take k) * q + d ∧ cur'.size = cap ∧ Only g w wr) (fun _ i _ => n - (intOf i).toNat)
  case atStart => exact ⟨0, d, cur, xs, by omega, rfl, rfl, hd, hown, hh, HL.out, rfl, by simp [val], HS.out, Only.refl _ _⟩
  case round =>
    obtain ⟨k, t, cur', zs, hk, rfl, rfl, ht, ho, hh', hzl, hdr, hv, hsz', honly⟩ := hrel
    have H1 := Lib.hid hzl
    have H2 := Lib.hid hv
    have H3 := Lib.hid ho
    have H4 := Lib.hid hdr
    have H5 := Lib.hid hsz'
    clear hzl hv ho hdr hsz' hown hh
    by_cases hlt : k < n
    · have gx := hh'.ok.get k
      have hcell : wr.cell? ⟨g, k, none⟩ = some (.int .u32 ((gw zs k : Nat) : Int)) := (H3.out.cell _).trans (by have := hh'.get k (by rw [H1.out]; omega); rwa [Nat.zero_add] at this)
      have hfroz : wr.frozen? ⟨g, k, none⟩ = false := H3.out.frozen _
      have hgx : gw zs k = gw xs k := by
        have := congrArg (fun l => gw l 0) H4.out
        simpa [getD_drop] using this
      have hbd := sa_bound t (gw zs k) q ht gx hq
      have HST := Lib.hid (sa_step (BB ^ k) (val (zs.take k)) (val (xs.take k)) t (gw zs k) q d H2.out)
      obtain ⟨T, hT⟩ : ∃ T, t + gw zs k * q = T := ⟨_, rfl⟩
      rw [hT] at HST hbd
      have hTI : (t : Int) + ((gw zs k : Nat) : Int) * (q : Int) = (T : Int) := by rw [← hT, Int.natCast_add, Int.natCast_mul]
      have hm0 : IntKind.u64.wrap (((gw zs k : Nat) : Int) * (q : Int)) = ((gw zs k : Nat) : Int) * (q : Int) := by
        have e : ((gw zs k : Nat) : Int) * (q : Int) = ((gw zs k * q : Nat) : Int) := by rw [Int.natCast_mul]
        rw [e]
        have := hbd.2
        generalize gw zs k * q = Y at *
        exact IntWalk.u64_in _ (by omega)
      have hm1 : IntKind.u64.wrap ((t : Int) + ((gw zs k : Nat) : Int) * (q : Int)) = (T : Int) := by
        rw [hTI]; exact IntWalk.u64_in _ (by have := hbd.1; omega)
      have HTT := Lib.hid hT
      have hTb := hbd.1
      have HGX := Lib.hid hgx
      clear hT hTI hbd hgx
      go_wp2
      have e5 : Value.int .u64 ((T : Int) / 4294967296) = Value.int .u64 ((T / 4294967296 : Nat) : Int) := by rw [Int.natCast_ediv]; rfl
      have e6 : ((T : Int) % 4294967296) = ((T % 4294967296 : Nat) : Int) := by omega
      have hA := hh'.set_ (j := k) (x := T % 4294967296) (by rw [H1.out]; omega) (Nat.mod_lt _ (by decide))
      rw [Nat.zero_add] at hA
      rw [e6]
      refine ⟨⟨k + 1, T / 4294967296, _, zs.set k (T % 4294967296), by omega, by go_num, e5, by omega, H3.out.set_ _ _, hA, by rw [List.length_set, H1.out], ?_, ?_, by simp [H5.out], honly.set_ _ _⟩, by simp [intOf]; omega⟩
      · rw [drop_set_same]
        have := congrArg (List.drop 1) H4.out
        rwa [List.drop_drop, List.drop_drop] at this
      · rw [set_take_succ _ _ _ (by rw [H1.out]; omega), val_take_succ_any, Nat.pow_succ, ← HGX.out]
        exact HST.out
    · obtain rfl : k = n := by omega
      have hvv : val zs + BB ^ k * t = val xs * q + d := by
        have := H2.out
        rwa [List.take_of_length_le (Nat.le_of_eq H1.out), List.take_of_length_le (Nat.le_of_eq HL.out)] at this
      have HVV := Lib.hid hvv
      have HR := Lib.hid (row_of_own H3.out hbg hh' H1.out hcap hmax H5.out)
      clear hvv
      by_cases h0 : t = 0
      · subst h0
        go_wp2
        go_ret
        have h1 := HVV.out
        rw [Nat.mul_zero, Nat.add_zero] at h1
        refine ⟨_, k, zs, rfl, HR.out, hh'.ok, H1.out, by omega, h1, fun C => ?_, honly⟩
        refine clean_of_val (k - 1) hh'.ok (by rw [H1.out]; omega) ?_
        have h2 := clean_ge C (k - 1) (by rw [HL.out]; omega)
        have h3 : val xs * 1 ≤ val xs * q := Nat.mul_le_mul_left _ hq1
        omega
      · have hb1 : ((t : Int) != 0) = true := by rw [bne_iff_ne]; omega
        have hb2 : ((t : Int) == 0) = false := by simp; omega
        have hcell := cells_one32 wr 53 t
        have HC := Lib.hid hcell
        have H0 := Lib.hid h0
        have hos := honly.size
        clear hcell h0
        go_wp2_with (at_builtin; refine wpList_app rfl (.tmp 36) (.tmp 39) 22 rfl base 53 (.int .u32 0) 4 Try.underlying22 info32 rfl (by decide) .u32 _ k zs rfl (HR.out.alloc _) (some ⟨wr.heap.size, 0, none⟩) 1 1 [t] rfl rfl (fun e => by cases e) HC.out (by omega) (by simp; omega) ?_; intro v' w5 hown5 hgrow5 _)
        go_ret
        refine ⟨_, k + 1, zs ++ [t], rfl, hown5, hh'.ok.append (Ok.one ht), by rw [List.length_append, H1.out]; rfl, by omega, ?_, fun _ => clean_snoc zs t H0.out, ?_⟩
        · rw [val_snoc' _ _ k H1.out]; exact HVV.out
        · exact (honly.trans (grown_on ((On.refl wr).alloc _) _)).trans hgrow5
/-- scaleAndAdd on a row of the call's own -/
theorem scale_any (w : World) (base : Nat) (v : Value) (n : Nat) (xs : List Nat) (q d : Nat) (hrow : w.ownsRow base 53 1 v n (VW .u32 xs)) (ok : Ok xs) (hl : xs.length = n) (hn : n ≤ 100000) (hb : base ≤ w.heap.size) (hq : q < 4294967296) (hd : d < 4294967296) (hq1 : 1 ≤ q) :
    Calls Try.prog 111 #[v, .int .u32 (q : Int), .int .u32 (d : Int)] w (ScalePost w base v n (val xs * q + d) (Clean xs)) := by
  rcases Nat.eq_zero_or_pos n with h0 | h0
  · subst h0
    obtain rfl := List.eq_nil_of_length_eq_zero hl
    obtain ⟨A, c, rfl⟩ := row_form hrow
    refine (scale_nil w base A c q d hrow hb hq hd).mono ?_
    rintro e w' ⟨v', n', ys, a1, a2, a3, a4, a5, a6, a7, a8⟩
    exact ⟨v', n', ys, a1, a2, a3, a4, a5, by rw [a6]; simp [val], fun _ => a7 trivial, a8⟩
  · exact scale_pos w base v n xs q d hrow ok hl h0 hn hb hq hd hq1
end Num
end Go.Proofs.Ytkpeliokhmigoaa
