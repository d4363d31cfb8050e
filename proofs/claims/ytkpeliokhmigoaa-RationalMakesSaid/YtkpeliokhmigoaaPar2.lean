/-
  Parse: the number of a text.
-/
import Derived.Test.YtkpeliokhmigoaaPar1
import Derived.Deep.LoopGhost
namespace Go.Proofs.Ytkpeliokhmigoaa
open Go.RowKit
set_option linter.unusedVariables false
namespace Num
theorem dvb_append (a b : List Nat) : dvb (a ++ b) = dvb a + 10 ^ a.length * dvb b := by
  induction a with
  | nil => simp [dvb]
  | cons x r ih => simp only [List.cons_append, dvb, ih, List.length_cons, Nat.pow_succ]; rw [Nat.mul_add, ← Nat.mul_assoc, Nat.mul_comm 10 (10 ^ r.length)]; omega
theorem dv_append (a b : List Nat) : dv (a ++ b) = dv a * 10 ^ b.length + dv b := by
  unfold dv
  rw [List.reverse_append, dvb_append, List.length_reverse, Nat.mul_comm, Nat.add_comm]
theorem dv_lt {l : List Nat} (h : IsDig l) : dv l < 10 ^ l.length := by
  have := dvb_lt (l := l.reverse) (fun b hb => h b (List.mem_reverse.1 hb))
  rwa [List.length_reverse] at this
theorem dv_take_succ (l : List Nat) (k : Nat) (h : k < l.length) : dv (l.take (k + 1)) = 10 * dv (l.take k) + (gw l k - 48) := by
  rw [List.take_succ_eq_append_getElem h, dv_snoc]
  simp [gw, List.getD_eq_getElem?_getD, h]
theorem IsDig.drop {l : List Nat} (h : IsDig l) (k : Nat) : IsDig (l.drop k) := fun b hb => h b (List.mem_of_mem_drop hb)
theorem TextOk.digs {l : List Nat} (h : TextOk l) : IsDig l := h.text.digs
theorem textB_ok {s : ByteArray} (h : textB s = true) : TextOk (bl s) := by unfold textB at h; exact of_decide_eq_true h
theorem ten_le {k m : Nat} (h : k ≤ m) : 10 ^ k ≤ 10 ^ m := Nat.pow_le_pow_right (by decide) h
set_option maxHeartbeats 400000 in
theorem parse_large (w : World) (s : ByteArray) (hs : 65536 < s.size) (hs2 : s.size ≤ 9223372036854775807) :
    Calls Try.prog 87 #[.string s] w fun e w' => e = .returned (.tuple #[.slice none 0 0, .iface 49 (.int .i64 4)]) ∧ w' = w := by
  go_enter Try.func87, Try.ntmps87
  go_wp2
  go_ret2
  exact ⟨rfl, rfl⟩
set_option maxHeartbeats 400000 in
theorem parse_bad (w : World) (s : ByteArray) (hs : s.size ≤ 65536) (hb : textB s = false) :
    Calls Try.prog 87 #[.string s] w fun e w' => e = .returned (.tuple #[.slice none 0 0, .iface 49 (.int .i64 2)]) ∧ w' = w := by
  have HB := Lib.hid hb
  clear hb
  go_enter Try.func87, Try.ntmps87
  go_wp2_with fail
  refine (istext_any _ _ (by omega)).mono ?_
  rintro e w' ⟨rfl, rfl⟩
  rw [HB.out]
  go_wp2
  go_ret2
  exact ⟨rfl, rfl⟩
set_option maxRecDepth 100000 in
set_option maxHeartbeats 1000000 in
theorem parse_good (w : World) (s : ByteArray) (hs : s.size ≤ 65536) (hb : textB s = true) :
    Calls Try.prog 87 #[.string s] w (Gives2 w (dv (bl s)) ((s.size + 8) / 9) .nilIface) := by
  have HB := Lib.hid hb
  have HD := Lib.hid (textB_ok hb).digs
  clear hb
  go_enter Try.func87, Try.ntmps87
  go_wp2_with fail
  refine (istext_any _ _ (by omega)).mono ?_
  rintro e w' ⟨rfl, rfl⟩
  rw [HB.out]
  go_wp2
  go_loopg [0, 4] s.size (fun gh s0 s4 wr => ∃ (p : Nat) (u : ByteArray) (n : Nat) (xs : List Nat), s0 = .string u ∧ bl u = (bl s).drop p ∧ p + u.size = s.size ∧ u.size ≤ gh ∧ wr.ownsRow w'.heap.size 53 1 s4 n (VW .u32 xs) ∧ Ok xs ∧ xs.length = n ∧ Clean xs ∧ val xs = dv ((bl s).take p) ∧ (p = s.size ∨ 9 * n ≤ p) ∧ 9 * n ≤ p + 8 ∧ On w' wr)
  case atStart => exact ⟨0, s, 0, [], rfl, rfl, by omega, Nat.le_refl _, World.ownsRow_nil _ _ _ _, Ok.nil, rfl, clean_nil, rfl, .inr (by omega), by omega, On.refl _⟩
  case round =>
    obtain ⟨p, u, n, xs, rfl, hu, hp, hgh, hrow, hok, hl, hC, hv, hpn, hn9, hon⟩ := hrel
    have H1 := Lib.hid hu
    have H2 := Lib.hid hrow
    have H3 := Lib.hid hl
    have H4 := Lib.hid hv
    clear hu hrow hl hv
    have hos := hon.size
    by_cases h0 : 0 < u.size
    · obtain ⟨m, hm⟩ : ∃ m, min 9 u.size = m := ⟨_, rfl⟩
      have m1 : m ≤ 9 := by omega
      have m2 : m ≤ u.size := by omega
      have m3 : 1 ≤ m := by omega
      have hmi : min (9 : Int) (u.size : Int) = (m : Int) := by omega
      have HM := Lib.hid hm
      clear hm
      have HU : Hid (IsDig (bl u)) := Lib.hid (by rw [H1.out]; exact HD.out.drop p)
      go_wp2
      go_loop [6, 7, 24] (fun gr sc i => ∃ k : Nat, k ≤ m ∧ i = .int .i64 (k : Int) ∧ gr = .int .u32 ((dv ((bl u).take k) : Nat) : Int) ∧ sc = .int .u32 ((10 ^ k : Nat) : Int)) (fun _ _ i => m - (intOf i).toNat)
      case atStart => exact ⟨0, by omega, rfl, rfl, rfl⟩
      case round =>
        obtain ⟨k, hk, rfl, rfl, rfl⟩ := hrel
        have hlk : ((bl u).take k).length = k := by rw [List.length_take, bl_length]; omega
        have hdl := dv_lt (HU.out.take k)
        rw [hlk] at hdl
        by_cases hlt : k < m
        · have hku : k < u.size := by omega
          have hgk := bl_get u k hku
          have hdk := HU.out.get (k := k) (by rw [bl_length]; exact hku)
          have hts := dv_take_succ (bl u) k (by rw [bl_length]; exact hku)
          rw [hgk] at hdk hts
          obtain ⟨d1, d2⟩ := hdk
          have h10 := ten_le (show k ≤ 8 by omega)
          rw [show (10 : Nat) ^ 8 = 100000000 from rfl] at h10
          have hps : (10 : Nat) ^ (k + 1) = 10 * 10 ^ k := by rw [Nat.pow_succ, Nat.mul_comm]
          obtain ⟨G, hG⟩ : ∃ G, dv ((bl u).take k) = G := ⟨_, rfl⟩
          obtain ⟨S, hS⟩ : ∃ S, (10 : Nat) ^ k = S := ⟨_, rfl⟩
          rw [hG] at hts hdl ⊢
          rw [hS] at hps hdl h10 ⊢
          have HTS := Lib.hid hts
          have HPS := Lib.hid hps
          clear hts hps hgk hG hS hlk
          go_wp2
          go_round
          case rel => exact ⟨k + 1, by omega, by go_num, by congr 1; rw [HTS.out]; omega, by congr 1; rw [HPS.out]; omega⟩
          case measure => first | (simp [intOf]; done) | (simp [intOf]; omega)
        · obtain rfl : k = m := by omega
          have h10 := ten_le m1
          rw [show (10 : Nat) ^ 9 = 1000000000 from rfl] at h10
          have h1p : 1 ≤ (10 : Nat) ^ k := Nat.pow_pos (by decide)
          have htake : (bl s).take (p + k) = (bl s).take p ++ (bl u).take k := by rw [List.take_add, H1.out]
          have hdv : dv ((bl s).take (p + k)) = dv ((bl s).take p) * 10 ^ k + dv ((bl u).take k) := by
            rw [htake, dv_append, hlk]
          obtain ⟨G, hG⟩ : ∃ G, dv ((bl u).take k) = G := ⟨_, rfl⟩
          obtain ⟨S, hS⟩ : ∃ S, (10 : Nat) ^ k = S := ⟨_, rfl⟩
          rw [hG] at hdl hdv ⊢
          rw [hS] at hdl h10 h1p hdv ⊢
          have HDV := Lib.hid hdv
          clear hG hS hdv htake hlk
          go_wp2_with fail
          refine (scale_any _ w'.heap.size _ n xs S G H2.out hok H3.out (by omega) (by omega) (by omega) (by omega) h1p).mono ?_
          rintro e w2 ⟨v2, n2, ys, rfl, hrow2, hok2, hl2, hn2, hv2, hC2, hg2⟩
          have hv3 : val ys = dv ((bl s).take (p + k)) := by rw [hv2, H4.out, HDV.out]
          have HV3 := Lib.hid hv3
          have HR2 := Lib.hid hrow2
          have HL2 := Lib.hid hl2
          have hon2 := on_row hon H2.out (Nat.le_refl _) hg2
          clear hv2 hv3 hrow2 hl2
          go_wp2
          go_roundg (u.size - k)
          case measure => omega
          case rel =>
            refine ⟨p + k, u.extract k u.size, n2, ys, rfl, by rw [bl_cut, H1.out, List.drop_drop], ?_, ?_, HR2.out, hok2, HL2.out, hC2 hC, HV3.out, ?_, ?_, hon2⟩
            · rw [ByteArray.size_extract]; omega
            · rw [ByteArray.size_extract]; omega
            · have := HM.out; omega
            · have := HM.out; omega
    · have hpz : p = s.size := by omega
      obtain ⟨A5, c5, ho5⟩ := row_form H2.out
      subst ho5
      have R := rd_of_row hok H2.out
      have hvf : val xs = dv (bl s) := by rw [H4.out, hpz, List.take_of_length_le (by rw [bl_length]; exact Nat.le_refl _)]
      have HVF := Lib.hid hvf
      clear hvf
      go_wp2
      go_ret2
      exact ⟨_, _, _, rfl, ⟨xs, R, hC, HVF.out, by omega⟩, hon⟩
end Num
end Go.Proofs.Ytkpeliokhmigoaa
