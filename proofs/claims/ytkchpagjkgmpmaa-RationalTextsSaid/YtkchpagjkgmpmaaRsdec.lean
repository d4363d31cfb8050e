/-
  The specification's decimal.
-/
import Derived.Test.YtkchpagjkgmpmaaRspw
import Derived.Laws.IdiomStrings
namespace Go.Proofs.Ytkchpagjkgmpmaa
open Go.RowKit
set_option linter.unusedVariables false
namespace Num
/-- a fraction and true, or 0 and false -/
def DecPost (w : World) (o : Option Rat) (e : Ending) (w' : World) : Prop := match o with
  | some r => ∃ v, e = .returned (.tuple #[v, .bool true]) ∧ IsR w' v r 300 ∧ On w w'
  | none => e = .returned (.tuple #[.agg #[.bool false, .slice none 0 0, .slice none 0 0], .bool false]) ∧ On w w'
theorem isR_form8 {w : World} {v : Value} {r : Rat} {L : Nat} (h : IsR w v r L) : ∃ (s : Bool) (A : Option Addr) (n c : Nat) (A' : Option Addr) (n' c' : Nat), v = .agg #[.bool s, .slice A n c, .slice A' n' c'] := by
  obtain ⟨A, n, c, xs, A', n', c', ys, e, _⟩ := h
  exact ⟨_, A, n, c, A', n', c', e⟩
theorem ba_list {s : ByteArray} {l : List UInt8} (h : s.data.toList = l) : s = ⟨l.toArray⟩ := by
  apply ByteArray.ext
  apply Array.toList_inj.1
  simp [h]
theorem cut_front {T : ByteArray} {c : UInt8} {a b : List UInt8} (h : T.data.toList = a ++ c :: b) : T.extract 0 a.length = ⟨a.toArray⟩ := by
  apply ba_list
  rw [ByteArray.data_extract, Array.toList_extract, List.extract_eq_take_drop, h]
  simp
theorem cut_back {T : ByteArray} {c : UInt8} {a b : List UInt8} (h : T.data.toList = a ++ c :: b) : T.extract (a.length + 1) T.size = ⟨b.toArray⟩ := by
  apply ba_list
  rw [ByteArray.data_extract, Array.toList_extract, List.extract_eq_take_drop, h]
  have : T.size = a.length + (b.length + 1) := by rw [← dl_len, h]; simp
  rw [this]
  simp
  exact List.take_of_length_le (by omega)
/-- the string behind the sign -/
def Head (s : ByteArray) (neg : Bool) (T : ByteArray) : Prop := (neg = true ∧ 0 < s.size ∧ (∃ h : 0 < s.size, ((s[0].toNat : Int) == 45) = true) ∧ T = s.extract 1 s.size) ∨ (neg = false ∧ T = s ∧ (s.size = 0 ∨ (∃ h : 0 < s.size, ((s[0].toNat : Int) == 45) = false)))
theorem head_of (s : ByteArray) {D : List UInt8} {neg : Bool} (hD : Lib.trimPrefix s.data.toList [45] = D) (hN : Lib.hasPrefix s.data.toList [45] = neg) : ∃ T, Head s neg T ∧ T.data.toList = D ∧ T.size ≤ s.size := by
  cases hl : s.data.toList with
  | nil =>
    have h0 : s.size = 0 := by rw [← dl_len, hl]; rfl
    rw [hl] at hD hN
    have := pre_no [] (fun x t e => by cases e)
    rw [this.1] at hN
    rw [this.2] at hD
    exact ⟨s, .inr ⟨hN.symm, rfl, .inl h0⟩, by rw [hl]; exact hD, Nat.le_refl _⟩
  | cons x t =>
    have h0 : 0 < s.size := by rw [← dl_len, hl]; simp
    have hx : s[0] = x := by
      have e := byte_at2 s 0 h0
      rw [← e]
      simp [hl]
    by_cases hm : x = 45
    · subst hm
      rw [hl] at hD hN
      rw [(pre_yes t).1] at hN
      rw [(pre_yes t).2] at hD
      refine ⟨s.extract 1 s.size, .inl ⟨hN.symm, h0, ⟨h0, by rw [hx]; rfl⟩, rfl⟩, ?_, by simp⟩
      rw [ByteArray.data_extract, Array.toList_extract, List.extract_eq_take_drop, hl, ← hD]
      have : s.size = t.length + 1 := by rw [← dl_len, hl]; rfl
      rw [this]; simp
    · rw [hl] at hD hN
      have := pre_no (x :: t) (fun y u e => by injection e with e1 e2; rw [← e1]; exact hm)
      rw [this.1] at hN
      rw [this.2] at hD
      refine ⟨s, .inr ⟨hN.symm, rfl, .inr ⟨h0, ?_⟩⟩, by rw [hl]; exact hD, Nat.le_refl _⟩
      rw [hx, beq_eq_false_iff_ne]
      intro e
      exact hm (UInt8.toNat_inj.1 (by have h3 : (45 : UInt8).toNat = 45 := rfl; omega))
/-- a block of bytes -/
def Bytes (w : World) (g : Nat) (l : List UInt8) : Prop := g < w.heap.size ∧ ∀ k (h : k < l.length), w.cell? ⟨g, k, none⟩ = some (.int .u8 (l[k].toNat : Int))
theorem Bytes.on {w w' : World} {g : Nat} {l : List UInt8} (h : Bytes w g l) (o : On w w') : Bytes w' g l :=
  ⟨Nat.lt_of_lt_of_le h.1 o.size, fun k hk => (Below.cell o h.1).trans (h.2 k hk)⟩
theorem bytes_new (w : World) (g : Nat) (hg : g = w.heap.size) (l : List UInt8) (cap : Nat) (t : TypeId) (fr : Nat × Nat) : Bytes ((w.alloc (.cells (bytesRow ⟨l.toArray⟩ cap) t fr)).drew) g l := by
  subst hg
  refine ⟨by show _ < (w.alloc _).heap.size; simp, fun k hk => ?_⟩
  show (w.alloc (.cells (bytesRow ⟨l.toArray⟩ cap) t fr)).cell? ⟨w.heap.size, k, none⟩ = _
  rw [World.cell?_alloc_mark, bytesRow_at _ _ _ (by simpa using hk)]
  simp
theorem dec_step (A P B d : Nat) : (A * P + B) * 10 + d = A * (P * 10) + (10 * B + d) := by rw [Nat.add_mul, Nat.mul_assoc]; omega
theorem pow_ten_lt (k : Nat) : 10 ^ k < BB ^ (k + 1) := Nat.lt_of_lt_of_le (Nat.pow_lt_pow_right (by decide) (Nat.lt_succ_self k)) (Nat.pow_le_pow_left (by decide) _)
theorem nl_get (l : List UInt8) (k : Nat) (h : k < l.length) : gw (nl l) k = l[k].toNat := by
  unfold gw nl
  rw [List.getD_eq_getElem?_getD, List.getElem?_map, List.getElem?_eq_getElem h]; rfl
theorem nl_len (l : List UInt8) : (nl l).length = l.length := by unfold nl; rw [List.length_map]
theorem dig_app_lt {a : List Nat} {x : Nat} (ha : IsDig a) (k : Nat) (hx : x < 10 ^ k) : dv a * 10 ^ k + x < BB ^ (a.length + k) := by
  have h1 := dv_lt ha
  have h2 : dv a * 10 ^ k + 10 ^ k ≤ 10 ^ a.length * 10 ^ k := by
    rw [← Nat.succ_mul]; exact Nat.mul_le_mul_right _ h1
  have h3 : 10 ^ (a.length + k) ≤ BB ^ (a.length + k) := Nat.pow_le_pow_left (by decide) _
  rw [Nat.pow_add] at h3
  omega
set_option maxRecDepth 100000 in
set_option maxHeartbeats 1600000 in
theorem dec_no_n (w : World) (s : ByteArray) (hs : s.size ≤ 300) (hz : 0 < s.size) (e2 : ((s[0].toNat : Int) == 45) = true) (hd : (46 : UInt8) ∉ (s.extract 1 s.size).data.toList) :
    Calls Try.prog 48 #[.string s] w (DecPost w none) := by
  have B := (On.refl w).alloc (.cells #[.bool false, .slice none 0 0, .slice none 0 0] 24)
  have HO := Lib.hid (Own.new w 24 #[.bool false, .slice none 0 0, .slice none 0 0])
  have hne : ¬ s.toList = [] := fun e => by have := (toList_nil_iff s).1 e; omega
  have e1 : s.toList.isEmpty = false := by simp [hne]
  obtain ⟨T, hT⟩ : ∃ T, s.extract 1 s.size = T := ⟨_, rfl⟩
  have hTs : T.size ≤ 300 := by rw [← hT]; simp; omega
  rw [hT] at hd
  have HT := Lib.hid hT
  clear hT
  have HDD := Lib.hid hd
  clear hd
  go_enter Try.func48, Try.ntmps48
  go_wp2_with fail
  rw [HT.out]
  refine (find_no _ T 46 46 rfl (by omega) HDD.out).mono ?_
  rintro e w1 ⟨rfl, P1⟩
  have P0 := (On.refl w).alloc (.cells #[.bool false, .slice none 0 0, .slice none 0 0] 24)
  have r0 : w1.cell? ⟨w.heap.size, 0, none⟩ = some (.bool false) := (HO.out.on P1).cell 0
  have r1 : w1.cell? ⟨w.heap.size, 1, none⟩ = some (.slice none 0 0) := (HO.out.on P1).cell 1
  have r2 : w1.cell? ⟨w.heap.size, 2, none⟩ = some (.slice none 0 0) := (HO.out.on P1).cell 2
  have rf0 := (HO.out.on P1).frozen 0
  have rf1 := (HO.out.on P1).frozen 1
  have rf2 := (HO.out.on P1).frozen 2
  go_wp2
  have hon := on3 (g := w.heap.size) (P0.trans P1) (by omega) (.bool false) (.slice none 0 0) (.slice none 0 0)
  exact bodyPost_ret (v := .tuple #[.agg #[.bool false, .slice none 0 0, .slice none 0 0], .bool false]) (by simp [results, Try.results48, go_sem, r0, r1, r2]) rfl ⟨rfl, by first | exact hon | exact (P0.trans P1)⟩
set_option maxRecDepth 100000 in
set_option maxHeartbeats 1600000 in
theorem dec_no_p (w : World) (s : ByteArray) (hs : s.size ≤ 300) (hz : 0 < s.size) (e2 : ((s[0].toNat : Int) == 45) = false) (hd : (46 : UInt8) ∉ (s).data.toList) :
    Calls Try.prog 48 #[.string s] w (DecPost w none) := by
  have B := (On.refl w).alloc (.cells #[.bool false, .slice none 0 0, .slice none 0 0] 24)
  have HO := Lib.hid (Own.new w 24 #[.bool false, .slice none 0 0, .slice none 0 0])
  have hne : ¬ s.toList = [] := fun e => by have := (toList_nil_iff s).1 e; omega
  have e1 : s.toList.isEmpty = false := by simp [hne]
  have HDD := Lib.hid hd
  clear hd
  go_enter Try.func48, Try.ntmps48
  go_wp2_with fail
  refine (find_no _ s 46 46 rfl (by omega) HDD.out).mono ?_
  rintro e w1 ⟨rfl, P1⟩
  have P0 := (On.refl w).alloc (.cells #[.bool false, .slice none 0 0, .slice none 0 0] 24)
  have r0 : w1.cell? ⟨w.heap.size, 0, none⟩ = some (.bool false) := (HO.out.on P1).cell 0
  have r1 : w1.cell? ⟨w.heap.size, 1, none⟩ = some (.slice none 0 0) := (HO.out.on P1).cell 1
  have r2 : w1.cell? ⟨w.heap.size, 2, none⟩ = some (.slice none 0 0) := (HO.out.on P1).cell 2
  have rf0 := (HO.out.on P1).frozen 0
  have rf1 := (HO.out.on P1).frozen 1
  have rf2 := (HO.out.on P1).frozen 2
  go_wp2
  have hon := on3 (g := w.heap.size) (P0.trans P1) (by omega) (.bool false) (.slice none 0 0) (.slice none 0 0)
  exact bodyPost_ret (v := .tuple #[.agg #[.bool false, .slice none 0 0, .slice none 0 0], .bool false]) (by simp [results, Try.results48, go_sem, r0, r1, r2]) rfl ⟨rfl, by first | exact hon | exact (P0.trans P1)⟩
set_option maxRecDepth 100000 in
set_option maxHeartbeats 1600000 in
theorem dec_no_e (w : World) (s : ByteArray) (hs : s.size ≤ 300) (hz : s.size = 0) (hd : (46 : UInt8) ∉ (s).data.toList) :
    Calls Try.prog 48 #[.string s] w (DecPost w none) := by
  have B := (On.refl w).alloc (.cells #[.bool false, .slice none 0 0, .slice none 0 0] 24)
  have HO := Lib.hid (Own.new w 24 #[.bool false, .slice none 0 0, .slice none 0 0])
  have e1 : s.toList = [] := (toList_nil_iff s).2 hz
  have HDD := Lib.hid hd
  clear hd
  go_enter Try.func48, Try.ntmps48
  go_wp2_with fail
  refine (find_no _ s 46 46 rfl (by omega) HDD.out).mono ?_
  rintro e w1 ⟨rfl, P1⟩
  have P0 := (On.refl w).alloc (.cells #[.bool false, .slice none 0 0, .slice none 0 0] 24)
  have r0 : w1.cell? ⟨w.heap.size, 0, none⟩ = some (.bool false) := (HO.out.on P1).cell 0
  have r1 : w1.cell? ⟨w.heap.size, 1, none⟩ = some (.slice none 0 0) := (HO.out.on P1).cell 1
  have r2 : w1.cell? ⟨w.heap.size, 2, none⟩ = some (.slice none 0 0) := (HO.out.on P1).cell 2
  have rf0 := (HO.out.on P1).frozen 0
  have rf1 := (HO.out.on P1).frozen 1
  have rf2 := (HO.out.on P1).frozen 2
  go_wp2
  have hon := on3 (g := w.heap.size) (P0.trans P1) (by omega) (.bool false) (.slice none 0 0) (.slice none 0 0)
  exact bodyPost_ret (v := .tuple #[.agg #[.bool false, .slice none 0 0, .slice none 0 0], .bool false]) (by simp [results, Try.results48, go_sem, r0, r1, r2]) rfl ⟨rfl, by first | exact hon | exact (P0.trans P1)⟩
set_option maxRecDepth 100000 in
set_option maxHeartbeats 1600000 in
theorem dec_at_n (w : World) (s : ByteArray) (hs : s.size ≤ 300) (hz : 0 < s.size) (e2 : ((s[0].toNat : Int) == 45) = true) (a b : List UInt8) (hd : (s.extract 1 s.size).data.toList = a ++ 46 :: b) (ha : (46 : UInt8) ∉ a) :
    Calls Try.prog 48 #[.string s] w (DecPost w (DecR true a b)) := by
  have B := (On.refl w).alloc (.cells #[.bool false, .slice none 0 0, .slice none 0 0] 24)
  have HO := Lib.hid (Own.new w 24 #[.bool false, .slice none 0 0, .slice none 0 0])
  have hne : ¬ s.toList = [] := fun e => by have := (toList_nil_iff s).1 e; omega
  have e1 : s.toList.isEmpty = false := by simp [hne]
  obtain ⟨T, hT⟩ : ∃ T, s.extract 1 s.size = T := ⟨_, rfl⟩
  have hTs : T.size ≤ 300 := by rw [← hT]; simp; omega
  rw [hT] at hd
  have HT := Lib.hid hT
  clear hT
  have hal : a.length + b.length + 1 = T.size := by rw [← dl_len, hd]; simp; omega
  have HCF := Lib.hid (cut_front hd)
  have HCB := Lib.hid (cut_back hd)
  have HDD := Lib.hid hd
  have HA := Lib.hid ha
  clear hd ha
  obtain ⟨o, ho⟩ : ∃ o, DecR true a b = o := ⟨_, rfl⟩
  rw [ho]
  have HOO := Lib.hid ho
  clear ho
  have kc := fun (w : World) (s : ByteArray) => run_bytes_of_string (P := Try.prog) w 9 96 5 s Try.underlying9 Try.underlying96 Try.underlying5
  have P0 := (On.refl w).alloc (.cells #[.bool false, .slice none 0 0, .slice none 0 0] 24)
  go_enter Try.func48, Try.ntmps48
  go_wp2_with fail
  rw [HT.out]
  refine (find_at _ T 46 46 rfl (by omega) a b HDD.out HA.out).mono ?_
  rintro e w1 ⟨rfl, P1⟩
  have a0 : ((a.length : Nat) : Int) ≥ 0 := by omega
  by_cases hb0 : b.length = 0
  · obtain rfl : o = none := by rw [← HOO.out]; unfold DecR; rw [if_neg (by rintro ⟨_, _, h⟩; omega)]
    have k0 : decide ((a.length : Int) < 0) = false := decide_eq_false (by omega)
    have k1 : ((a.length : Int) == (T.size : Int) - 1) = true := by rw [beq_iff_eq]; omega
    have r0 : w1.cell? ⟨w.heap.size, 0, none⟩ = some (.bool false) := (HO.out.on P1).cell 0
    have r1 : w1.cell? ⟨w.heap.size, 1, none⟩ = some (.slice none 0 0) := (HO.out.on P1).cell 1
    have r2 : w1.cell? ⟨w.heap.size, 2, none⟩ = some (.slice none 0 0) := (HO.out.on P1).cell 2
    have rf0 := (HO.out.on P1).frozen 0
    have rf1 := (HO.out.on P1).frozen 1
    have rf2 := (HO.out.on P1).frozen 2
    go_wp2
    have hon := on3 (g := w.heap.size) (P0.trans P1) (by omega) (.bool false) (.slice none 0 0) (.slice none 0 0)
    exact bodyPost_ret (v := .tuple #[.agg #[.bool false, .slice none 0 0, .slice none 0 0], .bool false]) (by simp [results, Try.results48, go_sem, r0, r1, r2]) rfl ⟨rfl, by first | exact hon | exact (P0.trans P1)⟩
  · have k0 : decide ((a.length : Int) < 0) = false := decide_eq_false (by omega)
    have k1 : ((a.length : Int) == (T.size : Int) - 1) = false := by rw [beq_eq_false_iff_ne]; omega
    go_wp2_with fail
    rw [show T.extract 0 a.length = ⟨a.toArray⟩ from HCF.out]
    refine (rparse_any _ ⟨a.toArray⟩ (by rw [size_mk]; omega)).mono ?_
    rintro e w2 (⟨hok, A2, n2, c2, rfl, N2, P2⟩ | ⟨hbad, rfl, P2⟩)
    · obtain ⟨xs, R2, C2, V2, L2⟩ := N2
      rw [size_mk] at L2
      rw [bl_mk] at V2
      have HV2 := Lib.hid V2
      have HOK := Lib.hid hok
      have hda : IsDig (nl a) := by have h := textB_ok hok; rw [bl_mk] at h; exact h.text.digs
      have HDA := Lib.hid hda
      clear V2 hok hda
      go_wp2_with fail
      rw [show T.extract (a.length + 1) T.size = ⟨b.toArray⟩ from HCB.out]
      go_wp2_with fail
      go_loopw [6, 8, 52] (fun s6 s8 i wr => ∃ (k : Nat) (A : Option Addr) (n c : Nat) (zs : List Nat) (D : Option Addr) (m o : Nat) (ys : List Nat), k ≤ b.length ∧ i = .int .i64 (k : Int) ∧ s6 = .slice A n c ∧ s8 = .slice D m o ∧ Rd wr A n c zs ∧ Rd wr D m o ys ∧ Bytes wr (w2.heap.size + 1) b ∧ Clean zs ∧ n ≤ a.length + k ∧ m ≤ k + 1 ∧ val zs = dv (nl a) * 10 ^ k + dv ((nl b).take k) ∧ val ys = 10 ^ k ∧ IsDig ((nl b).take k) ∧ On w2 wr) (fun _ _ i _ => b.length - (intOf i).toNat)
      case atStart => exact ⟨0, _, _, _, xs, _, _, _, [1], by omega, rfl, rfl, rfl, R2.on ((((On.refl w2).alloc _).alloc _).drew), (rd_one w2 72 1 (by decide)).on (((On.refl _).alloc _).drew), bytes_new _ _ (by simp) b _ _ _, C2, by omega, by omega, by rw [HV2.out]; simp [dv, dvb], rfl, by intro x hx; simp at hx, (((On.refl w2).alloc _).alloc _).drew⟩
      case round =>
        obtain ⟨k, A, n, c, zs, D, m, q, ys, hk, rfl, rfl, rfl, RA, RD, BY, CA, ln, lm, va, vd, hdg, hon⟩ := hrel
        have HVA := Lib.hid va
        have HVD := Lib.hid vd
        have HDG := Lib.hid hdg
        clear va vd hdg R2 C2
        by_cases hlt : k < b.length
        · have hc := BY.2 k hlt
          have hgk := nl_get b k hlt
          have HIF := Lib.hid (isDig_take_succ (nl b) k (by rw [nl_len]; exact hlt))
          have HTS := Lib.hid (dv_take_succ (nl b) k (by rw [nl_len]; exact hlt))
          have hcl := b[k].toNat_lt
          obtain ⟨x, hx⟩ : ∃ x, b[k].toNat = x := ⟨_, rfl⟩
          rw [hx] at hc hgk hcl
          have HGK := Lib.hid hgk
          clear hgk hx
          have i0 : (0 : Int) ≤ (k : Int) := by omega
          have i1 : (k : Int) < ((T.size - (a.length + 1) : Nat) : Int) := by omega
          by_cases d1 : 48 ≤ x
          · by_cases d2 : x ≤ 57
            · obtain ⟨d, hd⟩ : ∃ d, x = d + 48 := ⟨x - 48, by omega⟩
              have kw : IntKind.u8.wrap ((x : Int) - 48) = (d : Int) := by rw [IntKind.wrap_u8]; omega
              have kw2 : IntKind.u32.wrap (d : Int) = (d : Int) := by rw [IntKind.wrap_u32]; omega
              have HK := Lib.hid (HIF.out.2 ⟨HDG.out, by rw [HGK.out]; exact d1, by rw [HGK.out]; exact d2⟩)
              have PA := (On.refl wr).alloc (.cells #[.int .u32 10] 72)
              go_wp2_with fail
              refine (rmul_any _ _ _ _ _ _ _ (m + 1) _ _ (RD.on PA) (rd_one wr 72 10 (by decide)) (by omega) (by omega) (by omega)).mono ?_
              rintro e w5 ⟨Ad, nd, cd, rfl, ⟨ys', Rd', Cd', Vd', Ld'⟩, P5⟩
              rw [show val [10] = 10 from rfl, HVD.out] at Vd'
              have HVD' := Lib.hid Vd'
              clear Vd'
              have PB := (On.refl w5).alloc (.cells #[.int .u32 10] 72)
              go_wp2_with fail
              refine (rmul_any _ _ _ _ _ _ _ (n + 1) _ _ (RA.on ((PA.trans P5).trans PB)) (rd_one w5 72 10 (by decide)) (by omega) (by omega) (by omega)).mono ?_
              rintro e w6 ⟨Am, nm, cm, rfl, ⟨zm, Rm, Cm, Vm, Lm⟩, P6⟩
              rw [show val [10] = 10 from rfl, HVA.out] at Vm
              have HVM := Lib.hid Vm
              clear Vm
              have PC := (On.refl w6).alloc (.cells #[.int .u32 (d : Int)] 72)
              go_wp2_with fail
              refine (radd_any _ _ _ _ _ _ _ (n + 2) _ _ (Rm.on PC) (rd_one w6 72 d (by omega)) (by omega) (by omega) (by omega) (by omega)).mono ?_
              rintro e w7 ⟨Aa, na, ca, rfl, ⟨za, Ra, Ca, Va, La⟩, P7⟩
              have PW7 := (((PB.trans P6).trans PC).trans P7)
              have PW8 := (PA.trans P5).trans PW7
              have hva : val za = dv (nl a) * 10 ^ (k + 1) + dv ((nl b).take (k + 1)) := by
                rw [Va, HVM.out, HTS.out, HGK.out, show val [d] = d from by simp [val], Nat.pow_succ]
                have : x - 48 = d := by omega
                rw [this]
                exact dec_step _ _ _ _
              have hvd : val ys' = 10 ^ (k + 1) := by rw [HVD'.out, Nat.pow_succ]
              have hdl : dv ((nl b).take (k + 1)) < 10 ^ (k + 1) := by
                have h1 := dv_lt HK.out
                rw [List.length_take, nl_len, Nat.min_eq_left (by omega)] at h1
                exact h1
              have ln' : na ≤ a.length + (k + 1) := by
                have h1 := dig_app_lt HDA.out (k + 1) hdl
                rw [nl_len] at h1
                have h2 := clean_len Ca (a.length + (k + 1)) (by rw [hva]; exact h1)
                rw [Ra.len] at h2
                exact h2
              have ld' : nd ≤ k + 1 + 1 := by
                have h2 := clean_len Cd' (k + 1 + 1) (by rw [hvd]; exact pow_ten_lt _)
                rw [Rd'.len] at h2
                exact h2
              have HVA' := Lib.hid hva
              have HVD2 := Lib.hid hvd
              have hfin := hon.trans PW8
              clear hva hvd hdl Va HVD' HVM HTS HIF RA RD CA
              have RDn := Rd'.on PW7
              have BYn := BY.on PW8
              clear P5 P6 P7 PA PB PC PW7 PW8 Rd' Rm Cm BY hc hon
              go_wp2
              exact ⟨⟨k + 1, Aa, na, ca, za, Ad, nd, cd, ys', by omega, by go_num, rfl, rfl, Ra, RDn, BYn, Ca, ln', ld', HVA'.out, HVD2.out, HK.out, hfin⟩, by simp [intOf]; omega⟩
            · obtain rfl : o = none := by
                rw [← HOO.out]; unfold DecR; rw [if_neg]
                rintro ⟨_, h, _⟩
                rw [textB_one_cons] at h
                have h2 := (of_decide_eq_true h).take (k + 1)
                have := (HIF.out.1 h2).2.2
                rw [HGK.out] at this; omega
              have PZ := (P1.trans P2).trans hon
              have r0 : wr.cell? ⟨w.heap.size, 0, none⟩ = some (.bool false) := (HO.out.on PZ).cell 0
              have r1 : wr.cell? ⟨w.heap.size, 1, none⟩ = some (.slice none 0 0) := (HO.out.on PZ).cell 1
              have r2 : wr.cell? ⟨w.heap.size, 2, none⟩ = some (.slice none 0 0) := (HO.out.on PZ).cell 2
              have rf0 := (HO.out.on PZ).frozen 0
              have rf1 := (HO.out.on PZ).frozen 1
              have rf2 := (HO.out.on PZ).frozen 2
              go_wp2
              have hon := on3 (g := w.heap.size) (P0.trans PZ) (by omega) (.bool false) (.slice none 0 0) (.slice none 0 0)
              exact bodyPost_ret (v := .tuple #[.agg #[.bool false, .slice none 0 0, .slice none 0 0], .bool false]) (by simp [results, Try.results48, go_sem, r0, r1, r2]) rfl ⟨rfl, by first | exact hon | exact (P0.trans PZ)⟩
          · obtain rfl : o = none := by
              rw [← HOO.out]; unfold DecR; rw [if_neg]
              rintro ⟨_, h, _⟩
              rw [textB_one_cons] at h
              have h2 := (of_decide_eq_true h).take (k + 1)
              have := (HIF.out.1 h2).2.1
              rw [HGK.out] at this; omega
            have PZ := (P1.trans P2).trans hon
            have r0 : wr.cell? ⟨w.heap.size, 0, none⟩ = some (.bool false) := (HO.out.on PZ).cell 0
            have r1 : wr.cell? ⟨w.heap.size, 1, none⟩ = some (.slice none 0 0) := (HO.out.on PZ).cell 1
            have r2 : wr.cell? ⟨w.heap.size, 2, none⟩ = some (.slice none 0 0) := (HO.out.on PZ).cell 2
            have rf0 := (HO.out.on PZ).frozen 0
            have rf1 := (HO.out.on PZ).frozen 1
            have rf2 := (HO.out.on PZ).frozen 2
            go_wp2
            have hon := on3 (g := w.heap.size) (P0.trans PZ) (by omega) (.bool false) (.slice none 0 0) (.slice none 0 0)
            exact bodyPost_ret (v := .tuple #[.agg #[.bool false, .slice none 0 0, .slice none 0 0], .bool false]) (by simp [results, Try.results48, go_sem, r0, r1, r2]) rfl ⟨rfl, by first | exact hon | exact (P0.trans PZ)⟩
        · obtain rfl : k = b.length := by omega
          have hall : (nl b).take b.length = nl b := List.take_of_length_le (by rw [nl_len]; exact Nat.le_refl _)
          have hv1 := HVA.out
          have hd1 := HDG.out
          rw [hall] at hv1 hd1
          obtain ⟨r, hr⟩ : ∃ r, fr true (dv (nl a) * 10 ^ b.length + dv (nl b)) (10 ^ b.length) = r := ⟨_, rfl⟩
          obtain rfl : o = some r := by rw [← HOO.out, ← hr]; unfold DecR; rw [if_pos ⟨HOK.out, by rw [textB_one_cons]; exact decide_eq_true hd1, by omega⟩]
          have hy : 0 < val ys := by rw [HVD.out]; exact Nat.pow_pos (by decide)
          have hfr : fr true (val zs) (val ys) = r := by rw [hv1, HVD.out]; exact hr
          have HFR := Lib.hid hfr
          have HY := Lib.hid hy
          clear hv1 hd1 hall hr hy hfr
          have PZ := (P1.trans P2).trans hon
          go_wp2_with fail
          refine (rfrom_any _ true _ _ _ _ _ _ 300 _ _ RA RD HY.out (by omega) (by omega) (by omega) (by omega)).mono ?_
          rintro e w8 ⟨v8, rfl, I8, P8⟩
          rw [HFR.out] at I8
          obtain ⟨s8, A8, n8, c8, A9, n9, c9, rfl⟩ := isR_form8 I8
          have PQ := (On.refl w8).alloc (.cells #[.bool s8, .slice A8 n8 c8, .slice A9 n9 c9] 24)
          have PZ8 := PZ.trans (P8.trans PQ)
          have I9 := I8.on PQ
          have r0 : (w8.alloc (.cells #[.bool s8, .slice A8 n8 c8, .slice A9 n9 c9] 24)).cell? ⟨w.heap.size, 0, none⟩ = some (.bool false) := (HO.out.on PZ8).cell 0
          have r1 : (w8.alloc (.cells #[.bool s8, .slice A8 n8 c8, .slice A9 n9 c9] 24)).cell? ⟨w.heap.size, 1, none⟩ = some (.slice none 0 0) := (HO.out.on PZ8).cell 1
          have r2 : (w8.alloc (.cells #[.bool s8, .slice A8 n8 c8, .slice A9 n9 c9] 24)).cell? ⟨w.heap.size, 2, none⟩ = some (.slice none 0 0) := (HO.out.on PZ8).cell 2
          have rf0 := (HO.out.on PZ8).frozen 0
          have rf1 := (HO.out.on PZ8).frozen 1
          have rf2 := (HO.out.on PZ8).frozen 2
          have HO8 := HO.out.on PZ8
          have I10 := isR_put I9 HO8 (.bool s8) (.slice A8 n8 c8) (.slice A9 n9 c9)
          have hon10 := on3 (g := w.heap.size) (P0.trans PZ8) (by omega) (.bool s8) (.slice A8 n8 c8) (.slice A9 n9 c9)
          clear HO8 I8 PZ P8 PQ RA RD CA BY hon I9 PZ8
          go_wp2
          exact bodyPost_ret (v := .tuple #[.agg #[.bool s8, .slice A8 n8 c8, .slice A9 n9 c9], .bool true]) (by simp [results, Try.results48, go_sem, r0, r1, r2]) rfl ⟨_, rfl, I10, hon10⟩
    · obtain rfl : o = none := by rw [← HOO.out]; unfold DecR; rw [if_neg (by rintro ⟨h, _⟩; rw [hbad] at h; cases h)]
      have r0 : w2.cell? ⟨w.heap.size, 0, none⟩ = some (.bool false) := (HO.out.on (P1.trans P2)).cell 0
      have r1 : w2.cell? ⟨w.heap.size, 1, none⟩ = some (.slice none 0 0) := (HO.out.on (P1.trans P2)).cell 1
      have r2 : w2.cell? ⟨w.heap.size, 2, none⟩ = some (.slice none 0 0) := (HO.out.on (P1.trans P2)).cell 2
      have rf0 := (HO.out.on (P1.trans P2)).frozen 0
      have rf1 := (HO.out.on (P1.trans P2)).frozen 1
      have rf2 := (HO.out.on (P1.trans P2)).frozen 2
      go_wp2
      have hon := on3 (g := w.heap.size) (P0.trans (P1.trans P2)) (by omega) (.bool false) (.slice none 0 0) (.slice none 0 0)
      exact bodyPost_ret (v := .tuple #[.agg #[.bool false, .slice none 0 0, .slice none 0 0], .bool false]) (by simp [results, Try.results48, go_sem, r0, r1, r2]) rfl ⟨rfl, by first | exact hon | exact (P0.trans (P1.trans P2))⟩
set_option maxRecDepth 100000 in
set_option maxHeartbeats 1600000 in
theorem dec_at_p (w : World) (s : ByteArray) (hs : s.size ≤ 300) (hz : 0 < s.size) (e2 : ((s[0].toNat : Int) == 45) = false) (a b : List UInt8) (hd : (s).data.toList = a ++ 46 :: b) (ha : (46 : UInt8) ∉ a) :
    Calls Try.prog 48 #[.string s] w (DecPost w (DecR false a b)) := by
  have B := (On.refl w).alloc (.cells #[.bool false, .slice none 0 0, .slice none 0 0] 24)
  have HO := Lib.hid (Own.new w 24 #[.bool false, .slice none 0 0, .slice none 0 0])
  have hne : ¬ s.toList = [] := fun e => by have := (toList_nil_iff s).1 e; omega
  have e1 : s.toList.isEmpty = false := by simp [hne]
  have hal : a.length + b.length + 1 = s.size := by rw [← dl_len, hd]; simp; omega
  have HCF := Lib.hid (cut_front hd)
  have HCB := Lib.hid (cut_back hd)
  have HDD := Lib.hid hd
  have HA := Lib.hid ha
  clear hd ha
  obtain ⟨o, ho⟩ : ∃ o, DecR false a b = o := ⟨_, rfl⟩
  rw [ho]
  have HOO := Lib.hid ho
  clear ho
  have kc := fun (w : World) (s : ByteArray) => run_bytes_of_string (P := Try.prog) w 9 96 5 s Try.underlying9 Try.underlying96 Try.underlying5
  have P0 := (On.refl w).alloc (.cells #[.bool false, .slice none 0 0, .slice none 0 0] 24)
  go_enter Try.func48, Try.ntmps48
  go_wp2_with fail
  refine (find_at _ s 46 46 rfl (by omega) a b HDD.out HA.out).mono ?_
  rintro e w1 ⟨rfl, P1⟩
  have a0 : ((a.length : Nat) : Int) ≥ 0 := by omega
  by_cases hb0 : b.length = 0
  · obtain rfl : o = none := by rw [← HOO.out]; unfold DecR; rw [if_neg (by rintro ⟨_, _, h⟩; omega)]
    have k0 : decide ((a.length : Int) < 0) = false := decide_eq_false (by omega)
    have k1 : ((a.length : Int) == (s.size : Int) - 1) = true := by rw [beq_iff_eq]; omega
    have r0 : w1.cell? ⟨w.heap.size, 0, none⟩ = some (.bool false) := (HO.out.on P1).cell 0
    have r1 : w1.cell? ⟨w.heap.size, 1, none⟩ = some (.slice none 0 0) := (HO.out.on P1).cell 1
    have r2 : w1.cell? ⟨w.heap.size, 2, none⟩ = some (.slice none 0 0) := (HO.out.on P1).cell 2
    have rf0 := (HO.out.on P1).frozen 0
    have rf1 := (HO.out.on P1).frozen 1
    have rf2 := (HO.out.on P1).frozen 2
    go_wp2
    have hon := on3 (g := w.heap.size) (P0.trans P1) (by omega) (.bool false) (.slice none 0 0) (.slice none 0 0)
    exact bodyPost_ret (v := .tuple #[.agg #[.bool false, .slice none 0 0, .slice none 0 0], .bool false]) (by simp [results, Try.results48, go_sem, r0, r1, r2]) rfl ⟨rfl, by first | exact hon | exact (P0.trans P1)⟩
  · have k0 : decide ((a.length : Int) < 0) = false := decide_eq_false (by omega)
    have k1 : ((a.length : Int) == (s.size : Int) - 1) = false := by rw [beq_eq_false_iff_ne]; omega
    go_wp2_with fail
    rw [show s.extract 0 a.length = ⟨a.toArray⟩ from HCF.out]
    refine (rparse_any _ ⟨a.toArray⟩ (by rw [size_mk]; omega)).mono ?_
    rintro e w2 (⟨hok, A2, n2, c2, rfl, N2, P2⟩ | ⟨hbad, rfl, P2⟩)
    · obtain ⟨xs, R2, C2, V2, L2⟩ := N2
      rw [size_mk] at L2
      rw [bl_mk] at V2
      have HV2 := Lib.hid V2
      have HOK := Lib.hid hok
      have hda : IsDig (nl a) := by have h := textB_ok hok; rw [bl_mk] at h; exact h.text.digs
      have HDA := Lib.hid hda
      clear V2 hok hda
      go_wp2_with fail
      rw [show s.extract (a.length + 1) s.size = ⟨b.toArray⟩ from HCB.out]
      go_wp2_with fail
      go_loopw [6, 8, 52] (fun s6 s8 i wr => ∃ (k : Nat) (A : Option Addr) (n c : Nat) (zs : List Nat) (D : Option Addr) (m o : Nat) (ys : List Nat), k ≤ b.length ∧ i = .int .i64 (k : Int) ∧ s6 = .slice A n c ∧ s8 = .slice D m o ∧ Rd wr A n c zs ∧ Rd wr D m o ys ∧ Bytes wr (w2.heap.size + 1) b ∧ Clean zs ∧ n ≤ a.length + k ∧ m ≤ k + 1 ∧ val zs = dv (nl a) * 10 ^ k + dv ((nl b).take k) ∧ val ys = 10 ^ k ∧ IsDig ((nl b).take k) ∧ On w2 wr) (fun _ _ i _ => b.length - (intOf i).toNat)
      case atStart => exact ⟨0, _, _, _, xs, _, _, _, [1], by omega, rfl, rfl, rfl, R2.on ((((On.refl w2).alloc _).alloc _).drew), (rd_one w2 72 1 (by decide)).on (((On.refl _).alloc _).drew), bytes_new _ _ (by simp) b _ _ _, C2, by omega, by omega, by rw [HV2.out]; simp [dv, dvb], rfl, by intro x hx; simp at hx, (((On.refl w2).alloc _).alloc _).drew⟩
      case round =>
        obtain ⟨k, A, n, c, zs, D, m, q, ys, hk, rfl, rfl, rfl, RA, RD, BY, CA, ln, lm, va, vd, hdg, hon⟩ := hrel
        have HVA := Lib.hid va
        have HVD := Lib.hid vd
        have HDG := Lib.hid hdg
        clear va vd hdg R2 C2
        by_cases hlt : k < b.length
        · have hc := BY.2 k hlt
          have hgk := nl_get b k hlt
          have HIF := Lib.hid (isDig_take_succ (nl b) k (by rw [nl_len]; exact hlt))
          have HTS := Lib.hid (dv_take_succ (nl b) k (by rw [nl_len]; exact hlt))
          have hcl := b[k].toNat_lt
          obtain ⟨x, hx⟩ : ∃ x, b[k].toNat = x := ⟨_, rfl⟩
          rw [hx] at hc hgk hcl
          have HGK := Lib.hid hgk
          clear hgk hx
          have i0 : (0 : Int) ≤ (k : Int) := by omega
          have i1 : (k : Int) < ((s.size - (a.length + 1) : Nat) : Int) := by omega
          by_cases d1 : 48 ≤ x
          · by_cases d2 : x ≤ 57
            · obtain ⟨d, hd⟩ : ∃ d, x = d + 48 := ⟨x - 48, by omega⟩
              have kw : IntKind.u8.wrap ((x : Int) - 48) = (d : Int) := by rw [IntKind.wrap_u8]; omega
              have kw2 : IntKind.u32.wrap (d : Int) = (d : Int) := by rw [IntKind.wrap_u32]; omega
              have HK := Lib.hid (HIF.out.2 ⟨HDG.out, by rw [HGK.out]; exact d1, by rw [HGK.out]; exact d2⟩)
              have PA := (On.refl wr).alloc (.cells #[.int .u32 10] 72)
              go_wp2_with fail
              refine (rmul_any _ _ _ _ _ _ _ (m + 1) _ _ (RD.on PA) (rd_one wr 72 10 (by decide)) (by omega) (by omega) (by omega)).mono ?_
              rintro e w5 ⟨Ad, nd, cd, rfl, ⟨ys', Rd', Cd', Vd', Ld'⟩, P5⟩
              rw [show val [10] = 10 from rfl, HVD.out] at Vd'
              have HVD' := Lib.hid Vd'
              clear Vd'
              have PB := (On.refl w5).alloc (.cells #[.int .u32 10] 72)
              go_wp2_with fail
              refine (rmul_any _ _ _ _ _ _ _ (n + 1) _ _ (RA.on ((PA.trans P5).trans PB)) (rd_one w5 72 10 (by decide)) (by omega) (by omega) (by omega)).mono ?_
              rintro e w6 ⟨Am, nm, cm, rfl, ⟨zm, Rm, Cm, Vm, Lm⟩, P6⟩
              rw [show val [10] = 10 from rfl, HVA.out] at Vm
              have HVM := Lib.hid Vm
              clear Vm
              have PC := (On.refl w6).alloc (.cells #[.int .u32 (d : Int)] 72)
              go_wp2_with fail
              refine (radd_any _ _ _ _ _ _ _ (n + 2) _ _ (Rm.on PC) (rd_one w6 72 d (by omega)) (by omega) (by omega) (by omega) (by omega)).mono ?_
              rintro e w7 ⟨Aa, na, ca, rfl, ⟨za, Ra, Ca, Va, La⟩, P7⟩
              have PW7 := (((PB.trans P6).trans PC).trans P7)
              have PW8 := (PA.trans P5).trans PW7
              have hva : val za = dv (nl a) * 10 ^ (k + 1) + dv ((nl b).take (k + 1)) := by
                rw [Va, HVM.out, HTS.out, HGK.out, show val [d] = d from by simp [val], Nat.pow_succ]
                have : x - 48 = d := by omega
                rw [this]
                exact dec_step _ _ _ _
              have hvd : val ys' = 10 ^ (k + 1) := by rw [HVD'.out, Nat.pow_succ]
              have hdl : dv ((nl b).take (k + 1)) < 10 ^ (k + 1) := by
                have h1 := dv_lt HK.out
                rw [List.length_take, nl_len, Nat.min_eq_left (by omega)] at h1
                exact h1
              have ln' : na ≤ a.length + (k + 1) := by
                have h1 := dig_app_lt HDA.out (k + 1) hdl
                rw [nl_len] at h1
                have h2 := clean_len Ca (a.length + (k + 1)) (by rw [hva]; exact h1)
                rw [Ra.len] at h2
                exact h2
              have ld' : nd ≤ k + 1 + 1 := by
                have h2 := clean_len Cd' (k + 1 + 1) (by rw [hvd]; exact pow_ten_lt _)
                rw [Rd'.len] at h2
                exact h2
              have HVA' := Lib.hid hva
              have HVD2 := Lib.hid hvd
              have hfin := hon.trans PW8
              clear hva hvd hdl Va HVD' HVM HTS HIF RA RD CA
              have RDn := Rd'.on PW7
              have BYn := BY.on PW8
              clear P5 P6 P7 PA PB PC PW7 PW8 Rd' Rm Cm BY hc hon
              go_wp2
              exact ⟨⟨k + 1, Aa, na, ca, za, Ad, nd, cd, ys', by omega, by go_num, rfl, rfl, Ra, RDn, BYn, Ca, ln', ld', HVA'.out, HVD2.out, HK.out, hfin⟩, by simp [intOf]; omega⟩
            · obtain rfl : o = none := by
                rw [← HOO.out]; unfold DecR; rw [if_neg]
                rintro ⟨_, h, _⟩
                rw [textB_one_cons] at h
                have h2 := (of_decide_eq_true h).take (k + 1)
                have := (HIF.out.1 h2).2.2
                rw [HGK.out] at this; omega
              have PZ := (P1.trans P2).trans hon
              have r0 : wr.cell? ⟨w.heap.size, 0, none⟩ = some (.bool false) := (HO.out.on PZ).cell 0
              have r1 : wr.cell? ⟨w.heap.size, 1, none⟩ = some (.slice none 0 0) := (HO.out.on PZ).cell 1
              have r2 : wr.cell? ⟨w.heap.size, 2, none⟩ = some (.slice none 0 0) := (HO.out.on PZ).cell 2
              have rf0 := (HO.out.on PZ).frozen 0
              have rf1 := (HO.out.on PZ).frozen 1
              have rf2 := (HO.out.on PZ).frozen 2
              go_wp2
              have hon := on3 (g := w.heap.size) (P0.trans PZ) (by omega) (.bool false) (.slice none 0 0) (.slice none 0 0)
              exact bodyPost_ret (v := .tuple #[.agg #[.bool false, .slice none 0 0, .slice none 0 0], .bool false]) (by simp [results, Try.results48, go_sem, r0, r1, r2]) rfl ⟨rfl, by first | exact hon | exact (P0.trans PZ)⟩
          · obtain rfl : o = none := by
              rw [← HOO.out]; unfold DecR; rw [if_neg]
              rintro ⟨_, h, _⟩
              rw [textB_one_cons] at h
              have h2 := (of_decide_eq_true h).take (k + 1)
              have := (HIF.out.1 h2).2.1
              rw [HGK.out] at this; omega
            have PZ := (P1.trans P2).trans hon
            have r0 : wr.cell? ⟨w.heap.size, 0, none⟩ = some (.bool false) := (HO.out.on PZ).cell 0
            have r1 : wr.cell? ⟨w.heap.size, 1, none⟩ = some (.slice none 0 0) := (HO.out.on PZ).cell 1
            have r2 : wr.cell? ⟨w.heap.size, 2, none⟩ = some (.slice none 0 0) := (HO.out.on PZ).cell 2
            have rf0 := (HO.out.on PZ).frozen 0
            have rf1 := (HO.out.on PZ).frozen 1
            have rf2 := (HO.out.on PZ).frozen 2
            go_wp2
            have hon := on3 (g := w.heap.size) (P0.trans PZ) (by omega) (.bool false) (.slice none 0 0) (.slice none 0 0)
            exact bodyPost_ret (v := .tuple #[.agg #[.bool false, .slice none 0 0, .slice none 0 0], .bool false]) (by simp [results, Try.results48, go_sem, r0, r1, r2]) rfl ⟨rfl, by first | exact hon | exact (P0.trans PZ)⟩
        · obtain rfl : k = b.length := by omega
          have hall : (nl b).take b.length = nl b := List.take_of_length_le (by rw [nl_len]; exact Nat.le_refl _)
          have hv1 := HVA.out
          have hd1 := HDG.out
          rw [hall] at hv1 hd1
          obtain ⟨r, hr⟩ : ∃ r, fr false (dv (nl a) * 10 ^ b.length + dv (nl b)) (10 ^ b.length) = r := ⟨_, rfl⟩
          obtain rfl : o = some r := by rw [← HOO.out, ← hr]; unfold DecR; rw [if_pos ⟨HOK.out, by rw [textB_one_cons]; exact decide_eq_true hd1, by omega⟩]
          have hy : 0 < val ys := by rw [HVD.out]; exact Nat.pow_pos (by decide)
          have hfr : fr false (val zs) (val ys) = r := by rw [hv1, HVD.out]; exact hr
          have HFR := Lib.hid hfr
          have HY := Lib.hid hy
          clear hv1 hd1 hall hr hy hfr
          have PZ := (P1.trans P2).trans hon
          go_wp2_with fail
          refine (rfrom_any _ false _ _ _ _ _ _ 300 _ _ RA RD HY.out (by omega) (by omega) (by omega) (by omega)).mono ?_
          rintro e w8 ⟨v8, rfl, I8, P8⟩
          rw [HFR.out] at I8
          obtain ⟨s8, A8, n8, c8, A9, n9, c9, rfl⟩ := isR_form8 I8
          have PQ := (On.refl w8).alloc (.cells #[.bool s8, .slice A8 n8 c8, .slice A9 n9 c9] 24)
          have PZ8 := PZ.trans (P8.trans PQ)
          have I9 := I8.on PQ
          have r0 : (w8.alloc (.cells #[.bool s8, .slice A8 n8 c8, .slice A9 n9 c9] 24)).cell? ⟨w.heap.size, 0, none⟩ = some (.bool false) := (HO.out.on PZ8).cell 0
          have r1 : (w8.alloc (.cells #[.bool s8, .slice A8 n8 c8, .slice A9 n9 c9] 24)).cell? ⟨w.heap.size, 1, none⟩ = some (.slice none 0 0) := (HO.out.on PZ8).cell 1
          have r2 : (w8.alloc (.cells #[.bool s8, .slice A8 n8 c8, .slice A9 n9 c9] 24)).cell? ⟨w.heap.size, 2, none⟩ = some (.slice none 0 0) := (HO.out.on PZ8).cell 2
          have rf0 := (HO.out.on PZ8).frozen 0
          have rf1 := (HO.out.on PZ8).frozen 1
          have rf2 := (HO.out.on PZ8).frozen 2
          have HO8 := HO.out.on PZ8
          have I10 := isR_put I9 HO8 (.bool s8) (.slice A8 n8 c8) (.slice A9 n9 c9)
          have hon10 := on3 (g := w.heap.size) (P0.trans PZ8) (by omega) (.bool s8) (.slice A8 n8 c8) (.slice A9 n9 c9)
          clear HO8 I8 PZ P8 PQ RA RD CA BY hon I9 PZ8
          go_wp2
          exact bodyPost_ret (v := .tuple #[.agg #[.bool s8, .slice A8 n8 c8, .slice A9 n9 c9], .bool true]) (by simp [results, Try.results48, go_sem, r0, r1, r2]) rfl ⟨_, rfl, I10, hon10⟩
    · obtain rfl : o = none := by rw [← HOO.out]; unfold DecR; rw [if_neg (by rintro ⟨h, _⟩; rw [hbad] at h; cases h)]
      have r0 : w2.cell? ⟨w.heap.size, 0, none⟩ = some (.bool false) := (HO.out.on (P1.trans P2)).cell 0
      have r1 : w2.cell? ⟨w.heap.size, 1, none⟩ = some (.slice none 0 0) := (HO.out.on (P1.trans P2)).cell 1
      have r2 : w2.cell? ⟨w.heap.size, 2, none⟩ = some (.slice none 0 0) := (HO.out.on (P1.trans P2)).cell 2
      have rf0 := (HO.out.on (P1.trans P2)).frozen 0
      have rf1 := (HO.out.on (P1.trans P2)).frozen 1
      have rf2 := (HO.out.on (P1.trans P2)).frozen 2
      go_wp2
      have hon := on3 (g := w.heap.size) (P0.trans (P1.trans P2)) (by omega) (.bool false) (.slice none 0 0) (.slice none 0 0)
      exact bodyPost_ret (v := .tuple #[.agg #[.bool false, .slice none 0 0, .slice none 0 0], .bool false]) (by simp [results, Try.results48, go_sem, r0, r1, r2]) rfl ⟨rfl, by first | exact hon | exact (P0.trans (P1.trans P2))⟩
end Num
end Go.Proofs.Ytkchpagjkgmpmaa
