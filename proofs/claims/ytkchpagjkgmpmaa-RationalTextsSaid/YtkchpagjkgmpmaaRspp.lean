/-
  The specification's Parse.
-/
import Derived.Test.YtkchpagjkgmpmaaRsdec
namespace Go.Proofs.Ytkchpagjkgmpmaa
open Go.RowKit
set_option linter.unusedVariables false
namespace Num
theorem head_bl {s : ByteArray} (hz : 0 < s.size) (e2 : ((s[0].toNat : Int) == 45) = true) : bl s = 45 :: bl (s.extract 1 s.size) := by
  rw [bl_cut]
  have h1 := bl_get s 0 hz
  rw [beq_iff_eq] at e2
  cases hl : bl s with
  | nil => have := bl_length s; rw [hl] at this; simp at this; omega
  | cons x t =>
    rw [hl] at h1
    have : x = 45 := by have : gw (x :: t) 0 = x := rfl; omega
    rw [this]; rfl
theorem rtx_byte {r : Rat} {bs : List Nat} (h : RTx r bs) : ∀ y ∈ bs, y < 256 := by
  obtain ⟨b1, b2, t1, t2, rfl⟩ := h
  intro y hy
  rcases List.mem_append.1 hy with hy | hy
  · rcases List.mem_append.1 hy with hy | hy
    · unfold sgt at hy
      split at hy
      · simp at hy; omega
      · cases hy
    · have := t1.digs y hy; omega
  · split at hy
    · cases hy
    · rcases List.mem_cons.1 hy with rfl | hy
      · omega
      · have := t2.digs y hy; omega
/-- a fraction, or the number of ErrForm -/
def SOpt (w : World) (o : Option Rat) (e : Ending) (w' : World) : Prop := match o with
  | some r => RatPost2 w r 300 (.int .i64 0) e w'
  | none => e = .returned (.tuple #[.agg #[.bool false, .slice none 0 0, .slice none 0 0], .int .i64 2]) ∧ On w w'
set_option maxRecDepth 100000 in
set_option maxHeartbeats 1600000 in
theorem sp_ny (w : World) (s : ByteArray) (hs : s.size ≤ 300) (hz : 0 < s.size) (e2 : ((s[0].toNat : Int) == 45) = true) (a b : List UInt8) (hd : (s.extract 1 s.size).data.toList = a ++ 47 :: b) (ha : (47 : UInt8) ∉ a) (o : Option Rat) (ho : BrokenR true (nl a) (nl b) = o) (hdec : ∀ w, Calls Try.prog 48 #[.string s] w fun e w' => ∃ v q r, e = .returned (.tuple #[v, .bool q]) ∧ IsR w' v r 300 ∧ (q = true → 64 < s.size) ∧ On w w') :
    Calls Try.prog 11 #[.string s] w (SOpt w o) := by
  have P0 := (On.refl w).alloc (.cells #[.bool false, .slice none 0 0, .slice none 0 0] 24)
  have HO := Lib.hid (Own.new w 24 #[.bool false, .slice none 0 0, .slice none 0 0])
  have hne : ¬ s.toList = [] := fun e => by have := (toList_nil_iff s).1 e; omega
  have e1 : s.toList.isEmpty = false := by simp [hne]
  obtain ⟨T, hT⟩ : ∃ T, s.extract 1 s.size = T := ⟨_, rfl⟩
  have hTs : T.size ≤ 300 := by rw [← hT]; simp; omega
  rw [hT] at hd
  have HT := Lib.hid hT
  clear hT
  have hal : a.length + b.length + 1 = T.size := by rw [← dl_len, hd]; simp; omega
  have hbl : bl s = (if true = true then [45] else []) ++ (nl a ++ 47 :: nl b) := by
    rw [head_bl hz e2, HT.out, nl_bl, hd]; unfold nl; rw [List.map_append]; rfl
  have HSAME : Hid (∀ bs, textB ⟨a.toArray⟩ = true → textB ⟨b.toArray⟩ = true → dv (nl b) ≠ 0 → RTx (fr true (dv (nl a)) (dv (nl b))) bs → (bs = bl s → o = some (fr true (dv (nl a)) (dv (nl b)))) ∧ (¬ bs = bl s → o = none)) := Lib.hid (by
    intro bs h1 h2 h3 h4
    have k1 := textB_ok h1
    have k2 := textB_ok h2
    rw [bl_mk] at k1 k2
    have := broken_same k1 k2 h3 h4
    rw [hbl, this, ← ho]
    unfold BrokenR
    exact ⟨fun h => by rw [if_pos ⟨k1, k2, h⟩], fun h => by rw [if_neg (fun hh => h hh.2.2)]⟩)
  have HNO : Hid (textB ⟨a.toArray⟩ = false ∨ textB ⟨b.toArray⟩ = false ∨ dv (nl b) = 0 → o = none) := Lib.hid (by
    intro h
    rw [← ho]
    unfold BrokenR
    rw [if_neg]
    rintro ⟨k1, k2, k3, _⟩
    rcases h with h | h | h
    · unfold textB at h; rw [bl_mk] at h; exact of_decide_eq_false h k1
    · unfold textB at h; rw [bl_mk] at h; exact of_decide_eq_false h k2
    · omega)
  have HCF := Lib.hid (cut_front hd)
  have HCB := Lib.hid (cut_back hd)
  have HDD := Lib.hid hd
  have HA := Lib.hid ha
  clear hd ha ho hbl
  have HDEC := Lib.hid hdec
  clear hdec
  go_enter Try.func11, Try.ntmps11
  go_wp2_with fail
  refine (HDEC.out _).mono ?_
  rintro e w1 ⟨v1, q, r1, rfl, I1, hq, P1⟩
  obtain ⟨s1, A1, n1, c1, A2, n2, c2, rfl⟩ := isR_form8 I1
  clear I1
  have P1a := P1.trans ((On.refl w1).alloc (.cells #[.bool s1, .slice A1 n1 c1, .slice A2 n2 c2] 24))
  clear P1
  cases q
  · clear hq
    go_wp2
    go_quiet (fail)
    obtain ⟨W, hW, PW⟩ : ∃ W, ((w1.alloc (.cells #[.bool s1, .slice A1 n1 c1, .slice A2 n2 c2] 24)).drewN nq) = W ∧ On (w.alloc (.cells #[.bool false, .slice none 0 0, .slice none 0 0] 24)) W := ⟨_, rfl, P1a.drewN nq⟩
    rw [hW]
    clear hW P1a
    have PA := (On.refl W).alloc (.cells #[.int .u32 1] 72)
    have R1 := rd_one W 72 1 (by decide)
    have k0 : (0 : Int) ≤ (a.length : Int) := by omega
    go_wp2_with fail
    rw [HT.out]
    refine (find_at _ T 47 47 rfl (by omega) a b HDD.out HA.out).mono ?_
    rintro e w2 ⟨rfl, P2⟩
    go_wp2_with fail
    rw [show T.extract (a.length + 1) T.size = ⟨b.toArray⟩ from HCB.out]
    refine (rparse_any _ ⟨b.toArray⟩ (by rw [size_mk]; omega)).mono ?_
    rintro e w3 (⟨hokb, AD, nd, cd, rfl, ND, P3⟩ | ⟨hbad, rfl, P3⟩)
    · obtain ⟨ys, RD, CD, VD, LD⟩ := ND
      rw [size_mk] at LD
      rw [bl_mk] at VD
      have HVY := Lib.hid VD
      clear VD CD
      go_wp2_with fail
      rw [show T.extract 0 a.length = ⟨a.toArray⟩ from HCF.out]
      refine (rparse_any _ ⟨a.toArray⟩ (by rw [size_mk]; omega)).mono ?_
      rintro e w5 (⟨hoka, A3, n3, c3, rfl, N3, P5⟩ | ⟨hbad, rfl, P5⟩)
      · obtain ⟨xs, R2, C2, V2, L2⟩ := N3
        rw [size_mk] at L2
        rw [bl_mk] at V2
        have HV := Lib.hid V2
        clear V2 C2
        have PP := PW.trans (PA.trans (P2.trans (P3.trans P5)))
        replace RD := RD.on P5
        by_cases h0 : dv (nl b) = 0
        · obtain rfl : o = none := HNO.out (.inr (.inr h0))
          have hy : val ys = 0 := by rw [HVY.out]; exact h0
          have HY := Lib.hid hy
          clear hy h0
          go_wp2_with fail
          refine (rfrom_zero _ true _ _ _ _ _ _ _ _ R2 RD HY.out (by omega)).mono ?_
          rintro e w8 ⟨rfl, P8⟩
          have PN := PP.trans (P8.trans ((On.refl w8).alloc (.cells #[.bool false, .slice none 0 0, .slice none 0 0] 24)))
          have r0 : (w8.alloc (.cells #[.bool false, .slice none 0 0, .slice none 0 0] 24)).cell? ⟨w.heap.size, 0, none⟩ = some (.bool false) := (HO.out.on PN).cell 0
          have r1 : (w8.alloc (.cells #[.bool false, .slice none 0 0, .slice none 0 0] 24)).cell? ⟨w.heap.size, 1, none⟩ = some (.slice none 0 0) := (HO.out.on PN).cell 1
          have r2 : (w8.alloc (.cells #[.bool false, .slice none 0 0, .slice none 0 0] 24)).cell? ⟨w.heap.size, 2, none⟩ = some (.slice none 0 0) := (HO.out.on PN).cell 2
          have rf0 := (HO.out.on PN).frozen 0
          have rf1 := (HO.out.on PN).frozen 1
          have rf2 := (HO.out.on PN).frozen 2
          have hon := on3 (g := w.heap.size) (P0.trans PN) (by omega) (.bool false) (.slice none 0 0) (.slice none 0 0)
          have hon0 := P0.trans PN
          clear PN
          go_wp2
          exact bodyPost_ret (v := .tuple #[.agg #[.bool false, .slice none 0 0, .slice none 0 0], .int .i64 2]) (by simp [results, Try.results11, go_sem, r0, r1, r2]) rfl ⟨rfl, by first | exact hon | exact hon0⟩
        · replace HSAME : Hid (∀ bs, RTx (fr true (dv (nl a)) (dv (nl b))) bs → (bs = bl s → o = some (fr true (dv (nl a)) (dv (nl b)))) ∧ (¬ bs = bl s → o = none)) := Lib.hid (fun bs h => HSAME.out bs hoka hokb h0 h)
          have hy : 0 < val ys := by rw [HVY.out]; omega
          have HY := Lib.hid hy
          clear hy h0
          go_wp2_with fail
          refine (rfrom_any _ true _ _ _ _ _ _ 300 _ _ R2 RD HY.out (by omega) (by omega) (by omega) (by omega)).mono ?_
          rintro e w8 ⟨v8, rfl, I8, P8⟩
          rw [HV.out, HVY.out] at I8
          obtain ⟨x, hx⟩ : ∃ x, fr true (dv (nl a)) (dv (nl b)) = x := ⟨_, rfl⟩
          rw [hx] at I8 HSAME
          have HX := Lib.hid hx
          clear hx
          obtain ⟨s8, A8, n8, c8, A9, n9, c9, rfl⟩ := isR_form8 I8
          have PQ := (On.refl w8).alloc (.cells #[.bool s8, .slice A8 n8 c8, .slice A9 n9 c9] 24)
          have OX := Own.new w8 24 #[.bool s8, .slice A8 n8 c8, .slice A9 n9 c9]
          have PX := PP.trans (P8.trans PQ)
          have I9 := I8.on PQ
          clear I8 P8 PP RD R2
          have q0 : (w8.alloc (.cells #[.bool s8, .slice A8 n8 c8, .slice A9 n9 c9] 24)).cell? ⟨w8.heap.size, 0, none⟩ = some (.bool s8) := OX.cell 0
          have q1 : (w8.alloc (.cells #[.bool s8, .slice A8 n8 c8, .slice A9 n9 c9] 24)).cell? ⟨w8.heap.size, 1, none⟩ = some (.slice A8 n8 c8) := OX.cell 1
          have q2 : (w8.alloc (.cells #[.bool s8, .slice A8 n8 c8, .slice A9 n9 c9] 24)).cell? ⟨w8.heap.size, 2, none⟩ = some (.slice A9 n9 c9) := OX.cell 2
          go_wp2_with fail
          refine (stext_any _ _ x 300 (IsR.fld I9) (by decide) (by decide)).mono ?_
          rintro e w9 ⟨bs, rfl, HTX, P9⟩
          clear q0 q1 q2
          have PY := PX.trans P9
          have OX9 := OX.on P9
          have I10 := I9.on P9
          clear PX P9 OX I9 PQ
          have q0 : w9.cell? ⟨w8.heap.size, 0, none⟩ = some (.bool s8) := OX9.cell 0
          have q1 : w9.cell? ⟨w8.heap.size, 1, none⟩ = some (.slice A8 n8 c8) := OX9.cell 1
          have q2 : w9.cell? ⟨w8.heap.size, 2, none⟩ = some (.slice A9 n9 c9) := OX9.cell 2
          have hiff := HSAME.out bs HTX
          by_cases hb : bs = bl s
          · obtain rfl : o = some x := hiff.1 hb
            have hs0 : str bs = s := by rw [hb, str_bl']
            rw [hs0]
            clear hiff hb hs0
            have HO8 := HO.out.on PY
            have r0 : w9.cell? ⟨w.heap.size, 0, none⟩ = some (.bool false) := (HO.out.on PY).cell 0
            have r1 : w9.cell? ⟨w.heap.size, 1, none⟩ = some (.slice none 0 0) := (HO.out.on PY).cell 1
            have r2 : w9.cell? ⟨w.heap.size, 2, none⟩ = some (.slice none 0 0) := (HO.out.on PY).cell 2
            have rf0 := (HO.out.on PY).frozen 0
            have rf1 := (HO.out.on PY).frozen 1
            have rf2 := (HO.out.on PY).frozen 2
            have I11 := isR_put I10 HO8 (.bool s8) (.slice A8 n8 c8) (.slice A9 n9 c9)
            have hon10 := on3 (g := w.heap.size) (P0.trans PY) (by omega) (.bool s8) (.slice A8 n8 c8) (.slice A9 n9 c9)
            clear HO8 PY
            go_wp2
            exact bodyPost_ret (v := .tuple #[.agg #[.bool s8, .slice A8 n8 c8, .slice A9 n9 c9], .int .i64 0]) (by simp [results, Try.results11, go_sem, r0, r1, r2]) rfl ⟨_, rfl, I11, hon10⟩
          · obtain rfl : o = none := hiff.2 hb
            have hs0 : ¬ str bs = s := fun e => hb (by rw [← e, bl_str bs (fun y hy => rtx_byte HTX y hy)])
            clear hiff hb
            have hs1 : ((str bs).toList == s.toList) = false := beq_eq_false_iff_ne.2 (fun e => hs0 (by rw [Lib.toList_data, Lib.toList_data] at e; exact ByteArray.ext (Array.toList_inj.1 e)))
            have PN := PY
            have r0 : w9.cell? ⟨w.heap.size, 0, none⟩ = some (.bool false) := (HO.out.on PN).cell 0
            have r1 : w9.cell? ⟨w.heap.size, 1, none⟩ = some (.slice none 0 0) := (HO.out.on PN).cell 1
            have r2 : w9.cell? ⟨w.heap.size, 2, none⟩ = some (.slice none 0 0) := (HO.out.on PN).cell 2
            have rf0 := (HO.out.on PN).frozen 0
            have rf1 := (HO.out.on PN).frozen 1
            have rf2 := (HO.out.on PN).frozen 2
            have hon := on3 (g := w.heap.size) (P0.trans PN) (by omega) (.bool false) (.slice none 0 0) (.slice none 0 0)
            have hon0 := P0.trans PN
            clear PN
            go_wp2
            exact bodyPost_ret (v := .tuple #[.agg #[.bool false, .slice none 0 0, .slice none 0 0], .int .i64 2]) (by simp [results, Try.results11, go_sem, r0, r1, r2]) rfl ⟨rfl, by first | exact hon | exact hon0⟩
      · obtain rfl : o = none := HNO.out (.inl hbad)
        have PN := PW.trans (PA.trans (P2.trans (P3.trans P5)))
        have r0 : w5.cell? ⟨w.heap.size, 0, none⟩ = some (.bool false) := (HO.out.on PN).cell 0
        have r1 : w5.cell? ⟨w.heap.size, 1, none⟩ = some (.slice none 0 0) := (HO.out.on PN).cell 1
        have r2 : w5.cell? ⟨w.heap.size, 2, none⟩ = some (.slice none 0 0) := (HO.out.on PN).cell 2
        have rf0 := (HO.out.on PN).frozen 0
        have rf1 := (HO.out.on PN).frozen 1
        have rf2 := (HO.out.on PN).frozen 2
        have hon := on3 (g := w.heap.size) (P0.trans PN) (by omega) (.bool false) (.slice none 0 0) (.slice none 0 0)
        have hon0 := P0.trans PN
        clear PN
        go_wp2
        exact bodyPost_ret (v := .tuple #[.agg #[.bool false, .slice none 0 0, .slice none 0 0], .int .i64 2]) (by simp [results, Try.results11, go_sem, r0, r1, r2]) rfl ⟨rfl, by first | exact hon | exact hon0⟩
    · obtain rfl : o = none := HNO.out (.inr (.inl hbad))
      go_wp2_with fail
      rw [show T.extract 0 a.length = ⟨a.toArray⟩ from HCF.out]
      refine (rparse_any _ ⟨a.toArray⟩ (by rw [size_mk]; omega)).mono ?_
      rintro e w5 (⟨hoka, A3, n3, c3, rfl, N3, P5⟩ | ⟨hbad, rfl, P5⟩)
      · have PN := PW.trans (PA.trans (P2.trans (P3.trans P5)))
        have r0 : w5.cell? ⟨w.heap.size, 0, none⟩ = some (.bool false) := (HO.out.on PN).cell 0
        have r1 : w5.cell? ⟨w.heap.size, 1, none⟩ = some (.slice none 0 0) := (HO.out.on PN).cell 1
        have r2 : w5.cell? ⟨w.heap.size, 2, none⟩ = some (.slice none 0 0) := (HO.out.on PN).cell 2
        have rf0 := (HO.out.on PN).frozen 0
        have rf1 := (HO.out.on PN).frozen 1
        have rf2 := (HO.out.on PN).frozen 2
        have hon := on3 (g := w.heap.size) (P0.trans PN) (by omega) (.bool false) (.slice none 0 0) (.slice none 0 0)
        have hon0 := P0.trans PN
        clear PN
        go_wp2
        exact bodyPost_ret (v := .tuple #[.agg #[.bool false, .slice none 0 0, .slice none 0 0], .int .i64 2]) (by simp [results, Try.results11, go_sem, r0, r1, r2]) rfl ⟨rfl, by first | exact hon | exact hon0⟩
      · have PN := PW.trans (PA.trans (P2.trans (P3.trans P5)))
        have r0 : w5.cell? ⟨w.heap.size, 0, none⟩ = some (.bool false) := (HO.out.on PN).cell 0
        have r1 : w5.cell? ⟨w.heap.size, 1, none⟩ = some (.slice none 0 0) := (HO.out.on PN).cell 1
        have r2 : w5.cell? ⟨w.heap.size, 2, none⟩ = some (.slice none 0 0) := (HO.out.on PN).cell 2
        have rf0 := (HO.out.on PN).frozen 0
        have rf1 := (HO.out.on PN).frozen 1
        have rf2 := (HO.out.on PN).frozen 2
        have hon := on3 (g := w.heap.size) (P0.trans PN) (by omega) (.bool false) (.slice none 0 0) (.slice none 0 0)
        have hon0 := P0.trans PN
        clear PN
        go_wp2
        exact bodyPost_ret (v := .tuple #[.agg #[.bool false, .slice none 0 0, .slice none 0 0], .int .i64 2]) (by simp [results, Try.results11, go_sem, r0, r1, r2]) rfl ⟨rfl, by first | exact hon | exact hon0⟩
  · have h64 := hq rfl
    clear hq
    go_wp2
    go_quiet (fail)
    obtain ⟨W, hW, PW⟩ : ∃ W, ((w1.alloc (.cells #[.bool s1, .slice A1 n1 c1, .slice A2 n2 c2] 24)).drewN nq) = W ∧ On (w.alloc (.cells #[.bool false, .slice none 0 0, .slice none 0 0] 24)) W := ⟨_, rfl, P1a.drewN nq⟩
    rw [hW]
    clear hW P1a
    have PA := (On.refl W).alloc (.cells #[.int .u32 1] 72)
    have R1 := rd_one W 72 1 (by decide)
    have k0 : (0 : Int) ≤ (a.length : Int) := by omega
    go_wp2_with fail
    rw [HT.out]
    refine (find_at _ T 47 47 rfl (by omega) a b HDD.out HA.out).mono ?_
    rintro e w2 ⟨rfl, P2⟩
    go_wp2_with fail
    rw [show T.extract (a.length + 1) T.size = ⟨b.toArray⟩ from HCB.out]
    refine (rparse_any _ ⟨b.toArray⟩ (by rw [size_mk]; omega)).mono ?_
    rintro e w3 (⟨hokb, AD, nd, cd, rfl, ND, P3⟩ | ⟨hbad, rfl, P3⟩)
    · obtain ⟨ys, RD, CD, VD, LD⟩ := ND
      rw [size_mk] at LD
      rw [bl_mk] at VD
      have HVY := Lib.hid VD
      clear VD CD
      go_wp2_with fail
      rw [show T.extract 0 a.length = ⟨a.toArray⟩ from HCF.out]
      refine (rparse_any _ ⟨a.toArray⟩ (by rw [size_mk]; omega)).mono ?_
      rintro e w5 (⟨hoka, A3, n3, c3, rfl, N3, P5⟩ | ⟨hbad, rfl, P5⟩)
      · obtain ⟨xs, R2, C2, V2, L2⟩ := N3
        rw [size_mk] at L2
        rw [bl_mk] at V2
        have HV := Lib.hid V2
        clear V2 C2
        have PP := PW.trans (PA.trans (P2.trans (P3.trans P5)))
        replace RD := RD.on P5
        by_cases h0 : dv (nl b) = 0
        · obtain rfl : o = none := HNO.out (.inr (.inr h0))
          have hy : val ys = 0 := by rw [HVY.out]; exact h0
          have HY := Lib.hid hy
          clear hy h0
          go_wp2_with fail
          refine (rfrom_zero _ true _ _ _ _ _ _ _ _ R2 RD HY.out (by omega)).mono ?_
          rintro e w8 ⟨rfl, P8⟩
          have PN := PP.trans (P8.trans ((On.refl w8).alloc (.cells #[.bool false, .slice none 0 0, .slice none 0 0] 24)))
          have r0 : (w8.alloc (.cells #[.bool false, .slice none 0 0, .slice none 0 0] 24)).cell? ⟨w.heap.size, 0, none⟩ = some (.bool false) := (HO.out.on PN).cell 0
          have r1 : (w8.alloc (.cells #[.bool false, .slice none 0 0, .slice none 0 0] 24)).cell? ⟨w.heap.size, 1, none⟩ = some (.slice none 0 0) := (HO.out.on PN).cell 1
          have r2 : (w8.alloc (.cells #[.bool false, .slice none 0 0, .slice none 0 0] 24)).cell? ⟨w.heap.size, 2, none⟩ = some (.slice none 0 0) := (HO.out.on PN).cell 2
          have rf0 := (HO.out.on PN).frozen 0
          have rf1 := (HO.out.on PN).frozen 1
          have rf2 := (HO.out.on PN).frozen 2
          have hon := on3 (g := w.heap.size) (P0.trans PN) (by omega) (.bool false) (.slice none 0 0) (.slice none 0 0)
          have hon0 := P0.trans PN
          clear PN
          go_wp2
          exact bodyPost_ret (v := .tuple #[.agg #[.bool false, .slice none 0 0, .slice none 0 0], .int .i64 2]) (by simp [results, Try.results11, go_sem, r0, r1, r2]) rfl ⟨rfl, by first | exact hon | exact hon0⟩
        · replace HSAME : Hid (∀ bs, RTx (fr true (dv (nl a)) (dv (nl b))) bs → (bs = bl s → o = some (fr true (dv (nl a)) (dv (nl b)))) ∧ (¬ bs = bl s → o = none)) := Lib.hid (fun bs h => HSAME.out bs hoka hokb h0 h)
          have hy : 0 < val ys := by rw [HVY.out]; omega
          have HY := Lib.hid hy
          clear hy h0
          go_wp2_with fail
          refine (rfrom_any _ true _ _ _ _ _ _ 300 _ _ R2 RD HY.out (by omega) (by omega) (by omega) (by omega)).mono ?_
          rintro e w8 ⟨v8, rfl, I8, P8⟩
          rw [HV.out, HVY.out] at I8
          obtain ⟨x, hx⟩ : ∃ x, fr true (dv (nl a)) (dv (nl b)) = x := ⟨_, rfl⟩
          rw [hx] at I8 HSAME
          have HX := Lib.hid hx
          clear hx
          obtain ⟨s8, A8, n8, c8, A9, n9, c9, rfl⟩ := isR_form8 I8
          have PQ := (On.refl w8).alloc (.cells #[.bool s8, .slice A8 n8 c8, .slice A9 n9 c9] 24)
          have OX := Own.new w8 24 #[.bool s8, .slice A8 n8 c8, .slice A9 n9 c9]
          have PX := PP.trans (P8.trans PQ)
          have I9 := I8.on PQ
          clear I8 P8 PP RD R2
          have q0 : (w8.alloc (.cells #[.bool s8, .slice A8 n8 c8, .slice A9 n9 c9] 24)).cell? ⟨w8.heap.size, 0, none⟩ = some (.bool s8) := OX.cell 0
          have q1 : (w8.alloc (.cells #[.bool s8, .slice A8 n8 c8, .slice A9 n9 c9] 24)).cell? ⟨w8.heap.size, 1, none⟩ = some (.slice A8 n8 c8) := OX.cell 1
          have q2 : (w8.alloc (.cells #[.bool s8, .slice A8 n8 c8, .slice A9 n9 c9] 24)).cell? ⟨w8.heap.size, 2, none⟩ = some (.slice A9 n9 c9) := OX.cell 2
          go_wp2_with fail
          refine (stext_any _ _ x 300 (IsR.fld I9) (by decide) (by decide)).mono ?_
          rintro e w9 ⟨bs, rfl, HTX, P9⟩
          clear q0 q1 q2
          have PY := PX.trans P9
          have OX9 := OX.on P9
          have I10 := I9.on P9
          clear PX P9 OX I9 PQ
          have q0 : w9.cell? ⟨w8.heap.size, 0, none⟩ = some (.bool s8) := OX9.cell 0
          have q1 : w9.cell? ⟨w8.heap.size, 1, none⟩ = some (.slice A8 n8 c8) := OX9.cell 1
          have q2 : w9.cell? ⟨w8.heap.size, 2, none⟩ = some (.slice A9 n9 c9) := OX9.cell 2
          have hiff := HSAME.out bs HTX
          by_cases hb : bs = bl s
          · obtain rfl : o = some x := hiff.1 hb
            have hs0 : str bs = s := by rw [hb, str_bl']
            rw [hs0]
            clear hiff hb hs0
            have HO8 := HO.out.on PY
            have r0 : w9.cell? ⟨w.heap.size, 0, none⟩ = some (.bool false) := (HO.out.on PY).cell 0
            have r1 : w9.cell? ⟨w.heap.size, 1, none⟩ = some (.slice none 0 0) := (HO.out.on PY).cell 1
            have r2 : w9.cell? ⟨w.heap.size, 2, none⟩ = some (.slice none 0 0) := (HO.out.on PY).cell 2
            have rf0 := (HO.out.on PY).frozen 0
            have rf1 := (HO.out.on PY).frozen 1
            have rf2 := (HO.out.on PY).frozen 2
            have I11 := isR_put I10 HO8 (.bool s8) (.slice A8 n8 c8) (.slice A9 n9 c9)
            have hon10 := on3 (g := w.heap.size) (P0.trans PY) (by omega) (.bool s8) (.slice A8 n8 c8) (.slice A9 n9 c9)
            clear HO8 PY
            go_wp2
            exact bodyPost_ret (v := .tuple #[.agg #[.bool s8, .slice A8 n8 c8, .slice A9 n9 c9], .int .i64 0]) (by simp [results, Try.results11, go_sem, r0, r1, r2]) rfl ⟨_, rfl, I11, hon10⟩
          · obtain rfl : o = none := hiff.2 hb
            have hs0 : ¬ str bs = s := fun e => hb (by rw [← e, bl_str bs (fun y hy => rtx_byte HTX y hy)])
            clear hiff hb
            have hs1 : ((str bs).toList == s.toList) = false := beq_eq_false_iff_ne.2 (fun e => hs0 (by rw [Lib.toList_data, Lib.toList_data] at e; exact ByteArray.ext (Array.toList_inj.1 e)))
            have PN := PY
            have r0 : w9.cell? ⟨w.heap.size, 0, none⟩ = some (.bool false) := (HO.out.on PN).cell 0
            have r1 : w9.cell? ⟨w.heap.size, 1, none⟩ = some (.slice none 0 0) := (HO.out.on PN).cell 1
            have r2 : w9.cell? ⟨w.heap.size, 2, none⟩ = some (.slice none 0 0) := (HO.out.on PN).cell 2
            have rf0 := (HO.out.on PN).frozen 0
            have rf1 := (HO.out.on PN).frozen 1
            have rf2 := (HO.out.on PN).frozen 2
            have hon := on3 (g := w.heap.size) (P0.trans PN) (by omega) (.bool false) (.slice none 0 0) (.slice none 0 0)
            have hon0 := P0.trans PN
            clear PN
            go_wp2
            exact bodyPost_ret (v := .tuple #[.agg #[.bool false, .slice none 0 0, .slice none 0 0], .int .i64 2]) (by simp [results, Try.results11, go_sem, r0, r1, r2]) rfl ⟨rfl, by first | exact hon | exact hon0⟩
      · obtain rfl : o = none := HNO.out (.inl hbad)
        have PN := PW.trans (PA.trans (P2.trans (P3.trans P5)))
        have r0 : w5.cell? ⟨w.heap.size, 0, none⟩ = some (.bool false) := (HO.out.on PN).cell 0
        have r1 : w5.cell? ⟨w.heap.size, 1, none⟩ = some (.slice none 0 0) := (HO.out.on PN).cell 1
        have r2 : w5.cell? ⟨w.heap.size, 2, none⟩ = some (.slice none 0 0) := (HO.out.on PN).cell 2
        have rf0 := (HO.out.on PN).frozen 0
        have rf1 := (HO.out.on PN).frozen 1
        have rf2 := (HO.out.on PN).frozen 2
        have hon := on3 (g := w.heap.size) (P0.trans PN) (by omega) (.bool false) (.slice none 0 0) (.slice none 0 0)
        have hon0 := P0.trans PN
        clear PN
        go_wp2
        exact bodyPost_ret (v := .tuple #[.agg #[.bool false, .slice none 0 0, .slice none 0 0], .int .i64 2]) (by simp [results, Try.results11, go_sem, r0, r1, r2]) rfl ⟨rfl, by first | exact hon | exact hon0⟩
    · obtain rfl : o = none := HNO.out (.inr (.inl hbad))
      go_wp2_with fail
      rw [show T.extract 0 a.length = ⟨a.toArray⟩ from HCF.out]
      refine (rparse_any _ ⟨a.toArray⟩ (by rw [size_mk]; omega)).mono ?_
      rintro e w5 (⟨hoka, A3, n3, c3, rfl, N3, P5⟩ | ⟨hbad, rfl, P5⟩)
      · have PN := PW.trans (PA.trans (P2.trans (P3.trans P5)))
        have r0 : w5.cell? ⟨w.heap.size, 0, none⟩ = some (.bool false) := (HO.out.on PN).cell 0
        have r1 : w5.cell? ⟨w.heap.size, 1, none⟩ = some (.slice none 0 0) := (HO.out.on PN).cell 1
        have r2 : w5.cell? ⟨w.heap.size, 2, none⟩ = some (.slice none 0 0) := (HO.out.on PN).cell 2
        have rf0 := (HO.out.on PN).frozen 0
        have rf1 := (HO.out.on PN).frozen 1
        have rf2 := (HO.out.on PN).frozen 2
        have hon := on3 (g := w.heap.size) (P0.trans PN) (by omega) (.bool false) (.slice none 0 0) (.slice none 0 0)
        have hon0 := P0.trans PN
        clear PN
        go_wp2
        exact bodyPost_ret (v := .tuple #[.agg #[.bool false, .slice none 0 0, .slice none 0 0], .int .i64 2]) (by simp [results, Try.results11, go_sem, r0, r1, r2]) rfl ⟨rfl, by first | exact hon | exact hon0⟩
      · have PN := PW.trans (PA.trans (P2.trans (P3.trans P5)))
        have r0 : w5.cell? ⟨w.heap.size, 0, none⟩ = some (.bool false) := (HO.out.on PN).cell 0
        have r1 : w5.cell? ⟨w.heap.size, 1, none⟩ = some (.slice none 0 0) := (HO.out.on PN).cell 1
        have r2 : w5.cell? ⟨w.heap.size, 2, none⟩ = some (.slice none 0 0) := (HO.out.on PN).cell 2
        have rf0 := (HO.out.on PN).frozen 0
        have rf1 := (HO.out.on PN).frozen 1
        have rf2 := (HO.out.on PN).frozen 2
        have hon := on3 (g := w.heap.size) (P0.trans PN) (by omega) (.bool false) (.slice none 0 0) (.slice none 0 0)
        have hon0 := P0.trans PN
        clear PN
        go_wp2
        exact bodyPost_ret (v := .tuple #[.agg #[.bool false, .slice none 0 0, .slice none 0 0], .int .i64 2]) (by simp [results, Try.results11, go_sem, r0, r1, r2]) rfl ⟨rfl, by first | exact hon | exact hon0⟩
set_option maxRecDepth 100000 in
set_option maxHeartbeats 1600000 in
theorem sp_nn (w : World) (s : ByteArray) (hs : s.size ≤ 300) (hz : 0 < s.size) (e2 : ((s[0].toNat : Int) == 45) = true) (hd : (47 : UInt8) ∉ (s.extract 1 s.size).data.toList) (o : Option Rat) (ho : WholeR true (bl (s.extract 1 s.size)) = o) (hdec : ∀ w, Calls Try.prog 48 #[.string s] w fun e w' => ∃ v q r, e = .returned (.tuple #[v, .bool q]) ∧ IsR w' v r 300 ∧ (q = true → 64 < s.size) ∧ On w w') :
    Calls Try.prog 11 #[.string s] w (SOpt w o) := by
  have P0 := (On.refl w).alloc (.cells #[.bool false, .slice none 0 0, .slice none 0 0] 24)
  have HO := Lib.hid (Own.new w 24 #[.bool false, .slice none 0 0, .slice none 0 0])
  have hne : ¬ s.toList = [] := fun e => by have := (toList_nil_iff s).1 e; omega
  have e1 : s.toList.isEmpty = false := by simp [hne]
  obtain ⟨T, hT⟩ : ∃ T, s.extract 1 s.size = T := ⟨_, rfl⟩
  have hTs : T.size ≤ 300 := by rw [← hT]; simp; omega
  rw [hT] at hd ho
  have HT := Lib.hid hT
  clear hT
  have hbl : bl s = (if true = true then [45] else []) ++ bl T := by
    rw [head_bl hz e2, HT.out]; rfl
  have HSAME : Hid (∀ bs, textB T = true → RTx (fr true (dv (bl T)) 1) bs → (bs = bl s → o = some (fr true (dv (bl T)) 1)) ∧ (¬ bs = bl s → o = none)) := Lib.hid (by
    intro bs h1 h4
    have k1 := textB_ok h1
    have hw : bs = bl s ↔ ¬ (true = true ∧ dv (bl T) = 0) := by rw [hbl]; exact whole_same k1 h4
    rw [← ho]
    unfold WholeR
    exact ⟨fun h => by rw [if_pos ⟨k1, hw.1 h⟩], fun h => by rw [if_neg (fun hh => h (hw.2 hh.2))]⟩)
  have HNO : Hid (textB T = false → o = none) := Lib.hid (by
    intro h
    rw [← ho]
    unfold WholeR
    rw [if_neg]
    rintro ⟨k1, _⟩
    unfold textB at h; exact of_decide_eq_false h k1)
  have HDD := Lib.hid hd
  clear hd ho hbl
  have HDEC := Lib.hid hdec
  clear hdec
  go_enter Try.func11, Try.ntmps11
  go_wp2_with fail
  refine (HDEC.out _).mono ?_
  rintro e w1 ⟨v1, q, r1, rfl, I1, hq, P1⟩
  obtain ⟨s1, A1, n1, c1, A2, n2, c2, rfl⟩ := isR_form8 I1
  clear I1
  have P1a := P1.trans ((On.refl w1).alloc (.cells #[.bool s1, .slice A1 n1 c1, .slice A2 n2 c2] 24))
  clear P1
  cases q
  · clear hq
    go_wp2
    go_quiet (fail)
    obtain ⟨W, hW, PW⟩ : ∃ W, ((w1.alloc (.cells #[.bool s1, .slice A1 n1 c1, .slice A2 n2 c2] 24)).drewN nq) = W ∧ On (w.alloc (.cells #[.bool false, .slice none 0 0, .slice none 0 0] 24)) W := ⟨_, rfl, P1a.drewN nq⟩
    rw [hW]
    clear hW P1a
    have PA := (On.refl W).alloc (.cells #[.int .u32 1] 72)
    have R1 := rd_one W 72 1 (by decide)
    go_wp2_with fail
    rw [HT.out]
    refine (find_no _ T 47 47 rfl (by omega) HDD.out).mono ?_
    rintro e w2 ⟨rfl, P2⟩
    go_wp2_with fail
    refine (rparse_any _ T (by omega)).mono ?_
    rintro e w5 (⟨hoka, A3, n3, c3, rfl, N3, P5⟩ | ⟨hbad, rfl, P5⟩)
    · obtain ⟨xs, R2, C2, V2, L2⟩ := N3
      have HV := Lib.hid V2
      clear V2 C2
      have PP := PW.trans (PA.trans (P2.trans P5))
      have RD := R1.on (P2.trans P5)
      replace HSAME : Hid (∀ bs, RTx (fr true (dv (bl T)) 1) bs → (bs = bl s → o = some (fr true (dv (bl T)) 1)) ∧ (¬ bs = bl s → o = none)) := Lib.hid (fun bs h => HSAME.out bs hoka h)
      have HVY : Hid (val [1] = 1) := Lib.hid rfl
      have HY : Hid (0 < val [1]) := Lib.hid (by decide)
      go_wp2_with fail
      refine (rfrom_any _ true _ _ _ _ _ _ 300 _ _ R2 RD HY.out (by omega) (by omega) (by omega) (by omega)).mono ?_
      rintro e w8 ⟨v8, rfl, I8, P8⟩
      rw [HV.out, HVY.out] at I8
      obtain ⟨x, hx⟩ : ∃ x, fr true (dv (bl T)) (1) = x := ⟨_, rfl⟩
      rw [hx] at I8 HSAME
      have HX := Lib.hid hx
      clear hx
      obtain ⟨s8, A8, n8, c8, A9, n9, c9, rfl⟩ := isR_form8 I8
      have PQ := (On.refl w8).alloc (.cells #[.bool s8, .slice A8 n8 c8, .slice A9 n9 c9] 24)
      have OX := Own.new w8 24 #[.bool s8, .slice A8 n8 c8, .slice A9 n9 c9]
      have PX := PP.trans (P8.trans PQ)
      have I9 := I8.on PQ
      clear I8 P8 PP RD R2
      have q0 : (w8.alloc (.cells #[.bool s8, .slice A8 n8 c8, .slice A9 n9 c9] 24)).cell? ⟨w8.heap.size, 0, none⟩ = some (.bool s8) := OX.cell 0
      have q1 : (w8.alloc (.cells #[.bool s8, .slice A8 n8 c8, .slice A9 n9 c9] 24)).cell? ⟨w8.heap.size, 1, none⟩ = some (.slice A8 n8 c8) := OX.cell 1
      have q2 : (w8.alloc (.cells #[.bool s8, .slice A8 n8 c8, .slice A9 n9 c9] 24)).cell? ⟨w8.heap.size, 2, none⟩ = some (.slice A9 n9 c9) := OX.cell 2
      go_wp2_with fail
      refine (stext_any _ _ x 300 (IsR.fld I9) (by decide) (by decide)).mono ?_
      rintro e w9 ⟨bs, rfl, HTX, P9⟩
      clear q0 q1 q2
      have PY := PX.trans P9
      have OX9 := OX.on P9
      have I10 := I9.on P9
      clear PX P9 OX I9 PQ
      have q0 : w9.cell? ⟨w8.heap.size, 0, none⟩ = some (.bool s8) := OX9.cell 0
      have q1 : w9.cell? ⟨w8.heap.size, 1, none⟩ = some (.slice A8 n8 c8) := OX9.cell 1
      have q2 : w9.cell? ⟨w8.heap.size, 2, none⟩ = some (.slice A9 n9 c9) := OX9.cell 2
      have hiff := HSAME.out bs HTX
      by_cases hb : bs = bl s
      · obtain rfl : o = some x := hiff.1 hb
        have hs0 : str bs = s := by rw [hb, str_bl']
        rw [hs0]
        clear hiff hb hs0
        have HO8 := HO.out.on PY
        have r0 : w9.cell? ⟨w.heap.size, 0, none⟩ = some (.bool false) := (HO.out.on PY).cell 0
        have r1 : w9.cell? ⟨w.heap.size, 1, none⟩ = some (.slice none 0 0) := (HO.out.on PY).cell 1
        have r2 : w9.cell? ⟨w.heap.size, 2, none⟩ = some (.slice none 0 0) := (HO.out.on PY).cell 2
        have rf0 := (HO.out.on PY).frozen 0
        have rf1 := (HO.out.on PY).frozen 1
        have rf2 := (HO.out.on PY).frozen 2
        have I11 := isR_put I10 HO8 (.bool s8) (.slice A8 n8 c8) (.slice A9 n9 c9)
        have hon10 := on3 (g := w.heap.size) (P0.trans PY) (by omega) (.bool s8) (.slice A8 n8 c8) (.slice A9 n9 c9)
        clear HO8 PY
        go_wp2
        exact bodyPost_ret (v := .tuple #[.agg #[.bool s8, .slice A8 n8 c8, .slice A9 n9 c9], .int .i64 0]) (by simp [results, Try.results11, go_sem, r0, r1, r2]) rfl ⟨_, rfl, I11, hon10⟩
      · obtain rfl : o = none := hiff.2 hb
        have hs0 : ¬ str bs = s := fun e => hb (by rw [← e, bl_str bs (fun y hy => rtx_byte HTX y hy)])
        clear hiff hb
        have hs1 : ((str bs).toList == s.toList) = false := beq_eq_false_iff_ne.2 (fun e => hs0 (by rw [Lib.toList_data, Lib.toList_data] at e; exact ByteArray.ext (Array.toList_inj.1 e)))
        have PN := PY
        have r0 : w9.cell? ⟨w.heap.size, 0, none⟩ = some (.bool false) := (HO.out.on PN).cell 0
        have r1 : w9.cell? ⟨w.heap.size, 1, none⟩ = some (.slice none 0 0) := (HO.out.on PN).cell 1
        have r2 : w9.cell? ⟨w.heap.size, 2, none⟩ = some (.slice none 0 0) := (HO.out.on PN).cell 2
        have rf0 := (HO.out.on PN).frozen 0
        have rf1 := (HO.out.on PN).frozen 1
        have rf2 := (HO.out.on PN).frozen 2
        have hon := on3 (g := w.heap.size) (P0.trans PN) (by omega) (.bool false) (.slice none 0 0) (.slice none 0 0)
        have hon0 := P0.trans PN
        clear PN
        go_wp2
        exact bodyPost_ret (v := .tuple #[.agg #[.bool false, .slice none 0 0, .slice none 0 0], .int .i64 2]) (by simp [results, Try.results11, go_sem, r0, r1, r2]) rfl ⟨rfl, by first | exact hon | exact hon0⟩
    · obtain rfl : o = none := HNO.out hbad
      have PN := PW.trans (PA.trans (P2.trans P5))
      have r0 : w5.cell? ⟨w.heap.size, 0, none⟩ = some (.bool false) := (HO.out.on PN).cell 0
      have r1 : w5.cell? ⟨w.heap.size, 1, none⟩ = some (.slice none 0 0) := (HO.out.on PN).cell 1
      have r2 : w5.cell? ⟨w.heap.size, 2, none⟩ = some (.slice none 0 0) := (HO.out.on PN).cell 2
      have rf0 := (HO.out.on PN).frozen 0
      have rf1 := (HO.out.on PN).frozen 1
      have rf2 := (HO.out.on PN).frozen 2
      have hon := on3 (g := w.heap.size) (P0.trans PN) (by omega) (.bool false) (.slice none 0 0) (.slice none 0 0)
      have hon0 := P0.trans PN
      clear PN
      go_wp2
      exact bodyPost_ret (v := .tuple #[.agg #[.bool false, .slice none 0 0, .slice none 0 0], .int .i64 2]) (by simp [results, Try.results11, go_sem, r0, r1, r2]) rfl ⟨rfl, by first | exact hon | exact hon0⟩
  · have h64 := hq rfl
    clear hq
    go_wp2
    go_quiet (fail)
    obtain ⟨W, hW, PW⟩ : ∃ W, ((w1.alloc (.cells #[.bool s1, .slice A1 n1 c1, .slice A2 n2 c2] 24)).drewN nq) = W ∧ On (w.alloc (.cells #[.bool false, .slice none 0 0, .slice none 0 0] 24)) W := ⟨_, rfl, P1a.drewN nq⟩
    rw [hW]
    clear hW P1a
    have PA := (On.refl W).alloc (.cells #[.int .u32 1] 72)
    have R1 := rd_one W 72 1 (by decide)
    go_wp2_with fail
    rw [HT.out]
    refine (find_no _ T 47 47 rfl (by omega) HDD.out).mono ?_
    rintro e w2 ⟨rfl, P2⟩
    go_wp2_with fail
    refine (rparse_any _ T (by omega)).mono ?_
    rintro e w5 (⟨hoka, A3, n3, c3, rfl, N3, P5⟩ | ⟨hbad, rfl, P5⟩)
    · obtain ⟨xs, R2, C2, V2, L2⟩ := N3
      have HV := Lib.hid V2
      clear V2 C2
      have PP := PW.trans (PA.trans (P2.trans P5))
      have RD := R1.on (P2.trans P5)
      replace HSAME : Hid (∀ bs, RTx (fr true (dv (bl T)) 1) bs → (bs = bl s → o = some (fr true (dv (bl T)) 1)) ∧ (¬ bs = bl s → o = none)) := Lib.hid (fun bs h => HSAME.out bs hoka h)
      have HVY : Hid (val [1] = 1) := Lib.hid rfl
      have HY : Hid (0 < val [1]) := Lib.hid (by decide)
      go_wp2_with fail
      refine (rfrom_any _ true _ _ _ _ _ _ 300 _ _ R2 RD HY.out (by omega) (by omega) (by omega) (by omega)).mono ?_
      rintro e w8 ⟨v8, rfl, I8, P8⟩
      rw [HV.out, HVY.out] at I8
      obtain ⟨x, hx⟩ : ∃ x, fr true (dv (bl T)) (1) = x := ⟨_, rfl⟩
      rw [hx] at I8 HSAME
      have HX := Lib.hid hx
      clear hx
      obtain ⟨s8, A8, n8, c8, A9, n9, c9, rfl⟩ := isR_form8 I8
      have PQ := (On.refl w8).alloc (.cells #[.bool s8, .slice A8 n8 c8, .slice A9 n9 c9] 24)
      have OX := Own.new w8 24 #[.bool s8, .slice A8 n8 c8, .slice A9 n9 c9]
      have PX := PP.trans (P8.trans PQ)
      have I9 := I8.on PQ
      clear I8 P8 PP RD R2
      have q0 : (w8.alloc (.cells #[.bool s8, .slice A8 n8 c8, .slice A9 n9 c9] 24)).cell? ⟨w8.heap.size, 0, none⟩ = some (.bool s8) := OX.cell 0
      have q1 : (w8.alloc (.cells #[.bool s8, .slice A8 n8 c8, .slice A9 n9 c9] 24)).cell? ⟨w8.heap.size, 1, none⟩ = some (.slice A8 n8 c8) := OX.cell 1
      have q2 : (w8.alloc (.cells #[.bool s8, .slice A8 n8 c8, .slice A9 n9 c9] 24)).cell? ⟨w8.heap.size, 2, none⟩ = some (.slice A9 n9 c9) := OX.cell 2
      go_wp2_with fail
      refine (stext_any _ _ x 300 (IsR.fld I9) (by decide) (by decide)).mono ?_
      rintro e w9 ⟨bs, rfl, HTX, P9⟩
      clear q0 q1 q2
      have PY := PX.trans P9
      have OX9 := OX.on P9
      have I10 := I9.on P9
      clear PX P9 OX I9 PQ
      have q0 : w9.cell? ⟨w8.heap.size, 0, none⟩ = some (.bool s8) := OX9.cell 0
      have q1 : w9.cell? ⟨w8.heap.size, 1, none⟩ = some (.slice A8 n8 c8) := OX9.cell 1
      have q2 : w9.cell? ⟨w8.heap.size, 2, none⟩ = some (.slice A9 n9 c9) := OX9.cell 2
      have hiff := HSAME.out bs HTX
      by_cases hb : bs = bl s
      · obtain rfl : o = some x := hiff.1 hb
        have hs0 : str bs = s := by rw [hb, str_bl']
        rw [hs0]
        clear hiff hb hs0
        have HO8 := HO.out.on PY
        have r0 : w9.cell? ⟨w.heap.size, 0, none⟩ = some (.bool false) := (HO.out.on PY).cell 0
        have r1 : w9.cell? ⟨w.heap.size, 1, none⟩ = some (.slice none 0 0) := (HO.out.on PY).cell 1
        have r2 : w9.cell? ⟨w.heap.size, 2, none⟩ = some (.slice none 0 0) := (HO.out.on PY).cell 2
        have rf0 := (HO.out.on PY).frozen 0
        have rf1 := (HO.out.on PY).frozen 1
        have rf2 := (HO.out.on PY).frozen 2
        have I11 := isR_put I10 HO8 (.bool s8) (.slice A8 n8 c8) (.slice A9 n9 c9)
        have hon10 := on3 (g := w.heap.size) (P0.trans PY) (by omega) (.bool s8) (.slice A8 n8 c8) (.slice A9 n9 c9)
        clear HO8 PY
        go_wp2
        exact bodyPost_ret (v := .tuple #[.agg #[.bool s8, .slice A8 n8 c8, .slice A9 n9 c9], .int .i64 0]) (by simp [results, Try.results11, go_sem, r0, r1, r2]) rfl ⟨_, rfl, I11, hon10⟩
      · obtain rfl : o = none := hiff.2 hb
        have hs0 : ¬ str bs = s := fun e => hb (by rw [← e, bl_str bs (fun y hy => rtx_byte HTX y hy)])
        clear hiff hb
        have hs1 : ((str bs).toList == s.toList) = false := beq_eq_false_iff_ne.2 (fun e => hs0 (by rw [Lib.toList_data, Lib.toList_data] at e; exact ByteArray.ext (Array.toList_inj.1 e)))
        have PN := PY
        have r0 : w9.cell? ⟨w.heap.size, 0, none⟩ = some (.bool false) := (HO.out.on PN).cell 0
        have r1 : w9.cell? ⟨w.heap.size, 1, none⟩ = some (.slice none 0 0) := (HO.out.on PN).cell 1
        have r2 : w9.cell? ⟨w.heap.size, 2, none⟩ = some (.slice none 0 0) := (HO.out.on PN).cell 2
        have rf0 := (HO.out.on PN).frozen 0
        have rf1 := (HO.out.on PN).frozen 1
        have rf2 := (HO.out.on PN).frozen 2
        have hon := on3 (g := w.heap.size) (P0.trans PN) (by omega) (.bool false) (.slice none 0 0) (.slice none 0 0)
        have hon0 := P0.trans PN
        clear PN
        go_wp2
        exact bodyPost_ret (v := .tuple #[.agg #[.bool false, .slice none 0 0, .slice none 0 0], .int .i64 2]) (by simp [results, Try.results11, go_sem, r0, r1, r2]) rfl ⟨rfl, by first | exact hon | exact hon0⟩
    · obtain rfl : o = none := HNO.out hbad
      have PN := PW.trans (PA.trans (P2.trans P5))
      have r0 : w5.cell? ⟨w.heap.size, 0, none⟩ = some (.bool false) := (HO.out.on PN).cell 0
      have r1 : w5.cell? ⟨w.heap.size, 1, none⟩ = some (.slice none 0 0) := (HO.out.on PN).cell 1
      have r2 : w5.cell? ⟨w.heap.size, 2, none⟩ = some (.slice none 0 0) := (HO.out.on PN).cell 2
      have rf0 := (HO.out.on PN).frozen 0
      have rf1 := (HO.out.on PN).frozen 1
      have rf2 := (HO.out.on PN).frozen 2
      have hon := on3 (g := w.heap.size) (P0.trans PN) (by omega) (.bool false) (.slice none 0 0) (.slice none 0 0)
      have hon0 := P0.trans PN
      clear PN
      go_wp2
      exact bodyPost_ret (v := .tuple #[.agg #[.bool false, .slice none 0 0, .slice none 0 0], .int .i64 2]) (by simp [results, Try.results11, go_sem, r0, r1, r2]) rfl ⟨rfl, by first | exact hon | exact hon0⟩
set_option maxRecDepth 100000 in
set_option maxHeartbeats 1600000 in
theorem sp_py (w : World) (s : ByteArray) (hs : s.size ≤ 300) (hz : 0 < s.size) (e2 : ((s[0].toNat : Int) == 45) = false) (a b : List UInt8) (hd : (s).data.toList = a ++ 47 :: b) (ha : (47 : UInt8) ∉ a) (o : Option Rat) (ho : BrokenR false (nl a) (nl b) = o) (hdec : ∀ w, Calls Try.prog 48 #[.string s] w fun e w' => ∃ v q r, e = .returned (.tuple #[v, .bool q]) ∧ IsR w' v r 300 ∧ (q = true → 64 < s.size) ∧ On w w') :
    Calls Try.prog 11 #[.string s] w (SOpt w o) := by
  have P0 := (On.refl w).alloc (.cells #[.bool false, .slice none 0 0, .slice none 0 0] 24)
  have HO := Lib.hid (Own.new w 24 #[.bool false, .slice none 0 0, .slice none 0 0])
  have hne : ¬ s.toList = [] := fun e => by have := (toList_nil_iff s).1 e; omega
  have e1 : s.toList.isEmpty = false := by simp [hne]
  have hal : a.length + b.length + 1 = s.size := by rw [← dl_len, hd]; simp; omega
  have hbl : bl s = (if false = true then [45] else []) ++ (nl a ++ 47 :: nl b) := by
    rw [nl_bl, hd]; unfold nl; rw [List.map_append]; rfl
  have HSAME : Hid (∀ bs, textB ⟨a.toArray⟩ = true → textB ⟨b.toArray⟩ = true → dv (nl b) ≠ 0 → RTx (fr false (dv (nl a)) (dv (nl b))) bs → (bs = bl s → o = some (fr false (dv (nl a)) (dv (nl b)))) ∧ (¬ bs = bl s → o = none)) := Lib.hid (by
    intro bs h1 h2 h3 h4
    have k1 := textB_ok h1
    have k2 := textB_ok h2
    rw [bl_mk] at k1 k2
    have := broken_same k1 k2 h3 h4
    rw [hbl, this, ← ho]
    unfold BrokenR
    exact ⟨fun h => by rw [if_pos ⟨k1, k2, h⟩], fun h => by rw [if_neg (fun hh => h hh.2.2)]⟩)
  have HNO : Hid (textB ⟨a.toArray⟩ = false ∨ textB ⟨b.toArray⟩ = false ∨ dv (nl b) = 0 → o = none) := Lib.hid (by
    intro h
    rw [← ho]
    unfold BrokenR
    rw [if_neg]
    rintro ⟨k1, k2, k3, _⟩
    rcases h with h | h | h
    · unfold textB at h; rw [bl_mk] at h; exact of_decide_eq_false h k1
    · unfold textB at h; rw [bl_mk] at h; exact of_decide_eq_false h k2
    · omega)
  have HCF := Lib.hid (cut_front hd)
  have HCB := Lib.hid (cut_back hd)
  have HDD := Lib.hid hd
  have HA := Lib.hid ha
  clear hd ha ho hbl
  have HDEC := Lib.hid hdec
  clear hdec
  go_enter Try.func11, Try.ntmps11
  go_wp2_with fail
  refine (HDEC.out _).mono ?_
  rintro e w1 ⟨v1, q, r1, rfl, I1, hq, P1⟩
  obtain ⟨s1, A1, n1, c1, A2, n2, c2, rfl⟩ := isR_form8 I1
  clear I1
  have P1a := P1.trans ((On.refl w1).alloc (.cells #[.bool s1, .slice A1 n1 c1, .slice A2 n2 c2] 24))
  clear P1
  cases q
  · clear hq
    go_wp2
    go_quiet (fail)
    obtain ⟨W, hW, PW⟩ : ∃ W, ((w1.alloc (.cells #[.bool s1, .slice A1 n1 c1, .slice A2 n2 c2] 24)).drewN nq) = W ∧ On (w.alloc (.cells #[.bool false, .slice none 0 0, .slice none 0 0] 24)) W := ⟨_, rfl, P1a.drewN nq⟩
    rw [hW]
    clear hW P1a
    have PA := (On.refl W).alloc (.cells #[.int .u32 1] 72)
    have R1 := rd_one W 72 1 (by decide)
    have k0 : (0 : Int) ≤ (a.length : Int) := by omega
    go_wp2_with fail
    refine (find_at _ s 47 47 rfl (by omega) a b HDD.out HA.out).mono ?_
    rintro e w2 ⟨rfl, P2⟩
    go_wp2_with fail
    rw [show s.extract (a.length + 1) s.size = ⟨b.toArray⟩ from HCB.out]
    refine (rparse_any _ ⟨b.toArray⟩ (by rw [size_mk]; omega)).mono ?_
    rintro e w3 (⟨hokb, AD, nd, cd, rfl, ND, P3⟩ | ⟨hbad, rfl, P3⟩)
    · obtain ⟨ys, RD, CD, VD, LD⟩ := ND
      rw [size_mk] at LD
      rw [bl_mk] at VD
      have HVY := Lib.hid VD
      clear VD CD
      go_wp2_with fail
      rw [show s.extract 0 a.length = ⟨a.toArray⟩ from HCF.out]
      refine (rparse_any _ ⟨a.toArray⟩ (by rw [size_mk]; omega)).mono ?_
      rintro e w5 (⟨hoka, A3, n3, c3, rfl, N3, P5⟩ | ⟨hbad, rfl, P5⟩)
      · obtain ⟨xs, R2, C2, V2, L2⟩ := N3
        rw [size_mk] at L2
        rw [bl_mk] at V2
        have HV := Lib.hid V2
        clear V2 C2
        have PP := PW.trans (PA.trans (P2.trans (P3.trans P5)))
        replace RD := RD.on P5
        by_cases h0 : dv (nl b) = 0
        · obtain rfl : o = none := HNO.out (.inr (.inr h0))
          have hy : val ys = 0 := by rw [HVY.out]; exact h0
          have HY := Lib.hid hy
          clear hy h0
          go_wp2_with fail
          refine (rfrom_zero _ false _ _ _ _ _ _ _ _ R2 RD HY.out (by omega)).mono ?_
          rintro e w8 ⟨rfl, P8⟩
          have PN := PP.trans (P8.trans ((On.refl w8).alloc (.cells #[.bool false, .slice none 0 0, .slice none 0 0] 24)))
          have r0 : (w8.alloc (.cells #[.bool false, .slice none 0 0, .slice none 0 0] 24)).cell? ⟨w.heap.size, 0, none⟩ = some (.bool false) := (HO.out.on PN).cell 0
          have r1 : (w8.alloc (.cells #[.bool false, .slice none 0 0, .slice none 0 0] 24)).cell? ⟨w.heap.size, 1, none⟩ = some (.slice none 0 0) := (HO.out.on PN).cell 1
          have r2 : (w8.alloc (.cells #[.bool false, .slice none 0 0, .slice none 0 0] 24)).cell? ⟨w.heap.size, 2, none⟩ = some (.slice none 0 0) := (HO.out.on PN).cell 2
          have rf0 := (HO.out.on PN).frozen 0
          have rf1 := (HO.out.on PN).frozen 1
          have rf2 := (HO.out.on PN).frozen 2
          have hon := on3 (g := w.heap.size) (P0.trans PN) (by omega) (.bool false) (.slice none 0 0) (.slice none 0 0)
          have hon0 := P0.trans PN
          clear PN
          go_wp2
          exact bodyPost_ret (v := .tuple #[.agg #[.bool false, .slice none 0 0, .slice none 0 0], .int .i64 2]) (by simp [results, Try.results11, go_sem, r0, r1, r2]) rfl ⟨rfl, by first | exact hon | exact hon0⟩
        · replace HSAME : Hid (∀ bs, RTx (fr false (dv (nl a)) (dv (nl b))) bs → (bs = bl s → o = some (fr false (dv (nl a)) (dv (nl b)))) ∧ (¬ bs = bl s → o = none)) := Lib.hid (fun bs h => HSAME.out bs hoka hokb h0 h)
          have hy : 0 < val ys := by rw [HVY.out]; omega
          have HY := Lib.hid hy
          clear hy h0
          go_wp2_with fail
          refine (rfrom_any _ false _ _ _ _ _ _ 300 _ _ R2 RD HY.out (by omega) (by omega) (by omega) (by omega)).mono ?_
          rintro e w8 ⟨v8, rfl, I8, P8⟩
          rw [HV.out, HVY.out] at I8
          obtain ⟨x, hx⟩ : ∃ x, fr false (dv (nl a)) (dv (nl b)) = x := ⟨_, rfl⟩
          rw [hx] at I8 HSAME
          have HX := Lib.hid hx
          clear hx
          obtain ⟨s8, A8, n8, c8, A9, n9, c9, rfl⟩ := isR_form8 I8
          have PQ := (On.refl w8).alloc (.cells #[.bool s8, .slice A8 n8 c8, .slice A9 n9 c9] 24)
          have OX := Own.new w8 24 #[.bool s8, .slice A8 n8 c8, .slice A9 n9 c9]
          have PX := PP.trans (P8.trans PQ)
          have I9 := I8.on PQ
          clear I8 P8 PP RD R2
          have q0 : (w8.alloc (.cells #[.bool s8, .slice A8 n8 c8, .slice A9 n9 c9] 24)).cell? ⟨w8.heap.size, 0, none⟩ = some (.bool s8) := OX.cell 0
          have q1 : (w8.alloc (.cells #[.bool s8, .slice A8 n8 c8, .slice A9 n9 c9] 24)).cell? ⟨w8.heap.size, 1, none⟩ = some (.slice A8 n8 c8) := OX.cell 1
          have q2 : (w8.alloc (.cells #[.bool s8, .slice A8 n8 c8, .slice A9 n9 c9] 24)).cell? ⟨w8.heap.size, 2, none⟩ = some (.slice A9 n9 c9) := OX.cell 2
          go_wp2_with fail
          refine (stext_any _ _ x 300 (IsR.fld I9) (by decide) (by decide)).mono ?_
          rintro e w9 ⟨bs, rfl, HTX, P9⟩
          clear q0 q1 q2
          have PY := PX.trans P9
          have OX9 := OX.on P9
          have I10 := I9.on P9
          clear PX P9 OX I9 PQ
          have q0 : w9.cell? ⟨w8.heap.size, 0, none⟩ = some (.bool s8) := OX9.cell 0
          have q1 : w9.cell? ⟨w8.heap.size, 1, none⟩ = some (.slice A8 n8 c8) := OX9.cell 1
          have q2 : w9.cell? ⟨w8.heap.size, 2, none⟩ = some (.slice A9 n9 c9) := OX9.cell 2
          have hiff := HSAME.out bs HTX
          by_cases hb : bs = bl s
          · obtain rfl : o = some x := hiff.1 hb
            have hs0 : str bs = s := by rw [hb, str_bl']
            rw [hs0]
            clear hiff hb hs0
            have HO8 := HO.out.on PY
            have r0 : w9.cell? ⟨w.heap.size, 0, none⟩ = some (.bool false) := (HO.out.on PY).cell 0
            have r1 : w9.cell? ⟨w.heap.size, 1, none⟩ = some (.slice none 0 0) := (HO.out.on PY).cell 1
            have r2 : w9.cell? ⟨w.heap.size, 2, none⟩ = some (.slice none 0 0) := (HO.out.on PY).cell 2
            have rf0 := (HO.out.on PY).frozen 0
            have rf1 := (HO.out.on PY).frozen 1
            have rf2 := (HO.out.on PY).frozen 2
            have I11 := isR_put I10 HO8 (.bool s8) (.slice A8 n8 c8) (.slice A9 n9 c9)
            have hon10 := on3 (g := w.heap.size) (P0.trans PY) (by omega) (.bool s8) (.slice A8 n8 c8) (.slice A9 n9 c9)
            clear HO8 PY
            go_wp2
            exact bodyPost_ret (v := .tuple #[.agg #[.bool s8, .slice A8 n8 c8, .slice A9 n9 c9], .int .i64 0]) (by simp [results, Try.results11, go_sem, r0, r1, r2]) rfl ⟨_, rfl, I11, hon10⟩
          · obtain rfl : o = none := hiff.2 hb
            have hs0 : ¬ str bs = s := fun e => hb (by rw [← e, bl_str bs (fun y hy => rtx_byte HTX y hy)])
            clear hiff hb
            have hs1 : ((str bs).toList == s.toList) = false := beq_eq_false_iff_ne.2 (fun e => hs0 (by rw [Lib.toList_data, Lib.toList_data] at e; exact ByteArray.ext (Array.toList_inj.1 e)))
            have PN := PY
            have r0 : w9.cell? ⟨w.heap.size, 0, none⟩ = some (.bool false) := (HO.out.on PN).cell 0
            have r1 : w9.cell? ⟨w.heap.size, 1, none⟩ = some (.slice none 0 0) := (HO.out.on PN).cell 1
            have r2 : w9.cell? ⟨w.heap.size, 2, none⟩ = some (.slice none 0 0) := (HO.out.on PN).cell 2
            have rf0 := (HO.out.on PN).frozen 0
            have rf1 := (HO.out.on PN).frozen 1
            have rf2 := (HO.out.on PN).frozen 2
            have hon := on3 (g := w.heap.size) (P0.trans PN) (by omega) (.bool false) (.slice none 0 0) (.slice none 0 0)
            have hon0 := P0.trans PN
            clear PN
            go_wp2
            exact bodyPost_ret (v := .tuple #[.agg #[.bool false, .slice none 0 0, .slice none 0 0], .int .i64 2]) (by simp [results, Try.results11, go_sem, r0, r1, r2]) rfl ⟨rfl, by first | exact hon | exact hon0⟩
      · obtain rfl : o = none := HNO.out (.inl hbad)
        have PN := PW.trans (PA.trans (P2.trans (P3.trans P5)))
        have r0 : w5.cell? ⟨w.heap.size, 0, none⟩ = some (.bool false) := (HO.out.on PN).cell 0
        have r1 : w5.cell? ⟨w.heap.size, 1, none⟩ = some (.slice none 0 0) := (HO.out.on PN).cell 1
        have r2 : w5.cell? ⟨w.heap.size, 2, none⟩ = some (.slice none 0 0) := (HO.out.on PN).cell 2
        have rf0 := (HO.out.on PN).frozen 0
        have rf1 := (HO.out.on PN).frozen 1
        have rf2 := (HO.out.on PN).frozen 2
        have hon := on3 (g := w.heap.size) (P0.trans PN) (by omega) (.bool false) (.slice none 0 0) (.slice none 0 0)
        have hon0 := P0.trans PN
        clear PN
        go_wp2
        exact bodyPost_ret (v := .tuple #[.agg #[.bool false, .slice none 0 0, .slice none 0 0], .int .i64 2]) (by simp [results, Try.results11, go_sem, r0, r1, r2]) rfl ⟨rfl, by first | exact hon | exact hon0⟩
    · obtain rfl : o = none := HNO.out (.inr (.inl hbad))
      go_wp2_with fail
      rw [show s.extract 0 a.length = ⟨a.toArray⟩ from HCF.out]
      refine (rparse_any _ ⟨a.toArray⟩ (by rw [size_mk]; omega)).mono ?_
      rintro e w5 (⟨hoka, A3, n3, c3, rfl, N3, P5⟩ | ⟨hbad, rfl, P5⟩)
      · have PN := PW.trans (PA.trans (P2.trans (P3.trans P5)))
        have r0 : w5.cell? ⟨w.heap.size, 0, none⟩ = some (.bool false) := (HO.out.on PN).cell 0
        have r1 : w5.cell? ⟨w.heap.size, 1, none⟩ = some (.slice none 0 0) := (HO.out.on PN).cell 1
        have r2 : w5.cell? ⟨w.heap.size, 2, none⟩ = some (.slice none 0 0) := (HO.out.on PN).cell 2
        have rf0 := (HO.out.on PN).frozen 0
        have rf1 := (HO.out.on PN).frozen 1
        have rf2 := (HO.out.on PN).frozen 2
        have hon := on3 (g := w.heap.size) (P0.trans PN) (by omega) (.bool false) (.slice none 0 0) (.slice none 0 0)
        have hon0 := P0.trans PN
        clear PN
        go_wp2
        exact bodyPost_ret (v := .tuple #[.agg #[.bool false, .slice none 0 0, .slice none 0 0], .int .i64 2]) (by simp [results, Try.results11, go_sem, r0, r1, r2]) rfl ⟨rfl, by first | exact hon | exact hon0⟩
      · have PN := PW.trans (PA.trans (P2.trans (P3.trans P5)))
        have r0 : w5.cell? ⟨w.heap.size, 0, none⟩ = some (.bool false) := (HO.out.on PN).cell 0
        have r1 : w5.cell? ⟨w.heap.size, 1, none⟩ = some (.slice none 0 0) := (HO.out.on PN).cell 1
        have r2 : w5.cell? ⟨w.heap.size, 2, none⟩ = some (.slice none 0 0) := (HO.out.on PN).cell 2
        have rf0 := (HO.out.on PN).frozen 0
        have rf1 := (HO.out.on PN).frozen 1
        have rf2 := (HO.out.on PN).frozen 2
        have hon := on3 (g := w.heap.size) (P0.trans PN) (by omega) (.bool false) (.slice none 0 0) (.slice none 0 0)
        have hon0 := P0.trans PN
        clear PN
        go_wp2
        exact bodyPost_ret (v := .tuple #[.agg #[.bool false, .slice none 0 0, .slice none 0 0], .int .i64 2]) (by simp [results, Try.results11, go_sem, r0, r1, r2]) rfl ⟨rfl, by first | exact hon | exact hon0⟩
  · have h64 := hq rfl
    clear hq
    go_wp2
    go_quiet (fail)
    obtain ⟨W, hW, PW⟩ : ∃ W, ((w1.alloc (.cells #[.bool s1, .slice A1 n1 c1, .slice A2 n2 c2] 24)).drewN nq) = W ∧ On (w.alloc (.cells #[.bool false, .slice none 0 0, .slice none 0 0] 24)) W := ⟨_, rfl, P1a.drewN nq⟩
    rw [hW]
    clear hW P1a
    have PA := (On.refl W).alloc (.cells #[.int .u32 1] 72)
    have R1 := rd_one W 72 1 (by decide)
    have k0 : (0 : Int) ≤ (a.length : Int) := by omega
    go_wp2_with fail
    refine (find_at _ s 47 47 rfl (by omega) a b HDD.out HA.out).mono ?_
    rintro e w2 ⟨rfl, P2⟩
    go_wp2_with fail
    rw [show s.extract (a.length + 1) s.size = ⟨b.toArray⟩ from HCB.out]
    refine (rparse_any _ ⟨b.toArray⟩ (by rw [size_mk]; omega)).mono ?_
    rintro e w3 (⟨hokb, AD, nd, cd, rfl, ND, P3⟩ | ⟨hbad, rfl, P3⟩)
    · obtain ⟨ys, RD, CD, VD, LD⟩ := ND
      rw [size_mk] at LD
      rw [bl_mk] at VD
      have HVY := Lib.hid VD
      clear VD CD
      go_wp2_with fail
      rw [show s.extract 0 a.length = ⟨a.toArray⟩ from HCF.out]
      refine (rparse_any _ ⟨a.toArray⟩ (by rw [size_mk]; omega)).mono ?_
      rintro e w5 (⟨hoka, A3, n3, c3, rfl, N3, P5⟩ | ⟨hbad, rfl, P5⟩)
      · obtain ⟨xs, R2, C2, V2, L2⟩ := N3
        rw [size_mk] at L2
        rw [bl_mk] at V2
        have HV := Lib.hid V2
        clear V2 C2
        have PP := PW.trans (PA.trans (P2.trans (P3.trans P5)))
        replace RD := RD.on P5
        by_cases h0 : dv (nl b) = 0
        · obtain rfl : o = none := HNO.out (.inr (.inr h0))
          have hy : val ys = 0 := by rw [HVY.out]; exact h0
          have HY := Lib.hid hy
          clear hy h0
          go_wp2_with fail
          refine (rfrom_zero _ false _ _ _ _ _ _ _ _ R2 RD HY.out (by omega)).mono ?_
          rintro e w8 ⟨rfl, P8⟩
          have PN := PP.trans (P8.trans ((On.refl w8).alloc (.cells #[.bool false, .slice none 0 0, .slice none 0 0] 24)))
          have r0 : (w8.alloc (.cells #[.bool false, .slice none 0 0, .slice none 0 0] 24)).cell? ⟨w.heap.size, 0, none⟩ = some (.bool false) := (HO.out.on PN).cell 0
          have r1 : (w8.alloc (.cells #[.bool false, .slice none 0 0, .slice none 0 0] 24)).cell? ⟨w.heap.size, 1, none⟩ = some (.slice none 0 0) := (HO.out.on PN).cell 1
          have r2 : (w8.alloc (.cells #[.bool false, .slice none 0 0, .slice none 0 0] 24)).cell? ⟨w.heap.size, 2, none⟩ = some (.slice none 0 0) := (HO.out.on PN).cell 2
          have rf0 := (HO.out.on PN).frozen 0
          have rf1 := (HO.out.on PN).frozen 1
          have rf2 := (HO.out.on PN).frozen 2
          have hon := on3 (g := w.heap.size) (P0.trans PN) (by omega) (.bool false) (.slice none 0 0) (.slice none 0 0)
          have hon0 := P0.trans PN
          clear PN
          go_wp2
          exact bodyPost_ret (v := .tuple #[.agg #[.bool false, .slice none 0 0, .slice none 0 0], .int .i64 2]) (by simp [results, Try.results11, go_sem, r0, r1, r2]) rfl ⟨rfl, by first | exact hon | exact hon0⟩
        · replace HSAME : Hid (∀ bs, RTx (fr false (dv (nl a)) (dv (nl b))) bs → (bs = bl s → o = some (fr false (dv (nl a)) (dv (nl b)))) ∧ (¬ bs = bl s → o = none)) := Lib.hid (fun bs h => HSAME.out bs hoka hokb h0 h)
          have hy : 0 < val ys := by rw [HVY.out]; omega
          have HY := Lib.hid hy
          clear hy h0
          go_wp2_with fail
          refine (rfrom_any _ false _ _ _ _ _ _ 300 _ _ R2 RD HY.out (by omega) (by omega) (by omega) (by omega)).mono ?_
          rintro e w8 ⟨v8, rfl, I8, P8⟩
          rw [HV.out, HVY.out] at I8
          obtain ⟨x, hx⟩ : ∃ x, fr false (dv (nl a)) (dv (nl b)) = x := ⟨_, rfl⟩
          rw [hx] at I8 HSAME
          have HX := Lib.hid hx
          clear hx
          obtain ⟨s8, A8, n8, c8, A9, n9, c9, rfl⟩ := isR_form8 I8
          have PQ := (On.refl w8).alloc (.cells #[.bool s8, .slice A8 n8 c8, .slice A9 n9 c9] 24)
          have OX := Own.new w8 24 #[.bool s8, .slice A8 n8 c8, .slice A9 n9 c9]
          have PX := PP.trans (P8.trans PQ)
          have I9 := I8.on PQ
          clear I8 P8 PP RD R2
          have q0 : (w8.alloc (.cells #[.bool s8, .slice A8 n8 c8, .slice A9 n9 c9] 24)).cell? ⟨w8.heap.size, 0, none⟩ = some (.bool s8) := OX.cell 0
          have q1 : (w8.alloc (.cells #[.bool s8, .slice A8 n8 c8, .slice A9 n9 c9] 24)).cell? ⟨w8.heap.size, 1, none⟩ = some (.slice A8 n8 c8) := OX.cell 1
          have q2 : (w8.alloc (.cells #[.bool s8, .slice A8 n8 c8, .slice A9 n9 c9] 24)).cell? ⟨w8.heap.size, 2, none⟩ = some (.slice A9 n9 c9) := OX.cell 2
          go_wp2_with fail
          refine (stext_any _ _ x 300 (IsR.fld I9) (by decide) (by decide)).mono ?_
          rintro e w9 ⟨bs, rfl, HTX, P9⟩
          clear q0 q1 q2
          have PY := PX.trans P9
          have OX9 := OX.on P9
          have I10 := I9.on P9
          clear PX P9 OX I9 PQ
          have q0 : w9.cell? ⟨w8.heap.size, 0, none⟩ = some (.bool s8) := OX9.cell 0
          have q1 : w9.cell? ⟨w8.heap.size, 1, none⟩ = some (.slice A8 n8 c8) := OX9.cell 1
          have q2 : w9.cell? ⟨w8.heap.size, 2, none⟩ = some (.slice A9 n9 c9) := OX9.cell 2
          have hiff := HSAME.out bs HTX
          by_cases hb : bs = bl s
          · obtain rfl : o = some x := hiff.1 hb
            have hs0 : str bs = s := by rw [hb, str_bl']
            rw [hs0]
            clear hiff hb hs0
            have HO8 := HO.out.on PY
            have r0 : w9.cell? ⟨w.heap.size, 0, none⟩ = some (.bool false) := (HO.out.on PY).cell 0
            have r1 : w9.cell? ⟨w.heap.size, 1, none⟩ = some (.slice none 0 0) := (HO.out.on PY).cell 1
            have r2 : w9.cell? ⟨w.heap.size, 2, none⟩ = some (.slice none 0 0) := (HO.out.on PY).cell 2
            have rf0 := (HO.out.on PY).frozen 0
            have rf1 := (HO.out.on PY).frozen 1
            have rf2 := (HO.out.on PY).frozen 2
            have I11 := isR_put I10 HO8 (.bool s8) (.slice A8 n8 c8) (.slice A9 n9 c9)
            have hon10 := on3 (g := w.heap.size) (P0.trans PY) (by omega) (.bool s8) (.slice A8 n8 c8) (.slice A9 n9 c9)
            clear HO8 PY
            go_wp2
            exact bodyPost_ret (v := .tuple #[.agg #[.bool s8, .slice A8 n8 c8, .slice A9 n9 c9], .int .i64 0]) (by simp [results, Try.results11, go_sem, r0, r1, r2]) rfl ⟨_, rfl, I11, hon10⟩
          · obtain rfl : o = none := hiff.2 hb
            have hs0 : ¬ str bs = s := fun e => hb (by rw [← e, bl_str bs (fun y hy => rtx_byte HTX y hy)])
            clear hiff hb
            have hs1 : ((str bs).toList == s.toList) = false := beq_eq_false_iff_ne.2 (fun e => hs0 (by rw [Lib.toList_data, Lib.toList_data] at e; exact ByteArray.ext (Array.toList_inj.1 e)))
            have PN := PY
            have r0 : w9.cell? ⟨w.heap.size, 0, none⟩ = some (.bool false) := (HO.out.on PN).cell 0
            have r1 : w9.cell? ⟨w.heap.size, 1, none⟩ = some (.slice none 0 0) := (HO.out.on PN).cell 1
            have r2 : w9.cell? ⟨w.heap.size, 2, none⟩ = some (.slice none 0 0) := (HO.out.on PN).cell 2
            have rf0 := (HO.out.on PN).frozen 0
            have rf1 := (HO.out.on PN).frozen 1
            have rf2 := (HO.out.on PN).frozen 2
            have hon := on3 (g := w.heap.size) (P0.trans PN) (by omega) (.bool false) (.slice none 0 0) (.slice none 0 0)
            have hon0 := P0.trans PN
            clear PN
            go_wp2
            exact bodyPost_ret (v := .tuple #[.agg #[.bool false, .slice none 0 0, .slice none 0 0], .int .i64 2]) (by simp [results, Try.results11, go_sem, r0, r1, r2]) rfl ⟨rfl, by first | exact hon | exact hon0⟩
      · obtain rfl : o = none := HNO.out (.inl hbad)
        have PN := PW.trans (PA.trans (P2.trans (P3.trans P5)))
        have r0 : w5.cell? ⟨w.heap.size, 0, none⟩ = some (.bool false) := (HO.out.on PN).cell 0
        have r1 : w5.cell? ⟨w.heap.size, 1, none⟩ = some (.slice none 0 0) := (HO.out.on PN).cell 1
        have r2 : w5.cell? ⟨w.heap.size, 2, none⟩ = some (.slice none 0 0) := (HO.out.on PN).cell 2
        have rf0 := (HO.out.on PN).frozen 0
        have rf1 := (HO.out.on PN).frozen 1
        have rf2 := (HO.out.on PN).frozen 2
        have hon := on3 (g := w.heap.size) (P0.trans PN) (by omega) (.bool false) (.slice none 0 0) (.slice none 0 0)
        have hon0 := P0.trans PN
        clear PN
        go_wp2
        exact bodyPost_ret (v := .tuple #[.agg #[.bool false, .slice none 0 0, .slice none 0 0], .int .i64 2]) (by simp [results, Try.results11, go_sem, r0, r1, r2]) rfl ⟨rfl, by first | exact hon | exact hon0⟩
    · obtain rfl : o = none := HNO.out (.inr (.inl hbad))
      go_wp2_with fail
      rw [show s.extract 0 a.length = ⟨a.toArray⟩ from HCF.out]
      refine (rparse_any _ ⟨a.toArray⟩ (by rw [size_mk]; omega)).mono ?_
      rintro e w5 (⟨hoka, A3, n3, c3, rfl, N3, P5⟩ | ⟨hbad, rfl, P5⟩)
      · have PN := PW.trans (PA.trans (P2.trans (P3.trans P5)))
        have r0 : w5.cell? ⟨w.heap.size, 0, none⟩ = some (.bool false) := (HO.out.on PN).cell 0
        have r1 : w5.cell? ⟨w.heap.size, 1, none⟩ = some (.slice none 0 0) := (HO.out.on PN).cell 1
        have r2 : w5.cell? ⟨w.heap.size, 2, none⟩ = some (.slice none 0 0) := (HO.out.on PN).cell 2
        have rf0 := (HO.out.on PN).frozen 0
        have rf1 := (HO.out.on PN).frozen 1
        have rf2 := (HO.out.on PN).frozen 2
        have hon := on3 (g := w.heap.size) (P0.trans PN) (by omega) (.bool false) (.slice none 0 0) (.slice none 0 0)
        have hon0 := P0.trans PN
        clear PN
        go_wp2
        exact bodyPost_ret (v := .tuple #[.agg #[.bool false, .slice none 0 0, .slice none 0 0], .int .i64 2]) (by simp [results, Try.results11, go_sem, r0, r1, r2]) rfl ⟨rfl, by first | exact hon | exact hon0⟩
      · have PN := PW.trans (PA.trans (P2.trans (P3.trans P5)))
        have r0 : w5.cell? ⟨w.heap.size, 0, none⟩ = some (.bool false) := (HO.out.on PN).cell 0
        have r1 : w5.cell? ⟨w.heap.size, 1, none⟩ = some (.slice none 0 0) := (HO.out.on PN).cell 1
        have r2 : w5.cell? ⟨w.heap.size, 2, none⟩ = some (.slice none 0 0) := (HO.out.on PN).cell 2
        have rf0 := (HO.out.on PN).frozen 0
        have rf1 := (HO.out.on PN).frozen 1
        have rf2 := (HO.out.on PN).frozen 2
        have hon := on3 (g := w.heap.size) (P0.trans PN) (by omega) (.bool false) (.slice none 0 0) (.slice none 0 0)
        have hon0 := P0.trans PN
        clear PN
        go_wp2
        exact bodyPost_ret (v := .tuple #[.agg #[.bool false, .slice none 0 0, .slice none 0 0], .int .i64 2]) (by simp [results, Try.results11, go_sem, r0, r1, r2]) rfl ⟨rfl, by first | exact hon | exact hon0⟩
set_option maxRecDepth 100000 in
set_option maxHeartbeats 1600000 in
theorem sp_pn (w : World) (s : ByteArray) (hs : s.size ≤ 300) (hz : 0 < s.size) (e2 : ((s[0].toNat : Int) == 45) = false) (hd : (47 : UInt8) ∉ (s).data.toList) (o : Option Rat) (ho : WholeR false (bl (s)) = o) (hdec : ∀ w, Calls Try.prog 48 #[.string s] w fun e w' => ∃ v q r, e = .returned (.tuple #[v, .bool q]) ∧ IsR w' v r 300 ∧ (q = true → 64 < s.size) ∧ On w w') :
    Calls Try.prog 11 #[.string s] w (SOpt w o) := by
  have P0 := (On.refl w).alloc (.cells #[.bool false, .slice none 0 0, .slice none 0 0] 24)
  have HO := Lib.hid (Own.new w 24 #[.bool false, .slice none 0 0, .slice none 0 0])
  have hne : ¬ s.toList = [] := fun e => by have := (toList_nil_iff s).1 e; omega
  have e1 : s.toList.isEmpty = false := by simp [hne]
  have hbl : bl s = (if false = true then [45] else []) ++ bl s := by
    rfl
  have HSAME : Hid (∀ bs, textB s = true → RTx (fr false (dv (bl s)) 1) bs → (bs = bl s → o = some (fr false (dv (bl s)) 1)) ∧ (¬ bs = bl s → o = none)) := Lib.hid (by
    intro bs h1 h4
    have k1 := textB_ok h1
    have hw : bs = bl s ↔ ¬ (false = true ∧ dv (bl s) = 0) := by exact whole_same k1 h4
    rw [← ho]
    unfold WholeR
    exact ⟨fun h => by rw [if_pos ⟨k1, hw.1 h⟩], fun h => by rw [if_neg (fun hh => h (hw.2 hh.2))]⟩)
  have HNO : Hid (textB s = false → o = none) := Lib.hid (by
    intro h
    rw [← ho]
    unfold WholeR
    rw [if_neg]
    rintro ⟨k1, _⟩
    unfold textB at h; exact of_decide_eq_false h k1)
  have HDD := Lib.hid hd
  clear hd ho hbl
  have HDEC := Lib.hid hdec
  clear hdec
  go_enter Try.func11, Try.ntmps11
  go_wp2_with fail
  refine (HDEC.out _).mono ?_
  rintro e w1 ⟨v1, q, r1, rfl, I1, hq, P1⟩
  obtain ⟨s1, A1, n1, c1, A2, n2, c2, rfl⟩ := isR_form8 I1
  clear I1
  have P1a := P1.trans ((On.refl w1).alloc (.cells #[.bool s1, .slice A1 n1 c1, .slice A2 n2 c2] 24))
  clear P1
  cases q
  · clear hq
    go_wp2
    go_quiet (fail)
    obtain ⟨W, hW, PW⟩ : ∃ W, ((w1.alloc (.cells #[.bool s1, .slice A1 n1 c1, .slice A2 n2 c2] 24)).drewN nq) = W ∧ On (w.alloc (.cells #[.bool false, .slice none 0 0, .slice none 0 0] 24)) W := ⟨_, rfl, P1a.drewN nq⟩
    rw [hW]
    clear hW P1a
    have PA := (On.refl W).alloc (.cells #[.int .u32 1] 72)
    have R1 := rd_one W 72 1 (by decide)
    go_wp2_with fail
    refine (find_no _ s 47 47 rfl (by omega) HDD.out).mono ?_
    rintro e w2 ⟨rfl, P2⟩
    go_wp2_with fail
    refine (rparse_any _ s (by omega)).mono ?_
    rintro e w5 (⟨hoka, A3, n3, c3, rfl, N3, P5⟩ | ⟨hbad, rfl, P5⟩)
    · obtain ⟨xs, R2, C2, V2, L2⟩ := N3
      have HV := Lib.hid V2
      clear V2 C2
      have PP := PW.trans (PA.trans (P2.trans P5))
      have RD := R1.on (P2.trans P5)
      replace HSAME : Hid (∀ bs, RTx (fr false (dv (bl s)) 1) bs → (bs = bl s → o = some (fr false (dv (bl s)) 1)) ∧ (¬ bs = bl s → o = none)) := Lib.hid (fun bs h => HSAME.out bs hoka h)
      have HVY : Hid (val [1] = 1) := Lib.hid rfl
      have HY : Hid (0 < val [1]) := Lib.hid (by decide)
      go_wp2_with fail
      refine (rfrom_any _ false _ _ _ _ _ _ 300 _ _ R2 RD HY.out (by omega) (by omega) (by omega) (by omega)).mono ?_
      rintro e w8 ⟨v8, rfl, I8, P8⟩
      rw [HV.out, HVY.out] at I8
      obtain ⟨x, hx⟩ : ∃ x, fr false (dv (bl s)) (1) = x := ⟨_, rfl⟩
      rw [hx] at I8 HSAME
      have HX := Lib.hid hx
      clear hx
      obtain ⟨s8, A8, n8, c8, A9, n9, c9, rfl⟩ := isR_form8 I8
      have PQ := (On.refl w8).alloc (.cells #[.bool s8, .slice A8 n8 c8, .slice A9 n9 c9] 24)
      have OX := Own.new w8 24 #[.bool s8, .slice A8 n8 c8, .slice A9 n9 c9]
      have PX := PP.trans (P8.trans PQ)
      have I9 := I8.on PQ
      clear I8 P8 PP RD R2
      have q0 : (w8.alloc (.cells #[.bool s8, .slice A8 n8 c8, .slice A9 n9 c9] 24)).cell? ⟨w8.heap.size, 0, none⟩ = some (.bool s8) := OX.cell 0
      have q1 : (w8.alloc (.cells #[.bool s8, .slice A8 n8 c8, .slice A9 n9 c9] 24)).cell? ⟨w8.heap.size, 1, none⟩ = some (.slice A8 n8 c8) := OX.cell 1
      have q2 : (w8.alloc (.cells #[.bool s8, .slice A8 n8 c8, .slice A9 n9 c9] 24)).cell? ⟨w8.heap.size, 2, none⟩ = some (.slice A9 n9 c9) := OX.cell 2
      go_wp2_with fail
      refine (stext_any _ _ x 300 (IsR.fld I9) (by decide) (by decide)).mono ?_
      rintro e w9 ⟨bs, rfl, HTX, P9⟩
      clear q0 q1 q2
      have PY := PX.trans P9
      have OX9 := OX.on P9
      have I10 := I9.on P9
      clear PX P9 OX I9 PQ
      have q0 : w9.cell? ⟨w8.heap.size, 0, none⟩ = some (.bool s8) := OX9.cell 0
      have q1 : w9.cell? ⟨w8.heap.size, 1, none⟩ = some (.slice A8 n8 c8) := OX9.cell 1
      have q2 : w9.cell? ⟨w8.heap.size, 2, none⟩ = some (.slice A9 n9 c9) := OX9.cell 2
      have hiff := HSAME.out bs HTX
      by_cases hb : bs = bl s
      · obtain rfl : o = some x := hiff.1 hb
        have hs0 : str bs = s := by rw [hb, str_bl']
        rw [hs0]
        clear hiff hb hs0
        have HO8 := HO.out.on PY
        have r0 : w9.cell? ⟨w.heap.size, 0, none⟩ = some (.bool false) := (HO.out.on PY).cell 0
        have r1 : w9.cell? ⟨w.heap.size, 1, none⟩ = some (.slice none 0 0) := (HO.out.on PY).cell 1
        have r2 : w9.cell? ⟨w.heap.size, 2, none⟩ = some (.slice none 0 0) := (HO.out.on PY).cell 2
        have rf0 := (HO.out.on PY).frozen 0
        have rf1 := (HO.out.on PY).frozen 1
        have rf2 := (HO.out.on PY).frozen 2
        have I11 := isR_put I10 HO8 (.bool s8) (.slice A8 n8 c8) (.slice A9 n9 c9)
        have hon10 := on3 (g := w.heap.size) (P0.trans PY) (by omega) (.bool s8) (.slice A8 n8 c8) (.slice A9 n9 c9)
        clear HO8 PY
        go_wp2
        exact bodyPost_ret (v := .tuple #[.agg #[.bool s8, .slice A8 n8 c8, .slice A9 n9 c9], .int .i64 0]) (by simp [results, Try.results11, go_sem, r0, r1, r2]) rfl ⟨_, rfl, I11, hon10⟩
      · obtain rfl : o = none := hiff.2 hb
        have hs0 : ¬ str bs = s := fun e => hb (by rw [← e, bl_str bs (fun y hy => rtx_byte HTX y hy)])
        clear hiff hb
        have hs1 : ((str bs).toList == s.toList) = false := beq_eq_false_iff_ne.2 (fun e => hs0 (by rw [Lib.toList_data, Lib.toList_data] at e; exact ByteArray.ext (Array.toList_inj.1 e)))
        have PN := PY
        have r0 : w9.cell? ⟨w.heap.size, 0, none⟩ = some (.bool false) := (HO.out.on PN).cell 0
        have r1 : w9.cell? ⟨w.heap.size, 1, none⟩ = some (.slice none 0 0) := (HO.out.on PN).cell 1
        have r2 : w9.cell? ⟨w.heap.size, 2, none⟩ = some (.slice none 0 0) := (HO.out.on PN).cell 2
        have rf0 := (HO.out.on PN).frozen 0
        have rf1 := (HO.out.on PN).frozen 1
        have rf2 := (HO.out.on PN).frozen 2
        have hon := on3 (g := w.heap.size) (P0.trans PN) (by omega) (.bool false) (.slice none 0 0) (.slice none 0 0)
        have hon0 := P0.trans PN
        clear PN
        go_wp2
        exact bodyPost_ret (v := .tuple #[.agg #[.bool false, .slice none 0 0, .slice none 0 0], .int .i64 2]) (by simp [results, Try.results11, go_sem, r0, r1, r2]) rfl ⟨rfl, by first | exact hon | exact hon0⟩
    · obtain rfl : o = none := HNO.out hbad
      have PN := PW.trans (PA.trans (P2.trans P5))
      have r0 : w5.cell? ⟨w.heap.size, 0, none⟩ = some (.bool false) := (HO.out.on PN).cell 0
      have r1 : w5.cell? ⟨w.heap.size, 1, none⟩ = some (.slice none 0 0) := (HO.out.on PN).cell 1
      have r2 : w5.cell? ⟨w.heap.size, 2, none⟩ = some (.slice none 0 0) := (HO.out.on PN).cell 2
      have rf0 := (HO.out.on PN).frozen 0
      have rf1 := (HO.out.on PN).frozen 1
      have rf2 := (HO.out.on PN).frozen 2
      have hon := on3 (g := w.heap.size) (P0.trans PN) (by omega) (.bool false) (.slice none 0 0) (.slice none 0 0)
      have hon0 := P0.trans PN
      clear PN
      go_wp2
      exact bodyPost_ret (v := .tuple #[.agg #[.bool false, .slice none 0 0, .slice none 0 0], .int .i64 2]) (by simp [results, Try.results11, go_sem, r0, r1, r2]) rfl ⟨rfl, by first | exact hon | exact hon0⟩
  · have h64 := hq rfl
    clear hq
    go_wp2
    go_quiet (fail)
    obtain ⟨W, hW, PW⟩ : ∃ W, ((w1.alloc (.cells #[.bool s1, .slice A1 n1 c1, .slice A2 n2 c2] 24)).drewN nq) = W ∧ On (w.alloc (.cells #[.bool false, .slice none 0 0, .slice none 0 0] 24)) W := ⟨_, rfl, P1a.drewN nq⟩
    rw [hW]
    clear hW P1a
    have PA := (On.refl W).alloc (.cells #[.int .u32 1] 72)
    have R1 := rd_one W 72 1 (by decide)
    go_wp2_with fail
    refine (find_no _ s 47 47 rfl (by omega) HDD.out).mono ?_
    rintro e w2 ⟨rfl, P2⟩
    go_wp2_with fail
    refine (rparse_any _ s (by omega)).mono ?_
    rintro e w5 (⟨hoka, A3, n3, c3, rfl, N3, P5⟩ | ⟨hbad, rfl, P5⟩)
    · obtain ⟨xs, R2, C2, V2, L2⟩ := N3
      have HV := Lib.hid V2
      clear V2 C2
      have PP := PW.trans (PA.trans (P2.trans P5))
      have RD := R1.on (P2.trans P5)
      replace HSAME : Hid (∀ bs, RTx (fr false (dv (bl s)) 1) bs → (bs = bl s → o = some (fr false (dv (bl s)) 1)) ∧ (¬ bs = bl s → o = none)) := Lib.hid (fun bs h => HSAME.out bs hoka h)
      have HVY : Hid (val [1] = 1) := Lib.hid rfl
      have HY : Hid (0 < val [1]) := Lib.hid (by decide)
      go_wp2_with fail
      refine (rfrom_any _ false _ _ _ _ _ _ 300 _ _ R2 RD HY.out (by omega) (by omega) (by omega) (by omega)).mono ?_
      rintro e w8 ⟨v8, rfl, I8, P8⟩
      rw [HV.out, HVY.out] at I8
      obtain ⟨x, hx⟩ : ∃ x, fr false (dv (bl s)) (1) = x := ⟨_, rfl⟩
      rw [hx] at I8 HSAME
      have HX := Lib.hid hx
      clear hx
      obtain ⟨s8, A8, n8, c8, A9, n9, c9, rfl⟩ := isR_form8 I8
      have PQ := (On.refl w8).alloc (.cells #[.bool s8, .slice A8 n8 c8, .slice A9 n9 c9] 24)
      have OX := Own.new w8 24 #[.bool s8, .slice A8 n8 c8, .slice A9 n9 c9]
      have PX := PP.trans (P8.trans PQ)
      have I9 := I8.on PQ
      clear I8 P8 PP RD R2
      have q0 : (w8.alloc (.cells #[.bool s8, .slice A8 n8 c8, .slice A9 n9 c9] 24)).cell? ⟨w8.heap.size, 0, none⟩ = some (.bool s8) := OX.cell 0
      have q1 : (w8.alloc (.cells #[.bool s8, .slice A8 n8 c8, .slice A9 n9 c9] 24)).cell? ⟨w8.heap.size, 1, none⟩ = some (.slice A8 n8 c8) := OX.cell 1
      have q2 : (w8.alloc (.cells #[.bool s8, .slice A8 n8 c8, .slice A9 n9 c9] 24)).cell? ⟨w8.heap.size, 2, none⟩ = some (.slice A9 n9 c9) := OX.cell 2
      go_wp2_with fail
      refine (stext_any _ _ x 300 (IsR.fld I9) (by decide) (by decide)).mono ?_
      rintro e w9 ⟨bs, rfl, HTX, P9⟩
      clear q0 q1 q2
      have PY := PX.trans P9
      have OX9 := OX.on P9
      have I10 := I9.on P9
      clear PX P9 OX I9 PQ
      have q0 : w9.cell? ⟨w8.heap.size, 0, none⟩ = some (.bool s8) := OX9.cell 0
      have q1 : w9.cell? ⟨w8.heap.size, 1, none⟩ = some (.slice A8 n8 c8) := OX9.cell 1
      have q2 : w9.cell? ⟨w8.heap.size, 2, none⟩ = some (.slice A9 n9 c9) := OX9.cell 2
      have hiff := HSAME.out bs HTX
      by_cases hb : bs = bl s
      · obtain rfl : o = some x := hiff.1 hb
        have hs0 : str bs = s := by rw [hb, str_bl']
        rw [hs0]
        clear hiff hb hs0
        have HO8 := HO.out.on PY
        have r0 : w9.cell? ⟨w.heap.size, 0, none⟩ = some (.bool false) := (HO.out.on PY).cell 0
        have r1 : w9.cell? ⟨w.heap.size, 1, none⟩ = some (.slice none 0 0) := (HO.out.on PY).cell 1
        have r2 : w9.cell? ⟨w.heap.size, 2, none⟩ = some (.slice none 0 0) := (HO.out.on PY).cell 2
        have rf0 := (HO.out.on PY).frozen 0
        have rf1 := (HO.out.on PY).frozen 1
        have rf2 := (HO.out.on PY).frozen 2
        have I11 := isR_put I10 HO8 (.bool s8) (.slice A8 n8 c8) (.slice A9 n9 c9)
        have hon10 := on3 (g := w.heap.size) (P0.trans PY) (by omega) (.bool s8) (.slice A8 n8 c8) (.slice A9 n9 c9)
        clear HO8 PY
        go_wp2
        exact bodyPost_ret (v := .tuple #[.agg #[.bool s8, .slice A8 n8 c8, .slice A9 n9 c9], .int .i64 0]) (by simp [results, Try.results11, go_sem, r0, r1, r2]) rfl ⟨_, rfl, I11, hon10⟩
      · obtain rfl : o = none := hiff.2 hb
        have hs0 : ¬ str bs = s := fun e => hb (by rw [← e, bl_str bs (fun y hy => rtx_byte HTX y hy)])
        clear hiff hb
        have hs1 : ((str bs).toList == s.toList) = false := beq_eq_false_iff_ne.2 (fun e => hs0 (by rw [Lib.toList_data, Lib.toList_data] at e; exact ByteArray.ext (Array.toList_inj.1 e)))
        have PN := PY
        have r0 : w9.cell? ⟨w.heap.size, 0, none⟩ = some (.bool false) := (HO.out.on PN).cell 0
        have r1 : w9.cell? ⟨w.heap.size, 1, none⟩ = some (.slice none 0 0) := (HO.out.on PN).cell 1
        have r2 : w9.cell? ⟨w.heap.size, 2, none⟩ = some (.slice none 0 0) := (HO.out.on PN).cell 2
        have rf0 := (HO.out.on PN).frozen 0
        have rf1 := (HO.out.on PN).frozen 1
        have rf2 := (HO.out.on PN).frozen 2
        have hon := on3 (g := w.heap.size) (P0.trans PN) (by omega) (.bool false) (.slice none 0 0) (.slice none 0 0)
        have hon0 := P0.trans PN
        clear PN
        go_wp2
        exact bodyPost_ret (v := .tuple #[.agg #[.bool false, .slice none 0 0, .slice none 0 0], .int .i64 2]) (by simp [results, Try.results11, go_sem, r0, r1, r2]) rfl ⟨rfl, by first | exact hon | exact hon0⟩
    · obtain rfl : o = none := HNO.out hbad
      have PN := PW.trans (PA.trans (P2.trans P5))
      have r0 : w5.cell? ⟨w.heap.size, 0, none⟩ = some (.bool false) := (HO.out.on PN).cell 0
      have r1 : w5.cell? ⟨w.heap.size, 1, none⟩ = some (.slice none 0 0) := (HO.out.on PN).cell 1
      have r2 : w5.cell? ⟨w.heap.size, 2, none⟩ = some (.slice none 0 0) := (HO.out.on PN).cell 2
      have rf0 := (HO.out.on PN).frozen 0
      have rf1 := (HO.out.on PN).frozen 1
      have rf2 := (HO.out.on PN).frozen 2
      have hon := on3 (g := w.heap.size) (P0.trans PN) (by omega) (.bool false) (.slice none 0 0) (.slice none 0 0)
      have hon0 := P0.trans PN
      clear PN
      go_wp2
      exact bodyPost_ret (v := .tuple #[.agg #[.bool false, .slice none 0 0, .slice none 0 0], .int .i64 2]) (by simp [results, Try.results11, go_sem, r0, r1, r2]) rfl ⟨rfl, by first | exact hon | exact hon0⟩
set_option maxRecDepth 100000 in
set_option maxHeartbeats 1600000 in
theorem sp_en (w : World) (s : ByteArray) (hs : s.size ≤ 300) (hz : s.size = 0) (hd : (47 : UInt8) ∉ (s).data.toList) (o : Option Rat) (ho : WholeR false (bl (s)) = o) (hdec : ∀ w, Calls Try.prog 48 #[.string s] w fun e w' => ∃ v q r, e = .returned (.tuple #[v, .bool q]) ∧ IsR w' v r 300 ∧ (q = true → 64 < s.size) ∧ On w w') :
    Calls Try.prog 11 #[.string s] w (SOpt w o) := by
  have P0 := (On.refl w).alloc (.cells #[.bool false, .slice none 0 0, .slice none 0 0] 24)
  have HO := Lib.hid (Own.new w 24 #[.bool false, .slice none 0 0, .slice none 0 0])
  have e1 : s.toList = [] := (toList_nil_iff s).2 hz
  have hbl : bl s = (if false = true then [45] else []) ++ bl s := by
    rfl
  have HSAME : Hid (∀ bs, textB s = true → RTx (fr false (dv (bl s)) 1) bs → (bs = bl s → o = some (fr false (dv (bl s)) 1)) ∧ (¬ bs = bl s → o = none)) := Lib.hid (by
    intro bs h1 h4
    have k1 := textB_ok h1
    have hw : bs = bl s ↔ ¬ (false = true ∧ dv (bl s) = 0) := by exact whole_same k1 h4
    rw [← ho]
    unfold WholeR
    exact ⟨fun h => by rw [if_pos ⟨k1, hw.1 h⟩], fun h => by rw [if_neg (fun hh => h (hw.2 hh.2))]⟩)
  have HNO : Hid (textB s = false → o = none) := Lib.hid (by
    intro h
    rw [← ho]
    unfold WholeR
    rw [if_neg]
    rintro ⟨k1, _⟩
    unfold textB at h; exact of_decide_eq_false h k1)
  have HDD := Lib.hid hd
  clear hd ho hbl
  have HDEC := Lib.hid hdec
  clear hdec
  go_enter Try.func11, Try.ntmps11
  go_wp2_with fail
  refine (HDEC.out _).mono ?_
  rintro e w1 ⟨v1, q, r1, rfl, I1, hq, P1⟩
  obtain ⟨s1, A1, n1, c1, A2, n2, c2, rfl⟩ := isR_form8 I1
  clear I1
  have P1a := P1.trans ((On.refl w1).alloc (.cells #[.bool s1, .slice A1 n1 c1, .slice A2 n2 c2] 24))
  clear P1
  cases q
  · clear hq
    go_wp2
    go_quiet (fail)
    obtain ⟨W, hW, PW⟩ : ∃ W, ((w1.alloc (.cells #[.bool s1, .slice A1 n1 c1, .slice A2 n2 c2] 24)).drewN nq) = W ∧ On (w.alloc (.cells #[.bool false, .slice none 0 0, .slice none 0 0] 24)) W := ⟨_, rfl, P1a.drewN nq⟩
    rw [hW]
    clear hW P1a
    have PA := (On.refl W).alloc (.cells #[.int .u32 1] 72)
    have R1 := rd_one W 72 1 (by decide)
    go_wp2_with fail
    refine (find_no _ s 47 47 rfl (by omega) HDD.out).mono ?_
    rintro e w2 ⟨rfl, P2⟩
    go_wp2_with fail
    refine (rparse_any _ s (by omega)).mono ?_
    rintro e w5 (⟨hoka, A3, n3, c3, rfl, N3, P5⟩ | ⟨hbad, rfl, P5⟩)
    · exact absurd hoka (by rw [textB_nil s hz]; decide)
    · obtain rfl : o = none := HNO.out hbad
      have PN := PW.trans (PA.trans (P2.trans P5))
      have r0 : w5.cell? ⟨w.heap.size, 0, none⟩ = some (.bool false) := (HO.out.on PN).cell 0
      have r1 : w5.cell? ⟨w.heap.size, 1, none⟩ = some (.slice none 0 0) := (HO.out.on PN).cell 1
      have r2 : w5.cell? ⟨w.heap.size, 2, none⟩ = some (.slice none 0 0) := (HO.out.on PN).cell 2
      have rf0 := (HO.out.on PN).frozen 0
      have rf1 := (HO.out.on PN).frozen 1
      have rf2 := (HO.out.on PN).frozen 2
      have hon := on3 (g := w.heap.size) (P0.trans PN) (by omega) (.bool false) (.slice none 0 0) (.slice none 0 0)
      have hon0 := P0.trans PN
      clear PN
      go_wp2
      exact bodyPost_ret (v := .tuple #[.agg #[.bool false, .slice none 0 0, .slice none 0 0], .int .i64 2]) (by simp [results, Try.results11, go_sem, r0, r1, r2]) rfl ⟨rfl, by first | exact hon | exact hon0⟩
  · have h64 := hq rfl
    clear hq
    omega
end Num
end Go.Proofs.Ytkchpagjkgmpmaa
