/-
  Parse of the program and of the specification give the same.
-/
import Derived.Test.YtkchpagjkgmpmaaRspp
namespace Go.Proofs.Ytkchpagjkgmpmaa
open Go.RowKit
set_option linter.unusedVariables false
namespace Num
theorem dec_none (w : World) (s : ByteArray) (hs : s.size ≤ 300) {T : ByteArray} {D : List UInt8} {neg : Bool} (hh : Head s neg T) (hT : T.data.toList = D) (h : (46 : UInt8) ∉ D) : Calls Try.prog 48 #[.string s] w (DecPost w none) := by
  rcases hh with ⟨rfl, hz, ⟨_, e2⟩, rfl⟩ | ⟨rfl, rfl, h0 | ⟨hz, e2⟩⟩
  · exact dec_no_n w s hs hz e2 (by rw [hT]; exact h)
  · exact dec_no_e w _ hs h0 (by rw [hT]; exact h)
  · exact dec_no_p w _ hs hz e2 (by rw [hT]; exact h)
theorem dec_some (w : World) (s : ByteArray) (hs : s.size ≤ 300) {T : ByteArray} {D : List UInt8} {neg : Bool} (hh : Head s neg T) (hT : T.data.toList = D) (a b : List UInt8) (hab : D = a ++ 46 :: b) (ha : (46 : UInt8) ∉ a) : Calls Try.prog 48 #[.string s] w (DecPost w (DecR neg a b)) := by
  rcases hh with ⟨rfl, hz, ⟨_, e2⟩, rfl⟩ | ⟨rfl, rfl, h0 | ⟨hz, e2⟩⟩
  · exact dec_at_n w s hs hz e2 a b (by rw [hT]; exact hab) ha
  · exfalso
    have := dl_len T
    rw [hT, hab, h0] at this
    simp at this
  · exact dec_at_p w _ hs hz e2 a b (by rw [hT]; exact hab) ha
theorem dec_flag {s : ByteArray} {o : Option Rat} (h : ∀ w, Calls Try.prog 48 #[.string s] w (DecPost w o)) (hn : o = none ∨ 64 < s.size) : ∀ w, Calls Try.prog 48 #[.string s] w fun e w' => ∃ v q r, e = .returned (.tuple #[v, .bool q]) ∧ IsR w' v r 300 ∧ (q = true → 64 < s.size) ∧ On w w' := by
  intro w
  refine (h w).mono fun e w' hp => ?_
  cases o with
  | none => exact ⟨_, false, 0, hp.1, isR_zero _ _, (fun e => by cases e), hp.2⟩
  | some r =>
    obtain ⟨v, h1, h2, h3⟩ := hp
    rcases hn with hn | hn
    · cases hn
    · exact ⟨v, true, r, h1, h2, fun _ => hn, h3⟩
theorem sp_slash (w : World) (s : ByteArray) (hs : s.size ≤ 300) {T : ByteArray} {D : List UInt8} {neg : Bool} (hh : Head s neg T) (hT : T.data.toList = D) (a b : List UInt8) (hab : D = a ++ 47 :: b) (ha : (47 : UInt8) ∉ a) (hdec : ∀ w, Calls Try.prog 48 #[.string s] w fun e w' => ∃ v q r, e = .returned (.tuple #[v, .bool q]) ∧ IsR w' v r 300 ∧ (q = true → 64 < s.size) ∧ On w w') : Calls Try.prog 11 #[.string s] w (SOpt w (BrokenR neg (nl a) (nl b))) := by
  rcases hh with ⟨rfl, hz, ⟨_, e2⟩, rfl⟩ | ⟨rfl, rfl, h0 | ⟨hz, e2⟩⟩
  · exact sp_ny w s hs hz e2 a b (by rw [hT]; exact hab) ha _ rfl hdec
  · exfalso
    have := dl_len T
    rw [hT, hab, h0] at this
    simp at this
  · exact sp_py w _ hs hz e2 a b (by rw [hT]; exact hab) ha _ rfl hdec
theorem sp_plain (w : World) (s : ByteArray) (hs : s.size ≤ 300) {T : ByteArray} {D : List UInt8} {neg : Bool} (hh : Head s neg T) (hT : T.data.toList = D) (h : (47 : UInt8) ∉ D) (hdec : ∀ w, Calls Try.prog 48 #[.string s] w fun e w' => ∃ v q r, e = .returned (.tuple #[v, .bool q]) ∧ IsR w' v r 300 ∧ (q = true → 64 < s.size) ∧ On w w') : Calls Try.prog 11 #[.string s] w (SOpt w (WholeR neg (nl D))) := by
  have hb : bl T = nl D := by rw [← hT]; rfl
  rcases hh with ⟨rfl, hz, ⟨_, e2⟩, rfl⟩ | ⟨rfl, rfl, h0 | ⟨hz, e2⟩⟩
  · exact sp_nn w s hs hz e2 (by rw [hT]; exact h) _ (by rw [hb]) hdec
  · exact sp_en w _ hs h0 (by rw [hT]; exact h) _ (by rw [hb]) hdec
  · exact sp_pn w _ hs hz e2 (by rw [hT]; exact h) _ (by rw [hb]) hdec
set_option maxRecDepth 100000 in
set_option maxHeartbeats 1600000 in
theorem sp_dec (w : World) (s : ByteArray) (hs : s.size ≤ 64) (r : Rat) (hdec : ∀ w, Calls Try.prog 48 #[.string s] w (DecPost w (some r))) : Calls Try.prog 11 #[.string s] w (SOpt w (some r)) := by
  have P0 := (On.refl w).alloc (.cells #[.bool false, .slice none 0 0, .slice none 0 0] 24)
  have HO := Lib.hid (Own.new w 24 #[.bool false, .slice none 0 0, .slice none 0 0])
  have HDEC := Lib.hid hdec
  clear hdec
  go_enter Try.func11, Try.ntmps11
  go_wp2_with fail
  refine (HDEC.out _).mono ?_
  rintro e w1 ⟨v1, rfl, I1, P1⟩
  obtain ⟨s1, A1, n1, c1, A2, n2, c2, rfl⟩ := isR_form8 I1
  have PA := (On.refl w1).alloc (.cells #[.bool s1, .slice A1 n1 c1, .slice A2 n2 c2] 24)
  have PX := P1.trans PA
  have I2 := I1.on PA
  have OX := Own.new w1 24 #[.bool s1, .slice A1 n1 c1, .slice A2 n2 c2]
  have q0 : (w1.alloc (.cells #[.bool s1, .slice A1 n1 c1, .slice A2 n2 c2] 24)).cell? ⟨w1.heap.size, 0, none⟩ = some (.bool s1) := OX.cell 0
  have q1 : (w1.alloc (.cells #[.bool s1, .slice A1 n1 c1, .slice A2 n2 c2] 24)).cell? ⟨w1.heap.size, 1, none⟩ = some (.slice A1 n1 c1) := OX.cell 1
  have q2 : (w1.alloc (.cells #[.bool s1, .slice A1 n1 c1, .slice A2 n2 c2] 24)).cell? ⟨w1.heap.size, 2, none⟩ = some (.slice A2 n2 c2) := OX.cell 2
  have HO8 := HO.out.on PX
  have r0 : (w1.alloc (.cells #[.bool s1, .slice A1 n1 c1, .slice A2 n2 c2] 24)).cell? ⟨w.heap.size, 0, none⟩ = some (.bool false) := HO8.cell 0
  have r1 : (w1.alloc (.cells #[.bool s1, .slice A1 n1 c1, .slice A2 n2 c2] 24)).cell? ⟨w.heap.size, 1, none⟩ = some (.slice none 0 0) := HO8.cell 1
  have r2 : (w1.alloc (.cells #[.bool s1, .slice A1 n1 c1, .slice A2 n2 c2] 24)).cell? ⟨w.heap.size, 2, none⟩ = some (.slice none 0 0) := HO8.cell 2
  have rf0 := HO8.frozen 0
  have rf1 := HO8.frozen 1
  have rf2 := HO8.frozen 2
  have I11 := isR_put I2 HO8 (.bool s1) (.slice A1 n1 c1) (.slice A2 n2 c2)
  have hon10 := on3 (g := w.heap.size) (P0.trans PX) (by omega) (.bool s1) (.slice A1 n1 c1) (.slice A2 n2 c2)
  clear HO8 P1 PA PX I1 I2 OX
  go_wp2
  exact bodyPost_ret (v := .tuple #[.agg #[.bool s1, .slice A1 n1 c1, .slice A2 n2 c2], .int .i64 0]) (by simp [results, Try.results11, go_sem, r0, r1, r2]) rfl ⟨_, rfl, I11, hon10⟩
set_option maxRecDepth 100000 in
set_option maxHeartbeats 1600000 in
theorem sparse_big (w : World) (s : ByteArray) (hs : 65536 < s.size) (hs2 : s.size ≤ 9223372036854775807) : Calls Try.prog 11 #[.string s] w (RatPost2 w 0 300 (.int .i64 4)) := by
  have P0 := (On.refl w).alloc (.cells #[.bool false, .slice none 0 0, .slice none 0 0] 24)
  have HO8 := Own.new w 24 #[.bool false, .slice none 0 0, .slice none 0 0]
  have r0 : (w.alloc (.cells #[.bool false, .slice none 0 0, .slice none 0 0] 24)).cell? ⟨w.heap.size, 0, none⟩ = some (.bool false) := HO8.cell 0
  have r1 : (w.alloc (.cells #[.bool false, .slice none 0 0, .slice none 0 0] 24)).cell? ⟨w.heap.size, 1, none⟩ = some (.slice none 0 0) := HO8.cell 1
  have r2 : (w.alloc (.cells #[.bool false, .slice none 0 0, .slice none 0 0] 24)).cell? ⟨w.heap.size, 2, none⟩ = some (.slice none 0 0) := HO8.cell 2
  have rf0 := HO8.frozen 0
  have rf1 := HO8.frozen 1
  have rf2 := HO8.frozen 2
  have hon := on3 (g := w.heap.size) P0 (by omega) (.bool false) (.slice none 0 0) (.slice none 0 0)
  go_enter Try.func11, Try.ntmps11
  go_wp2
  exact bodyPost_ret (v := .tuple #[.agg #[.bool false, .slice none 0 0, .slice none 0 0], .int .i64 4]) (by simp [results, Try.results11, go_sem, r0, r1, r2]) rfl ⟨_, rfl, isR_zero _ _, by first | exact hon | exact P0⟩
set_option maxRecDepth 100000 in
set_option maxHeartbeats 1600000 in
theorem parse_big (w : World) (s : ByteArray) (hs : 65536 < s.size) (hs2 : s.size ≤ 9223372036854775807) : Calls Try.prog 10 #[.string s] w (RatPost2 w 0 300 (.iface 52 (.int .i64 4))) := by
  have P0 := (On.refl w).alloc (.cells #[.bool false, .slice none 0 0, .slice none 0 0] 24)
  have HO8 := Own.new w 24 #[.bool false, .slice none 0 0, .slice none 0 0]
  have r0 : (w.alloc (.cells #[.bool false, .slice none 0 0, .slice none 0 0] 24)).cell? ⟨w.heap.size, 0, none⟩ = some (.bool false) := HO8.cell 0
  have r1 : (w.alloc (.cells #[.bool false, .slice none 0 0, .slice none 0 0] 24)).cell? ⟨w.heap.size, 1, none⟩ = some (.slice none 0 0) := HO8.cell 1
  have r2 : (w.alloc (.cells #[.bool false, .slice none 0 0, .slice none 0 0] 24)).cell? ⟨w.heap.size, 2, none⟩ = some (.slice none 0 0) := HO8.cell 2
  have rf0 := HO8.frozen 0
  have rf1 := HO8.frozen 1
  have rf2 := HO8.frozen 2
  have hon := on3 (g := w.heap.size) P0 (by omega) (.bool false) (.slice none 0 0) (.slice none 0 0)
  go_enter Try.func10, Try.ntmps10
  go_wp2
  exact bodyPost_ret (v := .tuple #[.agg #[.bool false, .slice none 0 0, .slice none 0 0], .iface 52 (.int .i64 4)]) (by simp [results, Try.results10, go_sem, r0, r1, r2]) rfl ⟨_, rfl, isR_zero _ _, by first | exact hon | exact P0⟩
theorem dot_no {neg : Bool} {a b : List Nat} (h : 46 ∈ a ∨ 46 ∈ b) : BrokenR neg a b = none := by
  unfold BrokenR
  rw [if_neg]
  rintro ⟨h1, h2, _⟩
  rcases h with h | h
  · exact dig_no h1.text.digs (by decide) h
  · exact dig_no h2.text.digs (by decide) h
theorem dot_no2 {neg : Bool} {a : List Nat} (h : 46 ∈ a) : WholeR neg a = none := by
  unfold WholeR
  rw [if_neg]
  rintro ⟨h1, _⟩
  exact dig_no h1.text.digs (by decide) h
theorem mem_nl {l : List UInt8} (h : (46 : UInt8) ∈ l) : 46 ∈ nl l := List.mem_map.2 ⟨46, h, rfl⟩
/-- the two Parses, and what Num makes of the error -/
theorem parse_twin (s : ByteArray) (hs : s.size ≤ 200 ∨ 65536 < s.size) (hS : s.size ≤ 9223372036854775807) : ∃ (r : Rat) (er : Value) (z : Int), (∀ w, MX w → Calls Try.prog 10 #[.string s] w (RatPost2 w r 300 er)) ∧ (∀ w, Calls Try.prog 11 #[.string s] w (RatPost2 w r 300 (.int .i64 z))) ∧ ∀ w, Calls Try.prog 15 #[er] w fun e w' => e = .returned (.int .i64 z) ∧ w = w' := by
  rcases hs with hs | hs
  · obtain ⟨D, hD⟩ : ∃ D, Lib.trimPrefix s.data.toList [45] = D := ⟨_, rfl⟩
    obtain ⟨neg, hN⟩ : ∃ x, Lib.hasPrefix s.data.toList [45] = x := ⟨_, rfl⟩
    obtain ⟨T, hh, hT, hTs⟩ := head_of s hD hN
    have main : ∃ o : Option Rat, (∀ w, MX w → Calls Try.prog 10 #[.string s] w (OptPost w o 200)) ∧ (∀ w, Calls Try.prog 11 #[.string s] w (SOpt w o)) := by
      rcases split_at 46 D with h46 | ⟨a, b, hab, ha⟩
      · have hdec := dec_flag (fun w => dec_none w s (by omega) hh hT h46) (.inl rfl)
        rcases split_at 47 D with h47 | ⟨a, b, hab, ha⟩
        · exact ⟨_, fun w hx => parse_plain w hx s (by omega) D neg hD hN h46 h47, fun w => sp_plain w s (by omega) hh hT h47 hdec⟩
        · exact ⟨_, fun w hx => parse_slash w hx s (by omega) D neg hD hN h46 a b hab ha, fun w => sp_slash w s (by omega) hh hT a b hab ha hdec⟩
      · have hd := fun w => dec_some w s (by omega) hh hT a b hab ha
        have hp := fun w hx => parse_point w hx s (by omega) D neg hD hN a b hab ha
        by_cases hy : s.size ≤ 64 ∧ ∃ r, DecR neg a b = some r
        · obtain ⟨h64, r, hr⟩ := hy
          refine ⟨some r, fun w hx => ?_, fun w => sp_dec w s h64 r (fun w => by have := hd w; rwa [hr] at this)⟩
          have := hp w hx
          rwa [if_pos h64, hr] at this
        · have hno : (if s.size ≤ 64 then DecR neg a b else none) = none := by
            by_cases h64 : s.size ≤ 64
            · rw [if_pos h64]
              cases hq : DecR neg a b with
              | none => rfl
              | some r => exact absurd ⟨h64, r, hq⟩ hy
            · rw [if_neg h64]
          have hdec := dec_flag hd (by
            by_cases h64 : s.size ≤ 64
            · rw [if_pos h64] at hno; exact .inl hno
            · exact .inr (by omega))
          refine ⟨none, fun w hx => by have := hp w hx; rwa [hno] at this, fun w => ?_⟩
          have hm : (46 : UInt8) ∈ D := by rw [hab]; simp
          rcases split_at 47 D with h47 | ⟨a2, b2, hab2, ha2⟩
          · have := sp_plain w s (by omega) hh hT h47 hdec
            rwa [dot_no2 (mem_nl hm)] at this
          · have := sp_slash w s (by omega) hh hT a2 b2 hab2 ha2 hdec
            rw [hab2] at hm
            rwa [dot_no (by
              rcases List.mem_append.1 hm with h | h
              · exact .inl (mem_nl h)
              · rcases List.mem_cons.1 h with h | h
                · exact absurd h (by decide)
                · exact .inr (mem_nl h))] at this
    obtain ⟨o, h1, h2⟩ := main
    cases o with
    | none => exact ⟨0, _, 2, fun w hx => (h1 w hx).mono fun e w' h => ⟨_, h.1, isR_zero _ _, h.2⟩, fun w => (h2 w).mono fun e w' h => ⟨_, h.1, isR_zero _ _, h.2⟩, fun w => num_err w 2⟩
    | some r => exact ⟨r, _, 0, fun w hx => (h1 w hx).mono fun e w' ⟨v, h, I, o⟩ => ⟨v, h, I.wide (by decide), o⟩, h2, fun w => num_nil w⟩
  · exact ⟨0, _, 4, fun w hx => parse_big w s hs hS, fun w => sparse_big w s hs hS, fun w => num_err w 4⟩
end Num
end Go.Proofs.Ytkchpagjkgmpmaa
