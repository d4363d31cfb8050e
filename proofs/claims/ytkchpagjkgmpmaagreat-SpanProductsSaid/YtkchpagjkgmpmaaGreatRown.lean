/-
  own: a fraction in memory of its own.
-/
import Derived.Test.YtkchpagjkgmpmaaGreatReg
import Derived.Test.YtkchpagjkgmpmaaGreatRatB
namespace Go.Proofs.YtkchpagjkgmpmaaGreat
open Go.RowKit
set_option linter.unusedVariables false
namespace Num
set_option maxRecDepth 100000 in
set_option maxHeartbeats 800000 in
theorem own_any (w : World) (v : Value) (r : Rat) (L : Nat) (h : IsR w v r L) (hL : L ≤ 100000) :
    Calls Tryz.prog 93 #[v] w (RatPost w r L) := by
  obtain ⟨A, n, c, xs, A', n', c', ys, rfl, R, R', C, C', h1, h2, h3, h4⟩ := id h
  have HI : Hid (∀ W B1 d1 B2 d2, Rd W B1 n d1 xs → Rd W B2 n' d2 ys → IsR W (.agg #[.bool (decide (r < 0)), .slice B1 n d1, .slice B2 n' d2]) r L) := Lib.hid (fun W B1 d1 B2 d2 k1 k2 => ⟨B1, n, d1, xs, B2, n', d2, ys, rfl, k1, k2, C, C', h1, h2, h3, h4⟩)
  obtain ⟨b, hb⟩ : ∃ b, decide (r < 0) = b := ⟨_, rfl⟩
  rw [hb] at HI ⊢
  clear h hb h3 h4 C C'
  have B := ((On.refl w).alloc (.cells #[.bool b, .slice A n c, .slice A' n' c'] 24)).alloc (.cells #[.bool false, .slice none 0 0, .slice none 0 0] 24)
  have OB1 : w.heap.size ≤ w.heap.size ∧ _ := ⟨Nat.le_refl _, (Own.new w 24 #[.bool b, .slice A n c, .slice A' n' c']).on ((On.refl _).alloc (.cells #[.bool false, .slice none 0 0, .slice none 0 0] 24))⟩
  have OB2 : w.heap.size ≤ w.heap.size + 1 ∧ _ := ⟨Nat.le_succ _, own_nextr w (.cells #[.bool b, .slice A n c, .slice A' n' c'] 24) 24 #[.bool false, .slice none 0 0, .slice none 0 0]⟩
  go_enter Tryz.func93, Tryz.ntmps93
  go_wp2
  refine wp_region_facts (by kernel_rfl) w [Fact.eq (.pointer (some ⟨w.heap.size, 0, none⟩)), Fact.eq (.bool b), Fact.eq (.pointer (some ⟨w.heap.size, 1, none⟩)), Fact.eq (.slice A n c), Fact.rd (n) (xs), Fact.eq (.pointer (some ⟨w.heap.size, 2, none⟩)), Fact.eq (.slice A' n' c'), Fact.rd (n') (ys), Fact.rat (r) (L), Fact.any] [Fact.any, Fact.rat (r) (L)] [⟨10, 1, 24, 10, #[.bool b, .slice A n c, .slice A' n' c']⟩, ⟨10, 2, 24, 9, #[.bool false, .slice none 0 0, .slice none 0 0]⟩] [w.heap.size, w.heap.size + 1] [none, none, none, some 3, some 4, some 5, some 6, some 7, some 8, some 9, some 10, some 11] (by kernel_rfl) (by kernel_rfl) (by kernel_rfl) rfl B ?_ ?_ ?_ ?_ ?_
  · exact ⟨fun _ => ⟨by simp, rfl, OB1⟩, fun _ => ⟨by simp, rfl, OB2⟩, trivial⟩
  · exact .inr (by simp <;> omega)
  · exact ⟨⟨noWords_R _ _ _ _ _ _ _, (.inl (Nat.le_refl _)), (.inl (Nat.le_refl _))⟩, ⟨noWords_R _ _ _ _ _ _ _, (.inl (Nat.le_refl _)), (.inr (store_ob (j := 8) (noWords_R _ _ _ _ _ _ _) rfl rfl rfl (by kernel_rfl) rfl rfl rfl))⟩, trivial⟩
  · refine ⟨?_, ?_, ?_, ?_, ?_, ?_, ?_, ?_, ?_, ?_, trivial⟩
    · exact .inr fun a w hp => ob_yes rfl (ob_fieldR (hp.box (k := 0) rfl (Nat.le_refl _) (.inl (Nat.le_refl _)) (by kernel_rfl) rfl).1 (by decide) rfl)
    · exact .inr fun a w hp => ob_yes rfl (ob_loadB (hp.fact 0 3 (by kernel_rfl) rfl) (hp.box (k := 0) rfl (Nat.le_refl _) (.inl (Nat.le_refl _)) (by kernel_rfl) rfl).2 rfl rfl)
    · exact .inr fun a w hp => ob_yes rfl (ob_fieldR (hp.box (k := 0) rfl (Nat.le_refl _) (.inl (Nat.le_refl _)) (by kernel_rfl) rfl).1 (by decide) rfl)
    · exact .inr fun a w hp => ob_yes rfl (ob_loadS (hp.fact 2 5 (by kernel_rfl) rfl) (hp.box (k := 0) rfl (Nat.le_refl _) (.inl (Nat.le_refl _)) (by kernel_rfl) rfl).2 rfl rfl)
    · refine .inr fun a w hp => ob_yes rfl ?_
      have h6 : a.tmps.getD 6 undef = .slice A n c := (hp.fact 3 6 (by kernel_rfl) rfl)
      unfold Does
      go_simp
      refine (clone_any _ A n c xs (R.on hp.on) (by omega)).mono ?_
      rintro e w' ⟨A8, c8, rfl, R8, P8, _⟩
      exact ⟨_, rfl, P8, A8, c8, rfl, R8⟩
    · exact .inr fun a w hp => ob_yes rfl (ob_fieldR (hp.box (k := 0) rfl (Nat.le_refl _) (.inl (Nat.le_refl _)) (by kernel_rfl) rfl).1 (by decide) rfl)
    · exact .inr fun a w hp => ob_yes rfl (ob_loadS (hp.fact 5 8 (by kernel_rfl) rfl) (hp.box (k := 0) rfl (Nat.le_refl _) (.inl (Nat.le_refl _)) (by kernel_rfl) rfl).2 rfl rfl)
    · refine .inr fun a w hp => ob_yes rfl ?_
      have h9 : a.tmps.getD 9 undef = .slice A' n' c' := (hp.fact 6 9 (by kernel_rfl) rfl)
      unfold Does
      go_simp
      refine (clone_any _ A' n' c' ys (R'.on hp.on) (by omega)).mono ?_
      rintro e w' ⟨A8, c8, rfl, R8, P8, _⟩
      exact ⟨_, rfl, P8, A8, c8, rfl, R8⟩
    · refine .inr fun a w hp => ob_yes rfl ?_
      have h4 : a.tmps.getD 4 undef = .bool b := (hp.fact 1 4 (by kernel_rfl) rfl)
      obtain ⟨A7, c7, e7, h7⟩ : ∃ A c, a.tmps.getD 7 undef = .slice A (n) c ∧ Rd w A (n) c (xs) := (hp.fact 4 7 (by kernel_rfl) rfl)
      obtain ⟨A10, c10, e10, h10⟩ : ∃ A c, a.tmps.getD 10 undef = .slice A (n') c ∧ Rd w A (n') c (ys) := (hp.fact 7 10 (by kernel_rfl) rfl)
      refine ob_buildR h4 e7 e10 ?_
      exact HI.out w _ _ _ _ h7 h10
    · exact .inl rfl
  · intro f wr hon hk hf hb hap
    obtain ⟨q0, q1, qz⟩ := hb
    clear qz
    have O1 : Own wr (w.heap.size) 24 #[.bool b, .slice A n c, .slice A' n' c'] := q0
    have c1_0 : wr.cell? ⟨w.heap.size, 0, none⟩ = some (.bool b) := O1.cell 0
    have z1_0 := O1.frozen 0
    have c1_1 : wr.cell? ⟨w.heap.size, 1, none⟩ = some (.slice A n c) := O1.cell 1
    have z1_1 := O1.frozen 1
    have c1_2 : wr.cell? ⟨w.heap.size, 2, none⟩ = some (.slice A' n' c') := O1.cell 2
    have z1_2 := O1.frozen 2
    clear q0
    obtain ⟨cur2, O2, I2⟩ : ∃ cur, Own wr (w.heap.size + 1) 24 cur ∧ IsR wr (.agg cur) (r) (L) := q1
    obtain ⟨P2, Pn2, Pc2, _, R2, Rn2, Rc2, _, hz2, _⟩ := id I2
    injection hz2 with hz2
    subst hz2
    have c2_0 : wr.cell? ⟨w.heap.size + 1, 0, none⟩ = some (.bool (decide (r < 0))) := O2.cell 0
    have z2_0 := O2.frozen 0
    have c2_1 : wr.cell? ⟨w.heap.size + 1, 1, none⟩ = some (.slice P2 Pn2 Pc2) := O2.cell 1
    have z2_1 := O2.frozen 1
    have c2_2 : wr.cell? ⟨w.heap.size + 1, 2, none⟩ = some (.slice R2 Rn2 Rc2) := O2.cell 2
    have z2_2 := O2.frozen 2
    clear hf hap
    simp only [fillL]
    go_wp2
    exact bodyPost_ret (v := .agg #[.bool (decide (r < 0)), .slice P2 Pn2 Pc2, .slice R2 Rn2 Rc2]) (by simp [results, Tryz.results93, go_sem, c2_0, c2_1, c2_2]) rfl ⟨_, rfl, I2, hon⟩
end Num
end Go.Proofs.YtkchpagjkgmpmaaGreat
