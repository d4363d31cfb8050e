/-
  The statement FamilyRestricts, walked: covering after a restriction.
-/
import Derived.Test.YtibkpglgeincdaaSfb
import Derived.Test.YtibkpglgeincdaaSarr
namespace Go.Proofs.Ytibkpglgeincdaa.Sb
open Go.RowKit
set_option linter.unusedVariables false
set_option maxRecDepth 100000
theorem left_mem (k : List Nat) (f g z : Nat) : z ∈ left k f g ↔ ∃ x ∈ k, x &&& g = 0 ∧ without x f = z := by
  unfold left
  rw [List.mem_map]
  constructor
  · rintro ⟨x, hx, rfl⟩
    have := List.mem_filter.1 hx
    exact ⟨x, this.1, by simpa using this.2, rfl⟩
  · rintro ⟨x, hx, h0, rfl⟩
    exact ⟨x, List.mem_filter.2 ⟨hx, by simpa using h0⟩, rfl⟩
theorem disj_tb {a b : Nat} (h : a &&& b = 0) (i : Nat) : ¬ (a.testBit i = true ∧ b.testBit i = true) := by
  rintro ⟨h1, h2⟩
  have := congrArg (·.testBit i) h
  simp only [Nat.testBit_and, Nat.zero_testBit, h1, h2] at this
  cases this
theorem disj_of {a b : Nat} (h : ∀ i, ¬ (a.testBit i = true ∧ b.testBit i = true)) : a &&& b = 0 := by
  apply Nat.eq_of_testBit_eq
  intro i
  rw [Nat.testBit_and, Nat.zero_testBit]
  have := h i
  cases h1 : a.testBit i <;> cases h2 : b.testBit i <;> simp_all
theorem cov_left (k : List Nat) (f g s : Nat) (hfg : f &&& g = 0) (hsg : s &&& g = 0) : cov (left k f g) s = cov k (s ||| f) := by
  rw [Bool.eq_iff_iff, cov_iff, cov_iff]
  constructor
  · rintro ⟨z, hz, hs⟩
    obtain ⟨x, hx, h0, rfl⟩ := (left_mem k f g z).1 hz
    refine ⟨x, hx, (sub_tb _ _).2 fun i hi => ?_⟩
    rw [Nat.testBit_or]
    by_cases hf : f.testBit i = true
    · rw [hf]; simp
    · have := (sub_tb _ _).1 hs i (by rw [without_tb, hi]; simpa using hf)
      rw [this]; rfl
  · rintro ⟨x, hx, hs⟩
    refine ⟨without x f, (left_mem k f g _).2 ⟨x, hx, disj_of fun i ⟨h1, h2⟩ => ?_, rfl⟩, (sub_tb _ _).2 fun i hi => ?_⟩
    · have := (sub_tb _ _).1 hs i h1
      rw [Nat.testBit_or, Bool.or_eq_true] at this
      rcases this with h3 | h3
      · exact disj_tb hsg i ⟨h3, h2⟩
      · exact disj_tb hfg i ⟨h3, h2⟩
    · rw [without_tb, Bool.and_eq_true] at hi
      have := (sub_tb _ _).1 hs i hi.1
      rw [Nat.testBit_or, Bool.or_eq_true] at this
      rcases this with h3 | h3
      · exact h3
      · rw [h3] at hi; simp at hi
theorem orL_disj (l : List Nat) (g : Nat) (h : ∀ x ∈ l, x &&& g = 0) : orL l &&& g = 0 := by
  induction l with
  | nil => simp [orL]
  | cons x l ih =>
    refine disj_of fun i ⟨h1, h2⟩ => ?_
    simp only [orL] at h1
    rw [Nat.testBit_or, Bool.or_eq_true] at h1
    rcases h1 with h1 | h1
    · exact disj_tb (h x (List.mem_cons_self ..)) i ⟨h1, h2⟩
    · exact disj_tb (ih fun y hy => h y (List.mem_cons_of_mem _ hy)) i ⟨h1, h2⟩
theorem left_disj (k : List Nat) (f g : Nat) : orL (minL (left k f g)) &&& (f ||| g) = 0 := by
  refine orL_disj _ _ fun z hz => ?_
  obtain ⟨x, hx, h0, rfl⟩ := (left_mem k f g z).1 ((minL_mem _ _).1 hz).1
  refine disj_of fun i ⟨h1, h2⟩ => ?_
  rw [without_tb, Bool.and_eq_true] at h1
  rw [Nat.testBit_or, Bool.or_eq_true] at h2
  rcases h2 with h2 | h2
  · rw [h2] at h1; simp at h1
  · exact disj_tb h0 i ⟨h1.1, h2⟩
theorem without_disj (a b : Nat) : without a b &&& b = 0 := disj_of fun i ⟨h1, h2⟩ => by
  rw [without_tb, h2] at h1; simp at h1
theorem and_swap (a b : Nat) (h : a &&& b = 0) : b &&& a = 0 := by rw [Nat.and_comm]; exact h
theorem without_lt {a : Nat} (b : Nat) (h : a < 16777216) : without a b < 16777216 := Nat.lt_of_le_of_lt (without_le a b) h
set_option maxHeartbeats 4000000 in
theorem restricts_law (w : World) (A : Option Addr) (n c : Nat) (l : List Int) (x0 x1 s0 : Int) (h : Rd w A n c (VI l)) :
    Calls Try.prog 7 #[.slice A n c, .agg #[.int .i64 x0, .int .i64 x1], .int .i64 s0] w fun e w' => e = .returned (.bool true) ∧ On w w' := by
  have PB := (On.refl w).alloc (.cells #[.int .i64 x0, .int .i64 x1] 37)
  have hb := h.on PB
  have C0 : (w.alloc (.cells #[.int .i64 x0, .int .i64 x1] 37)).cell? ⟨w.heap.size, 0, none⟩ = some (.int .i64 x0) := by rw [(Own.new w 37 _).cell]; rfl
  have C1 : (w.alloc (.cells #[.int .i64 x0, .int .i64 x1] 37)).cell? ⟨w.heap.size, 1, none⟩ = some (.int .i64 x1) := by rw [(Own.new w 37 _).cell]; rfl
  have es : (w.alloc (.cells #[.int .i64 x0, .int .i64 x1] 37)).heap.size = w.heap.size + 1 := by simp
  have hA := fun W => awake_any W
  have hV := lvalid1 _ A n c l hb
  rw [es] at hV
  have P1 := (On.refl (w.alloc (.cells #[.int .i64 x0, .int .i64 x1] 37))).alloc (.cells #[.slice A n c] 22)
  by_cases hok : okS l = true
  · rw [hok] at hV
    obtain ⟨k, rfl, hk, hlk⟩ := okS_iff l hok
    have R1 := hb.on P1
    have D0 := (Below.cell P1 (p := ⟨w.heap.size, 0, none⟩) (by rw [es]; exact Nat.lt_succ_self _)).trans C0
    have D1 := (Below.cell P1 (p := ⟨w.heap.size, 1, none⟩) (by rw [es]; exact Nat.lt_succ_self _)).trans C1
    have PB1 := PB.trans P1
    have hlt : w.heap.size < ((w.alloc (.cells #[.int .i64 x0, .int .i64 x1] 37)).alloc (.cells #[.slice A n c] 22)).heap.size := by simp; omega
    obtain ⟨f, hf⟩ : ∃ f, cut x0 = f := ⟨_, rfl⟩
    obtain ⟨c1, hc1⟩ : ∃ f, cut x1 = f := ⟨_, rfl⟩
    obtain ⟨c2, hc2⟩ : ∃ f, cut s0 = f := ⟨_, rfl⟩
    have lf := cut_lt' x0
    have lc1 := cut_lt' x1
    have lc2 := cut_lt' s0
    have X0 := fun W => cut_any W x0
    have X1 := fun W => cut_any W x1
    have X2 := fun W => cut_any W s0
    rw [hf] at lf X0
    rw [hc1] at lc1 X1
    rw [hc2] at lc2 X2
    obtain ⟨g, hg⟩ : ∃ g, without c1 f = g := ⟨_, rfl⟩
    obtain ⟨s, hs⟩ : ∃ s, without c2 g = s := ⟨_, rfl⟩
    have N1 := andNot_nat c1 f (by omega) (by omega)
    have lg := without_lt f lc1
    have dfg := and_swap _ _ (without_disj c1 f)
    rw [hg] at N1 lg dfg
    have N2 := andNot_nat c2 g (by omega) (by omega)
    have ls := without_lt g lc2
    have dsg := without_disj c2 g
    rw [hs] at N2 ls dsg
    have N3 := or_step s f ls lf
    have N4 := or_step f g lf lg
    have lsf := or_lt24 ls lf
    have ll := left_len k f g
    have om := minL_ok (left_ok hk f g)
    have lm := min_len1 (Nat.le_trans ll (Nat.le_trans hlk (by omega)))
    have od := left_disj k f g
    have oo := orL_ok om
    have N5 := and_nat (orL (minL (left k f g))) (f ||| g) oo (or_lt24 lf lg)
    rw [od] at N5
    have hcv := cov_left k f g s dfg dsg
    have hcm := cov_min (left_ok hk f g) s
    rw [hcv] at hcm
    have hR := fun W hW => Restrict_ok W A n c k hW hk (by omega) f g lf lg dfg
    obtain ⟨M, hM⟩ : ∃ M, minL (left k f g) = M := ⟨_, rfl⟩
    simp only [hM] at hR
    rw [hM] at hcm om lm N5
    obtain ⟨fs, hfs⟩ : ∃ fs, s ||| f = fs := ⟨_, rfl⟩
    rw [hfs] at hcm N3 lsf
    obtain ⟨fg, hfg⟩ : ∃ fg, f ||| g = fg := ⟨_, rfl⟩
    rw [hfg] at N4 N5
    obtain ⟨oM, hoM⟩ : ∃ o, orL M = o := ⟨_, rfl⟩
    rw [hoM] at N5
    have HO := Lib.hid hoM
    have HCM := Lib.hid hcm
    clear hf hc1 hc2 hg hs hok h hb C0 C1 PB P1 od oo hcv hM hfs hfg hcm ll hoM dfg dsg es
    go_enter Try.func7, Try.ntmps7
    go_wp2_with fail
    refine hV.mono ?_
    rintro e w1 ⟨rfl, rfl⟩
    generalize ((w.alloc (.cells #[.int .i64 x0, .int .i64 x1] 37)).alloc (.cells #[.slice A n c] 22)) = w1 at *
    clear hV
    go_wp2_with fail
    refine (hA _).mono ?_
    rintro e w2 ⟨rfl, P2⟩
    have E0 := (Below.cell P2 (p := ⟨w.heap.size, 0, none⟩) hlt).trans D0
    have E1 := (Below.cell P2 (p := ⟨w.heap.size, 1, none⟩) hlt).trans D1
    have R2 := R1.on P2
    have PF := PB1.trans P2
    clear D0 D1 R1 PB1 hA P2 hlt
    go_wp2_with fail
    refine (X0 _).mono ?_
    rintro e w' ⟨rfl, rfl⟩
    go_wp2_with fail
    refine (X1 _).mono ?_
    rintro e w' ⟨rfl, rfl⟩
    go_wp2_with fail
    refine (X2 _).mono ?_
    rintro e w' ⟨rfl, rfl⟩
    clear X0 X1 X2 E0 E1
    go_wp2_with fail
    refine (hR _ R2).mono ?_
    rintro e w3 ⟨A3, n3, c3, rfl, R3, P3⟩
    clear hR
    have hC1 := Covers_ok w3 A3 n3 c3 _ R3 om lm s ls
    rw [HCM.out] at hC1
    go_wp2_with fail
    refine hC1.mono ?_
    rintro e w4 ⟨rfl, P4⟩
    have hC2 := Covers_ok w4 A n c k (R2.on (P3.trans P4)) hk (by omega) fs lsf
    clear hC1
    go_wp2_with fail
    refine hC2.mono ?_
    rintro e w5 ⟨rfl, P5⟩
    have hS := Support_ok w5 A3 n3 c3 _ (R3.on (P4.trans P5)) om lm
    rw [HO.out] at hS
    clear hC2
    go_wp2_with fail
    refine hS.mono ?_
    rintro e w6 ⟨rfl, P6⟩
    have PG := PF.trans (((P3.trans P4).trans P5).trans P6)
    clear hS R2 R3 PF P3 P4 P5 P6
    generalize cov k fs = b
    go_wp2
    go_ret
    exact ⟨rfl, PG⟩
  · have hok2 : okS l = false := by simpa using hok
    rw [hok2] at hV
    have PB1 := PB.trans P1
    clear hok hok2 C0 C1 es h hb
    go_enter Try.func7, Try.ntmps7
    go_wp2_with fail
    refine hV.mono ?_
    rintro e w1 ⟨rfl, rfl⟩
    generalize ((w.alloc (.cells #[.int .i64 x0, .int .i64 x1] 37)).alloc (.cells #[.slice A n c] 22)) = w1 at *
    clear hV
    go_wp2_with fail
    refine (hA _).mono ?_
    rintro e w2 ⟨rfl, P2⟩
    go_wp2
    go_ret
    exact ⟨rfl, PB1.trans P2⟩
end Go.Proofs.Ytibkpglgeincdaa.Sb
