/-
  NormalAssigned: a formula with events as constants, without the specification.
-/
import Derived.Test.YtmkogcaafkobaaaNmaM
import Derived.Test.YtmkogcaafkobaaaNjvM
namespace Go.Proofs.Ytmkogcaafkobaaa.Fm
open Go.RowKit Go.Proofs.Ytmkogcaafkobaaa.Sb
set_option linter.unusedVariables false
set_option maxRecDepth 100000
def cuY (v : Nat) (yes : Int) : Nat := cut yes % 2 ^ v
def cuN (v : Nat) (yes no : Int) : Nat := without (cut no % 2 ^ v) (cuY v yes)
theorem cuY_lt (v : Nat) (yes : Int) : cuY v yes < 2 ^ v := Nat.mod_lt _ (Nat.two_pow_pos v)
theorem cuN_lt (v : Nat) (yes no : Int) : cuN v yes no < 2 ^ v := Nat.lt_of_le_of_lt (without_le _ _) (Nat.mod_lt _ (Nat.two_pow_pos v))
theorem cu_and (v : Nat) (yes no : Int) : cuY v yes &&& cuN v yes no = 0 := by
  apply Nat.eq_of_testBit_eq
  intro i
  rw [Nat.testBit_and, Nat.zero_testBit]
  unfold cuN
  rw [without_tb]
  cases (cuY v yes).testBit i <;> simp
/-- the set with the events of y and without those of z -/
def mixA (v : Nat) (set : Int) (y z : Nat) : Nat := without (cut (bits .or .i64 set (y : Int)) % 2 ^ v) z
theorem mixA_lt (v : Nat) (set : Int) (y z : Nat) : mixA v set y z < 2 ^ v := Nat.lt_of_le_of_lt (without_le _ _) (Nat.mod_lt _ (Nat.two_pow_pos v))
theorem mixA_tb {v : Nat} (set : Int) {y : Nat} (z : Nat) (hy : y < 16777216) (a : Nat) (ha : a < v) : (mixA v set y z).testBit a = (!z.testBit a && (y.testBit a || (cut set % 2 ^ v).testBit a)) := by
  unfold mixA
  rw [without_tb, Nat.testBit_mod_two_pow, Nat.testBit_mod_two_pow, cut_or, cut_nat y hy, Nat.testBit_or, decide_eq_true ha]
  cases z.testBit a <;> cases y.testBit a <;> cases (cut set).testBit a <;> rfl
theorem wrap_sub1 (p : Nat) (h1 : 1 ≤ p) (h2 : p ≤ 16777216) : IntKind.i64.wrap ((p : Int) - 1) = (p : Int) - 1 := by rw [IntKind.wrap_i64]; omega
theorem fold_varsN {N : Nat} {f : Fn} (hf : WFb N f) : (fold f).vars = f.vars := by
  unfold fold
  split
  · rfl
  · split
    · rfl
    · rfl
set_option maxHeartbeats 16000000 in
theorem nassigned_ok (w : World) (f : Fn) (hf : WF f) (A : Option Addr) (n c : Nat) (h : RdN w A n c (rawL f.nodes)) (hl : lightB (rawL f.nodes) = true) (cy cn set : Int) :
    Calls Try.prog 5 #[.agg #[.int .i64 (f.vars : Int), .slice A n c, .int .i64 (f.top : Int)], .agg #[.int .i64 cy, .int .i64 cn], .int .i64 set] w fun e w' => e = .returned (.bool true) ∧ On w w' := by
  have hI1 : I64 (f.vars : Int) := by have := hf.1; unfold I64; omega
  have hI2 : I64 (f.top : Int) := by have := hf.1; have := hf.2.2.2; have := hf.2.1; unfold I64; omega
  obtain ⟨q, hq⟩ : ∃ q, w.heap.size = q := ⟨_, rfl⟩
  obtain ⟨w0, hw0⟩ : ∃ w0, (w.alloc (.cells #[.int .i64 (f.vars : Int), .slice A n c, .int .i64 (f.top : Int)] 24)).alloc (.cells #[.int .i64 cy, .int .i64 cn] 45) = w0 := ⟨_, rfl⟩
  have O0 : Own w0 q 24 #[.int .i64 (f.vars : Int), .slice A n c, .int .i64 (f.top : Int)] := by rw [← hw0, ← hq]; exact (Own.new _ _ _).alloc _
  have P0 : On w w0 := by rw [← hw0]; exact ((On.refl w).alloc _).alloc _
  have C0 : Own w0 (q + 1) 45 #[.int .i64 cy, .int .i64 cn] := by
    rw [← hw0, ← hq]
    have := Own.new (w.alloc (.cells #[.int .i64 (f.vars : Int), .slice A n c, .int .i64 (f.top : Int)] 24)) 45 #[.int .i64 cy, .int .i64 cn]
    simpa using this
  have hv24 := hf.1
  have hv64 : f.vars < 64 := by omega
  have e1 := shl_step f.vars hv24
  have hp24 := pow24 hv24
  have hp1 := pow_posN f.vars
  have hb1 := cuY_lt f.vars cy
  have hb2 := cuN_lt f.vars cy cn
  have hb3 : cut cn % 2 ^ f.vars < 2 ^ f.vars := Nat.mod_lt _ (Nat.two_pow_pos _)
  have ha1 : bits .and .i64 cy (((2 ^ f.vars : Nat) : Int) - 1) = (cuY f.vars cy : Nat) := and_allN cy f.vars hv24
  have ha2 := and_allN cn f.vars hv24
  have ha3 : bits .andNot .i64 ((cut cn % 2 ^ f.vars : Nat) : Int) (cuY f.vars cy : Nat) = (cuN f.vars cy cn : Nat) := andNot_nat _ _ (by omega) (by omega)
  have hdis := cu_and f.vars cy cn
  obtain ⟨y, hy⟩ : ∃ y, cuY f.vars cy = y := ⟨_, rfl⟩
  obtain ⟨z, hz⟩ : ∃ z, cuN f.vars cy cn = z := ⟨_, rfl⟩
  obtain ⟨b2, hb2e⟩ : ∃ b2, cut cn % 2 ^ f.vars = b2 := ⟨_, rfl⟩
  rw [hy] at ha1 ha3 hb1 hdis
  rw [hz] at ha3 hb2 hdis
  rw [hb2e] at ha2 ha3
  have hcu : cubErr f.vars (y : Int) (z : Int) = 0 := by
    have s1 : setB f.vars (y : Int) = true := by unfold setB; rw [Bool.and_eq_true, decide_eq_true_eq, decide_eq_true_eq]; omega
    have s2 : setB f.vars (z : Int) = true := by unfold setB; rw [Bool.and_eq_true, decide_eq_true_eq, decide_eq_true_eq]; omega
    unfold cubErr
    rw [s1, s2, and_nat y z (by omega) (by omega), hdis]
    simp
  have cAs := fun W R => nassign_ok W f hf A n c R y z hb1 hb2 hcu
  have hy24 : y < 16777216 := by omega
  have hz24 : z < 16777216 := by omega
  have hg1 := and_allN (bits .or .i64 set (y : Int)) f.vars hv24
  have hm1 : cut (bits .or .i64 set (y : Int)) % 2 ^ f.vars < 2 ^ f.vars := Nat.mod_lt _ (Nat.two_pow_pos _)
  have hg2 : bits .andNot .i64 ((cut (bits .or .i64 set (y : Int)) % 2 ^ f.vars : Nat) : Int) (z : Int) = (mixA f.vars set y z : Nat) := andNot_nat _ _ (by omega) (by omega)
  have hg3 := and_allN set f.vars hv24
  have hs1 : cut set % 2 ^ f.vars < 2 ^ f.vars := Nat.mod_lt _ (Nat.two_pow_pos _)
  have hmx := mixA_lt f.vars set y z
  have hval : val (assignF f y z) (cut set % 2 ^ f.vars) = val f (mixA f.vars set y z) := assignF_val hf fun a ha => mixA_tb set z hy24 a ha
  have hsup := assignF_sup hf y z
  have hwx := assignF_wf hf y z
  have cV1 := fun W R => value_ok W f hf A n c R (mixA f.vars set y z) hmx
  obtain ⟨XX, hXX⟩ : ∃ x, bits .or .i64 set (y : Int) = x := ⟨_, rfl⟩
  rw [hXX] at hg1 hg2
  obtain ⟨m1, hm1e⟩ : ∃ x, cut XX % 2 ^ f.vars = x := ⟨_, rfl⟩
  rw [hm1e] at hg1 hg2
  obtain ⟨mu, hmu⟩ : ∃ x, mixA f.vars set y z = x := ⟨_, rfl⟩
  rw [hmu] at hg2 hval cV1 hmx
  obtain ⟨s1, hs1e⟩ : ∃ x, cut set % 2 ^ f.vars = x := ⟨_, rfl⟩
  rw [hs1e] at hg3 hval hs1
  obtain ⟨x, hx⟩ : ∃ x, assignF f y z = x := ⟨_, rfl⟩
  rw [hx] at cAs hval hsup hwx
  have hxv : x.vars = f.vars := by rw [← hx]; rfl
  have cAw := fun W => awakeN_any W
  have cL := fun W (R : RdN W A n c (rawL f.nodes)) => light_any W (f.vars : Int) (f.top : Int) A n c _ R
  have cK := fun W (R : RdN W A n c (rawL f.nodes)) => check_any W (f.vars : Int) (f.top : Int) A n c _ R hI1 hI2
  rw [chk_ok hf, errV_zero] at cK
  rw [hl] at cL
  have cC := fun W => clip_any W f.vars hv24
  have cS := fun W A1 n1 c1 (hn : x.nodes.length = n1) (hle : n1 ≤ 128) R => support_ok W x (hwx.small (by omega)) A1 n1 c1 R
  have cV2 := fun W A1 n1 c1 (hle : x.nodes.length ≤ 128) R => value_ok W x (hwx.small hle) A1 n1 c1 R s1 (by rw [hxv]; exact hs1)
  have cF := fun W A1 n1 c1 (hle : x.nodes.length ≤ 128) R => nfold_ok W x (hwx.small hle) A1 n1 c1 R
  have hfv : ∀ (hle : x.nodes.length ≤ 128), val (fold x) s1 = val x s1 := fun hle => fold_val (hwx.small hle) s1
  have cV3 := fun W A1 n1 c1 (hle : x.nodes.length ≤ 128) (hle2 : (fold x).nodes.length ≤ 128) (hfx : (fold x).vars = x.vars) R => value_ok W (fold x) ((fold_wf (hwx.small hle)).small hle2) A1 n1 c1 R s1 (by rw [hfx, hxv]; exact hs1)
  have hfx : x.nodes.length ≤ 128 → (fold x).vars = x.vars := fun hle => fold_varsN (hwx.small hle)
  obtain ⟨p2, hp2⟩ : ∃ p2, 2 ^ f.vars = p2 := ⟨_, rfl⟩
  rw [hp2] at e1 hp24 hp1 ha1 ha2 hg1 hg3
  have ew := wrap_sub1 p2 hp1 hp24
  have hyz : bits .or .i64 (y : Int) (z : Int) = ((y ||| z : Nat) : Int) := or_nat y z (by omega) (by omega)
  have hyz24 : y ||| z < 16777216 := Nat.or_lt_two_pow (n := 24) hy24 hz24
  have hsz : bits .and .i64 ((sup x : Nat) : Int) ((y ||| z : Nat) : Int) = 0 := by
    rw [and_small _ _ hyz24]
    have : cut ((sup x : Nat) : Int) &&& (y ||| z) = 0 := by
      rw [cut_of_nat, show (16777216 : Nat) = 2 ^ 24 from rfl, ← Nat.and_two_pow_sub_one_eq_mod, Nat.and_assoc, Nat.and_comm (2 ^ 24 - 1), ← Nat.and_assoc, hsup, Nat.zero_and]
    rw [this]; rfl
  have E1 := Lib.hid (And.intro e1 ew)
  have E2 := Lib.hid (And.intro ha1 (And.intro ha2 ha3))
  have E3 := Lib.hid (And.intro hXX (And.intro hg1 (And.intro hg2 hg3)))
  have E4 := Lib.hid (And.intro hyz hsz)
  have EV := Lib.hid (And.intro hval (And.intro hfv hfx))
  have EX := Lib.hid (And.intro hxv hwx)
  have EC := Lib.hid (And.intro cAw (And.intro cL (And.intro cK (And.intro cC (And.intro cAs (And.intro cV1 (And.intro cV2 (And.intro cS (And.intro cF cV3)))))))))
  have HW := Lib.hid P0
  have HO := Lib.hid O0
  have HD2 := Lib.hid C0
  have HR := Lib.hid (h.on P0)
  have hp1' := hp1
  clear P0 O0 C0 h e1 ew ha1 ha2 ha3 hXX hg1 hg2 hg3 hyz hsz hval hfv hfx hxv hwx cAw cL cK cC cAs cV1 cV2 cS cF cV3 hdis hcu hb1 hb2 hb3 hm1 hm1e hmu hs1 hs1e hmx hsup hx hy hz hb2e hp2 hy24 hz24 hyz24 hp24 hp1 hp1' hl hf hI1 hI2
  go_enter Try.func5, Try.ntmps5
  subst hq
  have hQ := EC.out.1 w0
  go_wp2_with fail
  refine hQ.mono ?_
  rintro e v1 ⟨rfl, P1⟩
  clear hQ
  replace HW := Lib.hid (HW.out.trans P1)
  replace HO := Lib.hid (HO.out.on P1)
  replace HD2 := Lib.hid (HD2.out.on P1)
  replace HR := Lib.hid (HR.out.on P1)
  clear P1
  obtain ⟨HOc0, HOc1, HOc2⟩ := own3 HO.out
  have hQ := EC.out.2.1 v1 HR.out
  go_wp2_with fail
  refine hQ.mono ?_
  rintro e v2 ⟨rfl, P2⟩
  clear hQ
  clear HOc0 HOc1 HOc2
  replace HW := Lib.hid (HW.out.trans P2)
  replace HO := Lib.hid (HO.out.on P2)
  replace HD2 := Lib.hid (HD2.out.on P2)
  replace HR := Lib.hid (HR.out.on P2)
  clear P2
  obtain ⟨HOc0, HOc1, HOc2⟩ := own3 HO.out
  have hQ := EC.out.2.2.1 v2 HR.out
  go_wp2_with fail
  refine hQ.mono ?_
  rintro e v3 ⟨rfl, P3⟩
  clear hQ
  clear HOc0 HOc1 HOc2
  replace HW := Lib.hid (HW.out.trans P3)
  replace HO := Lib.hid (HO.out.on P3)
  replace HD2 := Lib.hid (HD2.out.on P3)
  replace HR := Lib.hid (HR.out.on P3)
  clear P3
  obtain ⟨HOc0, HOc1, HOc2⟩ := own3 HO.out
  have hQ := EC.out.2.2.2.1 v3
  go_wp2_with fail
  refine hQ.mono ?_
  rintro e v4 ⟨rfl, rfl⟩
  clear hQ
  clear HOc0 HOc1 HOc2
  have e1 := E1.out.1
  have ew := E1.out.2
  go_upto_region 4 with fail
  clear e1
  clear ew
  obtain ⟨HD2c0, HD2c1⟩ := own2 HD2.out
  have ha := E2.out.1
  go_upto_region 5 with fail
  clear ha
  clear HD2c0 HD2c1
  obtain ⟨HD2c0, HD2c1⟩ := own2 HD2.out
  have ha2 := E2.out.2.1
  have ha3 := E2.out.2.2
  go_upto_region 6 with fail
  clear ha2
  clear ha3
  clear HD2c0 HD2c1
  obtain ⟨HOc0, HOc1, HOc2⟩ := own3 HO.out
  have hQ := EC.out.2.2.2.2.1 v3 HR.out
  go_wp2_with fail
  refine hQ.mono ?_
  rintro e v5 ⟨hM, P5⟩
  clear hQ
  clear HOc0 HOc1 HOc2
  replace HW := Lib.hid (HW.out.trans P5)
  replace HO := Lib.hid (HO.out.on P5)
  replace HD2 := Lib.hid (HD2.out.on P5)
  replace HR := Lib.hid (HR.out.on P5)
  clear P5
  rcases hM with ⟨hle, A1, c1, rfl, X4⟩ | ⟨hgt, rfl⟩
  rotate_left
  · rw [errV_pos 4 (by decide)]
    have Z0 : Own (v5.alloc (.cells #[.int .i64 0, .slice none 0 0, .int .i64 0] 24)) v5.heap.size 24 #[.int .i64 0, .slice none 0 0, .int .i64 0] := Own.new _ _ _
    obtain ⟨k0, k1, k2⟩ := own3 Z0
    have f0 := Z0.frozen 0
    have f1 := Z0.frozen 1
    have f2 := Z0.frozen 2
    go_upto_region 7 with fail
    clear k0 k1 k2 f0 f1 f2 Z0
    have OZ := Own.new v5 24 #[.int .i64 0, .slice none 0 0, .int .i64 0]
    have P6 := (On.refl v5).alloc (.cells #[.int .i64 0, .slice none 0 0, .int .i64 0] 24)
    obtain ⟨v6, hwz⟩ : ∃ z, v5.alloc (.cells #[.int .i64 0, .slice none 0 0, .int .i64 0] 24) = z := ⟨_, rfl⟩
    rw [hwz] at OZ P6 ⊢
    clear hwz
    replace HW := Lib.hid (HW.out.trans P6)
    replace HO := Lib.hid (HO.out.on P6)
    replace HD2 := Lib.hid (HD2.out.on P6)
    replace HR := Lib.hid (HR.out.on P6)
    have HX := Lib.hid (OZ)
    obtain ⟨bHX, hbHX⟩ : ∃ z, v5.heap.size = z := ⟨_, rfl⟩
    rw [hbHX] at HX ⊢
    clear hbHX OZ P6
    have hQ := is_err v6 4
    go_wp2_with fail
    refine hQ.mono ?_
    rintro e v7 ⟨rfl, rfl⟩
    clear hQ
    go_wp2
    go_ret
    exact ⟨rfl, HW.out⟩
  have hvx := EX.out.1
  have hwxx := EX.out.2.small hle
  have hvv := EV.out
  have hV2 := fun W A1 n1 c1 R => EC.out.2.2.2.2.2.2.1 W A1 n1 c1 hle R
  have hS := fun W A1 n1 c1 hn hl2 R => EC.out.2.2.2.2.2.2.2.1 W A1 n1 c1 hn hl2 R
  have hFo := fun W A1 n1 c1 R => EC.out.2.2.2.2.2.2.2.2.1 W A1 n1 c1 hle R
  have hV3 := fun W A1 n1 c1 hle2 R => EC.out.2.2.2.2.2.2.2.2.2 W A1 n1 c1 hle hle2 (EV.out.2.2 hle) R
  have hev := EV.out.2.1 hle
  have hv1 := EV.out.1
  have hfx := EV.out.2.2 hle
  obtain ⟨n1, hn1⟩ : ∃ n1, x.nodes.length = n1 := ⟨_, rfl⟩
  obtain ⟨t1, ht1⟩ : ∃ t1, x.top = t1 := ⟨_, rfl⟩
  obtain ⟨g, hg⟩ : ∃ g, fold x = g := ⟨_, rfl⟩
  obtain ⟨bv, hbv⟩ : ∃ b, val x s1 = b := ⟨_, rfl⟩
  have hcV1 := EC.out.2.2.2.2.2.1
  rw [hbv] at hv1 hev
  rw [← hv1] at hcV1
  rw [hg] at hFo hV3 hev hfx
  rw [hev] at hV3
  rw [hn1] at hle X4 ⊢
  rw [hfx, hvx] at hV3
  rw [hvx, ht1] at hV2 hS hFo
  rw [hbv] at hV2
  rw [hvx, ht1]
  have hS2 := fun W A1 c1 R => hS W A1 n1 c1 hn1 hle R
  have HM := Lib.hid (And.intro hcV1 (And.intro hV2 (And.intro hS2 (And.intro hFo (And.intro hV3 (And.intro hfx hvx))))))
  have hcap := X4.cap
  have hmax := X4.max
  clear hV2 hS hFo hV3 hev hv1 hfx hn1 ht1 hg hbv hcV1 hS2 hvx hwxx hvv EC EX EV
  have HX4 := Lib.hid (X4)
  clear X4
  have Z0 : Own (v5.alloc (.cells #[.int .i64 0, .slice none 0 0, .int .i64 0] 24)) v5.heap.size 24 #[.int .i64 0, .slice none 0 0, .int .i64 0] := Own.new _ _ _
  obtain ⟨k0, k1, k2⟩ := own3 Z0
  have f0 := Z0.frozen 0
  have f1 := Z0.frozen 1
  have f2 := Z0.frozen 2
  go_upto_region 7 with fail
  clear k0 k1 k2 f0 f1 f2 Z0
  have OZ := Own.new v5 24 #[.int .i64 (f.vars : Int), .slice A1 n1 c1, .int .i64 (t1 : Int)]
  have P6 := (On.refl v5).alloc (.cells #[.int .i64 (f.vars : Int), .slice A1 n1 c1, .int .i64 (t1 : Int)] 24)
  obtain ⟨v6, hwz⟩ : ∃ z, v5.alloc (.cells #[.int .i64 (f.vars : Int), .slice A1 n1 c1, .int .i64 (t1 : Int)] 24) = z := ⟨_, rfl⟩
  rw [hwz] at OZ P6 ⊢
  clear hwz
  replace HW := Lib.hid (HW.out.trans P6)
  replace HO := Lib.hid (HO.out.on P6)
  replace HD2 := Lib.hid (HD2.out.on P6)
  replace HR := Lib.hid (HR.out.on P6)
  replace HX4 := Lib.hid (HX4.out.on P6)
  have HX := Lib.hid (OZ)
  obtain ⟨bHX, hbHX⟩ : ∃ z, v5.heap.size = z := ⟨_, rfl⟩
  rw [hbHX] at HX ⊢
  clear hbHX OZ P6
  obtain ⟨HOc0, HOc1, HOc2⟩ := own3 HO.out
  have g0 := E3.out.1
  have g1 := E3.out.2.1
  have g2 := E3.out.2.2.1
  have hQ := HM.out.1 v6 HR.out
  go_wp2_with fail
  refine hQ.mono ?_
  rintro e v7 ⟨rfl, P7⟩
  clear hQ
  clear g0
  clear g1
  clear g2
  clear HOc0 HOc1 HOc2
  replace HW := Lib.hid (HW.out.trans P7)
  replace HO := Lib.hid (HO.out.on P7)
  replace HD2 := Lib.hid (HD2.out.on P7)
  replace HR := Lib.hid (HR.out.on P7)
  replace HX4 := Lib.hid (HX4.out.on P7)
  replace HX := Lib.hid (HX.out.on P7)
  clear P7
  obtain ⟨HXc0, HXc1, HXc2⟩ := own3 HX.out
  have g3 := E3.out.2.2.2
  have hQ := HM.out.2.1 v7 A1 n1 c1 HX4.out
  go_wp2_with fail
  refine hQ.mono ?_
  rintro e v8 ⟨rfl, P8⟩
  clear hQ
  clear g3
  clear HXc0 HXc1 HXc2
  replace HW := Lib.hid (HW.out.trans P8)
  replace HO := Lib.hid (HO.out.on P8)
  replace HD2 := Lib.hid (HD2.out.on P8)
  replace HR := Lib.hid (HR.out.on P8)
  replace HX4 := Lib.hid (HX4.out.on P8)
  replace HX := Lib.hid (HX.out.on P8)
  clear P8
  obtain ⟨HXc0, HXc1, HXc2⟩ := own3 HX.out
  have hQ := HM.out.2.2.1 v8 A1 c1 HX4.out
  go_wp2_with fail
  refine hQ.mono ?_
  rintro e v9 ⟨rfl, P9⟩
  clear hQ
  clear HXc0 HXc1 HXc2
  replace HW := Lib.hid (HW.out.trans P9)
  replace HO := Lib.hid (HO.out.on P9)
  replace HD2 := Lib.hid (HD2.out.on P9)
  replace HR := Lib.hid (HR.out.on P9)
  replace HX4 := Lib.hid (HX4.out.on P9)
  replace HX := Lib.hid (HX.out.on P9)
  clear P9
  have i1 := E4.out.1
  have i2 := E4.out.2
  have hbb := (by cases bv <;> rfl : (bv != bv) = false)
  go_upto_region 14 with fail
  clear i1
  clear i2
  clear hbb
  obtain ⟨HXc0, HXc1, HXc2⟩ := own3 HX.out
  have hQ := HM.out.2.2.2.1 v9 A1 n1 c1 HX4.out
  go_wp2_with fail
  refine hQ.mono ?_
  rintro e v10 ⟨hM, P10⟩
  clear hQ
  clear HXc0 HXc1 HXc2
  replace HW := Lib.hid (HW.out.trans P10)
  replace HO := Lib.hid (HO.out.on P10)
  replace HD2 := Lib.hid (HD2.out.on P10)
  replace HR := Lib.hid (HR.out.on P10)
  replace HX4 := Lib.hid (HX4.out.on P10)
  replace HX := Lib.hid (HX.out.on P10)
  clear P10
  rcases hM with ⟨hle2, A2, c2, rfl, Y4⟩ | ⟨hgt, rfl⟩
  rotate_left
  · rw [errV_pos 4 (by decide)]
    have Z0 : Own (v10.alloc (.cells #[.int .i64 0, .slice none 0 0, .int .i64 0] 24)) v10.heap.size 24 #[.int .i64 0, .slice none 0 0, .int .i64 0] := Own.new _ _ _
    obtain ⟨k0, k1, k2⟩ := own3 Z0
    have f0 := Z0.frozen 0
    have f1 := Z0.frozen 1
    have f2 := Z0.frozen 2
    go_upto_region 15 with fail
    clear k0 k1 k2 f0 f1 f2 Z0
    have OZ := Own.new v10 24 #[.int .i64 0, .slice none 0 0, .int .i64 0]
    have P11 := (On.refl v10).alloc (.cells #[.int .i64 0, .slice none 0 0, .int .i64 0] 24)
    obtain ⟨v11, hwz⟩ : ∃ z, v10.alloc (.cells #[.int .i64 0, .slice none 0 0, .int .i64 0] 24) = z := ⟨_, rfl⟩
    rw [hwz] at OZ P11 ⊢
    clear hwz
    replace HW := Lib.hid (HW.out.trans P11)
    replace HO := Lib.hid (HO.out.on P11)
    replace HD2 := Lib.hid (HD2.out.on P11)
    replace HR := Lib.hid (HR.out.on P11)
    replace HX4 := Lib.hid (HX4.out.on P11)
    replace HX := Lib.hid (HX.out.on P11)
    have HY := Lib.hid (OZ)
    obtain ⟨bHY, hbHY⟩ : ∃ z, v10.heap.size = z := ⟨_, rfl⟩
    rw [hbHY] at HY ⊢
    clear hbHY OZ P11
    have hQ := is_err v11 4
    go_wp2_with fail
    refine hQ.mono ?_
    rintro e v12 ⟨rfl, rfl⟩
    clear hQ
    go_wp2
    go_ret
    exact ⟨rfl, HW.out⟩
  have hV3 := fun W A1 n1 c1 R => HM.out.2.2.2.2.1 W A1 n1 c1 hle2 R
  obtain ⟨n2, hn2⟩ : ∃ n1, g.nodes.length = n1 := ⟨_, rfl⟩
  obtain ⟨t2, ht2⟩ : ∃ t1, g.top = t1 := ⟨_, rfl⟩
  rw [hn2] at hle2 Y4 ⊢
  rw [ht2] at hV3
  rw [HM.out.2.2.2.2.2.1, HM.out.2.2.2.2.2.2, ht2]
  have HM2 := Lib.hid hV3
  have hcap2 := Y4.cap
  have hmax2 := Y4.max
  clear hV3 hn2 ht2
  have HY4 := Lib.hid (Y4)
  clear Y4
  have Z0 : Own (v10.alloc (.cells #[.int .i64 0, .slice none 0 0, .int .i64 0] 24)) v10.heap.size 24 #[.int .i64 0, .slice none 0 0, .int .i64 0] := Own.new _ _ _
  obtain ⟨k0, k1, k2⟩ := own3 Z0
  have f0 := Z0.frozen 0
  have f1 := Z0.frozen 1
  have f2 := Z0.frozen 2
  go_upto_region 15 with fail
  clear k0 k1 k2 f0 f1 f2 Z0
  have OZ := Own.new v10 24 #[.int .i64 (f.vars : Int), .slice A2 n2 c2, .int .i64 (t2 : Int)]
  have P11 := (On.refl v10).alloc (.cells #[.int .i64 (f.vars : Int), .slice A2 n2 c2, .int .i64 (t2 : Int)] 24)
  obtain ⟨v11, hwz⟩ : ∃ z, v10.alloc (.cells #[.int .i64 (f.vars : Int), .slice A2 n2 c2, .int .i64 (t2 : Int)] 24) = z := ⟨_, rfl⟩
  rw [hwz] at OZ P11 ⊢
  clear hwz
  replace HW := Lib.hid (HW.out.trans P11)
  replace HO := Lib.hid (HO.out.on P11)
  replace HD2 := Lib.hid (HD2.out.on P11)
  replace HR := Lib.hid (HR.out.on P11)
  replace HX4 := Lib.hid (HX4.out.on P11)
  replace HX := Lib.hid (HX.out.on P11)
  replace HY4 := Lib.hid (HY4.out.on P11)
  have HY := Lib.hid (OZ)
  obtain ⟨bHY, hbHY⟩ : ∃ z, v10.heap.size = z := ⟨_, rfl⟩
  rw [hbHY] at HY ⊢
  clear hbHY OZ P11
  obtain ⟨HYc0, HYc1, HYc2⟩ := own3 HY.out
  have g3 := E3.out.2.2.2
  have hQ := HM2.out v11 A2 n2 c2 HY4.out
  go_wp2_with fail
  refine hQ.mono ?_
  rintro e v12 ⟨rfl, P12⟩
  clear hQ
  clear g3
  clear HYc0 HYc1 HYc2
  replace HW := Lib.hid (HW.out.trans P12)
  replace HO := Lib.hid (HO.out.on P12)
  replace HD2 := Lib.hid (HD2.out.on P12)
  replace HR := Lib.hid (HR.out.on P12)
  replace HX4 := Lib.hid (HX4.out.on P12)
  replace HX := Lib.hid (HX.out.on P12)
  replace HY4 := Lib.hid (HY4.out.on P12)
  replace HY := Lib.hid (HY.out.on P12)
  clear P12
  go_wp2
  go_ret
  exact ⟨by simp, HW.out⟩
set_option maxHeartbeats 8000000 in
theorem nassigned_dark (w : World) (vars top : Int) (A : Option Addr) (n c : Nat) (xs : List Nd) (h : RdN w A n c xs) (hv : I64 vars) (ht : I64 top) (hl : lightB xs = false) (cy cn set : Int) :
    Calls Try.prog 5 #[.agg #[.int .i64 vars, .slice A n c, .int .i64 top], .agg #[.int .i64 cy, .int .i64 cn], .int .i64 set] w fun e w' => e = .returned (.bool true) ∧ On w w' := by
  obtain ⟨q, hq⟩ : ∃ q, w.heap.size = q := ⟨_, rfl⟩
  obtain ⟨w0, hw0⟩ : ∃ w0, (w.alloc (.cells #[.int .i64 vars, .slice A n c, .int .i64 top] 24)).alloc (.cells #[.int .i64 cy, .int .i64 cn] 45) = w0 := ⟨_, rfl⟩
  have O0 : Own w0 q 24 #[.int .i64 vars, .slice A n c, .int .i64 top] := by rw [← hw0, ← hq]; exact (Own.new _ _ _).alloc _
  have P0 : On w w0 := by rw [← hw0]; exact (((On.refl w).alloc _).alloc _)
  have cAw := fun W => awakeN_any W
  have cL := fun W (R : RdN W A n c xs) => light_any W vars top A n c xs R
  have cK := fun W (R : RdN W A n c xs) => check_any W vars top A n c xs R hv ht
  rw [hl] at cL
  have EC := Lib.hid (And.intro cAw (And.intro cL cK))
  have HW := Lib.hid P0
  have HO := Lib.hid O0
  have HR := Lib.hid (h.on P0)
  clear P0 O0 h cAw cL cK hl hv ht
  go_enter Try.func5, Try.ntmps5
  subst hq
  have hQ := EC.out.1 w0
  go_wp2_with fail
  refine hQ.mono ?_
  rintro e v1 ⟨rfl, P1⟩
  clear hQ
  replace HW := Lib.hid (HW.out.trans P1)
  replace HO := Lib.hid (HO.out.on P1)
  replace HR := Lib.hid (HR.out.on P1)
  clear P1
  obtain ⟨HOc0, HOc1, HOc2⟩ := own3 HO.out
  have hQ := EC.out.2.1 v1 HR.out
  go_wp2_with fail
  refine hQ.mono ?_
  rintro e v2 ⟨rfl, P2⟩
  clear hQ
  clear HOc0 HOc1 HOc2
  replace HW := Lib.hid (HW.out.trans P2)
  replace HO := Lib.hid (HO.out.on P2)
  replace HR := Lib.hid (HR.out.on P2)
  clear P2
  have hQ := EC.out.1 v2
  go_wp2_with fail
  refine hQ.mono ?_
  rintro e v3 ⟨rfl, P3⟩
  clear hQ
  replace HW := Lib.hid (HW.out.trans P3)
  replace HO := Lib.hid (HO.out.on P3)
  replace HR := Lib.hid (HR.out.on P3)
  clear P3
  go_wp2
  go_ret
  exact ⟨rfl, HW.out⟩
set_option maxHeartbeats 8000000 in
theorem nassigned_bad (w : World) (vars top : Int) (A : Option Addr) (n c : Nat) (xs : List Nd) (h : RdN w A n c xs) (hv : I64 vars) (ht : I64 top) (hl : lightB xs = true) (hc : chk vars xs top ≠ 0) (cy cn set : Int) :
    Calls Try.prog 5 #[.agg #[.int .i64 vars, .slice A n c, .int .i64 top], .agg #[.int .i64 cy, .int .i64 cn], .int .i64 set] w fun e w' => e = .returned (.bool true) ∧ On w w' := by
  obtain ⟨q, hq⟩ : ∃ q, w.heap.size = q := ⟨_, rfl⟩
  obtain ⟨w0, hw0⟩ : ∃ w0, (w.alloc (.cells #[.int .i64 vars, .slice A n c, .int .i64 top] 24)).alloc (.cells #[.int .i64 cy, .int .i64 cn] 45) = w0 := ⟨_, rfl⟩
  have O0 : Own w0 q 24 #[.int .i64 vars, .slice A n c, .int .i64 top] := by rw [← hw0, ← hq]; exact (Own.new _ _ _).alloc _
  have P0 : On w w0 := by rw [← hw0]; exact (((On.refl w).alloc _).alloc _)
  have cAw := fun W => awakeN_any W
  have cL := fun W (R : RdN W A n c xs) => light_any W vars top A n c xs R
  have cK := fun W (R : RdN W A n c xs) => check_any W vars top A n c xs R hv ht
  rw [hl] at cL
  obtain ⟨er, her⟩ : ∃ er, chk vars xs top = er := ⟨_, rfl⟩
  rw [her] at cK hc
  rw [errV_pos er hc] at cK
  clear her hc
  have EC := Lib.hid (And.intro cAw (And.intro cL cK))
  have HW := Lib.hid P0
  have HO := Lib.hid O0
  have HR := Lib.hid (h.on P0)
  clear P0 O0 h cAw cL cK hl hv ht
  go_enter Try.func5, Try.ntmps5
  subst hq
  have hQ := EC.out.1 w0
  go_wp2_with fail
  refine hQ.mono ?_
  rintro e v1 ⟨rfl, P1⟩
  clear hQ
  replace HW := Lib.hid (HW.out.trans P1)
  replace HO := Lib.hid (HO.out.on P1)
  replace HR := Lib.hid (HR.out.on P1)
  clear P1
  obtain ⟨HOc0, HOc1, HOc2⟩ := own3 HO.out
  have hQ := EC.out.2.1 v1 HR.out
  go_wp2_with fail
  refine hQ.mono ?_
  rintro e v2 ⟨rfl, P2⟩
  clear hQ
  clear HOc0 HOc1 HOc2
  replace HW := Lib.hid (HW.out.trans P2)
  replace HO := Lib.hid (HO.out.on P2)
  replace HR := Lib.hid (HR.out.on P2)
  clear P2
  obtain ⟨HOc0, HOc1, HOc2⟩ := own3 HO.out
  have hQ := EC.out.2.2 v2 HR.out
  go_wp2_with fail
  refine hQ.mono ?_
  rintro e v3 ⟨rfl, P3⟩
  clear hQ
  clear HOc0 HOc1 HOc2
  replace HW := Lib.hid (HW.out.trans P3)
  replace HO := Lib.hid (HO.out.on P3)
  replace HR := Lib.hid (HR.out.on P3)
  clear P3
  have hQ := EC.out.1 v3
  go_wp2_with fail
  refine hQ.mono ?_
  rintro e v4 ⟨rfl, P4⟩
  clear hQ
  replace HW := Lib.hid (HW.out.trans P4)
  replace HO := Lib.hid (HO.out.on P4)
  replace HR := Lib.hid (HR.out.on P4)
  clear P4
  go_wp2
  go_ret
  exact ⟨rfl, HW.out⟩
theorem nassignedL_any (w : World) (vars top : Int) (A : Option Addr) (n c : Nat) (xs : List Nd) (h : RdN w A n c xs) (hv : I64 vars) (ht : I64 top) (cy cn set : Int) :
    Calls Try.prog 5 #[.agg #[.int .i64 vars, .slice A n c, .int .i64 top], .agg #[.int .i64 cy, .int .i64 cn], .int .i64 set] w fun e w' => e = .returned (.bool true) ∧ On w w' := by
  cases hl : lightB xs with
  | false => exact nassigned_dark w vars top A n c xs h hv ht hl cy cn set
  | true =>
    by_cases hc : chk vars xs top = 0
    · obtain ⟨f, hf, rfl, rfl, rfl⟩ := chk_zero hc
      exact nassigned_ok w f hf A n c h hl cy cn set
    · exact nassigned_bad w vars top A n c xs h hv ht hl hc cy cn set
end Go.Proofs.Ytmkogcaafkobaaa.Fm
