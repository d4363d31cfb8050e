/-
  NormalReplaced: an event replaced by a formula, without the specification.
-/
import Derived.Test.YtmkogcaafkobaaaNasdM
import Derived.BigQuiet
namespace Go.Proofs.Ytmkogcaafkobaaa.Fm
open Go.RowKit Go.Proofs.Ytmkogcaafkobaaa.Sb
set_option linter.unusedVariables false
set_option maxRecDepth 100000
theorem u64_nat (x : Int) : ∃ a : Nat, IntKind.u64.wrap x = (a : Int) ∧ a < 18446744073709551616 := ⟨(IntKind.u64.wrap x).toNat, by rw [IntKind.wrap_u64]; omega, by rw [IntKind.wrap_u64]; omega⟩
theorem rem_nat (a v : Nat) : ((a : Int) % (v : Int)) = ((a % v : Nat) : Int) := (Int.natCast_emod a v).symm
theorem u64n' (v : Nat) (h : v < 1000) : IntKind.u64.wrap (v : Int) = (v : Int) := by rw [IntKind.wrap_u64]; omega
theorem i64n' (v : Nat) (h : v < 1000) : IntKind.i64.wrap (v : Int) = (v : Int) := by rw [IntKind.wrap_i64]; omega
theorem replaceF_wf {N M : Nat} {f g : Fn} (hf : WFb N f) (hg : WFb M g) (hvv : g.vars = f.vars) (e : Nat) (he : e < f.vars) : WFb (g.nodes.length + f.nodes.length) (replaceF f e g) := by
  have hgl : okL f.vars g.nodes := by rw [← hvv]; exact hg.2.2.1
  have htop : g.top < f.vars + g.nodes.length := by have := hg.2.2.2; omega
  refine joined_wf hf (repL_len _ _ _) (fun a ha => ?_) hgl
  unfold repL
  rw [mapRange_get _ _ ha]
  unfold repV
  split <;> omega
theorem boxes3 {w w0 : World} {q : Nat} {a b c a2 b2 c2 x y : Value} (hq : w.heap.size = q) (h : ((w.alloc (.cells #[a, b, c] 24)).alloc (.cells #[a2, b2, c2] 24)).alloc (.cells #[x, y] 45) = w0) : Own w0 q 24 #[a, b, c] ∧ Own w0 (q + 1) 24 #[a2, b2, c2] ∧ Own w0 (q + 1 + 1) 45 #[x, y] ∧ On w w0 := by
  subst hq; subst h
  refine ⟨((Own.new _ _ _).alloc _).alloc _, ?_, ?_, (((On.refl w).alloc _).alloc _).alloc _⟩
  · have := Own.new (w.alloc (.cells #[a, b, c] 24)) 24 #[a2, b2, c2]
    exact (show Own ((w.alloc (.cells #[a, b, c] 24)).alloc (.cells #[a2, b2, c2] 24)) (w.heap.size + 1) 24 #[a2, b2, c2] by simpa using this).alloc _
  · have := Own.new ((w.alloc (.cells #[a, b, c] 24)).alloc (.cells #[a2, b2, c2] 24)) 45 #[x, y]
    simpa using this
set_option maxHeartbeats 8000000 in
theorem nreplaced_l1 (w : World) (vars top : Int) (A : Option Addr) (n c : Nat) (xs : List Nd) (h : RdN w A n c xs) (hv : I64 vars) (ht : I64 top) (gvars gtop : Int) (B : Option Addr) (m d : Nat) (ys : List Nd) (h2 : RdN w B m d ys) (hgv : I64 gvars) (hgt : I64 gtop) (x0 x1 : Int) (hl : lightB xs = false) :
    Calls Try.prog 6 #[.agg #[.int .i64 vars, .slice A n c, .int .i64 top], .agg #[.int .i64 gvars, .slice B m d, .int .i64 gtop], .agg #[.int .i64 x0, .int .i64 x1]] w fun e w' => e = .returned (.bool true) ∧ On w w' := by
  obtain ⟨q, hq⟩ : ∃ q, w.heap.size = q := ⟨_, rfl⟩
  obtain ⟨w0, hw0⟩ : ∃ w0, ((w.alloc (.cells #[.int .i64 vars, .slice A n c, .int .i64 top] 24)).alloc (.cells #[.int .i64 gvars, .slice B m d, .int .i64 gtop] 24)).alloc (.cells #[.int .i64 x0, .int .i64 x1] 45) = w0 := ⟨_, rfl⟩
  obtain ⟨O0, G0, C0, P0⟩ := boxes3 hq hw0
  have cAw := fun W => awakeN_any W
  have cL := fun W (R : RdN W A n c xs) => light_any W vars top A n c xs R
  have cK := fun W (R : RdN W A n c xs) => check_any W vars top A n c xs R hv ht
  have cM := fun W (R : RdN W B m d ys) => light_any W gvars gtop B m d ys R
  have cN := fun W (R : RdN W B m d ys) => check_any W gvars gtop B m d ys R hgv hgt
  rw [hl] at cL
  have EC := Lib.hid (And.intro cAw (And.intro cL (And.intro cM (And.intro cK cN))))
  have HW := Lib.hid P0
  have HO := Lib.hid O0
  have HG := Lib.hid G0
  have HR := Lib.hid (h.on P0)
  have HS := Lib.hid (h2.on P0)
  clear P0 O0 G0 C0 h h2 cAw cL cK cM cN hv ht hgv hgt hl
  go_enter Try.func6, Try.ntmps6
  subst hq
  have hQ := EC.out.1 w0
  go_wp2_with fail
  refine hQ.mono ?_
  rintro e v1 ⟨rfl, P1⟩
  clear hQ
  replace HW := Lib.hid (HW.out.trans P1)
  replace HO := Lib.hid (HO.out.on P1)
  replace HG := Lib.hid (HG.out.on P1)
  replace HR := Lib.hid (HR.out.on P1)
  replace HS := Lib.hid (HS.out.on P1)
  clear P1
  obtain ⟨HOc0, HOc1, HOc2⟩ := own3 HO.out
  have hQ := EC.out.2.1 v1 HR.out
  go_wp2_with fail
  refine hQ.mono ?_
  rintro e v2 ⟨rfl, P2⟩
  clear hQ
  clear HOc0 HOc1 HOc2
  replace HW := Lib.hid (HW.out.trans P2)
  replace HO := Lib.hid (HO.out.on P2)
  replace HG := Lib.hid (HG.out.on P2)
  replace HR := Lib.hid (HR.out.on P2)
  replace HS := Lib.hid (HS.out.on P2)
  clear P2
  have hQ := EC.out.1 v2
  go_wp2_with fail
  refine hQ.mono ?_
  rintro e v3 ⟨rfl, P3⟩
  clear hQ
  replace HW := Lib.hid (HW.out.trans P3)
  replace HO := Lib.hid (HO.out.on P3)
  replace HG := Lib.hid (HG.out.on P3)
  replace HR := Lib.hid (HR.out.on P3)
  replace HS := Lib.hid (HS.out.on P3)
  clear P3
  go_wp2
  go_ret
  exact ⟨rfl, HW.out⟩
set_option maxHeartbeats 8000000 in
theorem nreplaced_l2 (w : World) (vars top : Int) (A : Option Addr) (n c : Nat) (xs : List Nd) (h : RdN w A n c xs) (hv : I64 vars) (ht : I64 top) (gvars gtop : Int) (B : Option Addr) (m d : Nat) (ys : List Nd) (h2 : RdN w B m d ys) (hgv : I64 gvars) (hgt : I64 gtop) (x0 x1 : Int) (hl : lightB xs = true) (hm : lightB ys = false) :
    Calls Try.prog 6 #[.agg #[.int .i64 vars, .slice A n c, .int .i64 top], .agg #[.int .i64 gvars, .slice B m d, .int .i64 gtop], .agg #[.int .i64 x0, .int .i64 x1]] w fun e w' => e = .returned (.bool true) ∧ On w w' := by
  obtain ⟨q, hq⟩ : ∃ q, w.heap.size = q := ⟨_, rfl⟩
  obtain ⟨w0, hw0⟩ : ∃ w0, ((w.alloc (.cells #[.int .i64 vars, .slice A n c, .int .i64 top] 24)).alloc (.cells #[.int .i64 gvars, .slice B m d, .int .i64 gtop] 24)).alloc (.cells #[.int .i64 x0, .int .i64 x1] 45) = w0 := ⟨_, rfl⟩
  obtain ⟨O0, G0, C0, P0⟩ := boxes3 hq hw0
  have cAw := fun W => awakeN_any W
  have cL := fun W (R : RdN W A n c xs) => light_any W vars top A n c xs R
  have cK := fun W (R : RdN W A n c xs) => check_any W vars top A n c xs R hv ht
  have cM := fun W (R : RdN W B m d ys) => light_any W gvars gtop B m d ys R
  have cN := fun W (R : RdN W B m d ys) => check_any W gvars gtop B m d ys R hgv hgt
  rw [hl] at cL
  rw [hm] at cM
  have EC := Lib.hid (And.intro cAw (And.intro cL (And.intro cM (And.intro cK cN))))
  have HW := Lib.hid P0
  have HO := Lib.hid O0
  have HG := Lib.hid G0
  have HR := Lib.hid (h.on P0)
  have HS := Lib.hid (h2.on P0)
  clear P0 O0 G0 C0 h h2 cAw cL cK cM cN hv ht hgv hgt hl hm
  go_enter Try.func6, Try.ntmps6
  subst hq
  have hQ := EC.out.1 w0
  go_wp2_with fail
  refine hQ.mono ?_
  rintro e v1 ⟨rfl, P1⟩
  clear hQ
  replace HW := Lib.hid (HW.out.trans P1)
  replace HO := Lib.hid (HO.out.on P1)
  replace HG := Lib.hid (HG.out.on P1)
  replace HR := Lib.hid (HR.out.on P1)
  replace HS := Lib.hid (HS.out.on P1)
  clear P1
  obtain ⟨HOc0, HOc1, HOc2⟩ := own3 HO.out
  have hQ := EC.out.2.1 v1 HR.out
  go_wp2_with fail
  refine hQ.mono ?_
  rintro e v2 ⟨rfl, P2⟩
  clear hQ
  clear HOc0 HOc1 HOc2
  replace HW := Lib.hid (HW.out.trans P2)
  replace HO := Lib.hid (HO.out.on P2)
  replace HG := Lib.hid (HG.out.on P2)
  replace HR := Lib.hid (HR.out.on P2)
  replace HS := Lib.hid (HS.out.on P2)
  clear P2
  obtain ⟨HGc0, HGc1, HGc2⟩ := own3 HG.out
  have hQ := EC.out.2.2.1 v2 HS.out
  go_wp2_with fail
  refine hQ.mono ?_
  rintro e v3 ⟨rfl, P3⟩
  clear hQ
  clear HGc0 HGc1 HGc2
  replace HW := Lib.hid (HW.out.trans P3)
  replace HO := Lib.hid (HO.out.on P3)
  replace HG := Lib.hid (HG.out.on P3)
  replace HR := Lib.hid (HR.out.on P3)
  replace HS := Lib.hid (HS.out.on P3)
  clear P3
  have hQ := EC.out.1 v3
  go_wp2_with fail
  refine hQ.mono ?_
  rintro e v4 ⟨rfl, P4⟩
  clear hQ
  replace HW := Lib.hid (HW.out.trans P4)
  replace HO := Lib.hid (HO.out.on P4)
  replace HG := Lib.hid (HG.out.on P4)
  replace HR := Lib.hid (HR.out.on P4)
  replace HS := Lib.hid (HS.out.on P4)
  clear P4
  go_wp2
  go_ret
  exact ⟨rfl, HW.out⟩
set_option maxHeartbeats 8000000 in
theorem nreplaced_c1 (w : World) (vars top : Int) (A : Option Addr) (n c : Nat) (xs : List Nd) (h : RdN w A n c xs) (hv : I64 vars) (ht : I64 top) (gvars gtop : Int) (B : Option Addr) (m d : Nat) (ys : List Nd) (h2 : RdN w B m d ys) (hgv : I64 gvars) (hgt : I64 gtop) (x0 x1 : Int) (hl : lightB xs = true) (hm : lightB ys = true) (hc : chk vars xs top ≠ 0) :
    Calls Try.prog 6 #[.agg #[.int .i64 vars, .slice A n c, .int .i64 top], .agg #[.int .i64 gvars, .slice B m d, .int .i64 gtop], .agg #[.int .i64 x0, .int .i64 x1]] w fun e w' => e = .returned (.bool true) ∧ On w w' := by
  obtain ⟨q, hq⟩ : ∃ q, w.heap.size = q := ⟨_, rfl⟩
  obtain ⟨w0, hw0⟩ : ∃ w0, ((w.alloc (.cells #[.int .i64 vars, .slice A n c, .int .i64 top] 24)).alloc (.cells #[.int .i64 gvars, .slice B m d, .int .i64 gtop] 24)).alloc (.cells #[.int .i64 x0, .int .i64 x1] 45) = w0 := ⟨_, rfl⟩
  obtain ⟨O0, G0, C0, P0⟩ := boxes3 hq hw0
  have cAw := fun W => awakeN_any W
  have cL := fun W (R : RdN W A n c xs) => light_any W vars top A n c xs R
  have cK := fun W (R : RdN W A n c xs) => check_any W vars top A n c xs R hv ht
  have cM := fun W (R : RdN W B m d ys) => light_any W gvars gtop B m d ys R
  have cN := fun W (R : RdN W B m d ys) => check_any W gvars gtop B m d ys R hgv hgt
  rw [hl] at cL
  rw [hm] at cM
  obtain ⟨er, her⟩ : ∃ er, chk vars xs top = er := ⟨_, rfl⟩
  rw [her] at cK hc
  rw [errV_pos er hc] at cK
  have EC := Lib.hid (And.intro cAw (And.intro cL (And.intro cM (And.intro cK cN))))
  have HW := Lib.hid P0
  have HO := Lib.hid O0
  have HG := Lib.hid G0
  have HR := Lib.hid (h.on P0)
  have HS := Lib.hid (h2.on P0)
  clear P0 O0 G0 C0 h h2 cAw cL cK cM cN hv ht hgv hgt hl hm hc her
  go_enter Try.func6, Try.ntmps6
  subst hq
  have hQ := EC.out.1 w0
  go_wp2_with fail
  refine hQ.mono ?_
  rintro e v1 ⟨rfl, P1⟩
  clear hQ
  replace HW := Lib.hid (HW.out.trans P1)
  replace HO := Lib.hid (HO.out.on P1)
  replace HG := Lib.hid (HG.out.on P1)
  replace HR := Lib.hid (HR.out.on P1)
  replace HS := Lib.hid (HS.out.on P1)
  clear P1
  obtain ⟨HOc0, HOc1, HOc2⟩ := own3 HO.out
  have hQ := EC.out.2.1 v1 HR.out
  go_wp2_with fail
  refine hQ.mono ?_
  rintro e v2 ⟨rfl, P2⟩
  clear hQ
  clear HOc0 HOc1 HOc2
  replace HW := Lib.hid (HW.out.trans P2)
  replace HO := Lib.hid (HO.out.on P2)
  replace HG := Lib.hid (HG.out.on P2)
  replace HR := Lib.hid (HR.out.on P2)
  replace HS := Lib.hid (HS.out.on P2)
  clear P2
  obtain ⟨HGc0, HGc1, HGc2⟩ := own3 HG.out
  have hQ := EC.out.2.2.1 v2 HS.out
  go_wp2_with fail
  refine hQ.mono ?_
  rintro e v3 ⟨rfl, P3⟩
  clear hQ
  clear HGc0 HGc1 HGc2
  replace HW := Lib.hid (HW.out.trans P3)
  replace HO := Lib.hid (HO.out.on P3)
  replace HG := Lib.hid (HG.out.on P3)
  replace HR := Lib.hid (HR.out.on P3)
  replace HS := Lib.hid (HS.out.on P3)
  clear P3
  obtain ⟨HOc0, HOc1, HOc2⟩ := own3 HO.out
  have hQ := EC.out.2.2.2.1 v3 HR.out
  go_wp2_with fail
  refine hQ.mono ?_
  rintro e v4 ⟨rfl, P4⟩
  clear hQ
  clear HOc0 HOc1 HOc2
  replace HW := Lib.hid (HW.out.trans P4)
  replace HO := Lib.hid (HO.out.on P4)
  replace HG := Lib.hid (HG.out.on P4)
  replace HR := Lib.hid (HR.out.on P4)
  replace HS := Lib.hid (HS.out.on P4)
  clear P4
  have hQ := EC.out.1 v4
  go_wp2_with fail
  refine hQ.mono ?_
  rintro e v5 ⟨rfl, P5⟩
  clear hQ
  replace HW := Lib.hid (HW.out.trans P5)
  replace HO := Lib.hid (HO.out.on P5)
  replace HG := Lib.hid (HG.out.on P5)
  replace HR := Lib.hid (HR.out.on P5)
  replace HS := Lib.hid (HS.out.on P5)
  clear P5
  go_wp2
  go_ret
  exact ⟨rfl, HW.out⟩
set_option maxHeartbeats 8000000 in
theorem nreplaced_c2 (w : World) (vars top : Int) (A : Option Addr) (n c : Nat) (xs : List Nd) (h : RdN w A n c xs) (hv : I64 vars) (ht : I64 top) (gvars gtop : Int) (B : Option Addr) (m d : Nat) (ys : List Nd) (h2 : RdN w B m d ys) (hgv : I64 gvars) (hgt : I64 gtop) (x0 x1 : Int) (hl : lightB xs = true) (hm : lightB ys = true) (hc : chk vars xs top = 0) (hd : chk gvars ys gtop ≠ 0) :
    Calls Try.prog 6 #[.agg #[.int .i64 vars, .slice A n c, .int .i64 top], .agg #[.int .i64 gvars, .slice B m d, .int .i64 gtop], .agg #[.int .i64 x0, .int .i64 x1]] w fun e w' => e = .returned (.bool true) ∧ On w w' := by
  obtain ⟨q, hq⟩ : ∃ q, w.heap.size = q := ⟨_, rfl⟩
  obtain ⟨w0, hw0⟩ : ∃ w0, ((w.alloc (.cells #[.int .i64 vars, .slice A n c, .int .i64 top] 24)).alloc (.cells #[.int .i64 gvars, .slice B m d, .int .i64 gtop] 24)).alloc (.cells #[.int .i64 x0, .int .i64 x1] 45) = w0 := ⟨_, rfl⟩
  obtain ⟨O0, G0, C0, P0⟩ := boxes3 hq hw0
  have cAw := fun W => awakeN_any W
  have cL := fun W (R : RdN W A n c xs) => light_any W vars top A n c xs R
  have cK := fun W (R : RdN W A n c xs) => check_any W vars top A n c xs R hv ht
  have cM := fun W (R : RdN W B m d ys) => light_any W gvars gtop B m d ys R
  have cN := fun W (R : RdN W B m d ys) => check_any W gvars gtop B m d ys R hgv hgt
  rw [hl] at cL
  rw [hm] at cM
  rw [hc, errV_zero] at cK
  obtain ⟨er, her⟩ : ∃ er, chk gvars ys gtop = er := ⟨_, rfl⟩
  rw [her] at cN hd
  rw [errV_pos er hd] at cN
  have EC := Lib.hid (And.intro cAw (And.intro cL (And.intro cM (And.intro cK cN))))
  have HW := Lib.hid P0
  have HO := Lib.hid O0
  have HG := Lib.hid G0
  have HR := Lib.hid (h.on P0)
  have HS := Lib.hid (h2.on P0)
  clear P0 O0 G0 C0 h h2 cAw cL cK cM cN hv ht hgv hgt hl hm hc hd her
  go_enter Try.func6, Try.ntmps6
  subst hq
  have hQ := EC.out.1 w0
  go_wp2_with fail
  refine hQ.mono ?_
  rintro e v1 ⟨rfl, P1⟩
  clear hQ
  replace HW := Lib.hid (HW.out.trans P1)
  replace HO := Lib.hid (HO.out.on P1)
  replace HG := Lib.hid (HG.out.on P1)
  replace HR := Lib.hid (HR.out.on P1)
  replace HS := Lib.hid (HS.out.on P1)
  clear P1
  obtain ⟨HOc0, HOc1, HOc2⟩ := own3 HO.out
  have hQ := EC.out.2.1 v1 HR.out
  go_wp2_with fail
  refine hQ.mono ?_
  rintro e v2 ⟨rfl, P2⟩
  clear hQ
  clear HOc0 HOc1 HOc2
  replace HW := Lib.hid (HW.out.trans P2)
  replace HO := Lib.hid (HO.out.on P2)
  replace HG := Lib.hid (HG.out.on P2)
  replace HR := Lib.hid (HR.out.on P2)
  replace HS := Lib.hid (HS.out.on P2)
  clear P2
  obtain ⟨HGc0, HGc1, HGc2⟩ := own3 HG.out
  have hQ := EC.out.2.2.1 v2 HS.out
  go_wp2_with fail
  refine hQ.mono ?_
  rintro e v3 ⟨rfl, P3⟩
  clear hQ
  clear HGc0 HGc1 HGc2
  replace HW := Lib.hid (HW.out.trans P3)
  replace HO := Lib.hid (HO.out.on P3)
  replace HG := Lib.hid (HG.out.on P3)
  replace HR := Lib.hid (HR.out.on P3)
  replace HS := Lib.hid (HS.out.on P3)
  clear P3
  obtain ⟨HOc0, HOc1, HOc2⟩ := own3 HO.out
  have hQ := EC.out.2.2.2.1 v3 HR.out
  go_wp2_with fail
  refine hQ.mono ?_
  rintro e v4 ⟨rfl, P4⟩
  clear hQ
  clear HOc0 HOc1 HOc2
  replace HW := Lib.hid (HW.out.trans P4)
  replace HO := Lib.hid (HO.out.on P4)
  replace HG := Lib.hid (HG.out.on P4)
  replace HR := Lib.hid (HR.out.on P4)
  replace HS := Lib.hid (HS.out.on P4)
  clear P4
  obtain ⟨HGc0, HGc1, HGc2⟩ := own3 HG.out
  have hQ := EC.out.2.2.2.2 v4 HS.out
  go_wp2_with fail
  refine hQ.mono ?_
  rintro e v5 ⟨rfl, P5⟩
  clear hQ
  clear HGc0 HGc1 HGc2
  replace HW := Lib.hid (HW.out.trans P5)
  replace HO := Lib.hid (HO.out.on P5)
  replace HG := Lib.hid (HG.out.on P5)
  replace HR := Lib.hid (HR.out.on P5)
  replace HS := Lib.hid (HS.out.on P5)
  clear P5
  have hQ := EC.out.1 v5
  go_wp2_with fail
  refine hQ.mono ?_
  rintro e v6 ⟨rfl, P6⟩
  clear hQ
  replace HW := Lib.hid (HW.out.trans P6)
  replace HO := Lib.hid (HO.out.on P6)
  replace HG := Lib.hid (HG.out.on P6)
  replace HR := Lib.hid (HR.out.on P6)
  replace HS := Lib.hid (HS.out.on P6)
  clear P6
  go_wp2
  go_ret
  exact ⟨rfl, HW.out⟩
set_option maxHeartbeats 8000000 in
theorem nreplaced_v1 (w : World) (vars top : Int) (A : Option Addr) (n c : Nat) (xs : List Nd) (h : RdN w A n c xs) (hv : I64 vars) (ht : I64 top) (gvars gtop : Int) (B : Option Addr) (m d : Nat) (ys : List Nd) (h2 : RdN w B m d ys) (hgv : I64 gvars) (hgt : I64 gtop) (x0 x1 : Int) (hl : lightB xs = true) (hm : lightB ys = true) (hc : chk vars xs top = 0) (hd : chk gvars ys gtop = 0) (hne : ¬ vars = gvars) :
    Calls Try.prog 6 #[.agg #[.int .i64 vars, .slice A n c, .int .i64 top], .agg #[.int .i64 gvars, .slice B m d, .int .i64 gtop], .agg #[.int .i64 x0, .int .i64 x1]] w fun e w' => e = .returned (.bool true) ∧ On w w' := by
  obtain ⟨q, hq⟩ : ∃ q, w.heap.size = q := ⟨_, rfl⟩
  obtain ⟨w0, hw0⟩ : ∃ w0, ((w.alloc (.cells #[.int .i64 vars, .slice A n c, .int .i64 top] 24)).alloc (.cells #[.int .i64 gvars, .slice B m d, .int .i64 gtop] 24)).alloc (.cells #[.int .i64 x0, .int .i64 x1] 45) = w0 := ⟨_, rfl⟩
  obtain ⟨O0, G0, C0, P0⟩ := boxes3 hq hw0
  have cAw := fun W => awakeN_any W
  have cL := fun W (R : RdN W A n c xs) => light_any W vars top A n c xs R
  have cK := fun W (R : RdN W A n c xs) => check_any W vars top A n c xs R hv ht
  have cM := fun W (R : RdN W B m d ys) => light_any W gvars gtop B m d ys R
  have cN := fun W (R : RdN W B m d ys) => check_any W gvars gtop B m d ys R hgv hgt
  rw [hl] at cL
  rw [hm] at cM
  rw [hc, errV_zero] at cK
  rw [hd, errV_zero] at cN
  have hne1 : (vars != gvars) = true := bne_iff_ne.2 hne
  have EC := Lib.hid (And.intro cAw (And.intro cL (And.intro cM (And.intro cK cN))))
  have HW := Lib.hid P0
  have HO := Lib.hid O0
  have HG := Lib.hid G0
  have HR := Lib.hid (h.on P0)
  have HS := Lib.hid (h2.on P0)
  clear P0 O0 G0 C0 h h2 cAw cL cK cM cN hv ht hgv hgt hl hm hc hd
  go_enter Try.func6, Try.ntmps6
  subst hq
  have hQ := EC.out.1 w0
  go_wp2_with fail
  refine hQ.mono ?_
  rintro e v1 ⟨rfl, P1⟩
  clear hQ
  replace HW := Lib.hid (HW.out.trans P1)
  replace HO := Lib.hid (HO.out.on P1)
  replace HG := Lib.hid (HG.out.on P1)
  replace HR := Lib.hid (HR.out.on P1)
  replace HS := Lib.hid (HS.out.on P1)
  clear P1
  obtain ⟨HOc0, HOc1, HOc2⟩ := own3 HO.out
  have hQ := EC.out.2.1 v1 HR.out
  go_wp2_with fail
  refine hQ.mono ?_
  rintro e v2 ⟨rfl, P2⟩
  clear hQ
  clear HOc0 HOc1 HOc2
  replace HW := Lib.hid (HW.out.trans P2)
  replace HO := Lib.hid (HO.out.on P2)
  replace HG := Lib.hid (HG.out.on P2)
  replace HR := Lib.hid (HR.out.on P2)
  replace HS := Lib.hid (HS.out.on P2)
  clear P2
  obtain ⟨HGc0, HGc1, HGc2⟩ := own3 HG.out
  have hQ := EC.out.2.2.1 v2 HS.out
  go_wp2_with fail
  refine hQ.mono ?_
  rintro e v3 ⟨rfl, P3⟩
  clear hQ
  clear HGc0 HGc1 HGc2
  replace HW := Lib.hid (HW.out.trans P3)
  replace HO := Lib.hid (HO.out.on P3)
  replace HG := Lib.hid (HG.out.on P3)
  replace HR := Lib.hid (HR.out.on P3)
  replace HS := Lib.hid (HS.out.on P3)
  clear P3
  obtain ⟨HOc0, HOc1, HOc2⟩ := own3 HO.out
  have hQ := EC.out.2.2.2.1 v3 HR.out
  go_wp2_with fail
  refine hQ.mono ?_
  rintro e v4 ⟨rfl, P4⟩
  clear hQ
  clear HOc0 HOc1 HOc2
  replace HW := Lib.hid (HW.out.trans P4)
  replace HO := Lib.hid (HO.out.on P4)
  replace HG := Lib.hid (HG.out.on P4)
  replace HR := Lib.hid (HR.out.on P4)
  replace HS := Lib.hid (HS.out.on P4)
  clear P4
  obtain ⟨HGc0, HGc1, HGc2⟩ := own3 HG.out
  have hQ := EC.out.2.2.2.2 v4 HS.out
  go_wp2_with fail
  refine hQ.mono ?_
  rintro e v5 ⟨rfl, P5⟩
  clear hQ
  clear HGc0 HGc1 HGc2
  replace HW := Lib.hid (HW.out.trans P5)
  replace HO := Lib.hid (HO.out.on P5)
  replace HG := Lib.hid (HG.out.on P5)
  replace HR := Lib.hid (HR.out.on P5)
  replace HS := Lib.hid (HS.out.on P5)
  clear P5
  obtain ⟨HOc0, HOc1, HOc2⟩ := own3 HO.out
  obtain ⟨HGc0, HGc1, HGc2⟩ := own3 HG.out
  have hQ := EC.out.1 v5
  go_wp2_with fail
  refine hQ.mono ?_
  rintro e v6 ⟨rfl, P6⟩
  clear hQ
  clear HOc0 HOc1 HOc2 HGc0 HGc1 HGc2
  replace HW := Lib.hid (HW.out.trans P6)
  replace HO := Lib.hid (HO.out.on P6)
  replace HG := Lib.hid (HG.out.on P6)
  replace HR := Lib.hid (HR.out.on P6)
  replace HS := Lib.hid (HS.out.on P6)
  clear P6
  go_wp2
  go_ret
  exact ⟨rfl, HW.out⟩
set_option maxHeartbeats 8000000 in
theorem nreplaced_v2 (w : World) (vars top : Int) (A : Option Addr) (n c : Nat) (xs : List Nd) (h : RdN w A n c xs) (hv : I64 vars) (ht : I64 top) (gvars gtop : Int) (B : Option Addr) (m d : Nat) (ys : List Nd) (h2 : RdN w B m d ys) (hgv : I64 gvars) (hgt : I64 gtop) (x0 x1 : Int) (hl : lightB xs = true) (hm : lightB ys = true) (hc : chk vars xs top = 0) (hd : chk gvars ys gtop = 0) (hne : vars = gvars) (hlt : vars < 1) :
    Calls Try.prog 6 #[.agg #[.int .i64 vars, .slice A n c, .int .i64 top], .agg #[.int .i64 gvars, .slice B m d, .int .i64 gtop], .agg #[.int .i64 x0, .int .i64 x1]] w fun e w' => e = .returned (.bool true) ∧ On w w' := by
  obtain ⟨q, hq⟩ : ∃ q, w.heap.size = q := ⟨_, rfl⟩
  obtain ⟨w0, hw0⟩ : ∃ w0, ((w.alloc (.cells #[.int .i64 vars, .slice A n c, .int .i64 top] 24)).alloc (.cells #[.int .i64 gvars, .slice B m d, .int .i64 gtop] 24)).alloc (.cells #[.int .i64 x0, .int .i64 x1] 45) = w0 := ⟨_, rfl⟩
  obtain ⟨O0, G0, C0, P0⟩ := boxes3 hq hw0
  have cAw := fun W => awakeN_any W
  have cL := fun W (R : RdN W A n c xs) => light_any W vars top A n c xs R
  have cK := fun W (R : RdN W A n c xs) => check_any W vars top A n c xs R hv ht
  have cM := fun W (R : RdN W B m d ys) => light_any W gvars gtop B m d ys R
  have cN := fun W (R : RdN W B m d ys) => check_any W gvars gtop B m d ys R hgv hgt
  rw [hl] at cL
  rw [hm] at cM
  rw [hc, errV_zero] at cK
  rw [hd, errV_zero] at cN
  subst hne
  have EC := Lib.hid (And.intro cAw (And.intro cL (And.intro cM (And.intro cK cN))))
  have HW := Lib.hid P0
  have HO := Lib.hid O0
  have HG := Lib.hid G0
  have HR := Lib.hid (h.on P0)
  have HS := Lib.hid (h2.on P0)
  clear P0 O0 G0 C0 h h2 cAw cL cK cM cN hv ht hgv hgt hl hm hc hd
  go_enter Try.func6, Try.ntmps6
  subst hq
  have hQ := EC.out.1 w0
  go_wp2_with fail
  refine hQ.mono ?_
  rintro e v1 ⟨rfl, P1⟩
  clear hQ
  replace HW := Lib.hid (HW.out.trans P1)
  replace HO := Lib.hid (HO.out.on P1)
  replace HG := Lib.hid (HG.out.on P1)
  replace HR := Lib.hid (HR.out.on P1)
  replace HS := Lib.hid (HS.out.on P1)
  clear P1
  obtain ⟨HOc0, HOc1, HOc2⟩ := own3 HO.out
  have hQ := EC.out.2.1 v1 HR.out
  go_wp2_with fail
  refine hQ.mono ?_
  rintro e v2 ⟨rfl, P2⟩
  clear hQ
  clear HOc0 HOc1 HOc2
  replace HW := Lib.hid (HW.out.trans P2)
  replace HO := Lib.hid (HO.out.on P2)
  replace HG := Lib.hid (HG.out.on P2)
  replace HR := Lib.hid (HR.out.on P2)
  replace HS := Lib.hid (HS.out.on P2)
  clear P2
  obtain ⟨HGc0, HGc1, HGc2⟩ := own3 HG.out
  have hQ := EC.out.2.2.1 v2 HS.out
  go_wp2_with fail
  refine hQ.mono ?_
  rintro e v3 ⟨rfl, P3⟩
  clear hQ
  clear HGc0 HGc1 HGc2
  replace HW := Lib.hid (HW.out.trans P3)
  replace HO := Lib.hid (HO.out.on P3)
  replace HG := Lib.hid (HG.out.on P3)
  replace HR := Lib.hid (HR.out.on P3)
  replace HS := Lib.hid (HS.out.on P3)
  clear P3
  obtain ⟨HOc0, HOc1, HOc2⟩ := own3 HO.out
  have hQ := EC.out.2.2.2.1 v3 HR.out
  go_wp2_with fail
  refine hQ.mono ?_
  rintro e v4 ⟨rfl, P4⟩
  clear hQ
  clear HOc0 HOc1 HOc2
  replace HW := Lib.hid (HW.out.trans P4)
  replace HO := Lib.hid (HO.out.on P4)
  replace HG := Lib.hid (HG.out.on P4)
  replace HR := Lib.hid (HR.out.on P4)
  replace HS := Lib.hid (HS.out.on P4)
  clear P4
  obtain ⟨HGc0, HGc1, HGc2⟩ := own3 HG.out
  have hQ := EC.out.2.2.2.2 v4 HS.out
  go_wp2_with fail
  refine hQ.mono ?_
  rintro e v5 ⟨rfl, P5⟩
  clear hQ
  clear HGc0 HGc1 HGc2
  replace HW := Lib.hid (HW.out.trans P5)
  replace HO := Lib.hid (HO.out.on P5)
  replace HG := Lib.hid (HG.out.on P5)
  replace HR := Lib.hid (HR.out.on P5)
  replace HS := Lib.hid (HS.out.on P5)
  clear P5
  obtain ⟨HOc0, HOc1, HOc2⟩ := own3 HO.out
  obtain ⟨HGc0, HGc1, HGc2⟩ := own3 HG.out
  have hQ := EC.out.1 v5
  go_wp2_with fail
  refine hQ.mono ?_
  rintro e v6 ⟨rfl, P6⟩
  clear hQ
  clear HOc0 HOc1 HOc2 HGc0 HGc1 HGc2
  replace HW := Lib.hid (HW.out.trans P6)
  replace HO := Lib.hid (HO.out.on P6)
  replace HG := Lib.hid (HG.out.on P6)
  replace HR := Lib.hid (HR.out.on P6)
  replace HS := Lib.hid (HS.out.on P6)
  clear P6
  go_wp2
  go_ret
  exact ⟨rfl, HW.out⟩
set_option maxHeartbeats 16000000 in
theorem nreplaced_ok (w : World) (f g : Fn) (hf : WF f) (hg : WF g) (hvv : g.vars = f.vars) (h1 : 1 ≤ f.vars) (A : Option Addr) (n c : Nat) (h : RdN w A n c (rawL f.nodes)) (hl : lightB (rawL f.nodes) = true) (B : Option Addr) (m d : Nat) (h2 : RdN w B m d (rawL g.nodes)) (hm : lightB (rawL g.nodes) = true) (x0 x1 : Int) :
    Calls Try.prog 6 #[.agg #[.int .i64 (f.vars : Int), .slice A n c, .int .i64 (f.top : Int)], .agg #[.int .i64 (f.vars : Int), .slice B m d, .int .i64 (g.top : Int)], .agg #[.int .i64 x0, .int .i64 x1]] w fun e w' => e = .returned (.bool true) ∧ On w w' := by
  have hI1 : I64 (f.vars : Int) := by have := hf.1; unfold I64; omega
  have hI2 : I64 (f.top : Int) := by have := hf.1; have := hf.2.2.2; have := hf.2.1; unfold I64; omega
  have hI3 : I64 (g.top : Int) := by have := hg.1; have := hg.2.2.2; have := hg.2.1; unfold I64; omega
  obtain ⟨q, hq⟩ : ∃ q, w.heap.size = q := ⟨_, rfl⟩
  obtain ⟨w0, hw0⟩ : ∃ w0, ((w.alloc (.cells #[.int .i64 (f.vars : Int), .slice A n c, .int .i64 (f.top : Int)] 24)).alloc (.cells #[.int .i64 (f.vars : Int), .slice B m d, .int .i64 (g.top : Int)] 24)).alloc (.cells #[.int .i64 x0, .int .i64 x1] 45) = w0 := ⟨_, rfl⟩
  obtain ⟨O0, G0, C0, P0⟩ := boxes3 hq hw0
  have hv24 := hf.1
  have hv64 : f.vars < 64 := by omega
  have e1 := shl_step f.vars hv24
  have hp24 := pow24 hv24
  have hp1 := pow_posN f.vars
  obtain ⟨a0, ha0, hla⟩ := u64_nat x0
  have hev : a0 % f.vars < f.vars := Nat.mod_lt _ (by omega)
  have hrm := rem_nat a0 f.vars
  obtain ⟨ev, heve⟩ : ∃ ev, a0 % f.vars = ev := ⟨_, rfl⟩
  rw [heve] at hev hrm
  have hev24 : ev ≤ 24 := by omega
  have hev64 : ev < 64 := by omega
  have e2 := shl_step ev hev24
  have hpe := pow24 hev24
  have hg3 := and_allN x1 f.vars hv24
  have hs1 : cut x1 % 2 ^ f.vars < 2 ^ f.vars := Nat.mod_lt _ (Nat.two_pow_pos _)
  obtain ⟨s1, hs1e⟩ : ∃ x, cut x1 % 2 ^ f.vars = x := ⟨_, rfl⟩
  rw [hs1e] at hg3 hs1
  have hq1 : bits .andNot .i64 (s1 : Int) ((2 ^ ev : Nat) : Int) = (without s1 (2 ^ ev) : Nat) := andNot_nat _ _ (by omega) (by omega)
  have hwl := without_le s1 (2 ^ ev)
  have hpv : 2 ^ ev < 2 ^ f.vars := Nat.pow_lt_pow_right (by decide) hev
  have hq2 : bits .or .i64 ((without s1 (2 ^ ev) : Nat) : Int) ((2 ^ ev : Nat) : Int) = (without s1 (2 ^ ev) ||| 2 ^ ev : Nat) := or_nat _ _ (by omega) (by omega)
  have hlo : without s1 (2 ^ ev) ||| 2 ^ ev < 2 ^ f.vars := Nat.or_lt_two_pow (by omega) hpv
  have cR := fun W R S => nreplace_ok W f hf A n c R g hg B m d S hvv ev hev
  have cVg := fun W R => value_ok W g hg B m d R s1 (by rw [hvv]; exact hs1)
  have cVt := fun W R => value_ok W f hf A n c R (without s1 (2 ^ ev) ||| 2 ^ ev) hlo
  have cVf := fun W R => value_ok W f hf A n c R (without s1 (2 ^ ev)) (by omega)
  obtain ⟨vg, hvg⟩ : ∃ b, val g s1 = b := ⟨_, rfl⟩
  rw [hvg] at cVg
  have hval1 : vg = true → val (replaceF f ev g) s1 = val f (without s1 (2 ^ ev) ||| 2 ^ ev) := fun e => replaceF_val hf hg hvv fun a ha => by
    rw [hvg, e, Nat.testBit_or, without_tb, Nat.testBit_two_pow]
    by_cases hae : a = ev
    · subst hae; simp
    · rw [if_neg hae, decide_eq_false (fun e => hae e.symm)]; simp
  have hval2 : vg = false → val (replaceF f ev g) s1 = val f (without s1 (2 ^ ev)) := fun e => replaceF_val hf hg hvv fun a ha => by
    rw [hvg, e, without_tb, Nat.testBit_two_pow]
    by_cases hae : a = ev
    · subst hae; simp
    · rw [if_neg hae, decide_eq_false (fun e => hae e.symm)]; simp
  have hwx := replaceF_wf hf hg hvv ev hev
  obtain ⟨x, hx⟩ : ∃ x, replaceF f ev g = x := ⟨_, rfl⟩
  rw [hx] at cR hval1 hval2 hwx
  have hxv : x.vars = f.vars := by rw [← hx]; rfl
  have cAw := fun W => awakeN_any W
  have cL := fun W (R : RdN W A n c (rawL f.nodes)) => light_any W (f.vars : Int) (f.top : Int) A n c _ R
  have cK := fun W (R : RdN W A n c (rawL f.nodes)) => check_any W (f.vars : Int) (f.top : Int) A n c _ R hI1 hI2
  rw [chk_ok hf, errV_zero] at cK
  rw [hl] at cL
  have cM := fun W (R : RdN W B m d (rawL g.nodes)) => light_any W (f.vars : Int) (g.top : Int) B m d _ R
  have cN := fun W (R : RdN W B m d (rawL g.nodes)) => check_any W (f.vars : Int) (g.top : Int) B m d _ R hI1 hI3
  have hkg := chk_ok hg
  rw [hvv] at hkg
  rw [hkg, errV_zero] at cN
  rw [hm] at cM
  rw [hvv] at cR cVg
  have cVx := fun W A1 n1 c1 (hle : x.nodes.length ≤ 128) R => value_ok W x (hwx.small hle) A1 n1 c1 R s1 (by rw [hxv]; exact hs1)
  obtain ⟨p2, hp2⟩ : ∃ p2, 2 ^ f.vars = p2 := ⟨_, rfl⟩
  rw [hp2] at e1 hp24 hp1 hg3
  obtain ⟨pe, hpee⟩ : ∃ p2, 2 ^ ev = p2 := ⟨_, rfl⟩
  rw [hpee] at e2 hq1 hq2 hval1 hval2 cVt cVf
  have ew := wrap_sub1 p2 hp1 hp24
  obtain ⟨u1, hu1⟩ : ∃ z, without s1 pe = z := ⟨_, rfl⟩
  rw [hu1] at hq1 hq2 hval1 hval2 cVt cVf
  obtain ⟨u2, hu2⟩ : ∃ z, u1 ||| pe = z := ⟨_, rfl⟩
  rw [hu2] at hq2 hval1 cVt
  have hvw := u64n' f.vars (by omega)
  have hew := i64n' ev (by omega)
  have E1 := Lib.hid (And.intro e1 (And.intro ew (And.intro ha0 (And.intro hrm (And.intro hvw hew)))))
  have E2 := Lib.hid (And.intro e2 (And.intro hq1 hq2))
  have E3 := Lib.hid hg3
  have EV := Lib.hid (And.intro hval1 (And.intro hval2 hxv))
  have EC := Lib.hid (And.intro cAw (And.intro cL (And.intro cM (And.intro cK (And.intro cN (And.intro cR (And.intro cVg (And.intro cVt (And.intro cVf cVx)))))))))
  have HW := Lib.hid P0
  have HO := Lib.hid O0
  have HG := Lib.hid G0
  have HD2 := Lib.hid C0
  have HR := Lib.hid (h.on P0)
  have HS := Lib.hid (h2.on P0)
  have hv1i : ¬ (f.vars : Int) < 1 := by omega
  have hv2i : ¬ (f.vars : Int) > 24 := by omega
  have HVI := Lib.hid (And.intro hv1i (And.intro hv2i (And.intro hv64 (And.intro hev64 h1))))
  clear P0 O0 G0 C0 h h2 e1 ew ha0 hrm hvw hew e2 hq1 hq2 hg3 hval1 hval2 cAw cL cK cM cN cR cVg cVt cVf cVx hl hm hI1 hI2 hI3 hvg hkg hu1 hu2 hp2 hpee hp24 hp1 hpe hwl hpv hlo hs1 hs1e heve hev24 hxv hx hwx hla hf hg hvv hev64 h1 hv64 hv24 hev
  go_enter Try.func6, Try.ntmps6
  subst hq
  have hQ := EC.out.1 w0
  go_wp2_with fail
  refine hQ.mono ?_
  rintro e v1 ⟨rfl, P1⟩
  clear hQ
  replace HW := Lib.hid (HW.out.trans P1)
  replace HO := Lib.hid (HO.out.on P1)
  replace HG := Lib.hid (HG.out.on P1)
  replace HD2 := Lib.hid (HD2.out.on P1)
  replace HR := Lib.hid (HR.out.on P1)
  replace HS := Lib.hid (HS.out.on P1)
  clear P1
  obtain ⟨HOc0, HOc1, HOc2⟩ := own3 HO.out
  have hQ := EC.out.2.1 v1 HR.out
  go_wp2_with fail
  refine hQ.mono ?_
  rintro e v2 ⟨rfl, P2⟩
  clear hQ
  clear HOc0 HOc1 HOc2
  replace HW := Lib.hid (HW.out.trans P2)
  replace HO := Lib.hid (HO.out.on P2)
  replace HG := Lib.hid (HG.out.on P2)
  replace HD2 := Lib.hid (HD2.out.on P2)
  replace HR := Lib.hid (HR.out.on P2)
  replace HS := Lib.hid (HS.out.on P2)
  clear P2
  obtain ⟨HGc0, HGc1, HGc2⟩ := own3 HG.out
  have hQ := EC.out.2.2.1 v2 HS.out
  go_wp2_with fail
  refine hQ.mono ?_
  rintro e v3 ⟨rfl, P3⟩
  clear hQ
  clear HGc0 HGc1 HGc2
  replace HW := Lib.hid (HW.out.trans P3)
  replace HO := Lib.hid (HO.out.on P3)
  replace HG := Lib.hid (HG.out.on P3)
  replace HD2 := Lib.hid (HD2.out.on P3)
  replace HR := Lib.hid (HR.out.on P3)
  replace HS := Lib.hid (HS.out.on P3)
  clear P3
  obtain ⟨HOc0, HOc1, HOc2⟩ := own3 HO.out
  have hQ := EC.out.2.2.2.1 v3 HR.out
  go_wp2_with fail
  refine hQ.mono ?_
  rintro e v4 ⟨rfl, P4⟩
  clear hQ
  clear HOc0 HOc1 HOc2
  replace HW := Lib.hid (HW.out.trans P4)
  replace HO := Lib.hid (HO.out.on P4)
  replace HG := Lib.hid (HG.out.on P4)
  replace HD2 := Lib.hid (HD2.out.on P4)
  replace HR := Lib.hid (HR.out.on P4)
  replace HS := Lib.hid (HS.out.on P4)
  clear P4
  obtain ⟨HGc0, HGc1, HGc2⟩ := own3 HG.out
  have hQ := EC.out.2.2.2.2.1 v4 HS.out
  go_wp2_with fail
  refine hQ.mono ?_
  rintro e v5 ⟨rfl, P5⟩
  clear hQ
  clear HGc0 HGc1 HGc2
  replace HW := Lib.hid (HW.out.trans P5)
  replace HO := Lib.hid (HO.out.on P5)
  replace HG := Lib.hid (HG.out.on P5)
  replace HD2 := Lib.hid (HD2.out.on P5)
  replace HR := Lib.hid (HR.out.on P5)
  replace HS := Lib.hid (HS.out.on P5)
  clear P5
  obtain ⟨HOc0, HOc1, HOc2⟩ := own3 HO.out
  obtain ⟨HGc0, HGc1, HGc2⟩ := own3 HG.out
  obtain ⟨HD2c0, HD2c1⟩ := own2 HD2.out
  have hv1i := HVI.out.1
  have hv2i := HVI.out.2.1
  have hbne : ((f.vars : Int) != (f.vars : Int)) = false := by simp
  go_upto_region 3 with fail
  have hv64 := HVI.out.2.2.1
  have hvne : ¬ (f.vars : Int) = 0 := by have := HVI.out.2.2.2.2; omega
  have g1 := E1.out.1
  have g2 := E1.out.2.1
  have g3 := E1.out.2.2.1
  have g4 := E1.out.2.2.2.1
  have g5 := E1.out.2.2.2.2.1
  have g6 := E1.out.2.2.2.2.2
  go_quiet (fail)
  have PD : On v5 (v5.drewN nq) := On.drewN (On.refl v5) nq
  obtain ⟨v6, hv6⟩ : ∃ z, v5.drewN nq = z := ⟨_, rfl⟩
  rw [hv6] at PD ⊢
  clear hv6 g1 g2 g3 g4 g5 g6 hv64 hvne hv1i hv2i hbne
  clear HOc0 HOc1 HOc2 HGc0 HGc1 HGc2 HD2c0 HD2c1
  replace HW := Lib.hid (HW.out.trans PD)
  replace HO := Lib.hid (HO.out.on PD)
  replace HG := Lib.hid (HG.out.on PD)
  replace HD2 := Lib.hid (HD2.out.on PD)
  replace HR := Lib.hid (HR.out.on PD)
  replace HS := Lib.hid (HS.out.on PD)
  clear PD
  obtain ⟨HOc0, HOc1, HOc2⟩ := own3 HO.out
  obtain ⟨HGc0, HGc1, HGc2⟩ := own3 HG.out
  have hQ := EC.out.2.2.2.2.2.1 v6 HR.out HS.out
  go_wp2_with fail
  refine hQ.mono ?_
  rintro e v7 ⟨hM, P7⟩
  clear hQ
  clear HOc0 HOc1 HOc2 HGc0 HGc1 HGc2
  replace HW := Lib.hid (HW.out.trans P7)
  replace HO := Lib.hid (HO.out.on P7)
  replace HG := Lib.hid (HG.out.on P7)
  replace HD2 := Lib.hid (HD2.out.on P7)
  replace HR := Lib.hid (HR.out.on P7)
  replace HS := Lib.hid (HS.out.on P7)
  clear P7
  rcases hM with ⟨hle, A1, c1, rfl, X4⟩ | ⟨hgt, rfl⟩
  rotate_left
  · rw [errV_pos 4 (by decide)]
    have Z0 : Own (v7.alloc (.cells #[.int .i64 0, .slice none 0 0, .int .i64 0] 24)) v7.heap.size 24 #[.int .i64 0, .slice none 0 0, .int .i64 0] := Own.new _ _ _
    obtain ⟨k0, k1, k2⟩ := own3 Z0
    have f0 := Z0.frozen 0
    have f1 := Z0.frozen 1
    have f2 := Z0.frozen 2
    go_upto_region 5 with fail
    clear k0 k1 k2 f0 f1 f2 Z0
    have OZ := Own.new v7 24 #[.int .i64 0, .slice none 0 0, .int .i64 0]
    have P8 := (On.refl v7).alloc (.cells #[.int .i64 0, .slice none 0 0, .int .i64 0] 24)
    obtain ⟨v8, hwz⟩ : ∃ z, v7.alloc (.cells #[.int .i64 0, .slice none 0 0, .int .i64 0] 24) = z := ⟨_, rfl⟩
    rw [hwz] at OZ P8 ⊢
    clear hwz
    replace HW := Lib.hid (HW.out.trans P8)
    replace HO := Lib.hid (HO.out.on P8)
    replace HG := Lib.hid (HG.out.on P8)
    replace HD2 := Lib.hid (HD2.out.on P8)
    replace HR := Lib.hid (HR.out.on P8)
    replace HS := Lib.hid (HS.out.on P8)
    have HX := Lib.hid (OZ)
    obtain ⟨bHX, hbHX⟩ : ∃ z, v7.heap.size = z := ⟨_, rfl⟩
    rw [hbHX] at HX ⊢
    clear hbHX OZ P8
    have hQ := is_err v8 4
    go_wp2_with fail
    refine hQ.mono ?_
    rintro e v9 ⟨rfl, rfl⟩
    clear hQ
    go_wp2
    go_ret
    exact ⟨rfl, HW.out⟩
  have hVx := fun W A1 n1 c1 R => EC.out.2.2.2.2.2.2.2.2.2 W A1 n1 c1 hle R
  have hvx := EV.out.2.2
  obtain ⟨n1, hn1⟩ : ∃ n1, x.nodes.length = n1 := ⟨_, rfl⟩
  obtain ⟨t1, ht1⟩ : ∃ t1, x.top = t1 := ⟨_, rfl⟩
  obtain ⟨bv, hbv⟩ : ∃ b, val x s1 = b := ⟨_, rfl⟩
  have hv1 := EV.out.1
  have hv2 := EV.out.2.1
  rw [hbv] at hv1 hv2 hVx
  rw [hn1] at hle X4 ⊢
  rw [hvx, ht1] at hVx
  rw [hvx, ht1]
  have HM := Lib.hid (And.intro hVx (And.intro hv1 hv2))
  have hcap := X4.cap
  have hmax := X4.max
  clear hVx hn1 ht1 hbv hvx hv1 hv2
  have HX4 := Lib.hid (X4)
  clear X4
  have Z0 : Own (v7.alloc (.cells #[.int .i64 0, .slice none 0 0, .int .i64 0] 24)) v7.heap.size 24 #[.int .i64 0, .slice none 0 0, .int .i64 0] := Own.new _ _ _
  obtain ⟨k0, k1, k2⟩ := own3 Z0
  have f0 := Z0.frozen 0
  have f1 := Z0.frozen 1
  have f2 := Z0.frozen 2
  go_upto_region 5 with fail
  clear k0 k1 k2 f0 f1 f2 Z0
  have OZ := Own.new v7 24 #[.int .i64 (f.vars : Int), .slice A1 n1 c1, .int .i64 (t1 : Int)]
  have P8 := (On.refl v7).alloc (.cells #[.int .i64 (f.vars : Int), .slice A1 n1 c1, .int .i64 (t1 : Int)] 24)
  obtain ⟨v8, hwz⟩ : ∃ z, v7.alloc (.cells #[.int .i64 (f.vars : Int), .slice A1 n1 c1, .int .i64 (t1 : Int)] 24) = z := ⟨_, rfl⟩
  rw [hwz] at OZ P8 ⊢
  clear hwz
  replace HW := Lib.hid (HW.out.trans P8)
  replace HO := Lib.hid (HO.out.on P8)
  replace HG := Lib.hid (HG.out.on P8)
  replace HD2 := Lib.hid (HD2.out.on P8)
  replace HR := Lib.hid (HR.out.on P8)
  replace HS := Lib.hid (HS.out.on P8)
  replace HX4 := Lib.hid (HX4.out.on P8)
  have HX := Lib.hid (OZ)
  obtain ⟨bHX, hbHX⟩ : ∃ z, v7.heap.size = z := ⟨_, rfl⟩
  rw [hbHX] at HX ⊢
  clear hbHX OZ P8
  obtain ⟨HD2c0, HD2c1⟩ := own2 HD2.out
  have g3 := E3.out
  go_upto_region 8 with fail
  clear g3
  clear HD2c0 HD2c1
  obtain ⟨HGc0, HGc1, HGc2⟩ := own3 HG.out
  have hQ := EC.out.2.2.2.2.2.2.1 v8 HS.out
  go_wp2_with fail
  refine hQ.mono ?_
  rintro e v9 ⟨rfl, P9⟩
  clear hQ
  clear HGc0 HGc1 HGc2
  replace HW := Lib.hid (HW.out.trans P9)
  replace HO := Lib.hid (HO.out.on P9)
  replace HG := Lib.hid (HG.out.on P9)
  replace HD2 := Lib.hid (HD2.out.on P9)
  replace HR := Lib.hid (HR.out.on P9)
  replace HS := Lib.hid (HS.out.on P9)
  replace HX4 := Lib.hid (HX4.out.on P9)
  replace HX := Lib.hid (HX.out.on P9)
  clear P9
  have e2 := E2.out.1
  have q1 := E2.out.2.1
  have h64 := HVI.out.2.2.2.1
  go_upto_region 10 with fail
  clear e2
  clear q1
  clear h64
  cases vg
  · have hbe := HM.out.2.2 rfl
    have hcV := EC.out.2.2.2.2.2.2.2.2.1
    rw [← hbe] at hcV
    clear hbe
    have hcV2 := Lib.hid hcV
    clear hcV
    obtain ⟨HOc0, HOc1, HOc2⟩ := own3 HO.out
    have hQ := hcV2.out v9 HR.out
    go_wp2_with fail
    refine hQ.mono ?_
    rintro e v10 ⟨rfl, P10⟩
    clear hQ
    clear HOc0 HOc1 HOc2
    replace HW := Lib.hid (HW.out.trans P10)
    replace HO := Lib.hid (HO.out.on P10)
    replace HG := Lib.hid (HG.out.on P10)
    replace HD2 := Lib.hid (HD2.out.on P10)
    replace HR := Lib.hid (HR.out.on P10)
    replace HS := Lib.hid (HS.out.on P10)
    replace HX4 := Lib.hid (HX4.out.on P10)
    replace HX := Lib.hid (HX.out.on P10)
    clear P10
    obtain ⟨HXc0, HXc1, HXc2⟩ := own3 HX.out
    have hQ := HM.out.1 v10 A1 n1 c1 HX4.out
    go_wp2_with fail
    refine hQ.mono ?_
    rintro e v11 ⟨rfl, P11⟩
    clear hQ
    clear HXc0 HXc1 HXc2
    replace HW := Lib.hid (HW.out.trans P11)
    replace HO := Lib.hid (HO.out.on P11)
    replace HG := Lib.hid (HG.out.on P11)
    replace HD2 := Lib.hid (HD2.out.on P11)
    replace HR := Lib.hid (HR.out.on P11)
    replace HS := Lib.hid (HS.out.on P11)
    replace HX4 := Lib.hid (HX4.out.on P11)
    replace HX := Lib.hid (HX.out.on P11)
    clear P11
    go_wp2
    go_ret
    exact ⟨by simp, HW.out⟩
  · have hbe := HM.out.2.1 rfl
    have hcV := EC.out.2.2.2.2.2.2.2.1
    rw [← hbe] at hcV
    clear hbe
    have e2 := E2.out.1
    have q2 := E2.out.2.2
    have h64 := HVI.out.2.2.2.1
    go_upto_region 12 with fail
    clear e2
    clear q2
    clear h64
    have hcV2 := Lib.hid hcV
    clear hcV
    obtain ⟨HOc0, HOc1, HOc2⟩ := own3 HO.out
    have hQ := hcV2.out v9 HR.out
    go_wp2_with fail
    refine hQ.mono ?_
    rintro e v10 ⟨rfl, P10⟩
    clear hQ
    clear HOc0 HOc1 HOc2
    replace HW := Lib.hid (HW.out.trans P10)
    replace HO := Lib.hid (HO.out.on P10)
    replace HG := Lib.hid (HG.out.on P10)
    replace HD2 := Lib.hid (HD2.out.on P10)
    replace HR := Lib.hid (HR.out.on P10)
    replace HS := Lib.hid (HS.out.on P10)
    replace HX4 := Lib.hid (HX4.out.on P10)
    replace HX := Lib.hid (HX.out.on P10)
    clear P10
    obtain ⟨HXc0, HXc1, HXc2⟩ := own3 HX.out
    have hQ := HM.out.1 v10 A1 n1 c1 HX4.out
    go_wp2_with fail
    refine hQ.mono ?_
    rintro e v11 ⟨rfl, P11⟩
    clear hQ
    clear HXc0 HXc1 HXc2
    replace HW := Lib.hid (HW.out.trans P11)
    replace HO := Lib.hid (HO.out.on P11)
    replace HG := Lib.hid (HG.out.on P11)
    replace HD2 := Lib.hid (HD2.out.on P11)
    replace HR := Lib.hid (HR.out.on P11)
    replace HS := Lib.hid (HS.out.on P11)
    replace HX4 := Lib.hid (HX4.out.on P11)
    replace HX := Lib.hid (HX.out.on P11)
    clear P11
    go_wp2
    go_ret
    exact ⟨by simp, HW.out⟩
theorem nreplacedL_any (w : World) (vars top : Int) (A : Option Addr) (n c : Nat) (xs : List Nd) (h : RdN w A n c xs) (hv : I64 vars) (ht : I64 top) (gvars gtop : Int) (B : Option Addr) (m d : Nat) (ys : List Nd) (h2 : RdN w B m d ys) (hgv : I64 gvars) (hgt : I64 gtop) (x0 x1 : Int) :
    Calls Try.prog 6 #[.agg #[.int .i64 vars, .slice A n c, .int .i64 top], .agg #[.int .i64 gvars, .slice B m d, .int .i64 gtop], .agg #[.int .i64 x0, .int .i64 x1]] w fun e w' => e = .returned (.bool true) ∧ On w w' := by
  cases hl : lightB xs with
  | false => exact nreplaced_l1 w vars top A n c xs h hv ht gvars gtop B m d ys h2 hgv hgt x0 x1 hl
  | true =>
    cases hm : lightB ys with
    | false => exact nreplaced_l2 w vars top A n c xs h hv ht gvars gtop B m d ys h2 hgv hgt x0 x1 hl hm
    | true =>
      by_cases hc : chk vars xs top = 0
      · by_cases hd : chk gvars ys gtop = 0
        · by_cases hne : vars = gvars
          · by_cases hlt : vars < 1
            · exact nreplaced_v2 w vars top A n c xs h hv ht gvars gtop B m d ys h2 hgv hgt x0 x1 hl hm hc hd hne hlt
            · obtain ⟨f, hf, rfl, rfl, rfl⟩ := chk_zero hc
              obtain ⟨g, hg, e1, rfl, rfl⟩ := chk_zero hd
              have hvv : g.vars = f.vars := by omega
              subst e1
              rw [hvv]
              exact nreplaced_ok w f g hf hg hvv (by omega) A n c h hl B m d h2 hm x0 x1
          · exact nreplaced_v1 w vars top A n c xs h hv ht gvars gtop B m d ys h2 hgv hgt x0 x1 hl hm hc hd hne
        · exact nreplaced_c2 w vars top A n c xs h hv ht gvars gtop B m d ys h2 hgv hgt x0 x1 hl hm hc hd
      · exact nreplaced_c1 w vars top A n c xs h hv ht gvars gtop B m d ys h2 hgv hgt x0 x1 hl hm hc
end Go.Proofs.Ytmkogcaafkobaaa.Fm
