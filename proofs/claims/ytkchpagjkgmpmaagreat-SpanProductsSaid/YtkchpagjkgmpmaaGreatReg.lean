/-
  Regions over fractions: what the operations on structs of three cells do, and the facts that are kept of each slot. No statement of the program.
-/
import Derived.Test.YtkchpagjkgmpmaaGreatRgn
import Derived.Test.YtkchpagjkgmpmaaGreatRatA
import Derived.WalkKit
namespace Go.Proofs.YtkchpagjkgmpmaaGreat
open Go.RowKit
set_option linter.unusedVariables false
namespace Num
theorem IsR.kept {w w' : World} {v : Value} {r : Rat} {L : Nat} (h : IsR w v r L) (hb : Kept w w') : IsR w' v r L := by
  obtain ⟨A, n, c, xs, A', n', c', ys, h1, h2, h3, h4⟩ := h
  exact ⟨A, n, c, xs, A', n', c', ys, h1, h2.kept hb, h3.kept hb, h4⟩
theorem noWords_R (b : Bool) (A A' : Option Addr) (n c n' c' : Nat) : NoWords 24 #[.bool b, .slice A n c, .slice A' n' c'] := by
  refine ⟨fun _ => Nat.le_refl _, fun k x e => ?_⟩
  match k with
  | 0 => cases e
  | 1 => cases e
  | 2 => cases e
  | k + 3 => simp at e
theorem run_loadR {w : World} {g : Nat} {x0 x1 x2 : Value} (h : Own w g 24 #[x0, x1, x2]) :
    (Instr.loadAt 24 (.pointer (some ⟨g, 0, none⟩))).run Tryz.prog w = .ok (.agg #[x0, x1, x2]) w := by
  have a0 : w.cell? ⟨g, 0, none⟩ = some x0 := h.cell 0
  have a1 : w.cell? ⟨g, 1, none⟩ = some x1 := h.cell 1
  have a2 : w.cell? ⟨g, 2, none⟩ = some x2 := h.cell 2
  go_simp
theorem run_field0 {w : World} {g : Nat} : (Instr.fieldAt 24 (.pointer (some ⟨g, 0, none⟩)) 0).run Tryz.prog w = .ok (.pointer (some ⟨g, 0, none⟩)) w := by
  go_simp
theorem run_field1 {w : World} {g : Nat} : (Instr.fieldAt 24 (.pointer (some ⟨g, 0, none⟩)) 1).run Tryz.prog w = .ok (.pointer (some ⟨g, 1, none⟩)) w := by
  go_simp
theorem run_field2 {w : World} {g : Nat} : (Instr.fieldAt 24 (.pointer (some ⟨g, 0, none⟩)) 2).run Tryz.prog w = .ok (.pointer (some ⟨g, 2, none⟩)) w := by
  go_simp
theorem run_loadS {w : World} {g k : Nat} {x : Value} (h : w.cell? ⟨g, k, none⟩ = some x) :
    (Instr.loadAt 22 (.pointer (some ⟨g, k, none⟩))).run Tryz.prog w = .ok x w := by
  go_simp
theorem run_loadB {w : World} {g k : Nat} {x : Value} (h : w.cell? ⟨g, k, none⟩ = some x) :
    (Instr.loadAt 4 (.pointer (some ⟨g, k, none⟩))).run Tryz.prog w = .ok x w := by
  go_simp
theorem run_zeroR {w : World} : (Instr.build 24 #[]).run Tryz.prog w = .ok (.agg #[.bool false, .slice none 0 0, .slice none 0 0]) w := by
  go_simp
theorem run_buildR {w : World} {b : Bool} {A A2 : Option Addr} {n c n2 c2 : Nat} : (Instr.build 24 #[(0, .bool b), (1, .slice A n c), (2, .slice A2 n2 c2)]).run Tryz.prog w = .ok (.agg #[.bool b, .slice A n c, .slice A2 n2 c2]) w := by
  go_simp
theorem run_allocR {w : World} : (Instr.alloc 24 true (.tuple #[])).run Tryz.prog w = .ok (.pointer (some ⟨w.heap.size, 0, none⟩)) (w.alloc (.cells #[.bool false, .slice none 0 0, .slice none 0 0] 24)) := by
  go_simp
theorem run_storeR {w : World} {g : Nat} {x0 x1 x2 : Value} {b : Bool} {A A2 : Option Addr} {n c n2 c2 : Nat} (h : Own w g 24 #[x0, x1, x2]) :
    (Instr.storeAt 24 (.pointer (some ⟨g, 0, none⟩)) (.agg #[.bool b, .slice A n c, .slice A2 n2 c2])).run Tryz.prog w = .ok () (((w.setCell ⟨g, 0, none⟩ (.bool b)).setCell ⟨g, 1, none⟩ (.slice A n c)).setCell ⟨g, 2, none⟩ (.slice A2 n2 c2)) := by
  have a0 : w.cell? ⟨g, 0, none⟩ = some x0 := h.cell 0
  have a1 : w.cell? ⟨g, 1, none⟩ = some x1 := h.cell 1
  have a2 : w.cell? ⟨g, 2, none⟩ = some x2 := h.cell 2
  have f0 := h.frozen 0
  have f1 := h.frozen 1
  have f2 := h.frozen 2
  go_simp
theorem do_value {P : Program} {s : Sem Value} {v : Value} {w w' : World} (h : s.run P w = .ok v w') : (do pure (Next.value (← s)) : Sem Next).run P w = .ok (.value v) w' := by
  go_simp
theorem do_unit {P : Program} {s : Sem Unit} {w w' : World} (h : s.run P w = .ok () w') : (do s; pure Next.skip : Sem Next).run P w = .ok .skip w' := by
  go_simp

/-- what is known of a value, and stays so -/
structure Fact where
  holds : Value → World → Prop
  mono : ∀ v w w', Kept w w' → holds v w → holds v w'
def Fact.any : Fact := ⟨fun _ _ => True, fun _ _ _ _ _ => trivial⟩
def Fact.eq (u : Value) : Fact := ⟨fun v _ => v = u, fun _ _ _ _ h => h⟩
def Fact.rat (r : Rat) (L : Nat) : Fact := ⟨fun v w => IsR w v r L, fun _ _ _ k h => h.kept k⟩
def Fact.nm (x L : Nat) : Fact := ⟨fun v w => ∃ A n c, v = .slice A n c ∧ Nm w A n c x L, fun _ _ _ k ⟨A, n, c, e, h⟩ => ⟨A, n, c, e, h.kept k⟩⟩
def Fact.rd (n : Nat) (xs : List Nat) : Fact := ⟨fun v w => ∃ A c, v = .slice A n c ∧ Rd w A n c xs, fun _ _ _ k ⟨A, c, e, h⟩ => ⟨A, c, e, h.kept k⟩⟩
/-- a tuple of a fraction and a value that is known -/
def Fact.ratE (r : Rat) (L : Nat) (er : Value) : Fact := ⟨fun v w => ∃ u, v = .tuple #[u, er] ∧ IsR w u r L, fun _ _ _ k ⟨u, e, h⟩ => ⟨u, e, h.kept k⟩⟩
def Fact.nmE (x L : Nat) (er : Value) : Fact := ⟨fun v w => ∃ A n c, v = .tuple #[.slice A n c, er] ∧ Nm w A n c x L, fun _ _ _ k ⟨A, n, c, e, h⟩ => ⟨A, n, c, e, h.kept k⟩⟩
/-- a known value and a number -/
def Fact.eNm (er : Value) (x L : Nat) : Fact := ⟨fun v w => ∃ A n c, v = .tuple #[er, .slice A n c] ∧ Nm w A n c x L, fun _ _ _ k ⟨A, n, c, e, h⟩ => ⟨A, n, c, e, h.kept k⟩⟩
def factsF (fs : List Fact) (i : Nat) (v : Value) (w : World) : Prop := ((fs[i]?).getD Fact.any).holds v w
theorem factsF_mono (fs : List Fact) (i : Nat) (v : Value) (w w' : World) (k : Kept w w') (h : factsF fs i v w) : factsF fs i v w' := Fact.mono _ _ _ _ k h

section
variable {P : Program} {ops : Array Oper} {Q : Exit → Act → World → Prop} {W0 Wi : World} {a0 a : Act} {F : Nat → Value → World → Prop} {ts : List Tg} {w : World} {i : Nat}
theorem does_value {o : Oper} {v : Value} (hr : (execOp a.eval o).run P w = .ok (.value v) w) (hf : F i v w) : Does P Q F i o a w := by
  unfold Does Oper.wp
  rw [hr]
  exact ⟨v, rfl, On.refl w, hf⟩
theorem ob_yes {o : Oper} {y : Nat → Option Bool} {p : Prop} (hw : Region.wanted o y = true) (h : Does P Q F i o a w) : if Region.wanted o y = true then Does P Q F i o a w else p := by rw [if_pos hw]; exact h
theorem ob_no {o : Oper} {y : Nat → Option Bool} {p q : Prop} (hw : Region.wanted o y = false) (h : q) : if Region.wanted o y = true then p else q := by rw [hw]; exact h
/-- a block that stood before -/
theorem Pre.box (hp : Pre ops W0 Wi a0 F ts i a w) {k : Nat} {tg : Tg} {g : Nat} (ht : ts[k]? = some tg) (hby : ops.size ≤ tg.by_) (hst : ops.size ≤ tg.st ∨ waits ops 4 tg.st i = true ∨ tg.st = i) (hfree : freeB ops tg.slot = true) (h0 : a0.tmps.getD tg.slot undef = .pointer (some ⟨g, 0, none⟩)) :
    a.tmps.getD tg.slot undef = .pointer (some ⟨g, 0, none⟩) ∧ Own w g tg.t tg.init := by
  obtain ⟨g', h1, _, h3⟩ := hp.blk k tg ht (.inl hby) hst
  have h2 := hp.same tg.slot hfree
  rw [h0, h1] at h2
  injection h2 with h2
  injection h2 with h2
  injection h2 with h2
  subst h2
  exact ⟨h1, h3⟩
set_option maxRecDepth 100000 in
theorem ob_loadR {d : Option Tmp} {s ty : Nat} {pos : String} {after : Array Edge} {gu : Option (Nat × Bool)} {g : Nat} {x0 x1 x2 : Value} (hs : a.tmps.getD s undef = .pointer (some ⟨g, 0, none⟩)) (ho : Own w g 24 #[x0, x1, x2]) (hf : F i (.agg #[x0, x1, x2]) w) :
    Does Tryz.prog Q F i ⟨d, .load 24 (.tmp s), ty, pos, after, gu⟩ a w :=
  does_value (do_value (by rw [show a.eval (.tmp s) = _ from hs]; exact run_loadR ho)) hf
set_option maxRecDepth 100000 in
theorem ob_fieldR {d : Option Tmp} {s ty j : Nat} {pos : String} {after : Array Edge} {gu : Option (Nat × Bool)} {g : Nat} (hs : a.tmps.getD s undef = .pointer (some ⟨g, 0, none⟩)) (hj : j ≤ 2) (hf : F i (.pointer (some ⟨g, j, none⟩)) w) :
    Does Tryz.prog Q F i ⟨d, .fieldAddr 24 (.tmp s) j, ty, pos, after, gu⟩ a w := by
  refine does_value (do_value (v := .pointer (some ⟨g, j, none⟩)) ?_) hf
  rw [show a.eval (.tmp s) = _ from hs]
  match j, hj with
  | 0, _ => exact run_field0
  | 1, _ => exact run_field1
  | 2, _ => exact run_field2
set_option maxRecDepth 100000 in
theorem ob_loadS {d : Option Tmp} {s ty j : Nat} {pos : String} {after : Array Edge} {gu : Option (Nat × Bool)} {g t : Nat} {cur : Array Value} {x : Value} (hs : a.tmps.getD s undef = .pointer (some ⟨g, j, none⟩)) (ho : Own w g t cur) (hx : cur[j]? = some x) (hf : F i x w) :
    Does Tryz.prog Q F i ⟨d, .load 22 (.tmp s), ty, pos, after, gu⟩ a w :=
  does_value (do_value (by rw [show a.eval (.tmp s) = _ from hs]; exact run_loadS ((ho.cell j).trans hx))) hf
set_option maxRecDepth 100000 in
theorem ob_loadB {d : Option Tmp} {s ty j : Nat} {pos : String} {after : Array Edge} {gu : Option (Nat × Bool)} {g t : Nat} {cur : Array Value} {x : Value} (hs : a.tmps.getD s undef = .pointer (some ⟨g, j, none⟩)) (ho : Own w g t cur) (hx : cur[j]? = some x) (hf : F i x w) :
    Does Tryz.prog Q F i ⟨d, .load 4 (.tmp s), ty, pos, after, gu⟩ a w :=
  does_value (do_value (by rw [show a.eval (.tmp s) = _ from hs]; exact run_loadB ((ho.cell j).trans hx))) hf
set_option maxRecDepth 100000 in
theorem ob_move {d : Option Tmp} {s ty : Nat} {pos : String} {after : Array Edge} {gu : Option (Nat × Bool)} (hf : F i (a.tmps.getD s undef) w) : Does P Q F i ⟨d, .move (.tmp s), ty, pos, after, gu⟩ a w := does_value rfl hf
set_option maxRecDepth 100000 in
theorem ob_assign {d : Option Tmp} {s ty : Nat} {pos : String} {after : Array Edge} {gu : Option (Nat × Bool)} (hf : F i (a.tmps.getD s undef) w) : Does P Q F i ⟨d, .assign (.tmp s), ty, pos, after, gu⟩ a w := does_value rfl hf
set_option maxRecDepth 100000 in
theorem ob_zeroR {d : Option Tmp} {ty : Nat} {pos : String} {after : Array Edge} {gu : Option (Nat × Bool)} (hf : F i (.agg #[.bool false, .slice none 0 0, .slice none 0 0]) w) : Does Tryz.prog Q F i ⟨d, .build 24 #[], ty, pos, after, gu⟩ a w :=
  does_value (do_value (by simp only [List.map_toArray, List.map_nil]; exact run_zeroR)) hf
set_option maxRecDepth 100000 in
theorem ob_buildR {d : Option Tmp} {ty s0 s1 s2 : Nat} {pos : String} {after : Array Edge} {gu : Option (Nat × Bool)} {b : Bool} {A A2 : Option Addr} {n c n2 c2 : Nat} (h0 : a.tmps.getD s0 undef = .bool b) (h1 : a.tmps.getD s1 undef = .slice A n c) (h2 : a.tmps.getD s2 undef = .slice A2 n2 c2) (hf : F i (.agg #[.bool b, .slice A n c, .slice A2 n2 c2]) w) : Does Tryz.prog Q F i ⟨d, .build 24 #[(0, .tmp s0), (1, .tmp s1), (2, .tmp s2)], ty, pos, after, gu⟩ a w := by
  refine does_value (do_value ?_) hf
  simp only [List.map_toArray, List.map_cons, List.map_nil]
  rw [show a.eval (.tmp s0) = _ from h0, show a.eval (.tmp s1) = _ from h1, show a.eval (.tmp s2) = _ from h2]
  exact run_buildR
end

theorem wanted_at {P : Program} {ops : Array Oper} {o : Oper} {a : Act} {j d : Nat} {b v : Bool} (hg : o.guard = some (j, v)) (hd : dstOf ops j = some d) (h : a.tmps.getD d undef = .bool b) : Region.wanted o (yielded ops a.tmps) = (b == v) := by
  unfold Region.wanted
  rw [hg]
  have : yielded ops a.tmps j = some b := by
    unfold yielded
    have hd' : (ops[j]?).bind (·.dst) = some d := hd
    rw [hd']
    have : a.tmps[d]? = some (.bool b) := by
      rw [Array.getD_eq_getD_getElem?] at h
      cases hq : a.tmps[d]? with
      | none => rw [hq] at h; cases h
      | some x => rw [hq] at h; simp at h; rw [h]
    simp [this]
  simp [this]
theorem wanted_yes {P : Program} {ops : Array Oper} {o : Oper} {a : Act} {j d : Nat} {b : Bool} (hg : o.guard = some (j, b)) (hd : dstOf ops j = some d) (h : a.tmps.getD d undef = .bool b) : Region.wanted o (yielded ops a.tmps) = true := by
  rw [wanted_at (P := P) hg hd h]; simp
theorem wanted_no {P : Program} {ops : Array Oper} {o : Oper} {a : Act} {j d : Nat} {b : Bool} (hg : o.guard = some (j, !b)) (hd : dstOf ops j = some d) (h : a.tmps.getD d undef = .bool b) : Region.wanted o (yielded ops a.tmps) = false := by
  rw [wanted_at (P := P) hg hd h]; cases b <;> rfl
set_option maxRecDepth 100000 in
theorem ob_ext0 {P : Program} {Q : Exit → Act → World → Prop} {a : Act} {F : Nat → Value → World → Prop} {w : World} {i : Nat} {d : Option Tmp} {s ty : Nat} {pos : String} {after : Array Edge} {gu : Option (Nat × Bool)} {u v : Value} (hs : a.tmps.getD s undef = .tuple #[u, v]) (hf : F i u w) : Does P Q F i ⟨d, .extract (.tmp s) 0, ty, pos, after, gu⟩ a w := by
  refine does_value (do_value ?_) hf
  rw [show a.eval (.tmp s) = _ from hs]
  go_simp
set_option maxRecDepth 100000 in
theorem ob_ext1 {P : Program} {Q : Exit → Act → World → Prop} {a : Act} {F : Nat → Value → World → Prop} {w : World} {i : Nat} {d : Option Tmp} {s ty : Nat} {pos : String} {after : Array Edge} {gu : Option (Nat × Bool)} {u v : Value} (hs : a.tmps.getD s undef = .tuple #[u, v]) (hf : F i v w) : Does P Q F i ⟨d, .extract (.tmp s) 1, ty, pos, after, gu⟩ a w := by
  refine does_value (do_value ?_) hf
  rw [show a.eval (.tmp s) = _ from hs]
  go_simp

/-- what the operations of a list say, each with its number -/
def AllFrom (p : Nat → Oper → Prop) : Nat → List Oper → Prop
  | _, [] => True
  | i, o :: l => p i o ∧ AllFrom p (i + 1) l
theorem AllFrom.get {p : Nat → Oper → Prop} : ∀ {l : List Oper} {k : Nat}, AllFrom p k l → ∀ i o, l[i]? = some o → p (k + i) o
  | [], k, _, i, o, h => by simp at h
  | x :: l, k, h, 0, o, e => by simp at e; subst e; exact h.1
  | x :: l, k, h, i + 1, o, e => by
    have := AllFrom.get h.2 i o (by simpa using e)
    rw [show k + (i + 1) = k + 1 + i from by omega]; exact this
def isTg (ts : List Tg) (i : Nat) : Bool := ts.any fun tg => tg.by_ == i || tg.st == i
theorem isTg_no {ts : List Tg} {i : Nat} (h : isTg ts i = true) (hno : ∀ (k : Nat) (tg : Tg), ts[k]? = some tg → tg.by_ ≠ i ∧ tg.st ≠ i) : False := by
  unfold isTg at h
  rw [List.any_eq_true] at h
  obtain ⟨tg, hm, h⟩ := h
  obtain ⟨k, hk⟩ := List.getElem?_of_mem hm
  have := hno k tg hk
  simp at h
  rcases h with h | h
  · exact this.1 h
  · exact this.2 h
/-- what must be said of each block -/
def TgOb (P : Program) (ops : Array Oper) (W0 Wi : World) (a0 : Act) (fs gs : List Fact) (ts : List Tg) (k : Nat) (tg : Tg) : Prop :=
  NoWords tg.t tg.init ∧
  (ops.size ≤ tg.by_ ∨ ((∀ v w, factsF fs tg.by_ v w) ∧ ∃ o, ops[tg.by_]? = some o ∧ ∀ (a : Act) (w : World), Region.wanted o (yielded ops a.tmps) = true ∧ (execOp a.eval o).run P w = .ok (.value (.pointer (some ⟨w.heap.size, 0, none⟩))) (w.alloc (.cells tg.init tg.t)))) ∧
  (ops.size ≤ tg.st ∨ ∃ o, ops[tg.st]? = some o ∧ ∀ (a : Act) (w : World) (g : Nat), Pre ops W0 Wi a0 (factsF fs) ts tg.st a w → a.tmps.getD tg.slot undef = .pointer (some ⟨g, 0, none⟩) → Own w g tg.t tg.init → Region.wanted o (yielded ops a.tmps) = true ∧ ∃ w' cur, (execOp a.eval o).run P w = .ok .skip w' ∧ Only g w w' ∧ Own w' g tg.t cur ∧ NoWords tg.t cur ∧ factsF gs k (.agg cur) w')
def AllTs (p : Nat → Tg → Prop) : Nat → List Tg → Prop
  | _, [] => True
  | i, o :: l => p i o ∧ AllTs p (i + 1) l
theorem AllTs.get {p : Nat → Tg → Prop} : ∀ {l : List Tg} {k : Nat}, AllTs p k l → ∀ i o, l[i]? = some o → p (k + i) o
  | [], k, _, i, o, h => by simp at h
  | x :: l, k, h, 0, o, e => by simp at e; subst e; exact h.1
  | x :: l, k, h, i + 1, o, e => by
    have := AllTs.get h.2 i o (by simpa using e)
    rw [show k + (i + 1) = k + 1 + i from by omega]; exact this
theorem AllTs.mk_ {p : Nat → Tg → Prop} : ∀ {l : List Tg} {k : Nat}, (∀ i o, l[i]? = some o → p (k + i) o) → AllTs p k l
  | [], _, _ => trivial
  | x :: l, k, h => ⟨h 0 x rfl, AllTs.mk_ (fun i o hi => by have := h (i + 1) o (by simpa using hi); rwa [show k + (i + 1) = k + 1 + i from by omega] at this)⟩
/-- a block that is only read, or made and written, by the struct of three cells -/
theorem tg_read {P : Program} {ops : Array Oper} {W0 Wi : World} {a0 : Act} {fs gs : List Fact} {ts : List Tg} {k : Nat} {tg : Tg} (hn : NoWords tg.t tg.init) (h1 : ops.size ≤ tg.by_) (h2 : ops.size ≤ tg.st) : TgOb P ops W0 Wi a0 fs gs ts k tg := ⟨hn, .inl h1, .inl h2⟩
set_option maxRecDepth 100000 in
theorem store_ob {ops : Array Oper} {W0 Wi : World} {a0 : Act} {fs : List Fact} {ts : List Tg} {gs : List Fact} {k : Nat} {tg : Tg} {s j ty : Nat} {pos : String} {after : Array Edge} {x0 x1 x2 : Value} {r : Rat} {L : Nat}
    (hn : NoWords 24 #[x0, x1, x2]) (ho : ops[tg.st]? = some ⟨none, .store 24 (.tmp tg.slot) (.tmp s), ty, pos, after, none⟩) (ht : tg.t = 24) (hi : tg.init = #[x0, x1, x2]) (hw : waits ops 3 tg.st j = true) (hd : dstOf ops j = some s) (hf : fs[j]? = some (Fact.rat r L)) (hg : gs[k]? = some (Fact.rat r L)) :
    ∃ o, ops[tg.st]? = some o ∧ ∀ (a : Act) (w : World) (g : Nat), Pre ops W0 Wi a0 (factsF fs) ts tg.st a w → a.tmps.getD tg.slot undef = .pointer (some ⟨g, 0, none⟩) → Own w g tg.t tg.init → Region.wanted o (yielded ops a.tmps) = true ∧ ∃ w' cur, (execOp a.eval o).run Tryz.prog w = .ok .skip w' ∧ Only g w w' ∧ Own w' g tg.t cur ∧ NoWords tg.t cur ∧ factsF gs k (.agg cur) w' := by
  refine ⟨_, ho, fun a w g hp hs hown => ⟨rfl, ?_⟩⟩
  have I : IsR w (a.tmps.getD s undef) r L := by
    have := hp.fact j s hw hd
    unfold factsF at this
    rw [hf] at this
    exact this
  obtain ⟨A, n, c, xs, A', n', c', ys, hv, _⟩ := id I
  rw [ht, hi] at hown
  rw [hv] at I
  have hon : Only g w (((w.setCell ⟨g, 0, none⟩ (.bool (decide (r < 0)))).setCell ⟨g, 1, none⟩ (.slice A n c)).setCell ⟨g, 2, none⟩ (.slice A' n' c')) := only3 _ _ _
  refine ⟨_, #[.bool (decide (r < 0)), .slice A n c, .slice A' n' c'], do_unit (by rw [show a.eval (.tmp tg.slot) = _ from hs, show a.eval (.tmp s) = _ from hv]; exact run_storeR hown), hon, ?_, by rw [ht]; exact noWords_R _ _ _ _ _ _ _, ?_⟩
  · rw [ht]
    exact ((hown.set_ 0 _).set_ 1 _).set_ 2 _
  · unfold factsF
    rw [hg]
    show IsR _ _ r L
    exact I.kept (Kept.only hon hown hn)
/-- the frame behind a region: what was in the slots that the region does not write, and new values -/
def fillL : List (Option Nat) → List Value → (Nat → Value) → List Value
  | none :: r, x :: xs, f => x :: fillL r xs f
  | some d :: r, _ :: xs, f => f d :: fillL r xs f
  | [], xs, _ => xs
  | _ :: _, [], _ => []
def frOK (ops : Array Oper) (fr : List (Option Nat)) : Bool := (List.range fr.length).all fun d => match fr[d]? with
  | some none => freeB ops d
  | some (some e) => e == d
  | none => false
theorem fillL_length (f : Nat → Value) : ∀ (fr : List (Option Nat)) (xs : List Value), fr.length = xs.length → (fillL fr xs f).length = xs.length
  | [], [], _ => rfl
  | none :: r, x :: xs, h => by simp only [fillL, List.length_cons]; rw [fillL_length f r xs (by simpa using h)]
  | some d :: r, x :: xs, h => by simp only [fillL, List.length_cons]; rw [fillL_length f r xs (by simpa using h)]
theorem fillL_get (f : Nat → Value) : ∀ (fr : List (Option Nat)) (xs : List Value) (k : Nat), fr.length = xs.length → (fillL fr xs f)[k]? = match fr[k]? with
    | some none => xs[k]?
    | some (some d) => some (f d)
    | none => none
  | [], [], k, _ => by simp [fillL]
  | none :: r, x :: xs, 0, h => by simp [fillL]
  | some d :: r, x :: xs, 0, h => by simp [fillL]
  | none :: r, x :: xs, k + 1, h => by simp only [fillL, List.getElem?_cons_succ]; exact fillL_get f r xs k (by simpa using h)
  | some d :: r, x :: xs, k + 1, h => by simp only [fillL, List.getElem?_cons_succ]; exact fillL_get f r xs k (by simpa using h)
theorem act_fill {ops : Array Oper} {fr : List (Option Nat)} {a a0 : Act} (h1 : a.tmps.size = a0.tmps.size) (h2 : a.defers = a0.defers) (h3 : ∀ d, freeB ops d = true → a.tmps.getD d undef = a0.tmps.getD d undef) (hfr : frOK ops fr = true) (hl : fr.length = a0.tmps.size) :
    a = ⟨(fillL fr a0.tmps.toList (fun d => a.tmps.getD d undef)).toArray, a0.defers⟩ := by
  have hl' : fr.length = a0.tmps.toList.length := by simpa using hl
  obtain ⟨ts, ds⟩ := a
  simp only at h1 h2 h3
  subst h2
  congr 1
  apply Array.ext'
  apply List.ext_getElem?
  intro k
  rw [fillL_get _ _ _ _ hl']
  rcases Nat.lt_or_ge k fr.length with hk | hk
  · have := hfr
    unfold frOK at this
    rw [List.all_eq_true] at this
    have := this k (List.mem_range.2 hk)
    have hkt : k < ts.size := by omega
    have hk0 : k < a0.tmps.size := by omega
    cases hq : fr[k]? with
    | none => rw [hq] at this; cases this
    | some q =>
      rw [hq] at this
      cases q with
      | none =>
        have := h3 k this
        simp [hkt, hk0] at this
        simp [hkt, hk0, this]
      | some d =>
        simp at this
        subst this
        simp [hkt]
  · rw [List.getElem?_eq_none hk]
    simp; omega
theorem fits_lt {ts : List Tg} {k : Nat} {tg : Tg} (h : ts[k]? = some tg) : k < ts.length := (List.getElem?_eq_some_iff.1 h).1

theorem blt_yes {a b : Nat} (h : a < b) : Nat.blt a b = true := by rw [Nat.blt_eq]; exact h

theorem wp_region_facts {P : Program} {id : Nat} {ops : Array Oper} {Q : Exit → Act → World → Prop} {a0 : Act} {w : World} (hm : P.follows .mixedOrders = true) (W0 : World) (fs gs : List Fact) (ts : List Tg) (gl : List Nat) (fr : List (Option Nat))
    (hck : regCheck ops a0.tmps.size ts = true) (hed : edgesBack ops = true) (hfr : frOK ops fr = true) (hfl : fr.length = a0.tmps.size) (hon : On W0 w)
    (hb0 : AllTs (fun k tg => ops.size ≤ tg.by_ → k < gl.length ∧ a0.tmps.getD tg.slot undef = .pointer (some ⟨gl.getD k 0, 0, none⟩) ∧ W0.heap.size ≤ gl.getD k 0 ∧ Own w (gl.getD k 0) tg.t tg.init) 0 ts)
    (hgl : AllTs (fun _ tg => ops.size ≤ tg.st) 0 ts ∨ gl.Pairwise (· ≠ ·))
    (hts : AllTs (TgOb P ops W0 w a0 fs gs ts) 0 ts)
    (hops : AllFrom (fun i o => isTg ts i = true ∨ ∀ (a : Act) (w1 : World), Pre ops W0 w a0 (factsF fs) ts i a w1 → if Region.wanted o (yielded ops a.tmps) = true then Does P Q (factsF fs) i o a w1 else factsF fs i undef w1) 0 ops.toList)
    (hdone : ∀ (f : Nat → Value) (w1 : World), On W0 w1 → Kept w w1 → (∀ i d, dstOf ops i = some d → factsF fs i (f d) w1) →
      AllTs (fun k tg => cond (Nat.blt tg.by_ ops.size)
        (∃ g, f tg.slot = .pointer (some ⟨g, 0, none⟩) ∧ W0.heap.size ≤ g ∧ cond (Nat.blt tg.st ops.size) (∃ cur, Own w1 g tg.t cur ∧ factsF gs k (.agg cur) w1) (Own w1 g tg.t tg.init))
        (cond (Nat.blt tg.st ops.size) (∃ cur, Own w1 (gl.getD k 0) tg.t cur ∧ factsF gs k (.agg cur) w1) (Own w1 (gl.getD k 0) tg.t tg.init))) 0 ts →
      (∀ (k l : Nat) (a1 b1 : Tg), ts[k]? = some a1 → ts[l]? = some b1 → k ≠ l → a1.st < ops.size → (if freeB ops a1.slot = true then a0.tmps.getD a1.slot undef else f a1.slot) ≠ (if freeB ops b1.slot = true then a0.tmps.getD b1.slot undef else f b1.slot)) →
      Q .normal ⟨(fillL fr a0.tmps.toList f).toArray, a0.defers⟩ w1) :
    (Code.region id ops true).wp P Q a0 w := by
  have hb0' := fun k tg h => Nat.zero_add k ▸ AllTs.get hb0 k tg h
  have hts' := fun k tg h => Nat.zero_add k ▸ AllTs.get hts k tg h
  refine wp_region_law hm W0 (factsF fs) ts (fun k cur w => factsF gs k (.agg cur) w) hck hed (factsF_mono fs) (fun k cur w w' => factsF_mono gs k _ w w') hon ?_ ?_ ?_ ?_ ?_ ?_
  · intro k tg ht hby
    obtain ⟨_, h1, h2, h3⟩ := hb0' k tg ht hby
    exact ⟨_, h1, h2, h3, (hts' k tg ht).1⟩
  · intro k l a1 b1 h1 h2 hkl hss q1 q2 e
    replace hgl : gl.Pairwise (· ≠ ·) := by
      rcases hgl with h | h
      · have := AllTs.get h k a1 h1
        omega
      · exact h
    have lk := (hb0' k a1 h1 q1).1
    have ll := (hb0' l b1 h2 q2).1
    rw [(hb0' k a1 h1 q1).2.1, (hb0' l b1 h2 q2).2.1] at e
    injection e with e
    injection e with e
    injection e with e
    rw [List.pairwise_iff_getElem] at hgl
    have gk : gl.getD k 0 = gl[k] := by simp [lk]
    have gl' : gl.getD l 0 = gl[l] := by simp [ll]
    rw [gk, gl'] at e
    rcases Nat.lt_or_ge k l with h | h
    · exact hgl k l lk ll h e
    · exact hgl l k ll lk (by omega) e.symm
  · intro i o ho hno a w hp
    have := AllFrom.get hops i o (by simpa using ho)
    rw [Nat.zero_add] at this
    rcases this with h | h
    · exact (isTg_no h hno).elim
    · exact h a w hp
  · intro k tg ht o ho
    have hlt : tg.by_ < ops.size := (Array.getElem?_eq_some_iff.1 ho).1
    obtain ⟨h1, h2, _⟩ := hts' k tg ht
    rcases h2 with h2 | ⟨h2, o', ho', h3⟩
    · omega
    · rw [ho] at ho'; cases ho'
      exact ⟨h1, h2, h3⟩
  · intro k tg ht o ho
    have hlt : tg.st < ops.size := (Array.getElem?_eq_some_iff.1 ho).1
    obtain ⟨_, _, h2⟩ := hts' k tg ht
    rcases h2 with h2 | ⟨o', ho', h3⟩
    · omega
    · rw [ho] at ho'; cases ho'
      exact h3
  · intro a w1 hon hkept hs hd hsame hf hblk hap
    have hslot : ∀ d, (if freeB ops d = true then a0.tmps.getD d undef else a.tmps.getD d undef) = a.tmps.getD d undef := by
      intro d
      by_cases h : freeB ops d = true
      · rw [if_pos h, hsame d h]
      · rw [if_neg h]
    rw [act_fill hs hd hsame hfr hfl]
    refine hdone (fun d => a.tmps.getD d undef) w1 hon hkept hf ?_ ?_
    · refine AllTs.mk_ (fun k tg ht => ?_)
      rw [Nat.zero_add]
      obtain ⟨g, cur, h1, h2, h3, h4, h5⟩ := hblk k tg ht
      have hD : ∀ q, g = q → cond (Nat.blt tg.st ops.size) (∃ cur, Own w1 q tg.t cur ∧ factsF gs k (.agg cur) w1) (Own w1 q tg.t tg.init) := by
        rintro q rfl
        cases hq : Nat.blt tg.st ops.size with
        | true => exact ⟨cur, h3, h5 (by simpa [Nat.blt_eq] using hq)⟩
        | false =>
          have : ops.size ≤ tg.st := by
            rcases Nat.lt_or_ge tg.st ops.size with h | h
            · rw [blt_yes h] at hq; cases hq
            · exact h
          rw [← h4 this]; exact h3
      cases hq : Nat.blt tg.by_ ops.size with
      | true => exact ⟨g, h1, h2, hD g rfl⟩
      | false =>
        have hby : ops.size ≤ tg.by_ := by
          rcases Nat.lt_or_ge tg.by_ ops.size with h | h
          · rw [blt_yes h] at hq; cases hq
          · exact h
        refine hD _ ?_
        have hfr2 : freeB ops tg.slot = true := by
          unfold freeB
          rw [List.all_eq_true]
          intro i hi
          rw [List.mem_range] at hi
          rw [bne_iff_ne]
          intro e
          have := (regCheck_spec hck).slot tg (List.mem_of_getElem? ht) i e
          omega
        have e1 := hsame tg.slot hfr2
        rw [h1, (hb0' k tg ht hby).2.1] at e1
        injection e1 with e1
        injection e1 with e1
        injection e1 with e1
    · intro k l a1 b1 h1 h2 hkl hss
      rw [hslot, hslot]
      exact hap k l a1 b1 h1 h2 hkl hss
end Num
end Go.Proofs.YtkchpagjkgmpmaaGreat
