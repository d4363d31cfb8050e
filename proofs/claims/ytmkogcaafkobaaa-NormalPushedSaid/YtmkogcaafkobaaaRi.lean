/-
  A region that draws its order, by facts of its operations: each holds from its operation on until the operation at which it ends. No statement of the program.
-/
import Derived.Test.YtmkogcaafkobaaaSo
import Derived.OrdersHeld
import Derived.RegionTactic
import Derived.WalkKit
namespace Go.Proofs.Ytmkogcaafkobaaa.Rg
open Go.RowKit Go.Proofs.Ytmkogcaafkobaaa.Sb
set_option linter.unusedVariables false
section
variable {P : Program} {ops : Array Oper} {Q : Exit → Act → World → Prop}
def dstOf (ops : Array Oper) (i : Nat) : Option Tmp := (ops[i]?).bind (·.dst)
/-- operation i waits for operation j -/
def waits (ops : Array Oper) : Nat → Nat → Nat → Bool
  | 0, _, _ => false
  | f + 1, i, j => match ops[i]? with
    | none => false
    | some o => o.after.toList.any fun e => Region.binds .any e && (e.on == j || waits ops f e.on j)
/-- no operation writes slot d -/
def freeB (ops : Array Oper) (d : Tmp) : Bool := (List.range ops.size).all fun i => dstOf ops i != some d
/-- each operation has a slot of its own -/
def ownSlots (ops : Array Oper) (n : Nat) : Bool :=
  (List.range ops.size).all fun i => match dstOf ops i with
    | none => true
    | some d => decide (d < n) && (List.range ops.size).all fun j => i == j || dstOf ops j != some d
def edgesBack (ops : Array Oper) : Bool := (List.range ops.size).all fun i => match ops[i]? with
  | none => true
  | some o => o.after.toList.all fun e => !Region.binds .any e || decide (e.on < i)
theorem dstOf_some {i : Nat} {o : Oper} (h : ops[i]? = some o) : dstOf ops i = o.dst := by unfold dstOf; rw [h]; rfl
theorem dstOf_lt {i : Nat} {d : Tmp} (h : dstOf ops i = some d) : i < ops.size := by
  rcases Nat.lt_or_ge i ops.size with h1 | h1
  · exact h1
  · unfold dstOf at h; rw [Array.getElem?_eq_none h1] at h; cases h
theorem ownSlots_spec {n : Nat} (h : ownSlots ops n = true) : ∀ i d, dstOf ops i = some d → d < n ∧ ∀ j, dstOf ops j = some d → i = j := by
  intro i d hi
  unfold ownSlots at h
  rw [List.all_eq_true] at h
  have := h i (List.mem_range.2 (dstOf_lt hi))
  rw [hi] at this
  simp only [Bool.and_eq_true, decide_eq_true_iff, List.all_eq_true, List.mem_range, Bool.or_eq_true, beq_iff_eq, bne_iff_ne] at this
  refine ⟨this.1, fun j hj => ?_⟩
  rcases this.2 j (dstOf_lt hj) with e | e
  · exact e
  · exact absurd hj e
theorem put_getD_ne {a : Act} {x : Option Tmp} {v : Value} {d : Tmp} (h : x ≠ some d) : (a.put x v).tmps.getD d undef = a.tmps.getD d undef := by
  cases x with
  | none => rfl
  | some y =>
    have : y ≠ d := fun e => h (by rw [e])
    simp [Act.put, Array.getElem?_setIfInBounds_ne this]
theorem put_getD_eq {a : Act} {v : Value} {d : Tmp} (h : d < a.tmps.size) : (a.put (some d) v).tmps.getD d undef = v := by
  simp [Act.put, h]
theorem put_size {a : Act} {x : Option Tmp} {v : Value} : (a.put x v).tmps.size = a.tmps.size := by cases x <;> simp [Act.put]
theorem put_defers {a : Act} {x : Option Tmp} {v : Value} : (a.put x v).defers = a.defers := by cases x <;> rfl
theorem free_ne {d : Tmp} (h : freeB ops d = true) (i : Nat) : dstOf ops i ≠ some d := by
  intro e
  unfold freeB at h
  rw [List.all_eq_true] at h
  have := h i (List.mem_range.2 (dstOf_lt e))
  rw [e] at this
  simp at this
theorem getD_false_true {L : Array Bool} {i : Nat} (h : L.getD i true = false) : i < L.size := by
  rcases Nat.lt_or_ge i L.size with h1 | h1
  · exact h1
  · simp [Array.getElem?_eq_none h1] at h
theorem getD_either {L : Array Bool} {i : Nat} (h : i < L.size) : L.getD i true = L.getD i false := by simp [h]
theorem getD_set_self {L : Array Bool} {i : Nat} (h : i < L.size) (b : Bool) : (L.setIfInBounds i true).getD i b = true := by simp [h]
theorem waits_listed {L : Array Bool} (hcl : ∀ i o, ops[i]? = some o → L.getD i false = true → ∀ e ∈ o.after, Region.binds .any e = true → L.getD e.on false = true) :
    ∀ (f i j : Nat) (o : Oper), ops[i]? = some o → (∀ e ∈ o.after, Region.binds .any e = true → L.getD e.on false = true) → waits ops f i j = true → L.getD j false = true := by
  intro f
  induction f with
  | zero => intro i j o _ _ h; cases h
  | succ f ih =>
    intro i j o ho hall h
    unfold waits at h
    rw [ho] at h
    simp only [List.any_eq_true, Bool.and_eq_true, Bool.or_eq_true, beq_iff_eq, Array.mem_toList_iff] at h
    obtain ⟨e, he, hb, h1⟩ := h
    have hl := hall e he hb
    rcases h1 with rfl | h1
    · exact hl
    · cases hoe : ops[e.on]? with
      | none => cases f with
        | zero => cases h1
        | succ f => unfold waits at h1; rw [hoe] at h1; cases h1
      | some oe => exact ih e.on j oe hoe (hcl e.on oe hoe hl) h1
theorem countP_set_lt {L : Array Bool} {i : Nat} (hu : L.getD i true = false) : (L.setIfInBounds i true).toList.countP (fun b => !b) < L.toList.countP (fun b => !b) := by
  have hlt := getD_false_true hu
  have hlt' : i < L.toList.length := by simpa using hlt
  have hv : L.toList[i] = false := by simpa [hlt] using hu
  have h1 : 0 < L.toList.countP (fun b => !b) := List.countP_pos_iff.2 ⟨_, List.getElem_mem hlt', by rw [hv]; rfl⟩
  rw [Array.toList_setIfInBounds, List.countP_set hlt', hv]
  generalize L.toList.countP (fun b => !b) = q at h1 ⊢
  show q - 1 + 0 < q
  omega
theorem ready_of_unlisted {L : Array Bool} (hs : L.size = ops.size) (he : edgesBack ops = true) : ∀ i, L.getD i true = false → Region.ready .any ops L ≠ [] := by
  intro i
  induction i using Nat.strongRecOn with
  | ind i ih =>
    intro hu
    have hlt := getD_false_true hu
    obtain ⟨o, ho⟩ : ∃ o, ops[i]? = some o := ⟨_, Array.getElem?_eq_getElem (by rw [← hs]; exact hlt)⟩
    by_cases hall : ∀ e ∈ o.after, Region.binds .any e = true → L.getD e.on false = true
    · intro e
      have : i ∈ Region.ready .any ops L := mem_ready.2 ⟨hu, o, ho, hall⟩
      rw [e] at this; cases this
    · simp only [Classical.not_forall] at hall
      obtain ⟨e, hm, hb, hn⟩ := hall
      have hb2 : e.on < i := by
        unfold edgesBack at he
        rw [List.all_eq_true] at he
        have := he i (List.mem_range.2 (by rw [← hs]; exact hlt))
        rw [ho] at this
        simp only [List.all_eq_true, decide_eq_true_iff, Array.mem_toList_iff, Bool.or_eq_true, Bool.not_eq_true'] at this
        rcases this e hm with h | h
        · rw [hb] at h; cases h
        · exact h
      refine ih e.on hb2 ?_
      rw [getD_either (by omega)]
      cases h : L.getD e.on false with
      | false => rfl
      | true => exact absurd h hn
/-- what lies in the slots -/
def slv (a : Act) (d : Tmp) : Value := a.tmps.getD d undef
/-- the slots that a fact of operation i may speak of: those of no operation, its own, and those of the operations that it waits for -/
def depB (ops : Array Oper) (i : Nat) (d : Tmp) : Bool := freeB ops d || dstOf ops i == some d || (List.range ops.size).any fun j => waits ops 4 i j && dstOf ops j == some d
structure Inv (ops : Array Oper) (W0 : World) (a0 : Act) (F : Nat → (Tmp → Value) → World → Prop) (ex : Nat → Nat) (L : Array Bool) (a : Act) (w : World) : Prop where
  on : On W0 w
  size : L.size = ops.size
  tsize : a.tmps.size = a0.tmps.size
  defers : a.defers = a0.defers
  closed : ∀ i o, ops[i]? = some o → L.getD i false = true → ∀ e ∈ o.after, Region.binds .any e = true → L.getD e.on false = true
  same : ∀ d, freeB ops d = true → a.tmps.getD d undef = a0.tmps.getD d undef
  fact : ∀ i, i < ops.size → L.getD i false = true → L.getD (ex i) false = false → F i (slv a) w
/-- what is known when operation i is carried out -/
structure Pre (ops : Array Oper) (W0 : World) (a0 : Act) (F : Nat → (Tmp → Value) → World → Prop) (ex : Nat → Nat) (i : Nat) (a : Act) (w : World) : Prop where
  on : On W0 w
  tsize : a.tmps.size = a0.tmps.size
  same : ∀ d, freeB ops d = true → slv a d = slv a0 d
  fact : ∀ j, waits ops 4 i j = true → (ops.size ≤ ex j ∨ ex j = i ∨ waits ops 4 (ex j) i = true) → F j (slv a) w
variable {W0 Wi : World} {a0 : Act} {F : Nat → (Tmp → Value) → World → Prop} {ex : Nat → Nat}
theorem Inv.pre {L : Array Bool} {a : Act} {w : World} (H : Inv ops W0 a0 F ex L a w) {i : Nat} {o : Oper} (ho : ops[i]? = some o) (hu : L.getD i true = false) (hall : ∀ e ∈ o.after, Region.binds .any e = true → L.getD e.on false = true) : Pre ops W0 a0 F ex i a w := by
  refine ⟨H.on, H.tsize, H.same, fun j hw hs => ?_⟩
  have hj := waits_listed H.closed 4 i j o ho hall hw
  have hjs : j < ops.size := by
    rcases Nat.lt_or_ge j L.size with h1 | h1
    · rw [← H.size]; exact h1
    · simp [Array.getElem?_eq_none h1] at hj
  have hex : L.getD (ex j) false = false := by
    rcases hs with h | h | h
    · simp [Array.getElem?_eq_none (show L.size ≤ ex j by rw [H.size]; exact h)]
    · rw [h, ← getD_either (getD_false_true hu)]; exact hu
    · cases hb : L.getD (ex j) false with
      | false => rfl
      | true =>
        exfalso
        cases hos : ops[ex j]? with
        | none => unfold waits at h; rw [hos] at h; cases h
        | some os =>
          have := waits_listed H.closed 4 (ex j) i os hos (H.closed (ex j) os hos hb) h
          rw [← getD_either (getD_false_true hu)] at this
          rw [hu] at this; cases this
  exact H.fact j hjs hj hex
theorem Inv.next (hc : ownSlots ops a0.tmps.size = true) (hdep : ∀ j f f' w, j < ops.size → (∀ d, depB ops j d = true → f d = f' d) → F j f w → F j f' w) {L : Array Bool} {a : Act} {w w' : World} (H : Inv ops W0 a0 F ex L a w) {i : Nat} {o : Oper} (ho : ops[i]? = some o) (hu : L.getD i true = false) (hall : ∀ e ∈ o.after, Region.binds .any e = true → L.getD e.on false = true)
    {v : Value} (hon : On W0 w') (hF : ∀ j, j < ops.size → j ≠ i → ex j ≠ i → waits ops 4 j i = false → waits ops 4 i (ex j) = false → ∀ f, F j f w → F j f w') (hv : F i (slv (a.put o.dst v)) w') :
    Inv ops W0 a0 F ex (L.setIfInBounds i true) (a.put o.dst v) w' := by
  have hdo := dstOf_some ho
  have hlt := getD_false_true hu
  refine ⟨hon, by simp [H.size], by rw [put_size]; exact H.tsize, by rw [put_defers]; exact H.defers, ?_, ?_, ?_⟩
  · intro j oj hj hl e he hb
    apply getD_set_true
    by_cases hij : i = j
    · subst hij
      rw [ho] at hj; cases hj
      exact hall e he hb
    · rw [getD_set_ne false hij] at hl
      exact H.closed j oj hj hl e he hb
  · intro d hd
    rw [put_getD_ne (by rw [← hdo]; exact free_ne hd i)]
    exact H.same d hd
  · intro j hj hl hx
    by_cases hij : i = j
    · subst hij
      exact hv
    · rw [getD_set_ne false hij] at hl
      have hxi : ex j ≠ i := fun e => by rw [e, getD_set_self hlt] at hx; cases hx
      rw [getD_set_ne false (Ne.symm hxi)] at hx
      have hnw : ∀ k, waits ops 4 j k = true → L.getD k false = true := fun k hk => by
        obtain ⟨oj, hoj⟩ : ∃ oj, ops[j]? = some oj := ⟨_, Array.getElem?_eq_getElem hj⟩
        exact waits_listed H.closed 4 j k oj hoj (H.closed j oj hoj hl) hk
      have hnj : waits ops 4 j i = false := by
        cases hb : waits ops 4 j i with
        | false => rfl
        | true =>
          have := hnw i hb
          rw [← getD_either hlt, hu] at this; cases this
      have hne : waits ops 4 i (ex j) = false := by
        cases hb : waits ops 4 i (ex j) with
        | false => rfl
        | true =>
          have := waits_listed H.closed 4 i (ex j) o ho hall hb
          rw [hx] at this; cases this
      refine hdep j (slv a) _ w' hj (fun d hd => ?_) (hF j hj (Ne.symm hij) hxi hnj hne _ (H.fact j hj hl hx))
      refine (put_getD_ne fun e => ?_).symm
      rw [← hdo] at e
      unfold depB at hd
      simp only [Bool.or_eq_true, beq_iff_eq, List.any_eq_true, Bool.and_eq_true, List.mem_range] at hd
      rcases hd with (hd | hd) | ⟨k, hk, h1, h2⟩
      · exact free_ne hd i e
      · exact hij ((ownSlots_spec hc i d e).2 j hd)
      · have := (ownSlots_spec hc i d e).2 k h2
        subst this
        rw [hnj] at h1; cases h1
/-- one operation that is carried out says this -/
def Does (P : Program) (Q : Exit → Act → World → Prop) (W0 : World) (F : Nat → (Tmp → Value) → World → Prop) (K : Nat → World → World → Prop) (i : Nat) (o : Oper) (a : Act) (w : World) : Prop :=
  Oper.wp P o a w (fun a' w' => ∃ v, a' = a.put o.dst v ∧ On W0 w' ∧ K i w w' ∧ F i (slv a') w') Q
/-- what the operations of a list say, each with its number -/
def AllFrom (p : Nat → Oper → Prop) : Nat → List Oper → Prop
  | _, [] => True
  | i, o :: l => p i o ∧ AllFrom p (i + 1) l
theorem AllFrom.get {p : Nat → Oper → Prop} : ∀ {l : List Oper} {k : Nat}, AllFrom p k l → ∀ i o, l[i]? = some o → p (k + i) o
  | [], k, _, i, o, h => by simp at h
  | x :: l, k, h, 0, o, e => by simp at e; subst e; exact h.1
  | x :: l, k, h, i + 1, o, e => by
    have := AllFrom.get h.2 i o (by simpa using e)
    rw [show k + (i + 1) = k + 1 + i from by omega]; exact this
/-- the frame behind a region: what was in the slots that the region does not write, and new values -/
def fillL : List (Option Nat) → List Value → (Nat → Value) → List Value
  | none :: r, x :: xs, f => x :: fillL r xs f
  | some d :: r, _ :: xs, f => f d :: fillL r xs f
  | [], xs, _ => xs
  | _ :: _, [], _ => []
def frOK (ops : Array Oper) (fr : List (Option Nat)) : Bool := (List.range fr.length).all fun d => match fr[d]? with
  | some none => freeB ops d
  | some (some e) => e == d
  | none => false
theorem fillL_length (f : Nat → Value) : ∀ (fr : List (Option Nat)) (xs : List Value), fr.length = xs.length → (fillL fr xs f).length = xs.length
  | [], [], _ => rfl
  | none :: r, x :: xs, h => by simp only [fillL, List.length_cons]; rw [fillL_length f r xs (by simpa using h)]
  | some d :: r, x :: xs, h => by simp only [fillL, List.length_cons]; rw [fillL_length f r xs (by simpa using h)]
theorem fillL_get (f : Nat → Value) : ∀ (fr : List (Option Nat)) (xs : List Value) (k : Nat), fr.length = xs.length → (fillL fr xs f)[k]? = match fr[k]? with
    | some none => xs[k]?
    | some (some d) => some (f d)
    | none => none
  | [], [], k, _ => by simp [fillL]
  | none :: r, x :: xs, 0, h => by simp [fillL]
  | some d :: r, x :: xs, 0, h => by simp [fillL]
  | none :: r, x :: xs, k + 1, h => by simp only [fillL, List.getElem?_cons_succ]; exact fillL_get f r xs k (by simpa using h)
  | some d :: r, x :: xs, k + 1, h => by simp only [fillL, List.getElem?_cons_succ]; exact fillL_get f r xs k (by simpa using h)
theorem act_fill {fr : List (Option Nat)} {a a0 : Act} (h1 : a.tmps.size = a0.tmps.size) (h2 : a.defers = a0.defers) (h3 : ∀ d, freeB ops d = true → a.tmps.getD d undef = a0.tmps.getD d undef) (hfr : frOK ops fr = true) (hl : fr.length = a0.tmps.size) :
    a = ⟨(fillL fr a0.tmps.toList (fun d => a.tmps.getD d undef)).toArray, a0.defers⟩ := by
  have hl' : fr.length = a0.tmps.toList.length := by simpa using hl
  obtain ⟨ts, ds⟩ := a
  simp only at h1 h2 h3
  subst h2
  congr 1
  apply Array.ext'
  apply List.ext_getElem?
  intro k
  rw [fillL_get _ _ _ _ hl']
  rcases Nat.lt_or_ge k fr.length with hk | hk
  · have := hfr
    unfold frOK at this
    rw [List.all_eq_true] at this
    have := this k (List.mem_range.2 hk)
    have hkt : k < ts.size := by omega
    have hk0 : k < a0.tmps.size := by omega
    cases hq : fr[k]? with
    | none => rw [hq] at this; cases this
    | some q =>
      rw [hq] at this
      cases q with
      | none =>
        have := h3 k this
        simp [hkt, hk0] at this
        simp [hkt, hk0, this]
      | some d =>
        simp at this
        subst this
        simp [hkt]
  · rw [List.getElem?_eq_none hk]
    simp; omega
theorem wp_region_inv {id : Nat} (hm : P.follows .mixedOrders = true) (W0 : World) (F : Nat → (Tmp → Value) → World → Prop) (ex : Nat → Nat) (K : Nat → World → World → Prop) (fr : List (Option Nat))
    (hck : ownSlots ops a0.tmps.size = true) (hed : edgesBack ops = true) (hfr : frOK ops fr = true) (hfl : fr.length = a0.tmps.size)
    (hdep : ∀ j f f' w, j < ops.size → (∀ d, depB ops j d = true → f d = f' d) → F j f w → F j f' w)
    (hF : ∀ i j f w w', i < ops.size → j < ops.size → j ≠ i → ex j ≠ i → waits ops 4 j i = false → waits ops 4 i (ex j) = false → K i w w' → F j f w → F j f w')
    (hon : On W0 Wi)
    (hops : AllFrom (fun i o => ∀ (a : Act) (w : World), Pre ops W0 a0 F ex i a w → if Region.wanted o (yielded ops a.tmps) = true then Does P Q W0 F K i o a w else F i (slv (a.put o.dst undef)) w) 0 ops.toList)
    (hdone : ∀ (f : Nat → Value) (w1 : World), On W0 w1 → (∀ i, i < ops.size → ops.size ≤ ex i → F i f w1) → Q .normal ⟨(fillL fr a0.tmps.toList f).toArray, a0.defers⟩ w1) :
    (Code.region id ops true).wp P Q a0 Wi := by
  have hops' : ∀ i o, ops[i]? = some o → ∀ (a : Act) (w : World), Pre ops W0 a0 F ex i a w → if Region.wanted o (yielded ops a.tmps) = true then Does P Q W0 F K i o a w else F i (slv (a.put o.dst undef)) w := fun i o h => by
    have := AllFrom.get hops i o (by rw [Array.getElem?_toList]; exact h)
    rwa [Nat.zero_add] at this
  apply wp_region_any hm
  have hend : ∀ (L : Array Bool) (a : Act) (w : World), Inv ops W0 a0 F ex L a w → (∀ i, i < ops.size → L.getD i false = true) → Q .normal a w := by
    intro L a w H hall
    rw [act_fill H.tsize H.defers H.same hfr hfl]
    refine hdone _ w H.on (fun i hi hx => ?_)
    exact H.fact i hi (hall i hi) (by simp [Array.getElem?_eq_none (show L.size ≤ ex i by rw [H.size]; exact hx)])
  have key : ∀ (fuel : Nat) (L : Array Bool) (a : Act) (w1 : World), Inv ops W0 a0 F ex L a w1 → L.toList.countP (fun b => !b) ≤ fuel → wpAny P .any ops Q fuel L a w1 := by
    intro fuel
    induction fuel with
    | zero =>
      intro L a w H hf
      have hz : L.toList.countP (fun b => !b) = 0 := by omega
      rw [List.countP_eq_zero] at hz
      have hall : ∀ i, i < ops.size → L.getD i false = true := by
        intro i hi
        have hi' : i < L.size := by rw [H.size]; exact hi
        have := hz L[i] (by simp)
        simp at this
        simp [hi', this]
      refine ⟨?_, hend L a w H hall⟩
      apply List.eq_nil_iff_forall_not_mem.2
      intro j hj
      have := (mem_ready.1 hj).1
      have hj' := getD_false_true this
      rw [getD_either hj', hall j (by rw [← H.size]; exact hj')] at this
      cases this
    | succ fuel ih =>
      intro L a w H hf
      refine ⟨?_, ?_⟩
      · intro hr
        refine hend L a w H fun i hi => ?_
        have hi' : i < L.size := by rw [H.size]; exact hi
        rw [← getD_either hi']
        cases h : L.getD i true with
        | true => rfl
        | false => exact absurd hr (ready_of_unlisted H.size hed i h)
      · intro i hi
        obtain ⟨hu, o, ho, hall⟩ := mem_ready.1 hi
        have hpre := H.pre ho hu hall
        have hcount := countP_set_lt hu
        have hisz : i < ops.size := by rw [← H.size]; exact getD_false_true hu
        have hp := hops' i o ho a w hpre
        have hFF : ∀ w', K i w w' → ∀ j, j < ops.size → j ≠ i → ex j ≠ i → waits ops 4 j i = false → waits ops 4 i (ex j) = false → ∀ f, F j f w → F j f w' := fun w' hk j hj h1 h2 h3 h4 f hf' => hF i j f w w' hisz hj h1 h2 h3 h4 hk hf'
        unfold wpOp
        rw [ho]
        show if Region.wanted o (yielded ops a.tmps) = true then _ else _
        by_cases hw : Region.wanted o (yielded ops a.tmps) = true
        · rw [if_pos hw] at hp ⊢
          refine .inl (Oper.wp_mono ?_ hp)
          rintro a' w' ⟨v, rfl, honw, hk, hf'⟩
          exact ih _ _ _ (H.next hck hdep ho hu hall honw (hFF w' hk) hf') (by omega)
        · rw [if_neg hw] at hp ⊢
          exact ih _ _ _ (H.next hck hdep ho hu hall H.on (fun _ _ _ _ _ _ _ h => h) hp) (by omega)
  refine key _ _ _ _ ⟨hon.drew, by simp, rfl, rfl, ?_, fun _ _ => rfl, ?_⟩ ?_
  · intro i o ho hl
    have hi : i < ops.size := (Array.getElem?_eq_some_iff.1 ho).1
    simp [hi] at hl
  · intro i hi hl _
    simp [hi] at hl
  · simp
    exact Nat.le_trans List.countP_le_length (by simp)
end
/-! ## one operation -/
section
variable {P : Program} {ops : Array Oper} {Q : Exit → Act → World → Prop} {W0 : World} {F : Nat → (Tmp → Value) → World → Prop} {K : Nat → World → World → Prop} {i : Nat} {o : Oper} {a : Act} {w w' : World} {E : Prop}
theorem ob_yes (hg : o.guard = none) (h : Does P Q W0 F K i o a w) : if Region.wanted o (yielded ops a.tmps) = true then Does P Q W0 F K i o a w else E := by
  have : Region.wanted o (yielded ops a.tmps) = true := by simp [Region.wanted, hg]
  rw [if_pos this]; exact h
theorem does_value {v : Value} (hr : (execOp a.eval o).run P w = .ok (.value v) w') (hon : On W0 w') (hk : K i w w') (hf : F i (slv (a.put o.dst v)) w') : Does P Q W0 F K i o a w := by
  unfold Does Oper.wp
  rw [hr]
  exact ⟨v, rfl, hon, hk, hf⟩
theorem does_skip (hr : (execOp a.eval o).run P w = .ok .skip w') (hon : On W0 w') (hk : K i w w') (hf : F i (slv (a.put o.dst undef)) w') : Does P Q W0 F K i o a w := by
  unfold Does Oper.wp
  rw [hr]
  exact ⟨undef, rfl, hon, hk, hf⟩
theorem val_eq {d : Tmp} {v : Value} (h : d < a.tmps.size) : slv (a.put (some d) v) d = v := put_getD_eq h
theorem val_ne {x : Option Tmp} {d : Tmp} {v : Value} (h : x ≠ some d) : slv (a.put x v) d = slv a d := put_getD_ne h
theorem do_value {s : Sem Value} {v : Value} (h : s.run P w = .ok v w') : (do pure (Next.value (← s)) : Sem Next).run P w = .ok (.value v) w' := by
  go_simp
theorem do_unit {s : Sem Unit} (h : s.run P w = .ok () w') : (do s; pure Next.skip : Sem Next).run P w = .ok .skip w' := by
  go_simp
end
/-- of what was there only blocks of the sort p have turned -/
def Kn (p : Array Value → TypeId → Prop) (w w' : World) : Prop := w.heap.size ≤ w'.heap.size ∧ ∀ b, b < w.heap.size → w'.heap[b]? = w.heap[b]? ∨ ∃ cur t, w.heap[b]? = some (.cells cur t (0, 0)) ∧ p cur t
section
variable {p : Array Value → TypeId → Prop} {w w' : World}
theorem Kn.of_on (h : On w w') : Kn p w w' := ⟨h.size, fun b hb => .inl (h.block b hb)⟩
theorem Kn.own {g : Nat} {t : TypeId} {cur : Array Value} (k : Kn p w w') (h : Own w g t cur) (hp : ¬ p cur t) : Own w' g t cur := by
  rcases k.2 g h.lt with e | ⟨cur', t', e, hp'⟩
  · exact e.trans h
  · unfold Own at h
    rw [h] at e
    simp only [Option.some.injEq, Obj.cells.injEq] at e
    obtain ⟨rfl, rfl, _⟩ := e
    exact absurd hp' hp
theorem Kn.only {g : Nat} {t : TypeId} {cur : Array Value} (h : Only g w w') (ho : Own w g t cur) (hp : p cur t) : Kn p w w' := by
  refine ⟨h.size, fun b hb => ?_⟩
  by_cases e : b = g
  · subst e; exact .inr ⟨cur, t, ho, hp⟩
  · exact .inl (h.block b hb (by simp; exact e))
end
end Go.Proofs.Ytmkogcaafkobaaa.Rg
