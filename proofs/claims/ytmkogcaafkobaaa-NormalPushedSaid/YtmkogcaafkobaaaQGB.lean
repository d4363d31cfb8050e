/-
  A region that draws its order, by facts of its operations: each holds from its operation on (or from the start) until the operation at which it ends; nothing else is said of the world. No statement of the program.
-/
import Derived.Test.YtmkogcaafkobaaaProg
import Derived.OrdersHeld
import Derived.RegionTactic
import Derived.WalkKit
import Derived.Test.YtmkogcaafkobaaaSo
import Derived.Lib.AppendZerosOnto
import Derived.Test.YtmkogcaafkobaaaQGA
namespace Go.Proofs.Ytmkogcaafkobaaa.Rgv
open Go.RowKit
set_option linter.unusedVariables false
section
variable {P : Program} {ops : Array Oper} {Q : Exit → Act → World → Prop}
def dstOf (ops : Array Oper) (i : Nat) : Option Tmp := (ops[i]?).bind (·.dst)
/-- operation i waits for operation j -/
def waits (ops : Array Oper) : Nat → Nat → Nat → Bool
  | 0, _, _ => false
  | f + 1, i, j => match ops[i]? with
    | none => false
    | some o => o.after.toList.any fun e => Region.binds .any e && (e.on == j || waits ops f e.on j)
/-- no operation writes slot d -/
def freeB (ops : Array Oper) (d : Tmp) : Bool := (List.range ops.size).all fun i => dstOf ops i != some d
/-- each operation has a slot of its own -/
def ownSlots (ops : Array Oper) (n : Nat) : Bool :=
  (List.range ops.size).all fun i => match dstOf ops i with
    | none => true
    | some d => decide (d < n) && (List.range ops.size).all fun j => i == j || dstOf ops j != some d
def edgesBack (ops : Array Oper) : Bool := (List.range ops.size).all fun i => match ops[i]? with
  | none => true
  | some o => o.after.toList.all fun e => !Region.binds .any e || decide (e.on < i)
theorem dstOf_some {i : Nat} {o : Oper} (h : ops[i]? = some o) : dstOf ops i = o.dst := by unfold dstOf; rw [h]; rfl
theorem dstOf_lt {i : Nat} {d : Tmp} (h : dstOf ops i = some d) : i < ops.size := by
  rcases Nat.lt_or_ge i ops.size with h1 | h1
  · exact h1
  · unfold dstOf at h; rw [Array.getElem?_eq_none h1] at h; cases h
theorem ownSlots_spec {n : Nat} (h : ownSlots ops n = true) : ∀ i d, dstOf ops i = some d → d < n ∧ ∀ j, dstOf ops j = some d → i = j := by
  intro i d hi
  unfold ownSlots at h
  rw [List.all_eq_true] at h
  have := h i (List.mem_range.2 (dstOf_lt hi))
  rw [hi] at this
  simp only [Bool.and_eq_true, decide_eq_true_iff, List.all_eq_true, List.mem_range, Bool.or_eq_true, beq_iff_eq, bne_iff_ne] at this
  refine ⟨this.1, fun j hj => ?_⟩
  rcases this.2 j (dstOf_lt hj) with e | e
  · exact e
  · exact absurd hj e
theorem put_getD_ne {a : Act} {x : Option Tmp} {v : Value} {d : Tmp} (h : x ≠ some d) : (a.put x v).tmps.getD d undef = a.tmps.getD d undef := by
  cases x with
  | none => rfl
  | some y =>
    have : y ≠ d := fun e => h (by rw [e])
    simp [Act.put, Array.getElem?_setIfInBounds_ne this]
theorem put_getD_eq {a : Act} {v : Value} {d : Tmp} (h : d < a.tmps.size) : (a.put (some d) v).tmps.getD d undef = v := by
  simp [Act.put, h]
theorem put_size {a : Act} {x : Option Tmp} {v : Value} : (a.put x v).tmps.size = a.tmps.size := by cases x <;> simp [Act.put]
theorem put_defers {a : Act} {x : Option Tmp} {v : Value} : (a.put x v).defers = a.defers := by cases x <;> rfl
theorem free_ne {d : Tmp} (h : freeB ops d = true) (i : Nat) : dstOf ops i ≠ some d := by
  intro e
  unfold freeB at h
  rw [List.all_eq_true] at h
  have := h i (List.mem_range.2 (dstOf_lt e))
  rw [e] at this
  simp at this
theorem getD_false_true {L : Array Bool} {i : Nat} (h : L.getD i true = false) : i < L.size := by
  rcases Nat.lt_or_ge i L.size with h1 | h1
  · exact h1
  · simp [Array.getElem?_eq_none h1] at h
theorem getD_either {L : Array Bool} {i : Nat} (h : i < L.size) : L.getD i true = L.getD i false := by simp [h]
theorem getD_set_self {L : Array Bool} {i : Nat} (h : i < L.size) (b : Bool) : (L.setIfInBounds i true).getD i b = true := by simp [h]
theorem waits_listed {L : Array Bool} (hcl : ∀ i o, ops[i]? = some o → L.getD i false = true → ∀ e ∈ o.after, Region.binds .any e = true → L.getD e.on false = true) :
    ∀ (f i j : Nat) (o : Oper), ops[i]? = some o → (∀ e ∈ o.after, Region.binds .any e = true → L.getD e.on false = true) → waits ops f i j = true → L.getD j false = true := by
  intro f
  induction f with
  | zero => intro i j o _ _ h; cases h
  | succ f ih =>
    intro i j o ho hall h
    unfold waits at h
    rw [ho] at h
    simp only [List.any_eq_true, Bool.and_eq_true, Bool.or_eq_true, beq_iff_eq, Array.mem_toList_iff] at h
    obtain ⟨e, he, hb, h1⟩ := h
    have hl := hall e he hb
    rcases h1 with rfl | h1
    · exact hl
    · cases hoe : ops[e.on]? with
      | none => cases f with
        | zero => cases h1
        | succ f => unfold waits at h1; rw [hoe] at h1; cases h1
      | some oe => exact ih e.on j oe hoe (hcl e.on oe hoe hl) h1
theorem countP_set_lt {L : Array Bool} {i : Nat} (hu : L.getD i true = false) : (L.setIfInBounds i true).toList.countP (fun b => !b) < L.toList.countP (fun b => !b) := by
  have hlt := getD_false_true hu
  have hlt' : i < L.toList.length := by simpa using hlt
  have hv : L.toList[i] = false := by simpa [hlt] using hu
  have h1 : 0 < L.toList.countP (fun b => !b) := List.countP_pos_iff.2 ⟨_, List.getElem_mem hlt', by rw [hv]; rfl⟩
  rw [Array.toList_setIfInBounds, List.countP_set hlt', hv]
  generalize L.toList.countP (fun b => !b) = q at h1 ⊢
  show q - 1 + 0 < q
  omega
theorem ready_of_unlisted {L : Array Bool} (hs : L.size = ops.size) (he : edgesBack ops = true) : ∀ i, L.getD i true = false → Region.ready .any ops L ≠ [] := by
  intro i
  induction i using Nat.strongRecOn with
  | ind i ih =>
    intro hu
    have hlt := getD_false_true hu
    obtain ⟨o, ho⟩ : ∃ o, ops[i]? = some o := ⟨_, Array.getElem?_eq_getElem (by rw [← hs]; exact hlt)⟩
    by_cases hall : ∀ e ∈ o.after, Region.binds .any e = true → L.getD e.on false = true
    · intro e
      have : i ∈ Region.ready .any ops L := mem_ready.2 ⟨hu, o, ho, hall⟩
      rw [e] at this; cases this
    · simp only [Classical.not_forall] at hall
      obtain ⟨e, hm, hb, hn⟩ := hall
      have hb2 : e.on < i := by
        unfold edgesBack at he
        rw [List.all_eq_true] at he
        have := he i (List.mem_range.2 (by rw [← hs]; exact hlt))
        rw [ho] at this
        simp only [List.all_eq_true, decide_eq_true_iff, Array.mem_toList_iff, Bool.or_eq_true, Bool.not_eq_true'] at this
        rcases this e hm with h | h
        · rw [hb] at h; cases h
        · exact h
      refine ih e.on hb2 ?_
      rw [getD_either (by omega)]
      cases h : L.getD e.on false with
      | false => rfl
      | true => exact absurd h hn
/-- what lies in the slots -/
def slv (a : Act) (d : Tmp) : Value := a.tmps.getD d undef
/-- the slots that a fact of operation i may speak of: those of no operation, its own, and those of the operations that it waits for -/
def depB (ops : Array Oper) (i : Nat) (d : Tmp) : Bool := freeB ops d || dstOf ops i == some d || (List.range ops.size).any fun j => waits ops 12 i j && dstOf ops j == some d
/-- nobody has written slot d before operation i -/
def lateB (ops : Array Oper) (i : Nat) (d : Tmp) : Bool := (List.range ops.size).all fun k => dstOf ops k != some d || k == i || waits ops 12 k i
structure Inv (ops : Array Oper) (N : Nat) (a0 : Act) (F : Nat → (Tmp → Value) → World → Prop) (ex : Nat → Nat) (L : Array Bool) (a : Act) (w : World) : Prop where
  size : L.size = ops.size
  tsize : a.tmps.size = a0.tmps.size
  defers : a.defers = a0.defers
  closed : ∀ i o, ops[i]? = some o → L.getD i false = true → ∀ e ∈ o.after, Region.binds .any e = true → L.getD e.on false = true
  same : ∀ d, (∀ k, dstOf ops k = some d → L.getD k false = false) → a.tmps.getD d undef = a0.tmps.getD d undef
  fact : ∀ i, i < N → (ops.size ≤ i ∨ L.getD i false = true) → L.getD (ex i) false = false → F i (slv a) w
/-- what is known when operation i is carried out -/
structure Pre (ops : Array Oper) (N : Nat) (a0 : Act) (F : Nat → (Tmp → Value) → World → Prop) (ex : Nat → Nat) (i : Nat) (a : Act) (w : World) : Prop where
  tsize : a.tmps.size = a0.tmps.size
  same : ∀ d, lateB ops i d = true → slv a d = slv a0 d
  fact : ∀ j, j < N → (ops.size ≤ j ∨ waits ops 12 i j = true) → (ops.size ≤ ex j ∨ ex j = i ∨ waits ops 12 (ex j) i = true) → F j (slv a) w
variable {N : Nat} {Wi : World} {a0 : Act} {F : Nat → (Tmp → Value) → World → Prop} {ex : Nat → Nat}
theorem Inv.pre {L : Array Bool} {a : Act} {w : World} (H : Inv ops N a0 F ex L a w) {i : Nat} {o : Oper} (ho : ops[i]? = some o) (hu : L.getD i true = false) (hall : ∀ e ∈ o.after, Region.binds .any e = true → L.getD e.on false = true) : Pre ops N a0 F ex i a w := by
  refine ⟨H.tsize, fun d hd => H.same d (fun k hk => ?_), fun j hjN hw hs => ?_⟩
  · have hk2 := dstOf_lt hk
    unfold lateB at hd
    rw [List.all_eq_true] at hd
    have := hd k (List.mem_range.2 hk2)
    simp only [Bool.or_eq_true, bne_iff_ne, beq_iff_eq] at this
    rcases this with (h | h) | h
    · exact absurd hk h
    · rw [h, ← getD_either (getD_false_true hu)]; exact hu
    · cases hb : L.getD k false with
      | false => rfl
      | true =>
        exfalso
        cases hos : ops[k]? with
        | none => unfold waits at h; rw [hos] at h; cases h
        | some os =>
          have := waits_listed H.closed 12 k i os hos (H.closed k os hos hb) h
          rw [← getD_either (getD_false_true hu)] at this
          rw [hu] at this; cases this
  have hj : ops.size ≤ j ∨ L.getD j false = true := hw.imp id fun hw => waits_listed H.closed 12 i j o ho hall hw
  have hex : L.getD (ex j) false = false := by
    rcases hs with h | h | h
    · simp [Array.getElem?_eq_none (show L.size ≤ ex j by rw [H.size]; exact h)]
    · rw [h, ← getD_either (getD_false_true hu)]; exact hu
    · cases hb : L.getD (ex j) false with
      | false => rfl
      | true =>
        exfalso
        cases hos : ops[ex j]? with
        | none => unfold waits at h; rw [hos] at h; cases h
        | some os =>
          have := waits_listed H.closed 12 (ex j) i os hos (H.closed (ex j) os hos hb) h
          rw [← getD_either (getD_false_true hu)] at this
          rw [hu] at this; cases this
  exact H.fact j hjN hj hex
theorem Inv.next (hc : ownSlots ops a0.tmps.size = true) (hdep : ∀ j f f' w, j < N → (∀ d, depB ops j d = true → f d = f' d) → F j f w → F j f' w) {L : Array Bool} {a : Act} {w w' : World} (H : Inv ops N a0 F ex L a w) {i : Nat} {o : Oper} (ho : ops[i]? = some o) (hu : L.getD i true = false) (hall : ∀ e ∈ o.after, Region.binds .any e = true → L.getD e.on false = true)
    {v : Value} (hF : ∀ j, j < N → j ≠ i → ex j ≠ i → waits ops 12 j i = false → waits ops 12 i (ex j) = false → ∀ f, F j f w → F j f w') (hv : F i (slv (a.put o.dst v)) w') :
    Inv ops N a0 F ex (L.setIfInBounds i true) (a.put o.dst v) w' := by
  have hdo := dstOf_some ho
  have hlt := getD_false_true hu
  refine ⟨by simp [H.size], by rw [put_size]; exact H.tsize, by rw [put_defers]; exact H.defers, ?_, ?_, ?_⟩
  · intro j oj hj hl e he hb
    apply getD_set_true
    by_cases hij : i = j
    · subst hij
      rw [ho] at hj; cases hj
      exact hall e he hb
    · rw [getD_set_ne false hij] at hl
      exact H.closed j oj hj hl e he hb
  · intro d hd
    have hdi : dstOf ops i ≠ some d := fun e => by
      have := hd i e
      rw [getD_set_self hlt] at this; cases this
    rw [put_getD_ne (by rw [← hdo]; exact hdi)]
    refine H.same d fun k hk => ?_
    have h1 := hd k hk
    rwa [getD_set_ne false (fun e => hdi (by rw [e]; exact hk))] at h1
  · intro j hj hl hx
    by_cases hij : i = j
    · subst hij
      exact hv
    · have hl' : ops.size ≤ j ∨ L.getD j false = true := hl.imp id fun hl => by rwa [getD_set_ne false hij] at hl
      have hxi : ex j ≠ i := fun e => by rw [e, getD_set_self hlt] at hx; cases hx
      rw [getD_set_ne false (Ne.symm hxi)] at hx
      have hnw : ∀ k, waits ops 12 j k = true → L.getD k false = true := fun k hk => by
        cases hoj : ops[j]? with
        | none => unfold waits at hk; rw [hoj] at hk; cases hk
        | some oj =>
          have hjs : j < ops.size := (Array.getElem?_eq_some_iff.1 hoj).1
          have hlj : L.getD j false = true := by
            rcases hl' with h | h
            · omega
            · exact h
          exact waits_listed H.closed 12 j k oj hoj (H.closed j oj hoj hlj) hk
      have hnj : waits ops 12 j i = false := by
        cases hb : waits ops 12 j i with
        | false => rfl
        | true =>
          have := hnw i hb
          rw [← getD_either hlt, hu] at this; cases this
      have hne : waits ops 12 i (ex j) = false := by
        cases hb : waits ops 12 i (ex j) with
        | false => rfl
        | true =>
          have := waits_listed H.closed 12 i (ex j) o ho hall hb
          rw [hx] at this; cases this
      refine hdep j (slv a) _ w' hj (fun d hd => ?_) (hF j hj (Ne.symm hij) hxi hnj hne _ (H.fact j hj hl' hx))
      refine (put_getD_ne fun e => ?_).symm
      rw [← hdo] at e
      unfold depB at hd
      simp only [Bool.or_eq_true, beq_iff_eq, List.any_eq_true, Bool.and_eq_true, List.mem_range] at hd
      rcases hd with (hd | hd) | ⟨k, hk, h1, h2⟩
      · exact free_ne hd i e
      · exact hij ((ownSlots_spec hc i d e).2 j hd)
      · have := (ownSlots_spec hc i d e).2 k h2
        subst this
        rw [hnj] at h1; cases h1
/-- one operation that is carried out says this -/
def Does (P : Program) (Q : Exit → Act → World → Prop) (F : Nat → (Tmp → Value) → World → Prop) (K : Nat → World → World → Prop) (i : Nat) (o : Oper) (a : Act) (w : World) : Prop :=
  Oper.wp P o a w (fun a' w' => ∃ v, a' = a.put o.dst v ∧ K i w w' ∧ F i (slv a') w') Q
/-- what the operations of a list say, each with its number -/
def AllFrom (p : Nat → Oper → Prop) : Nat → List Oper → Prop
  | _, [] => True
  | i, o :: l => p i o ∧ AllFrom p (i + 1) l
theorem AllFrom.get {p : Nat → Oper → Prop} : ∀ {l : List Oper} {k : Nat}, AllFrom p k l → ∀ i o, l[i]? = some o → p (k + i) o
  | [], k, _, i, o, h => by simp at h
  | x :: l, k, h, 0, o, e => by simp at e; subst e; exact h.1
  | x :: l, k, h, i + 1, o, e => by
    have := AllFrom.get h.2 i o (by simpa using e)
    rw [show k + (i + 1) = k + 1 + i from by omega]; exact this
/-- the frame behind a region: what was in the slots that the region does not write, and new values -/
def fillL : List (Option Nat) → List Value → (Nat → Value) → List Value
  | none :: r, x :: xs, f => x :: fillL r xs f
  | some d :: r, _ :: xs, f => f d :: fillL r xs f
  | [], xs, _ => xs
  | _ :: _, [], _ => []
def frOK (ops : Array Oper) (fr : List (Option Nat)) : Bool := (List.range fr.length).all fun d => match fr[d]? with
  | some none => freeB ops d
  | some (some e) => e == d
  | none => false
theorem fillL_length (f : Nat → Value) : ∀ (fr : List (Option Nat)) (xs : List Value), fr.length = xs.length → (fillL fr xs f).length = xs.length
  | [], [], _ => rfl
  | none :: r, x :: xs, h => by simp only [fillL, List.length_cons]; rw [fillL_length f r xs (by simpa using h)]
  | some d :: r, x :: xs, h => by simp only [fillL, List.length_cons]; rw [fillL_length f r xs (by simpa using h)]
theorem fillL_get (f : Nat → Value) : ∀ (fr : List (Option Nat)) (xs : List Value) (k : Nat), fr.length = xs.length → (fillL fr xs f)[k]? = match fr[k]? with
    | some none => xs[k]?
    | some (some d) => some (f d)
    | none => none
  | [], [], k, _ => by simp [fillL]
  | none :: r, x :: xs, 0, h => by simp [fillL]
  | some d :: r, x :: xs, 0, h => by simp [fillL]
  | none :: r, x :: xs, k + 1, h => by simp only [fillL, List.getElem?_cons_succ]; exact fillL_get f r xs k (by simpa using h)
  | some d :: r, x :: xs, k + 1, h => by simp only [fillL, List.getElem?_cons_succ]; exact fillL_get f r xs k (by simpa using h)
theorem act_fill {fr : List (Option Nat)} {a a0 : Act} (h1 : a.tmps.size = a0.tmps.size) (h2 : a.defers = a0.defers) (h3 : ∀ d, freeB ops d = true → a.tmps.getD d undef = a0.tmps.getD d undef) (hfr : frOK ops fr = true) (hl : fr.length = a0.tmps.size) :
    a = ⟨(fillL fr a0.tmps.toList (fun d => a.tmps.getD d undef)).toArray, a0.defers⟩ := by
  have hl' : fr.length = a0.tmps.toList.length := by simpa using hl
  obtain ⟨ts, ds⟩ := a
  simp only at h1 h2 h3
  subst h2
  congr 1
  apply Array.ext'
  apply List.ext_getElem?
  intro k
  rw [fillL_get _ _ _ _ hl']
  rcases Nat.lt_or_ge k fr.length with hk | hk
  · have := hfr
    unfold frOK at this
    rw [List.all_eq_true] at this
    have := this k (List.mem_range.2 hk)
    have hkt : k < ts.size := by omega
    have hk0 : k < a0.tmps.size := by omega
    cases hq : fr[k]? with
    | none => rw [hq] at this; cases this
    | some q =>
      rw [hq] at this
      cases q with
      | none =>
        have := h3 k this
        simp [hkt, hk0] at this
        simp [hkt, hk0, this]
      | some d =>
        simp at this
        subst this
        simp [hkt]
  · rw [List.getElem?_eq_none hk]
    simp; omega
theorem wp_region_w {id : Nat} (hm : P.follows .mixedOrders = true) (N : Nat) (F : Nat → (Tmp → Value) → World → Prop) (ex : Nat → Nat) (K : Nat → World → World → Prop) (fr : List (Option Nat))
    (hck : ownSlots ops a0.tmps.size = true) (hed : edgesBack ops = true) (hfr : frOK ops fr = true) (hfl : fr.length = a0.tmps.size)
    (hdep : ∀ j f f' w, j < N → (∀ d, depB ops j d = true → f d = f' d) → F j f w → F j f' w)
    (hF : ∀ i j f w w', i < ops.size → j < N → j ≠ i → ex j ≠ i → waits ops 12 j i = false → waits ops 12 i (ex j) = false → K i w w' → F j f w → F j f w')
    (hN : ops.size ≤ N) (h0 : ∀ j, ops.size ≤ j → j < N → F j (slv a0) Wi.drew)
    (hops : AllFrom (fun i o => ∀ (a : Act) (w : World), Pre ops N a0 F ex i a w → if Region.wanted o (yielded ops a.tmps) = true then Does P Q F K i o a w else F i (slv (a.put o.dst undef)) w) 0 ops.toList)
    (hdone : ∀ (f : Nat → Value) (w1 : World), (∀ i, i < N → ops.size ≤ ex i → F i f w1) → Q .normal ⟨(fillL fr a0.tmps.toList f).toArray, a0.defers⟩ w1) :
    (Code.region id ops true).wp P Q a0 Wi := by
  have hops' : ∀ i o, ops[i]? = some o → ∀ (a : Act) (w : World), Pre ops N a0 F ex i a w → if Region.wanted o (yielded ops a.tmps) = true then Does P Q F K i o a w else F i (slv (a.put o.dst undef)) w := fun i o h => by
    have := AllFrom.get hops i o (by rw [Array.getElem?_toList]; exact h)
    rwa [Nat.zero_add] at this
  apply wp_region_any hm
  have hend : ∀ (L : Array Bool) (a : Act) (w : World), Inv ops N a0 F ex L a w → (∀ i, i < ops.size → L.getD i false = true) → Q .normal a w := by
    intro L a w H hall
    rw [act_fill H.tsize H.defers (fun d hd => H.same d (fun k hk => absurd hk (free_ne hd k))) hfr hfl]
    refine hdone _ w (fun i hi hx => ?_)
    exact H.fact i hi ((Nat.lt_or_ge i ops.size).elim (fun h => .inr (hall i h)) .inl) (by simp [Array.getElem?_eq_none (show L.size ≤ ex i by rw [H.size]; exact hx)])
  have key : ∀ (fuel : Nat) (L : Array Bool) (a : Act) (w1 : World), Inv ops N a0 F ex L a w1 → L.toList.countP (fun b => !b) ≤ fuel → wpAny P .any ops Q fuel L a w1 := by
    intro fuel
    induction fuel with
    | zero =>
      intro L a w H hf
      have hz : L.toList.countP (fun b => !b) = 0 := by omega
      rw [List.countP_eq_zero] at hz
      have hall : ∀ i, i < ops.size → L.getD i false = true := by
        intro i hi
        have hi' : i < L.size := by rw [H.size]; exact hi
        have := hz L[i] (by simp)
        simp at this
        simp [hi', this]
      refine ⟨?_, hend L a w H hall⟩
      apply List.eq_nil_iff_forall_not_mem.2
      intro j hj
      have := (mem_ready.1 hj).1
      have hj' := getD_false_true this
      rw [getD_either hj', hall j (by rw [← H.size]; exact hj')] at this
      cases this
    | succ fuel ih =>
      intro L a w H hf
      refine ⟨?_, ?_⟩
      · intro hr
        refine hend L a w H fun i hi => ?_
        have hi' : i < L.size := by rw [H.size]; exact hi
        rw [← getD_either hi']
        cases h : L.getD i true with
        | true => rfl
        | false => exact absurd hr (ready_of_unlisted H.size hed i h)
      · intro i hi
        obtain ⟨hu, o, ho, hall⟩ := mem_ready.1 hi
        have hpre := H.pre ho hu hall
        have hcount := countP_set_lt hu
        have hisz : i < ops.size := by rw [← H.size]; exact getD_false_true hu
        have hp := hops' i o ho a w hpre
        have hFF : ∀ w', K i w w' → ∀ j, j < N → j ≠ i → ex j ≠ i → waits ops 12 j i = false → waits ops 12 i (ex j) = false → ∀ f, F j f w → F j f w' := fun w' hk j hj h1 h2 h3 h4 f hf' => hF i j f w w' hisz hj h1 h2 h3 h4 hk hf'
        unfold wpOp
        rw [ho]
        show if Region.wanted o (yielded ops a.tmps) = true then _ else _
        by_cases hw : Region.wanted o (yielded ops a.tmps) = true
        · rw [if_pos hw] at hp ⊢
          refine .inl (Oper.wp_mono ?_ hp)
          rintro a' w' ⟨v, rfl, hk, hf'⟩
          exact ih _ _ _ (H.next hck hdep ho hu hall (hFF w' hk) hf') (by omega)
        · rw [if_neg hw] at hp ⊢
          exact ih _ _ _ (H.next hck hdep ho hu hall (fun _ _ _ _ _ _ _ h => h) hp) (by omega)
  refine key _ _ _ _ ⟨by simp, rfl, rfl, ?_, fun _ _ => rfl, ?_⟩ ?_
  · intro i o ho hl
    have hi : i < ops.size := (Array.getElem?_eq_some_iff.1 ho).1
    simp [hi] at hl
  · intro i hi hl _
    rcases hl with hl | hl
    · exact h0 i hl hi
    · have : i < ops.size := by
        rcases Nat.lt_or_ge i ops.size with h | h
        · exact h
        · simp [Nat.not_lt.2 h] at hl
      simp [this] at hl
  · simp
    exact Nat.le_trans List.countP_le_length (by simp)
end
/-! ## one operation -/
section
variable {P : Program} {ops : Array Oper} {Q : Exit → Act → World → Prop} {F : Nat → (Tmp → Value) → World → Prop} {K : Nat → World → World → Prop} {i : Nat} {o : Oper} {a : Act} {w w' : World} {E : Prop}
theorem ob_yes (hg : o.guard = none) (h : Does P Q F K i o a w) : if Region.wanted o (yielded ops a.tmps) = true then Does P Q F K i o a w else E := by
  have : Region.wanted o (yielded ops a.tmps) = true := by simp [Region.wanted, hg]
  rw [if_pos this]; exact h
theorem does_value {v : Value} (hr : (execOp a.eval o).run P w = .ok (.value v) w') (hk : K i w w') (hf : F i (slv (a.put o.dst v)) w') : Does P Q F K i o a w := by
  unfold Does Oper.wp
  rw [hr]
  exact ⟨v, rfl, hk, hf⟩
theorem does_skip (hr : (execOp a.eval o).run P w = .ok .skip w') (hk : K i w w') (hf : F i (slv (a.put o.dst undef)) w') : Does P Q F K i o a w := by
  unfold Does Oper.wp
  rw [hr]
  exact ⟨undef, rfl, hk, hf⟩
theorem val_eq {d : Tmp} {v : Value} (h : d < a.tmps.size) : slv (a.put (some d) v) d = v := put_getD_eq h
theorem val_ne {x : Option Tmp} {d : Tmp} {v : Value} (h : x ≠ some d) : slv (a.put x v) d = slv a d := put_getD_ne h
theorem do_value {s : Sem Value} {v : Value} (h : s.run P w = .ok v w') : (do pure (Next.value (← s)) : Sem Next).run P w = .ok (.value v) w' := by
  go_simp
theorem do_unit {s : Sem Unit} (h : s.run P w = .ok () w') : (do s; pure Next.skip : Sem Next).run P w = .ok .skip w' := by
  go_simp
end
end Go.Proofs.Ytmkogcaafkobaaa.Rgv
/-
  append(s, make([]T, k)...) onto a row of the call's own, elements of one cell. No statement of the program.
-/
namespace Go.Proofs.Ytmkogcaafkobaaa.Fm
open Go.RowKit Go.Proofs.Ytmkogcaafkobaaa.Sb
set_option linter.unusedVariables false
theorem zero_list (z : Value) (k : Nat) : Builtin.zeroCells #[z] k = (List.replicate k z).toArray := by
  unfold Builtin.zeroCells
  apply Array.ext
  · simp
  · intro i h1 h2
    simp at h1 h2 ⊢
    rw [Nat.mod_one]; rfl
section
variable {P : Program}
theorem run_zeros_room (w : World) (t tn ty e : TypeId) (i : TypeInfo) (z : Value) (kq kn : IntKind) (ht : P.underlying t = some (.slice e)) (htn : P.underlying tn = some (.int kn)) (hi : P.info? e = some i) (hz : i.zero = some z) (hzc : z.cells = #[z]) (hz1 : z.oneCell' = true) (hs : i.size = 1)
    (g sLen sCap : Nat) (cur : Array Value) (hg : w.heap[g]? = some (.cells cur e (0, 0))) (k : Nat) (h0 : 0 < k) (h48 : k * i.bytes ≤ 281474976710656) (h63 : k ≤ 1000000000)
    (hroom : sLen + k ≤ sCap) (hfit : sLen + k ≤ cur.size) :
    (Builtin.append_ #[t, tn] ty #[.slice (some ⟨g, 0, none⟩) sLen sCap, .int kq k]).run P w =
      .ok (.slice (some ⟨g, 0, none⟩) (sLen + k) sCap) (w.setRow g (cur.toList.take sLen ++ List.replicate k z ++ cur.toList.drop (sLen + k)).toArray) := by
  have hw : IntKind.i64.wrap (k : Int) = k := by rw [IntKind.wrap_i64]; omega
  have h48i : ¬ (281474976710656 < (k : Int) * (i.bytes : Int)) := by
    rw [← Int.natCast_mul]
    omega
  have hneg : ¬ ((k : Int) < 0) := by omega
  have hk : k ≠ 0 := by omega
  have hst := run_storeCells_at P g (sLen * i.size) e (List.replicate k z) 0 cur w hg (by simp [hs]; omega) (fun u hu => by rw [List.mem_replicate] at hu; rw [hu.2]; exact hz1)
  simp only [Nat.add_zero, hs, Nat.mul_one, List.length_replicate] at hst
  simp [Builtin.append_, run_underlying ht, run_underlying htn, sizeOf, typeInfo, zeroValue, hi, hz, hs, asInt, asIntOf, hw, hroom, hneg, hk, h48i, hzc, zero_list, Addr.add_lit, hst]
/-- k zeros onto a row of the call's own -/
theorem run_zeros_own (w : World) (base : Nat) (t tn ty e : TypeId) (i : TypeInfo) (z : Value) (kq kn : IntKind) (ht : P.underlying t = some (.slice e)) (htn : P.underlying tn = some (.int kn)) (hi : P.info? e = some i) (hz : i.zero = some z) (hzc : z.cells = #[z]) (hz1 : z.oneCell' = true) (hs : i.size = 1) (hby : i.bytes ≤ 8)
    (v : Value) (n : Nat) (xs : List Value) (hown : w.ownsRow base e 1 v n xs) (k : Nat) (h0 : 0 < k) (hsm : n + k ≤ 1000000000) (hbase : base ≤ w.heap.size) :
    ∃ v' w', (Builtin.append_ #[t, tn] ty #[v, .int kq k]).run P w = .ok v' w' ∧ w'.ownsRow base e 1 v' (n + k) (xs ++ List.replicate k z) ∧ w.grownBy w' v.ownBlock ∧ (v'.ownBlock = v.ownBlock ∨ v'.ownBlock = some w.heap.size) := by
  have hlen : (xs ++ List.replicate k z).length = (n + k) * 1 := by rw [List.length_append, hown.1]; simp
  have hb8 : (n + k) * i.bytes ≤ (n + k) * 8 := Nat.mul_le_mul_left _ hby
  have hk8 : k * i.bytes ≤ k * 8 := Nat.mul_le_mul_left _ hby
  have grown : ∀ (old : Nat), old < n + k → ∀ (row : Option Nat),
      (w.drew.alloc (.cells (xs.toArray ++ (List.replicate k z).toArray ++ Builtin.zeroCells z.cells (grownCap w (n + k) old e - (n + k))) e)).ownsRow base e 1
        (.slice (some ⟨w.heap.size, 0, none⟩) (n + k) (grownCap w (n + k) old e)) (n + k) (xs ++ List.replicate k z) ∧
      w.grownBy (w.drew.alloc (.cells (xs.toArray ++ (List.replicate k z).toArray ++ Builtin.zeroCells z.cells (grownCap w (n + k) old e - (n + k))) e)) row := by
    intro old ho row
    have hge := grownCap_ge w (n + k) old e
    have hcm : grownCap w (n + k) old e ≤ maxLen := grownCap_le_maxLen w (n + k) old e (by unfold maxLen; omega)
    refine ⟨⟨hlen, .inr ⟨w.heap.size, _, _, rfl, hbase, heap_alloc_new w.drew _, hge, hcm, ?_, ?_⟩⟩, ⟨rfl, rfl, rfl, by simp, fun _ hk2 _ => heap_alloc_old w.drew _ hk2⟩⟩
    · have hx : xs.length = n := by have := hown.1; omega
      simp only [Array.size_append, List.size_toArray, size_zeroCells, hzc, hx, List.length_replicate]
      simp
      omega
    · simp only [Array.toList_append, List.append_assoc]
      rw [← List.append_assoc, ← hlen]
      exact List.take_left
  rcases hown.2 with ⟨rfl, rfl⟩ | ⟨g, cap, cur, rfl, hbg, hg, hnc, hcm, hcs, htake⟩
  · have hx : xs = [] := List.eq_nil_of_length_eq_zero (by simpa using hown.1)
    subst hx
    have hr := Lib.run_append_nil_zeros (P := P) w t tn ty e i z kq kn ht htn hi hz k h0 (by omega) (by omega) (by omega)
    have hgr := grown 0 (by omega) (Value.ownBlock (.slice none 0 0))
    rw [hzc, zero_list] at hr
    rw [hzc] at hgr
    simp only [Nat.zero_add, List.nil_append, Array.empty_append] at hgr ⊢
    exact ⟨_, _, hr, hgr.1, hgr.2, .inr rfl⟩
  · by_cases hroom : n + k ≤ cap
    · have hr := run_zeros_room (P := P) w t tn ty e i z kq kn ht htn hi hz hzc hz1 hs g n cap cur hg k h0 (by omega) (by omega) hroom (by omega)
      refine ⟨_, _, hr, ⟨hlen, .inr ⟨g, cap, _, rfl, hbg, setRow_heap w g cur _ e _ hg, hroom, hcm, ?_, ?_⟩⟩, ⟨rfl, rfl, rfl, by simp, fun k _ hk => setRow_other w g k _ (fun e => hk (by simp [Value.ownBlock, e]))⟩, .inl rfl⟩
      · simp only [List.size_toArray, List.length_append, List.length_take, List.length_drop, Array.length_toList, List.length_replicate]
        omega
      · rw [Nat.mul_one] at htake
        rw [htake, ← hlen]
        exact List.take_left
    · have holds : ∀ j u, xs[j]? = some u → w.cell? ((⟨g, 0, none⟩ : Addr).add j) = some u := hown.cells (g := g) rfl
      have hold := run_firstCells_some (P := P) w.drew i.size n ⟨g, 0, none⟩ n cap xs (by rw [hs]; exact hown.1) (by simpa using holds)
      have hr := Lib.run_append_grow_zeros (P := P) w t tn ty e i z kq kn ht htn hi hz (some ⟨g, 0, none⟩) n cap xs hold k h0 (by omega) (by omega) (by omega) (by omega) (growslice_fits (by omega) (by omega))
      have hgr := grown cap (by omega) (Value.ownBlock (.slice (some ⟨g, 0, none⟩) n cap))
      rw [hzc, zero_list] at hr
      rw [hzc] at hgr
      exact ⟨_, _, hr, hgr.1, hgr.2, .inr rfl⟩
theorem run_zeros_none (w : World) (t tn ty e : TypeId) (i : TypeInfo) (kq kn : IntKind) (ht : P.underlying t = some (.slice e)) (htn : P.underlying tn = some (.int kn)) (hi : P.info? e = some i) (hs : i.size = 1)
    (g sLen sCap : Nat) (hcap : sLen ≤ sCap) : (Builtin.append_ #[t, tn] ty #[.slice (some ⟨g, 0, none⟩) sLen sCap, .int kq 0]).run P w = .ok (.slice (some ⟨g, 0, none⟩) sLen sCap) w := by
  have hw : IntKind.i64.wrap (0 : Int) = 0 := by rw [IntKind.wrap_i64]; omega
  simp [Builtin.append_, run_underlying ht, run_underlying htn, sizeOf, typeInfo, hi, asInt, asIntOf, hw, hcap, storeCells]
/-- k zeros onto a row of the call's own, also none -/
theorem run_zeros (w : World) (base : Nat) (t tn ty e : TypeId) (i : TypeInfo) (z : Value) (kq kn : IntKind) (ht : P.underlying t = some (.slice e)) (htn : P.underlying tn = some (.int kn)) (hi : P.info? e = some i) (hz : i.zero = some z) (hzc : z.cells = #[z]) (hz1 : z.oneCell' = true) (hs : i.size = 1) (hby : i.bytes ≤ 8)
    (g n cap : Nat) (xs : List Value) (hown : w.ownsRow base e 1 (.slice (some ⟨g, 0, none⟩) n cap) n xs) (hcap : n ≤ cap) (k : Nat) (hsm : n + k ≤ 1000000000) (hbase : base ≤ w.heap.size) :
    ∃ v' w', (Builtin.append_ #[t, tn] ty #[.slice (some ⟨g, 0, none⟩) n cap, .int kq k]).run P w = .ok v' w' ∧ w'.ownsRow base e 1 v' (n + k) (xs ++ List.replicate k z) ∧ w.grownBy w' (some g) ∧ (v'.ownBlock = some g ∨ v'.ownBlock = some w.heap.size) := by
  by_cases h0 : 0 < k
  · exact run_zeros_own w base t tn ty e i z kq kn ht htn hi hz hzc hz1 hs hby _ n xs hown k h0 hsm hbase
  · obtain rfl : k = 0 := by omega
    refine ⟨_, w, run_zeros_none w t tn ty e i kq kn ht htn hi hs g n cap hcap, by simpa using hown, World.grownBy.refl w _, .inl rfl⟩
end
end Go.Proofs.Ytmkogcaafkobaaa.Fm
/-
  Rows of ints that grow or are stored into; append in a region that draws its order.
-/
namespace Go.Proofs.Ytmkogcaafkobaaa.Fm
open Go.RowKit Go.Proofs.Ytmkogcaafkobaaa.Sb Go.Proofs.Ytmkogcaafkobaaa.Rgv
set_option linter.unusedVariables false
set_option maxRecDepth 100000
theorem doesv_app {P : Program} {Q : Exit → Act → World → Prop} {F : Nat → (Tmp → Value) → World → Prop} {K : Nat → World → World → Prop} {i : Nat} {o : Oper} {a : Act} {w : World} (s x : Operand) (t tn : TypeId)
    (ho : o.op = .call { callee := .builtin .append, args := #[s, x], argTypes := #[t, tn] })
    (v y : Value) (hs : a.eval s = v) (hx : a.eval x = y) (v' : Value) (w' : World) (hrun : (Builtin.append_ #[t, tn] o.type #[v, y]).run P w = .ok v' w')
    (h : K i w w' ∧ F i (slv (a.put o.dst v')) w') : Does P Q F K i o a w := by
  refine does_value (v := v') (w' := w') ?_ h.1 h.2
  simp [execOp, ho, resolve, invoke, builtin, hs, hx, hrun, Result.andThen]
theorem row_cell {w : World} {base : Nat} {ad : Addr} {m c : Nat} {l : List Int} (h : w.ownsRow base 3 1 (.slice (some ad) m c) m (VI l)) {i : Nat} (hi : i < m) : w.cell? (ad.add i) = some (.int .i64 (l.getD i 0)) := by
  obtain ⟨ad', e, _, hc⟩ := VI_at (rd_of_row h) hi
  injection e with e
  subst e
  exact hc
theorem row_cellZ {w : World} {base g : Nat} {m c : Nat} {l : List Int} (h : w.ownsRow base 3 1 (.slice (some ⟨g, 0, none⟩) m c) m (VI l)) {i : Nat} (hi : i < m) {v : Int} (hv : l.getD i 0 = v) : w.cell? ⟨g, i, none⟩ = some (.int .i64 v) := by
  have := row_cell h hi
  rw [hv] at this
  rwa [add_plain, Nat.zero_add] at this
theorem row_cellN {w : World} {base : Nat} {ad : Addr} {m c : Nat} {l : List Nat} (h : w.ownsRow base 3 1 (.slice (some ad) m c) m (VI (ints l))) {i : Nat} (hi : i < m) {v : Nat} (hv : l.getD i 0 = v) : w.cell? (ad.add i) = some (.int .i64 (v : Int)) := by
  have hm : l.length = m := by have := VI_len (rd_of_row h); rwa [ints_length] at this
  have := row_cell h hi
  rw [ints_getD (by rw [hm]; exact hi), hv] at this
  exact this
theorem row_cellG {w : World} {base g : Nat} {m c : Nat} {l : List Nat} (h : w.ownsRow base 3 1 (.slice (some ⟨g, 0, none⟩) m c) m (VI (ints l))) {i : Nat} (hi : i < m) {v : Nat} (hv : l.getD i 0 = v) : w.cell? ⟨g, i, none⟩ = some (.int .i64 (v : Int)) := by
  have := row_cellN h hi hv
  rwa [add_plain, Nat.zero_add] at this
theorem row_some {w : World} {base : Nat} {e : TypeId} {P : Option Addr} {m c : Nat} {l : List Value} (h : w.ownsRow base e 1 (.slice P m c) m l) (hm : 0 < m) : ∃ g, P = some ⟨g, 0, none⟩ := by
  rcases h.2 with ⟨_, h0⟩ | ⟨g, cap, cur, hv, _⟩
  · omega
  · injection hv with e1; exact ⟨g, e1⟩
/-- the block of a row -/
theorem row_own {w : World} {base g : Nat} {e : TypeId} {m c : Nat} {l : List Value} (h : w.ownsRow base e 1 (.slice (some ⟨g, 0, none⟩) m c) m l) : base ≤ g ∧ g < w.heap.size ∧ ∃ cur, Own w g e cur := row_blk h rfl
/-- a store into a row -/
theorem row_setZ {w : World} {base g : Nat} {m c : Nat} {l : List Int} (h : w.ownsRow base 3 1 (.slice (some ⟨g, 0, none⟩) m c) m (VI l)) {i : Nat} (hi : i < m) (z : Int) : (w.setCell ⟨g, i, none⟩ (.int .i64 z)).ownsRow base 3 1 (.slice (some ⟨g, 0, none⟩) m c) m (VI (l.set i z)) := by
  have hl := VI_len (rd_of_row h)
  refine ⟨by rw [VI_length, List.length_set, hl, Nat.mul_one], ?_⟩
  rcases h.2 with ⟨hv, h0⟩ | ⟨g', cap, cur, hv, hb, hh, hcap, hmax, hsz, htake⟩
  · omega
  · injection hv with e1 e2 e3
    injection e1 with e1
    injection e1 with e1 _ _
    subst e1; subst e3
    refine .inr ⟨g, c, cur.setIfInBounds i (.int .i64 z), rfl, hb, (show Own w g 3 cur from hh).set_ i _, hcap, hmax, by simpa using hsz, ?_⟩
    rw [Nat.mul_one] at htake ⊢
    have e : VI (l.set i z) = (VI l).set i (.int .i64 z) := by simp [VI, List.map_set]
    rw [e, ← htake, Array.toList_setIfInBounds]
    apply List.ext_getElem?
    intro j
    simp only [List.getElem?_take, List.getElem?_set, List.length_take]
    by_cases hj : j < m
    · simp only [if_pos hj]
      by_cases e2 : i = j
      · subst e2
        have : cur.toList.length = c := by simpa using hsz
        have h2 : i < c := by omega
        have h3 : i < min m c := by omega
        simp [this, h3, h2]
      · simp [e2]
    · simp only [if_neg hj]
      have : i ≠ j := by omega
      simp [this]
theorem row_farg {w : World} {base g : Nat} {e : TypeId} {v : Value} {n : Nat} {l : List Value} (h : w.ownsRow base e 1 v n l) (hne : v.ownBlock ≠ some g) (i : Nat) (u : Value) : (w.setCell ⟨g, i, none⟩ u).ownsRow base e 1 v n l := by
  refine ⟨h.1, ?_⟩
  rcases h.2 with h2 | ⟨g', cap, cur, hv, hb, hh, h3⟩
  · exact .inl h2
  · refine .inr ⟨g', cap, cur, hv, hb, (show Own w g' e cur from hh).far (p := ⟨g, i, none⟩) (fun e => ?_) u, h3⟩
    exact hne (by rw [hv]; exact congrArg some e)
theorem renZ_ints (now l : List Nat) : renZ (ints now) l = ints (ren now l) := by
  unfold renZ ren ints
  rw [List.map_map]
  refine List.map_congr_left fun a _ => ?_
  simp only [Function.comp, List.getD_eq_getElem?_getD, List.getElem?_map]
  cases now[a]? <;> rfl
/-- what stands when a draft and one row of ints, v, turn -/
def KP (w0 w : World) (b : Nat) (wa : World) (v : Value) : Prop :=
  w0.heap.size ≤ w.heap.size ∧ ∀ g t cur, Own w0 g t cur → t ≠ 56 → t ≠ 41 → (t = 3 → v.ownBlock ≠ some g) → Own w g t cur
/-- a row that has grown lies where it lay, or in new memory -/
def NB (w0 : World) (v v' : Value) : Prop := ∀ g, v'.ownBlock = some g → v.ownBlock = some g ∨ w0.heap.size ≤ g
theorem KP.trans {w0 w1 w2 wa : World} {b : Nat} {v v1 : Value} (h : KP w0 w1 b wa v) (hn : NB w0 v v1) (k : KP w1 w2 b wa v1) : KP w0 w2 b wa v :=
  ⟨Nat.le_trans h.1 k.1, fun g t cur h1 h2 h3 h4 => k.2 g t cur (h.2 g t cur h1 h2 h3 h4) h2 h3 (fun ht e => by
    rcases hn g e with h5 | h5
    · exact h4 ht h5
    · have := h1.lt; omega)⟩
theorem NB.refl (w0 : World) (v : Value) : NB w0 v v := fun g h => .inl h
theorem NB.trans {w0 w1 : World} {v v1 v2 : Value} (h : NB w0 v v1) (hs : w0.heap.size ≤ w1.heap.size) (k : NB w1 v1 v2) : NB w0 v v2 := fun g e => by
  rcases k g e with h1 | h1
  · exact h g h1
  · exact .inr (Nat.le_trans hs h1)
theorem KP.refl (w0 : World) (b : Nat) (wa : World) (v : Value) : KP w0 w0 b wa v := ⟨Nat.le_refl _, fun g t cur h _ _ _ => h⟩
theorem KP.to {w0 w w' wa : World} {b : Nat} {v : Value} (h : KP w0 w b wa v) (hb : b < w.heap.size) (k : On w w') : KP w0 w' b wa v :=
  ⟨Nat.le_trans h.1 k.size, fun g t cur h1 h2 h3 h4 => (h.2 g t cur h1 h2 h3 h4).on k⟩
theorem KP.dk {w0 w w' wa : World} {Z : Nat → Prop} {b V : Nat} {xs : List Nn} {v : Value} (h : KP w0 w b wa v) (D : Dr wa Z w b V xs) (k : Dk b w w') : KP w0 w' b wa v :=
  ⟨Nat.le_trans h.1 k.1, fun g t cur h1 h2 h3 h4 => ((D.aw (h.2 g t cur h1 h2 h3 h4) h2 h3).dk k).1⟩
theorem KP.app {w0 w w' wa : World} {Z : Nat → Prop} {b V : Nat} {xs : List Nn} {v : Value} (h : KP w0 w b wa v) (D : Dr wa Z w b V xs) {n : Nat} {l : List Value} (S : w.ownsRow wa.heap.size 3 1 v n l) (k : w.grownBy w' v.ownBlock) : KP w0 w' b wa v :=
  ⟨Nat.le_trans h.1 k.size, fun g t cur h1 h2 h3 h4 => own_by (h.2 g t cur h1 h2 h3 h4) k (fun b' e e2 => by
    subst e2
    obtain ⟨_, _, c9, h5⟩ := row_blk S e
    exact h4 (own_type (h.2 b' t cur h1 h2 h3 h4) h5) e)⟩
/-- other rows of ints -/
theorem KP.row {w0 w wa : World} {b : Nat} {v : Value} (h : KP w0 w b wa v) {base : Nat} {v2 : Value} {n : Nat} {l : List Value} (r : w0.ownsRow base 3 1 v2 n l) (hne : ∀ g, v2.ownBlock = some g → v.ownBlock ≠ some g) : w.ownsRow base 3 1 v2 n l := by
  refine ⟨r.1, ?_⟩
  rcases r.2 with h2 | ⟨g, cap, cur, hv, hb, hh, h3⟩
  · exact .inl h2
  · exact .inr ⟨g, cap, cur, hv, hb, h.2 g _ cur hh (by decide) (by decide) (fun _ => hne g (by rw [hv]; rfl)), h3⟩
end Go.Proofs.Ytmkogcaafkobaaa.Fm
/-
  Push of the program: xors.
-/
namespace Go.Proofs.Ytmkogcaafkobaaa.Fm
open Go.RowKit Go.Proofs.Ytmkogcaafkobaaa.Sb Go.Proofs.Ytmkogcaafkobaaa.Rgv
set_option linter.unusedVariables false
set_option maxRecDepth 100000
def dT1 (r p n va vb : Nat) : List Nn := [⟨2, 0, [p, vb]⟩, ⟨2, 0, [n, va]⟩, ⟨3, 0, [r, r + 1]⟩]
def DX (wa : World) (Z : Nat → Prop) (W0 : World) (b : Nat) (V : Nat) (o : List Nn) (r : Nat) (r2 : Nat) (r5 : Nat) (p : Nat) (n : Nat) (va : Nat) (vb : Nat) (ii : Nat) (g1 : Nat) (g2 : Nat) (m : Nat) (c1 : Nat) (c2 : Nat) (A : List Nat) (B : List Nat) (i : Nat) (f : Tmp → Value) (w : World) : Prop :=
  match i with
  | 0 => f 27 = .pointer (some ⟨b, 0, none⟩)
  | 1 => f 28 = .int .i64 (p : Int)
  | 2 => f 29 = .slice (some ⟨g2, 0, none⟩) m c2
  | 3 => f 30 = .int .i64 (ii : Int)
  | 4 => f 31 = .pointer (some ⟨g2, ii, none⟩)
  | 5 => f 32 = .int .i64 (vb : Int)
  | 6 => f 33 = .int .i64 (n : Int)
  | 7 => f 34 = .slice (some ⟨g1, 0, none⟩) m c1
  | 8 => f 35 = .int .i64 (ii : Int)
  | 9 => f 36 = .pointer (some ⟨g1, ii, none⟩)
  | 10 => f 37 = .int .i64 (va : Int)
  | 11 => ∃ W1 : World, (f 38 = .int .i64 (r2 : Int) ∧ Dr wa Z W1 b V (o ++ dT1 r p n va vb) ∧ Dk b W0 W1) ∧ On W1 w
  | 12 => f 39 = .pointer (some ⟨b, 0, none⟩)
  | 13 => f 40 = .int .i64 (p : Int)
  | 14 => f 41 = .slice (some ⟨g1, 0, none⟩) m c1
  | 15 => f 42 = .int .i64 (ii : Int)
  | 16 => f 43 = .pointer (some ⟨g1, ii, none⟩)
  | 17 => f 44 = .int .i64 (va : Int)
  | 18 => f 45 = .int .i64 (n : Int)
  | 19 => f 46 = .slice (some ⟨g2, 0, none⟩) m c2
  | 20 => f 47 = .int .i64 (ii : Int)
  | 21 => f 48 = .pointer (some ⟨g2, ii, none⟩)
  | 22 => f 49 = .int .i64 (vb : Int)
  | 23 => ∃ W1 : World, (f 38 = .int .i64 (r2 : Int) ∧ f 50 = .int .i64 (r5 : Int) ∧ Dr wa Z W1 b V (o ++ px6 r p n va vb) ∧ Dk b W0 W1) ∧ On W1 w
  | 24 => f 6 = .int .i64 (r2 : Int)
  | 25 => f 7 = .int .i64 (r5 : Int)
  | 26 => ∃ W1 : World, (Dr wa Z W1 b V o ∧ Dk b W0 W1) ∧ On W1 w
  | 27 => w.ownsRow wa.heap.size 3 1 (.slice (some ⟨g1, 0, none⟩) m c1) m (VI (ints A)) ∧ w.ownsRow wa.heap.size 3 1 (.slice (some ⟨g2, 0, none⟩) m c2) m (VI (ints B))
  | _ => True
def DXEx (i : Nat) : Nat := if i = 11 then 23 else if i = 26 then 11 else 100
def DXK (wa : World) (Z : Nat → Prop) (W0 : World) (b : Nat) (V : Nat) (o : List Nn) (r : Nat) (r2 : Nat) (r5 : Nat) (p : Nat) (n : Nat) (va : Nat) (vb : Nat) (ii : Nat) (g1 : Nat) (g2 : Nat) (m : Nat) (c1 : Nat) (c2 : Nat) (A : List Nat) (B : List Nat) (i : Nat) (w w' : World) : Prop := if i = 11 ∨ i = 23 then (w.ownsRow wa.heap.size 3 1 (.slice (some ⟨g1, 0, none⟩) m c1) m (VI (ints A)) ∧ w.ownsRow wa.heap.size 3 1 (.slice (some ⟨g2, 0, none⟩) m c2) m (VI (ints B)) → w'.ownsRow wa.heap.size 3 1 (.slice (some ⟨g1, 0, none⟩) m c1) m (VI (ints A)) ∧ w'.ownsRow wa.heap.size 3 1 (.slice (some ⟨g2, 0, none⟩) m c2) m (VI (ints B))) else On w w'
theorem DXK.on (wa : World) (Z : Nat → Prop) (W0 : World) (b : Nat) (V : Nat) (o : List Nn) (r : Nat) (r2 : Nat) (r5 : Nat) (p : Nat) (n : Nat) (va : Nat) (vb : Nat) (ii : Nat) (g1 : Nat) (g2 : Nat) (m : Nat) (c1 : Nat) (c2 : Nat) (A : List Nat) (B : List Nat) {i : Nat} {w w' : World} (h : ¬ (i = 11 ∨ i = 23)) (k9 : On w w') : DXK wa Z W0 b V o r r2 r5 p n va vb ii g1 g2 m c1 c2 A B i w w' := by unfold DXK; rw [if_neg h]; exact k9
theorem DXK.sp (wa : World) (Z : Nat → Prop) (W0 : World) (b : Nat) (V : Nat) (o : List Nn) (r : Nat) (r2 : Nat) (r5 : Nat) (p : Nat) (n : Nat) (va : Nat) (vb : Nat) (ii : Nat) (g1 : Nat) (g2 : Nat) (m : Nat) (c1 : Nat) (c2 : Nat) (A : List Nat) (B : List Nat) {i : Nat} {w w' : World} (h : i = 11 ∨ i = 23) (k9 : w.ownsRow wa.heap.size 3 1 (.slice (some ⟨g1, 0, none⟩) m c1) m (VI (ints A)) ∧ w.ownsRow wa.heap.size 3 1 (.slice (some ⟨g2, 0, none⟩) m c2) m (VI (ints B)) → w'.ownsRow wa.heap.size 3 1 (.slice (some ⟨g1, 0, none⟩) m c1) m (VI (ints A)) ∧ w'.ownsRow wa.heap.size 3 1 (.slice (some ⟨g2, 0, none⟩) m c2) m (VI (ints B))) : DXK wa Z W0 b V o r r2 r5 p n va vb ii g1 g2 m c1 c2 A B i w w' := by unfold DXK; rw [if_pos h]; exact k9
theorem DX.cases {j : Nat} (h : j < 28) : j = 0 ∨ j = 1 ∨ j = 2 ∨ j = 3 ∨ j = 4 ∨ j = 5 ∨ j = 6 ∨ j = 7 ∨ j = 8 ∨ j = 9 ∨ j = 10 ∨ j = 11 ∨ j = 12 ∨ j = 13 ∨ j = 14 ∨ j = 15 ∨ j = 16 ∨ j = 17 ∨ j = 18 ∨ j = 19 ∨ j = 20 ∨ j = 21 ∨ j = 22 ∨ j = 23 ∨ j = 24 ∨ j = 25 ∨ j = 26 ∨ j = 27 := by omega
theorem DX.on (wa : World) (Z : Nat → Prop) (W0 : World) (b : Nat) (V : Nat) (o : List Nn) (r : Nat) (r2 : Nat) (r5 : Nat) (p : Nat) (n : Nat) (va : Nat) (vb : Nat) (ii : Nat) (g1 : Nat) (g2 : Nat) (m : Nat) (c1 : Nat) (c2 : Nat) (A : List Nat) (B : List Nat) {j : Nat} (hj : j < 28) {f : Tmp → Value} {w w' : World} (k9 : On w w') (h : DX wa Z W0 b V o r r2 r5 p n va vb ii g1 g2 m c1 c2 A B j f w) : DX wa Z W0 b V o r r2 r5 p n va vb ii g1 g2 m c1 c2 A B j f w' := by
  rcases DX.cases hj with rfl | rfl | rfl | rfl | rfl | rfl | rfl | rfl | rfl | rfl | rfl | rfl | rfl | rfl | rfl | rfl | rfl | rfl | rfl | rfl | rfl | rfl | rfl | rfl | rfl | rfl | rfl | rfl
  · exact h
  · exact h
  · exact h
  · exact h
  · exact h
  · exact h
  · exact h
  · exact h
  · exact h
  · exact h
  · exact h
  · obtain ⟨W1, h1, h2⟩ := (show ∃ W1 : World, (f 38 = .int .i64 (r2 : Int) ∧ Dr wa Z W1 b V (o ++ dT1 r p n va vb) ∧ Dk b W0 W1) ∧ On W1 w from h)
    exact ⟨W1, h1, h2.trans k9⟩
  · exact h
  · exact h
  · exact h
  · exact h
  · exact h
  · exact h
  · exact h
  · exact h
  · exact h
  · exact h
  · exact h
  · obtain ⟨W1, h1, h2⟩ := (show ∃ W1 : World, (f 38 = .int .i64 (r2 : Int) ∧ f 50 = .int .i64 (r5 : Int) ∧ Dr wa Z W1 b V (o ++ px6 r p n va vb) ∧ Dk b W0 W1) ∧ On W1 w from h)
    exact ⟨W1, h1, h2.trans k9⟩
  · exact h
  · exact h
  · obtain ⟨W1, h1, h2⟩ := (show ∃ W1 : World, (Dr wa Z W1 b V o ∧ Dk b W0 W1) ∧ On W1 w from h)
    exact ⟨W1, h1, h2.trans k9⟩
  · have h := (show w.ownsRow wa.heap.size 3 1 (.slice (some ⟨g1, 0, none⟩) m c1) m (VI (ints A)) ∧ w.ownsRow wa.heap.size 3 1 (.slice (some ⟨g2, 0, none⟩) m c2) m (VI (ints B)) from h)
    exact ⟨owns_on h.1 k9, owns_on h.2 k9⟩
theorem DX.dep (wa : World) (Z : Nat → Prop) (W0 : World) (b : Nat) (V : Nat) (o : List Nn) (r : Nat) (r2 : Nat) (r5 : Nat) (p : Nat) (n : Nat) (va : Nat) (vb : Nat) (ii : Nat) (g1 : Nat) (g2 : Nat) (m : Nat) (c1 : Nat) (c2 : Nat) (A : List Nat) (B : List Nat) {j : Nat} (hj : j < 28) {f f' : Tmp → Value} {w : World} (hd : ∀ d, d ∈ (match j with | 0 => [27] | 1 => [28] | 2 => [29] | 3 => [30] | 4 => [31] | 5 => [32] | 6 => [33] | 7 => [34] | 8 => [35] | 9 => [36] | 10 => [37] | 11 => [38] | 12 => [39] | 13 => [40] | 14 => [41] | 15 => [42] | 16 => [43] | 17 => [44] | 18 => [45] | 19 => [46] | 20 => [47] | 21 => [48] | 22 => [49] | 23 => [38, 50] | 24 => [6] | 25 => [7] | 26 => [] | 27 => [] | _ => []) → f d = f' d) (h : DX wa Z W0 b V o r r2 r5 p n va vb ii g1 g2 m c1 c2 A B j f w) : DX wa Z W0 b V o r r2 r5 p n va vb ii g1 g2 m c1 c2 A B j f' w := by
  rcases DX.cases hj with rfl | rfl | rfl | rfl | rfl | rfl | rfl | rfl | rfl | rfl | rfl | rfl | rfl | rfl | rfl | rfl | rfl | rfl | rfl | rfl | rfl | rfl | rfl | rfl | rfl | rfl | rfl | rfl
  · have h' : f 27 = .pointer (some ⟨b, 0, none⟩) := h
    simp only [hd 27 (by simp)] at h'
    exact h'
  · have h' : f 28 = .int .i64 (p : Int) := h
    simp only [hd 28 (by simp)] at h'
    exact h'
  · have h' : f 29 = .slice (some ⟨g2, 0, none⟩) m c2 := h
    simp only [hd 29 (by simp)] at h'
    exact h'
  · have h' : f 30 = .int .i64 (ii : Int) := h
    simp only [hd 30 (by simp)] at h'
    exact h'
  · have h' : f 31 = .pointer (some ⟨g2, ii, none⟩) := h
    simp only [hd 31 (by simp)] at h'
    exact h'
  · have h' : f 32 = .int .i64 (vb : Int) := h
    simp only [hd 32 (by simp)] at h'
    exact h'
  · have h' : f 33 = .int .i64 (n : Int) := h
    simp only [hd 33 (by simp)] at h'
    exact h'
  · have h' : f 34 = .slice (some ⟨g1, 0, none⟩) m c1 := h
    simp only [hd 34 (by simp)] at h'
    exact h'
  · have h' : f 35 = .int .i64 (ii : Int) := h
    simp only [hd 35 (by simp)] at h'
    exact h'
  · have h' : f 36 = .pointer (some ⟨g1, ii, none⟩) := h
    simp only [hd 36 (by simp)] at h'
    exact h'
  · have h' : f 37 = .int .i64 (va : Int) := h
    simp only [hd 37 (by simp)] at h'
    exact h'
  · have h' : ∃ W1 : World, (f 38 = .int .i64 (r2 : Int) ∧ Dr wa Z W1 b V (o ++ dT1 r p n va vb) ∧ Dk b W0 W1) ∧ On W1 w := h
    simp only [hd 38 (by simp)] at h'
    exact h'
  · have h' : f 39 = .pointer (some ⟨b, 0, none⟩) := h
    simp only [hd 39 (by simp)] at h'
    exact h'
  · have h' : f 40 = .int .i64 (p : Int) := h
    simp only [hd 40 (by simp)] at h'
    exact h'
  · have h' : f 41 = .slice (some ⟨g1, 0, none⟩) m c1 := h
    simp only [hd 41 (by simp)] at h'
    exact h'
  · have h' : f 42 = .int .i64 (ii : Int) := h
    simp only [hd 42 (by simp)] at h'
    exact h'
  · have h' : f 43 = .pointer (some ⟨g1, ii, none⟩) := h
    simp only [hd 43 (by simp)] at h'
    exact h'
  · have h' : f 44 = .int .i64 (va : Int) := h
    simp only [hd 44 (by simp)] at h'
    exact h'
  · have h' : f 45 = .int .i64 (n : Int) := h
    simp only [hd 45 (by simp)] at h'
    exact h'
  · have h' : f 46 = .slice (some ⟨g2, 0, none⟩) m c2 := h
    simp only [hd 46 (by simp)] at h'
    exact h'
  · have h' : f 47 = .int .i64 (ii : Int) := h
    simp only [hd 47 (by simp)] at h'
    exact h'
  · have h' : f 48 = .pointer (some ⟨g2, ii, none⟩) := h
    simp only [hd 48 (by simp)] at h'
    exact h'
  · have h' : f 49 = .int .i64 (vb : Int) := h
    simp only [hd 49 (by simp)] at h'
    exact h'
  · have h' : ∃ W1 : World, (f 38 = .int .i64 (r2 : Int) ∧ f 50 = .int .i64 (r5 : Int) ∧ Dr wa Z W1 b V (o ++ px6 r p n va vb) ∧ Dk b W0 W1) ∧ On W1 w := h
    simp only [hd 38 (by simp)] at h'
    simp only [hd 50 (by simp)] at h'
    exact h'
  · have h' : f 6 = .int .i64 (r2 : Int) := h
    simp only [hd 6 (by simp)] at h'
    exact h'
  · have h' : f 7 = .int .i64 (r5 : Int) := h
    simp only [hd 7 (by simp)] at h'
    exact h'
  · have h' : ∃ W1 : World, (Dr wa Z W1 b V o ∧ Dk b W0 W1) ∧ On W1 w := h
    exact h'
  · have h' : w.ownsRow wa.heap.size 3 1 (.slice (some ⟨g1, 0, none⟩) m c1) m (VI (ints A)) ∧ w.ownsRow wa.heap.size 3 1 (.slice (some ⟨g2, 0, none⟩) m c2) m (VI (ints B)) := h
    exact h'
set_option maxHeartbeats 16000000 in
theorem dxor_any (wa : World) (Z : Nat → Prop) (w : World) (b V : Nat) (xs : List Nn) (D : Dr wa Z w b V xs) (hV : V ≤ 24) (hl : xs.length ≤ 50000) (P1 P2 : Option Addr) (m c1 c2 : Nat) (A B : List Nat) (RA : w.ownsRow wa.heap.size 3 1 (.slice P1 m c1) m (VI (ints A))) (RB : w.ownsRow wa.heap.size 3 1 (.slice P2 m c2) m (VI (ints B))) (hm : 0 < m) (hm16 : m ≤ 16) :
    Calls Try.prog 41 #[.pointer (some ⟨b, 0, none⟩), .slice P1 m c1, .slice P2 m c2] w fun e w' => e = .returned (.tuple #[.int .i64 ((pxO V A B xs (m - 1)).2.1 : Int), .int .i64 ((pxO V A B xs (m - 1)).2.2 : Int)]) ∧ Dr wa Z w' b V (pxO V A B xs (m - 1)).1 ∧ Dk b w w' := by
  obtain ⟨g1, rfl⟩ := row_some RA hm
  obtain ⟨g2, rfl⟩ := row_some RB hm
  have hcap1 := (rd_of_row RA).cap
  have hmax1 := (rd_of_row RA).max
  have hcap2 := (rd_of_row RB).cap
  have hmax2 := (rd_of_row RB).max
  obtain ⟨a0, ha0⟩ : ∃ a0, A.getD 0 0 = a0 := ⟨_, rfl⟩
  obtain ⟨b0, hb0⟩ : ∃ b0, B.getD 0 0 = b0 := ⟨_, rfl⟩
  have h1 := row_cellG RA hm ha0
  obtain ⟨w1, hw1⟩ := lit1_eq w (a0 : Int)
  obtain ⟨r, hr⟩ : ∃ r, V + xs.length = r := ⟨_, rfl⟩
  have hC := dadd1 wa Z w w1 b V xs D hV (by omega) r hr 3 0 3 0 rfl rfl a0 hw1
  have HD := Lib.hid (And.intro D (And.intro RA RB))
  clear D RA RB
  go_enter Try.func41, Try.ntmps41
  go_wp2_with fail
  refine hC.mono ?_
  rintro e w2 ⟨rfl, D2, K2⟩
  clear hC hw1 h1
  have RA2 := HD.out.1.ints K2 HD.out.2.1
  have RB2 := HD.out.1.ints K2 HD.out.2.2
  have h1 := row_cellG RB2 hm hb0
  have hl1 : (xs ++ [(⟨3, 0, [a0]⟩ : Nn)]).length = xs.length + 1 := by rw [List.length_append]; rfl
  obtain ⟨w3, hw3⟩ := lit1_eq w2 (b0 : Int)
  obtain ⟨r1, hr1⟩ : ∃ r1, r + 1 = r1 := ⟨_, rfl⟩
  have hC := dadd1 wa Z w2 w3 b V _ D2 hV (by omega) r1 (by omega) 3 0 3 0 rfl rfl b0 hw3
  have HD2 := Lib.hid (And.intro D2 (And.intro RA2 RB2))
  clear D2 RA2 RB2
  go_wp2_with fail
  refine hC.mono ?_
  rintro e w4 ⟨rfl, D4, K4⟩
  clear hC hw3 h1
  have RA4 := HD2.out.1.ints K4 HD2.out.2.1
  have RB4 := HD2.out.1.ints K4 HD2.out.2.2
  have ex0 : pxO V A B xs 0 = (xs ++ [⟨3, 0, [a0]⟩] ++ [⟨3, 0, [b0]⟩], r, r1) := by rw [← ha0, ← hb0, ← hr1, ← hr]; simp [pxO]
  have H4 := Lib.hid (And.intro D4 (And.intro RA4 (And.intro RB4 (And.intro (K2.trans K4) ex0))))
  clear D4 RA4 RB4 K2 K4 HD HD2 ex0
  go_wp2
  go_loopw [8, 6, 7] (fun i x y wr => ∃ j : Nat, j < m ∧ i = .int .i64 ((j + 1 : Nat) : Int) ∧ x = .int .i64 ((pxO V A B xs j).2.1 : Int) ∧ y = .int .i64 ((pxO V A B xs j).2.2 : Int) ∧ Dr wa Z wr b V (pxO V A B xs j).1 ∧ Dk b w wr ∧ wr.ownsRow wa.heap.size 3 1 (.slice (some ⟨g1, 0, none⟩) m c1) m (VI (ints A)) ∧ wr.ownsRow wa.heap.size 3 1 (.slice (some ⟨g2, 0, none⟩) m c2) m (VI (ints B))) (fun i _ _ _ => m - (intOf i).toNat)
  case atStart => exact ⟨0, hm, rfl, by rw [H4.out.2.2.2.2], by rw [H4.out.2.2.2.2], by rw [H4.out.2.2.2.2]; exact H4.out.1, H4.out.2.2.2.1, H4.out.2.1, H4.out.2.2.1⟩
  case round =>
    obtain ⟨j, hj, rfl, rfl, rfl, DJ, KJ, RA, RB⟩ := hrel
    have hlen := pxO_len V A B xs j
    obtain ⟨i, hi⟩ : ∃ i, j + 1 = i := ⟨_, rfl⟩
    have hs1 : pxO V A B xs (j + 1) = ((pxO V A B xs j).1 ++ px6 (V + (pxO V A B xs j).1.length) (pxO V A B xs j).2.1 (pxO V A B xs j).2.2 (A.getD (j + 1) 0) (B.getD (j + 1) 0), V + (pxO V A B xs j).1.length + 2, V + (pxO V A B xs j).1.length + 5) := rfl
    rw [hi]
    by_cases hil : i < m
    · rw [hi] at hs1
      obtain ⟨va, hva⟩ : ∃ va, A.getD i 0 = va := ⟨_, rfl⟩
      obtain ⟨vb, hvb⟩ : ∃ vb, B.getD i 0 = vb := ⟨_, rfl⟩
      rw [hva, hvb] at hs1
      obtain ⟨⟨o, p, n⟩, hpx⟩ : ∃ z, pxO V A B xs j = z := ⟨_, rfl⟩
      rw [hpx] at hs1 hlen DJ ⊢
      simp only at hs1 hlen DJ ⊢
      obtain ⟨r, hr⟩ : ∃ r, V + o.length = r := ⟨_, rfl⟩
      rw [hr] at hs1
      obtain ⟨r2, hr2⟩ : ∃ r2, r + 2 = r2 := ⟨_, rfl⟩
      obtain ⟨r5, hr5⟩ : ∃ r5, r + 5 = r5 := ⟨_, rfl⟩
      rw [hr2, hr5] at hs1
      have hlo : o.length ≤ 90000 := by omega
      obtain ⟨w0, hw0⟩ : ∃ w0, wr = w0 := ⟨_, rfl⟩
      rw [hw0] at DJ KJ RA RB ⊢
      have D0 := DJ
      have HJ := Lib.hid (And.intro KJ hs1)
      clear KJ hs1 hpx hw0 H4
      go_upto_region 6 with fail
      refine wp_region_w (by kernel_rfl) 28 (DX wa Z w0 b V o r r2 r5 p n va vb i g1 g2 m c1 c2 A B) DXEx (DXK wa Z w0 b V o r r2 r5 p n va vb i g1 g2 m c1 c2 A B) [none, none, none, none, none, none, some 6, some 7, none, none, none, none, none, none, none, none, none, none, none, none, none, none, none, none, none, none, none, some 27, some 28, some 29, some 30, some 31, some 32, some 33, some 34, some 35, some 36, some 37, some 38, some 39, some 40, some 41, some 42, some 43, some 44, some 45, some 46, some 47, some 48, some 49, some 50, none, none] (by kernel_rfl) (by kernel_rfl) (by kernel_rfl) rfl ?rgDep ?rgKeep (by decide) ?rgInit ?rgOps9 ?rgDone9
      case rgDep =>
        intro j9 f1 f2 W hj hd h
        refine DX.dep wa Z w0 b V o r r2 r5 p n va vb i g1 g2 m c1 c2 A B hj ?_ h
        rcases DX.cases hj with rfl | rfl | rfl | rfl | rfl | rfl | rfl | rfl | rfl | rfl | rfl | rfl | rfl | rfl | rfl | rfl | rfl | rfl | rfl | rfl | rfl | rfl | rfl | rfl | rfl | rfl | rfl | rfl <;> first | (intro d hm; simp at hm; done) | (intro d hm; simp at hm; (try rcases hm with rfl | rfl) <;> (try subst hm) <;> exact hd _ (by kernel_rfl))
      case rgKeep =>
        intro i9 j9 f1 W W' hi hj hij hex hw1 hw2 hk h
        unfold DXK at hk
        by_cases h11 : i9 = 11
        · subst h11
          rw [if_pos (by decide)] at hk
          rcases DX.cases hj with rfl | rfl | rfl | rfl | rfl | rfl | rfl | rfl | rfl | rfl | rfl | rfl | rfl | rfl | rfl | rfl | rfl | rfl | rfl | rfl | rfl | rfl | rfl | rfl | rfl | rfl | rfl | rfl
          · exact h
          · exact h
          · exact h
          · exact h
          · exact h
          · exact h
          · exact h
          · exact h
          · exact h
          · exact h
          · exact h
          · exact absurd rfl hij
          · exact h
          · exact h
          · exact h
          · exact h
          · exact h
          · exact h
          · exact h
          · exact h
          · exact h
          · exact h
          · exact h
          · exact absurd (hw1.symm.trans (show _ = true by kernel_rfl)) (by decide)
          · exact h
          · exact h
          · exact absurd rfl hex
          · exact hk h
        by_cases h23 : i9 = 23
        · subst h23
          rw [if_pos (by decide)] at hk
          rcases DX.cases hj with rfl | rfl | rfl | rfl | rfl | rfl | rfl | rfl | rfl | rfl | rfl | rfl | rfl | rfl | rfl | rfl | rfl | rfl | rfl | rfl | rfl | rfl | rfl | rfl | rfl | rfl | rfl | rfl
          · exact h
          · exact h
          · exact h
          · exact h
          · exact h
          · exact h
          · exact h
          · exact h
          · exact h
          · exact h
          · exact h
          · exact absurd rfl hex
          · exact h
          · exact h
          · exact h
          · exact h
          · exact h
          · exact h
          · exact h
          · exact h
          · exact h
          · exact h
          · exact h
          · exact absurd rfl hij
          · exact h
          · exact h
          · exact absurd (hw2.symm.trans (show _ = true by kernel_rfl)) (by decide)
          · exact hk h
        rw [if_neg (by omega)] at hk
        exact DX.on wa Z w0 b V o r r2 r5 p n va vb i g1 g2 m c1 c2 A B hj hk h
      case rgInit =>
        intro j9 h1 h2
        have h1' : 26 ≤ j9 := h1
        have h2' : j9 < 28 := h2
        obtain rfl | rfl : j9 = 26 ∨ j9 = 27 := by omega
        · exact ⟨_, ⟨D0, Dk.refl b _⟩, (On.refl _).drew⟩
        · exact ⟨owns_on RA (On.refl _).drew, owns_on RB (On.refl _).drew⟩
      case rgOps9 =>
        refine ⟨?_, ?_, ?_, ?_, ?_, ?_, ?_, ?_, ?_, ?_, ?_, ?_, ?_, ?_, ?_, ?_, ?_, ?_, ?_, ?_, ?_, ?_, ?_, ?_, ?_, ?_, trivial⟩
        · refine fun a W hp => ob_yes rfl (does_value (w' := W) (v := a.eval (.tmp 0)) rfl (DXK.on wa Z w0 b V o r r2 r5 p n va vb i g1 g2 m c1 c2 A B (by decide) (On.refl W)) ((val_eq (by rw [hp.tsize]; exact (show (27 : Nat) < 53 by decide))).trans (show a.eval (.tmp 0) = .pointer (some ⟨b, 0, none⟩) from hp.same 0 (by kernel_rfl))))
        · refine fun a W hp => ob_yes rfl (does_value (w' := W) (v := a.eval (.tmp 6)) rfl (DXK.on wa Z w0 b V o r r2 r5 p n va vb i g1 g2 m c1 c2 A B (by decide) (On.refl W)) ((val_eq (by rw [hp.tsize]; exact (show (28 : Nat) < 53 by decide))).trans (show a.eval (.tmp 6) = .int .i64 (p : Int) from hp.same 6 (by kernel_rfl))))
        · refine fun a W hp => ob_yes rfl (does_value (w' := W) (v := a.eval (.tmp 2)) rfl (DXK.on wa Z w0 b V o r r2 r5 p n va vb i g1 g2 m c1 c2 A B (by decide) (On.refl W)) ((val_eq (by rw [hp.tsize]; exact (show (29 : Nat) < 53 by decide))).trans (show a.eval (.tmp 2) = .slice (some ⟨g2, 0, none⟩) m c2 from hp.same 2 (by kernel_rfl))))
        · refine fun a W hp => ob_yes rfl (does_value (w' := W) (v := a.eval (.tmp 8)) rfl (DXK.on wa Z w0 b V o r r2 r5 p n va vb i g1 g2 m c1 c2 A B (by decide) (On.refl W)) ((val_eq (by rw [hp.tsize]; exact (show (30 : Nat) < 53 by decide))).trans (show a.eval (.tmp 8) = .int .i64 (i : Int) from hp.same 8 (by kernel_rfl))))
        · refine fun a W hp => ob_yes rfl (does_value (w' := W) (v := .pointer (some ⟨g2, i, none⟩)) (do_value ?_) (DXK.on wa Z w0 b V o r r2 r5 p n va vb i g1 g2 m c1 c2 A B (by decide) (On.refl W)) (val_eq (by rw [hp.tsize]; exact (show (31 : Nat) < 53 by decide))))
          (try simp only [List.map_toArray, List.map_cons, List.map_nil])
          rw [show a.eval (.tmp 29) = .slice (some ⟨g2, 0, none⟩) m c2 from hp.fact 2 (by decide) (.inr (by kernel_rfl)) (.inl (by decide)), show a.eval (.tmp 30) = .int .i64 (i : Int) from hp.fact 3 (by decide) (.inr (by kernel_rfl)) (.inl (by decide))]
          go_simp
        · refine fun a W hp => ob_yes rfl (does_value (w' := W) (v := .int .i64 (vb : Int)) (do_value ?_) (DXK.on wa Z w0 b V o r r2 r5 p n va vb i g1 g2 m c1 c2 A B (by decide) (On.refl W)) (val_eq (by rw [hp.tsize]; exact (show (32 : Nat) < 53 by decide))))
          have hR : W.ownsRow wa.heap.size 3 1 (.slice (some ⟨g1, 0, none⟩) m c1) m (VI (ints A)) ∧ W.ownsRow wa.heap.size 3 1 (.slice (some ⟨g2, 0, none⟩) m c2) m (VI (ints B)) := hp.fact 27 (by decide) (.inl (by decide)) (.inl (by decide))
          have hc := row_cellG hR.2 hil (hvb)
          clear hR
          (try simp only [List.map_toArray, List.map_cons, List.map_nil])
          rw [show a.eval (.tmp 31) = .pointer (some ⟨g2, i, none⟩) from hp.fact 4 (by decide) (.inr (by kernel_rfl)) (.inl (by decide))]
          go_simp
        · refine fun a W hp => ob_yes rfl (does_value (w' := W) (v := a.eval (.tmp 7)) rfl (DXK.on wa Z w0 b V o r r2 r5 p n va vb i g1 g2 m c1 c2 A B (by decide) (On.refl W)) ((val_eq (by rw [hp.tsize]; exact (show (33 : Nat) < 53 by decide))).trans (show a.eval (.tmp 7) = .int .i64 (n : Int) from hp.same 7 (by kernel_rfl))))
        · refine fun a W hp => ob_yes rfl (does_value (w' := W) (v := a.eval (.tmp 1)) rfl (DXK.on wa Z w0 b V o r r2 r5 p n va vb i g1 g2 m c1 c2 A B (by decide) (On.refl W)) ((val_eq (by rw [hp.tsize]; exact (show (34 : Nat) < 53 by decide))).trans (show a.eval (.tmp 1) = .slice (some ⟨g1, 0, none⟩) m c1 from hp.same 1 (by kernel_rfl))))
        · refine fun a W hp => ob_yes rfl (does_value (w' := W) (v := a.eval (.tmp 8)) rfl (DXK.on wa Z w0 b V o r r2 r5 p n va vb i g1 g2 m c1 c2 A B (by decide) (On.refl W)) ((val_eq (by rw [hp.tsize]; exact (show (35 : Nat) < 53 by decide))).trans (show a.eval (.tmp 8) = .int .i64 (i : Int) from hp.same 8 (by kernel_rfl))))
        · refine fun a W hp => ob_yes rfl (does_value (w' := W) (v := .pointer (some ⟨g1, i, none⟩)) (do_value ?_) (DXK.on wa Z w0 b V o r r2 r5 p n va vb i g1 g2 m c1 c2 A B (by decide) (On.refl W)) (val_eq (by rw [hp.tsize]; exact (show (36 : Nat) < 53 by decide))))
          (try simp only [List.map_toArray, List.map_cons, List.map_nil])
          rw [show a.eval (.tmp 34) = .slice (some ⟨g1, 0, none⟩) m c1 from hp.fact 7 (by decide) (.inr (by kernel_rfl)) (.inl (by decide)), show a.eval (.tmp 35) = .int .i64 (i : Int) from hp.fact 8 (by decide) (.inr (by kernel_rfl)) (.inl (by decide))]
          go_simp
        · refine fun a W hp => ob_yes rfl (does_value (w' := W) (v := .int .i64 (va : Int)) (do_value ?_) (DXK.on wa Z w0 b V o r r2 r5 p n va vb i g1 g2 m c1 c2 A B (by decide) (On.refl W)) (val_eq (by rw [hp.tsize]; exact (show (37 : Nat) < 53 by decide))))
          have hR : W.ownsRow wa.heap.size 3 1 (.slice (some ⟨g1, 0, none⟩) m c1) m (VI (ints A)) ∧ W.ownsRow wa.heap.size 3 1 (.slice (some ⟨g2, 0, none⟩) m c2) m (VI (ints B)) := hp.fact 27 (by decide) (.inl (by decide)) (.inl (by decide))
          have hc := row_cellG hR.1 hil (hva)
          clear hR
          (try simp only [List.map_toArray, List.map_cons, List.map_nil])
          rw [show a.eval (.tmp 36) = .pointer (some ⟨g1, i, none⟩) from hp.fact 9 (by decide) (.inr (by kernel_rfl)) (.inl (by decide))]
          go_simp
        · refine fun a W hp => ob_yes rfl ?_
          obtain ⟨W1, ⟨D1, K1⟩, k1⟩ : ∃ W1 : World, (Dr wa Z W1 b V o ∧ Dk b w0 W1) ∧ On W1 W := hp.fact 26 (by decide) (.inl (by decide)) (.inr (.inl rfl))
          have D := D1.to k1
          have K := K1.trans (Dk.of_on D1.lt k1)
          have e27 := (show a.eval (.tmp 27) = .pointer (some ⟨b, 0, none⟩) from hp.fact 0 (by decide) (.inr (by kernel_rfl)) (.inl (by decide)))
          have e28 := (show a.eval (.tmp 28) = .int .i64 (p : Int) from hp.fact 1 (by decide) (.inr (by kernel_rfl)) (.inl (by decide)))
          have e32 := (show a.eval (.tmp 32) = .int .i64 (vb : Int) from hp.fact 5 (by decide) (.inr (by kernel_rfl)) (.inl (by decide)))
          have e33 := (show a.eval (.tmp 33) = .int .i64 (n : Int) from hp.fact 6 (by decide) (.inr (by kernel_rfl)) (.inl (by decide)))
          have e37 := (show a.eval (.tmp 37) = .int .i64 (va : Int) from hp.fact 10 (by decide) (.inr (by kernel_rfl)) (.inl (by decide)))
          simp only [Act.eval, Array.getD_eq_getD_getElem?] at e27 e28 e32 e33 e37
          unfold Does
          go_simp
          (try rw [e27, e28, e32, e33, e37])
          refine (dtwo_any wa Z W b V o D hV hlo r hr r2 hr2 p vb n va).mono ?_
          rintro e w9 ⟨rfl, D9, K9⟩
          refine ⟨⟨_, rfl⟩, DXK.sp wa Z w0 b V o r r2 r5 p n va vb i g1 g2 m c1 c2 A B (by decide) (fun h => ⟨D.ints K9 h.1, D.ints K9 h.2⟩), ?_⟩
          exact ⟨w9, ⟨val_eq (by rw [hp.tsize]; exact (show (38 : Nat) < 53 by decide)), D9, K.trans K9⟩, On.refl _⟩
        · refine fun a W hp => ob_yes rfl (does_value (w' := W) (v := a.eval (.tmp 0)) rfl (DXK.on wa Z w0 b V o r r2 r5 p n va vb i g1 g2 m c1 c2 A B (by decide) (On.refl W)) ((val_eq (by rw [hp.tsize]; exact (show (39 : Nat) < 53 by decide))).trans (show a.eval (.tmp 0) = .pointer (some ⟨b, 0, none⟩) from hp.same 0 (by kernel_rfl))))
        · refine fun a W hp => ob_yes rfl (does_value (w' := W) (v := a.eval (.tmp 6)) rfl (DXK.on wa Z w0 b V o r r2 r5 p n va vb i g1 g2 m c1 c2 A B (by decide) (On.refl W)) ((val_eq (by rw [hp.tsize]; exact (show (40 : Nat) < 53 by decide))).trans (show a.eval (.tmp 6) = .int .i64 (p : Int) from hp.same 6 (by kernel_rfl))))
        · refine fun a W hp => ob_yes rfl (does_value (w' := W) (v := a.eval (.tmp 1)) rfl (DXK.on wa Z w0 b V o r r2 r5 p n va vb i g1 g2 m c1 c2 A B (by decide) (On.refl W)) ((val_eq (by rw [hp.tsize]; exact (show (41 : Nat) < 53 by decide))).trans (show a.eval (.tmp 1) = .slice (some ⟨g1, 0, none⟩) m c1 from hp.same 1 (by kernel_rfl))))
        · refine fun a W hp => ob_yes rfl (does_value (w' := W) (v := a.eval (.tmp 8)) rfl (DXK.on wa Z w0 b V o r r2 r5 p n va vb i g1 g2 m c1 c2 A B (by decide) (On.refl W)) ((val_eq (by rw [hp.tsize]; exact (show (42 : Nat) < 53 by decide))).trans (show a.eval (.tmp 8) = .int .i64 (i : Int) from hp.same 8 (by kernel_rfl))))
        · refine fun a W hp => ob_yes rfl (does_value (w' := W) (v := .pointer (some ⟨g1, i, none⟩)) (do_value ?_) (DXK.on wa Z w0 b V o r r2 r5 p n va vb i g1 g2 m c1 c2 A B (by decide) (On.refl W)) (val_eq (by rw [hp.tsize]; exact (show (43 : Nat) < 53 by decide))))
          (try simp only [List.map_toArray, List.map_cons, List.map_nil])
          rw [show a.eval (.tmp 41) = .slice (some ⟨g1, 0, none⟩) m c1 from hp.fact 14 (by decide) (.inr (by kernel_rfl)) (.inl (by decide)), show a.eval (.tmp 42) = .int .i64 (i : Int) from hp.fact 15 (by decide) (.inr (by kernel_rfl)) (.inl (by decide))]
          go_simp
        · refine fun a W hp => ob_yes rfl (does_value (w' := W) (v := .int .i64 (va : Int)) (do_value ?_) (DXK.on wa Z w0 b V o r r2 r5 p n va vb i g1 g2 m c1 c2 A B (by decide) (On.refl W)) (val_eq (by rw [hp.tsize]; exact (show (44 : Nat) < 53 by decide))))
          have hR : W.ownsRow wa.heap.size 3 1 (.slice (some ⟨g1, 0, none⟩) m c1) m (VI (ints A)) ∧ W.ownsRow wa.heap.size 3 1 (.slice (some ⟨g2, 0, none⟩) m c2) m (VI (ints B)) := hp.fact 27 (by decide) (.inl (by decide)) (.inl (by decide))
          have hc := row_cellG hR.1 hil (hva)
          clear hR
          (try simp only [List.map_toArray, List.map_cons, List.map_nil])
          rw [show a.eval (.tmp 43) = .pointer (some ⟨g1, i, none⟩) from hp.fact 16 (by decide) (.inr (by kernel_rfl)) (.inl (by decide))]
          go_simp
        · refine fun a W hp => ob_yes rfl (does_value (w' := W) (v := a.eval (.tmp 7)) rfl (DXK.on wa Z w0 b V o r r2 r5 p n va vb i g1 g2 m c1 c2 A B (by decide) (On.refl W)) ((val_eq (by rw [hp.tsize]; exact (show (45 : Nat) < 53 by decide))).trans (show a.eval (.tmp 7) = .int .i64 (n : Int) from hp.same 7 (by kernel_rfl))))
        · refine fun a W hp => ob_yes rfl (does_value (w' := W) (v := a.eval (.tmp 2)) rfl (DXK.on wa Z w0 b V o r r2 r5 p n va vb i g1 g2 m c1 c2 A B (by decide) (On.refl W)) ((val_eq (by rw [hp.tsize]; exact (show (46 : Nat) < 53 by decide))).trans (show a.eval (.tmp 2) = .slice (some ⟨g2, 0, none⟩) m c2 from hp.same 2 (by kernel_rfl))))
        · refine fun a W hp => ob_yes rfl (does_value (w' := W) (v := a.eval (.tmp 8)) rfl (DXK.on wa Z w0 b V o r r2 r5 p n va vb i g1 g2 m c1 c2 A B (by decide) (On.refl W)) ((val_eq (by rw [hp.tsize]; exact (show (47 : Nat) < 53 by decide))).trans (show a.eval (.tmp 8) = .int .i64 (i : Int) from hp.same 8 (by kernel_rfl))))
        · refine fun a W hp => ob_yes rfl (does_value (w' := W) (v := .pointer (some ⟨g2, i, none⟩)) (do_value ?_) (DXK.on wa Z w0 b V o r r2 r5 p n va vb i g1 g2 m c1 c2 A B (by decide) (On.refl W)) (val_eq (by rw [hp.tsize]; exact (show (48 : Nat) < 53 by decide))))
          (try simp only [List.map_toArray, List.map_cons, List.map_nil])
          rw [show a.eval (.tmp 46) = .slice (some ⟨g2, 0, none⟩) m c2 from hp.fact 19 (by decide) (.inr (by kernel_rfl)) (.inl (by decide)), show a.eval (.tmp 47) = .int .i64 (i : Int) from hp.fact 20 (by decide) (.inr (by kernel_rfl)) (.inl (by decide))]
          go_simp
        · refine fun a W hp => ob_yes rfl (does_value (w' := W) (v := .int .i64 (vb : Int)) (do_value ?_) (DXK.on wa Z w0 b V o r r2 r5 p n va vb i g1 g2 m c1 c2 A B (by decide) (On.refl W)) (val_eq (by rw [hp.tsize]; exact (show (49 : Nat) < 53 by decide))))
          have hR : W.ownsRow wa.heap.size 3 1 (.slice (some ⟨g1, 0, none⟩) m c1) m (VI (ints A)) ∧ W.ownsRow wa.heap.size 3 1 (.slice (some ⟨g2, 0, none⟩) m c2) m (VI (ints B)) := hp.fact 27 (by decide) (.inl (by decide)) (.inl (by decide))
          have hc := row_cellG hR.2 hil (hvb)
          clear hR
          (try simp only [List.map_toArray, List.map_cons, List.map_nil])
          rw [show a.eval (.tmp 48) = .pointer (some ⟨g2, i, none⟩) from hp.fact 21 (by decide) (.inr (by kernel_rfl)) (.inl (by decide))]
          go_simp
        · refine fun a W hp => ob_yes rfl ?_
          obtain ⟨W1, ⟨g38, D1, K1⟩, k1⟩ : ∃ W1 : World, (slv a 38 = .int .i64 (r2 : Int) ∧ Dr wa Z W1 b V (o ++ dT1 r p n va vb) ∧ Dk b w0 W1) ∧ On W1 W := hp.fact 11 (by decide) (.inr (by kernel_rfl)) (.inr (.inl rfl))
          have D := D1.to k1
          have K := K1.trans (Dk.of_on D1.lt k1)
          have hl3 : (o ++ dT1 r p n va vb).length = o.length + 3 := by rw [List.length_append]; rfl
          have e39 := (show a.eval (.tmp 39) = .pointer (some ⟨b, 0, none⟩) from hp.fact 12 (by decide) (.inr (by kernel_rfl)) (.inl (by decide)))
          have e40 := (show a.eval (.tmp 40) = .int .i64 (p : Int) from hp.fact 13 (by decide) (.inr (by kernel_rfl)) (.inl (by decide)))
          have e44 := (show a.eval (.tmp 44) = .int .i64 (va : Int) from hp.fact 17 (by decide) (.inr (by kernel_rfl)) (.inl (by decide)))
          have e45 := (show a.eval (.tmp 45) = .int .i64 (n : Int) from hp.fact 18 (by decide) (.inr (by kernel_rfl)) (.inl (by decide)))
          have e49 := (show a.eval (.tmp 49) = .int .i64 (vb : Int) from hp.fact 22 (by decide) (.inr (by kernel_rfl)) (.inl (by decide)))
          simp only [Act.eval, Array.getD_eq_getD_getElem?] at e39 e40 e44 e45 e49
          unfold Does
          go_simp
          (try rw [e39, e40, e44, e45, e49])
          refine (dtwo_any wa Z W b V _ D hV (by omega) (r + 3) (by omega) r5 hr5 p va n vb).mono ?_
          rintro e w9 ⟨rfl, D9, K9⟩
          refine ⟨⟨_, rfl⟩, DXK.sp wa Z w0 b V o r r2 r5 p n va vb i g1 g2 m c1 c2 A B (by decide) (fun h => ⟨D.ints K9 h.1, D.ints K9 h.2⟩), ?_⟩
          refine ⟨w9, ⟨(val_ne (a := a) (x := some 50) (d := 38) (v := .int .i64 (r5 : Int)) (by decide)).trans g38, val_eq (by rw [hp.tsize]; exact (show (50 : Nat) < 53 by decide)), ?_, K.trans K9⟩, On.refl _⟩
          rw [List.append_assoc] at D9
          exact D9
        · refine fun a W hp => ?_
          obtain ⟨W1, ⟨g38, g50, D1, K1⟩, k1⟩ : ∃ W1 : World, (slv a 38 = .int .i64 (r2 : Int) ∧ slv a 50 = .int .i64 (r5 : Int) ∧ Dr wa Z W1 b V (o ++ px6 r p n va vb) ∧ Dk b w0 W1) ∧ On W1 W := hp.fact 23 (by decide) (.inr (by kernel_rfl)) (.inl (by decide))
          exact ob_yes rfl (does_value (w' := W) (v := slv a 38) rfl (DXK.on wa Z w0 b V o r r2 r5 p n va vb i g1 g2 m c1 c2 A B (by decide) (On.refl W)) ((val_eq (by rw [hp.tsize]; exact (show (6 : Nat) < 53 by decide))).trans g38))
        · refine fun a W hp => ?_
          obtain ⟨W1, ⟨g38, g50, D1, K1⟩, k1⟩ : ∃ W1 : World, (slv a 38 = .int .i64 (r2 : Int) ∧ slv a 50 = .int .i64 (r5 : Int) ∧ Dr wa Z W1 b V (o ++ px6 r p n va vb) ∧ Dk b w0 W1) ∧ On W1 W := hp.fact 23 (by decide) (.inr (by kernel_rfl)) (.inl (by decide))
          exact ob_yes rfl (does_value (w' := W) (v := slv a 50) rfl (DXK.on wa Z w0 b V o r r2 r5 p n va vb i g1 g2 m c1 c2 A B (by decide) (On.refl W)) ((val_eq (by rw [hp.tsize]; exact (show (7 : Nat) < 53 by decide))).trans g50))
      case rgDone9 =>
        intro fv w9 hf
        obtain ⟨W1, ⟨g38, g50, D1, K1⟩, k1⟩ : ∃ W1 : World, (fv 38 = .int .i64 (r2 : Int) ∧ fv 50 = .int .i64 (r5 : Int) ∧ Dr wa Z W1 b V (o ++ px6 r p n va vb) ∧ Dk b w0 W1) ∧ On W1 w9 := hf 23 (by decide) (by decide)
        have g6 : fv 6 = .int .i64 (r2 : Int) := hf 24 (by decide) (by decide)
        have g7 : fv 7 = .int .i64 (r5 : Int) := hf 25 (by decide) (by decide)
        have D9 := D1.to k1
        have K9 := K1.trans (Dk.of_on D1.lt k1)
        clear hf D1 K1 k1
        simp only [fillL, g6, g7]
        have HD9 := Lib.hid (And.intro D9 K9)
        have RA9 := DJ.ints K9 RA
        have RB9 := DJ.ints K9 RB
        clear D9 K9 g38 g50 g6 g7 DJ D0 RA RB
        go_wp2
        go_roundw
        case rel => exact ⟨i, hil, by go_num, by rw [HJ.out.2], by rw [HJ.out.2], by rw [HJ.out.2]; exact HD9.out.1, HJ.out.1.trans HD9.out.2, RA9, RB9⟩
        case measure => simp [intOf] <;> omega
    · obtain rfl : j = m - 1 := by omega
      have HJ := Lib.hid (And.intro DJ KJ)
      clear DJ KJ RA RB H4
      go_wp2
      go_ret2
      exact ⟨rfl, HJ.out.1, HJ.out.2⟩
end Go.Proofs.Ytmkogcaafkobaaa.Fm
/-
  Drafts: a node and its negation.
-/
namespace Go.Proofs.Ytmkogcaafkobaaa.Fm
open Go.RowKit Go.Proofs.Ytmkogcaafkobaaa.Sb Go.Proofs.Ytmkogcaafkobaaa.Rgv
set_option linter.unusedVariables false
set_option maxRecDepth 100000
theorem ddual1 (wa : World) (Z : Nat → Prop) (w : World) (b V : Nat) (xs : List Nn) (D : Dr wa Z w b V xs) (hV : V ≤ 24) (hl : xs.length ≤ 90000) (r : Nat) (hr : V + xs.length = r) (x : Nn) (hkd : x.kind ≤ 5) (hk0 : x.kind = 0 → x.k ≤ 1 ∧ x.args = []) (hk4 : x.kind = 4 → 1 ≤ x.k ∧ x.k ≤ x.args.length) (hm16 : x.args.length ≤ 16) (Q : Value) (l : List Nat) (hll : l.length = x.args.length) (P : Option Addr) (m c : Nat) (F : w.ownsRow wa.heap.size 3 1 (.slice P m c) m (VI (ints l))) (hFZ : ∀ g, (Value.slice P m c).ownBlock = some g → ¬ Z g) (hdl : (duN r x l).length = 1) :
    Calls Try.prog 42 #[.pointer (some ⟨b, 0, none⟩), .agg #[.int .i64 (x.kind : Int), .int .i64 (x.k : Int), Q], .slice P m c] w fun e w' => e = .returned (.int .i64 (r : Int)) ∧ Dr wa Z w' b V (xs ++ duN r x l) ∧ Dk b w w' := by
  refine (ddual_any wa Z w b V xs D hV hl r hr x hkd hk0 hk4 hm16 Q l hll P m c F hFZ).mono ?_
  rintro e w1 ⟨h1, h2, h3⟩
  rw [hdl, Nat.add_sub_cancel] at h1
  exact ⟨h1, h2, h3⟩
def DP (wa : World) (Z : Nat → Prop) (W0 : World) (b : Nat) (V : Nat) (o : List Nn) (r : Nat) (r1 : Nat) (kd : Nat) (k : Nat) (ar : List Nat) (Q : Value) (q : Nat) (P1 : Option Addr) (P2 : Option Addr) (m : Nat) (c1 : Nat) (c2 : Nat) (A : List Nat) (B : List Nat) (i : Nat) (f : Tmp → Value) (w : World) : Prop :=
  match i with
  | 0 => f 28 = .pointer (some ⟨b, 0, none⟩)
  | 1 => f 29 = .pointer (some ⟨q, 0, none⟩)
  | 2 => f 30 = .int .i64 (kd : Int)
  | 3 => f 31 = .pointer (some ⟨q, 1, none⟩)
  | 4 => f 32 = .int .i64 (k : Int)
  | 5 => f 33 = .slice P1 m c1
  | 6 => ∃ W1 : World, (f 34 = .int .i64 (r : Int) ∧ Dr wa Z W1 b V (o ++ [(⟨kd, k, A⟩ : Nn)]) ∧ Dk b W0 W1) ∧ On W1 w
  | 7 => f 35 = .pointer (some ⟨b, 0, none⟩)
  | 8 => f 36 = .agg #[.int .i64 (kd : Int), .int .i64 (k : Int), Q]
  | 9 => f 37 = .slice P2 m c2
  | 10 => ∃ W1 : World, (f 34 = .int .i64 (r : Int) ∧ f 38 = .int .i64 (r1 : Int) ∧ Dr wa Z W1 b V (o ++ [(⟨kd, k, A⟩ : Nn)] ++ duN r1 ⟨kd, k, ar⟩ B) ∧ Dk b W0 W1) ∧ On W1 w
  | 11 => f 8 = .int .i64 (r : Int)
  | 12 => f 9 = .int .i64 (r1 : Int)
  | 13 => ∃ W1 : World, (Dr wa Z W1 b V o ∧ Dk b W0 W1) ∧ On W1 w
  | 14 => Aw b w q 41 #[.int .i64 (kd : Int), .int .i64 (k : Int), Q] ∧ b < w.heap.size ∧ w.ownsRow wa.heap.size 3 1 (.slice P1 m c1) m (VI (ints A)) ∧ w.ownsRow wa.heap.size 3 1 (.slice P2 m c2) m (VI (ints B))
  | _ => True
def DPEx (i : Nat) : Nat := if i = 6 then 10 else if i = 13 then 6 else 100
def DPK (wa : World) (Z : Nat → Prop) (W0 : World) (b : Nat) (V : Nat) (o : List Nn) (r : Nat) (r1 : Nat) (kd : Nat) (k : Nat) (ar : List Nat) (Q : Value) (q : Nat) (P1 : Option Addr) (P2 : Option Addr) (m : Nat) (c1 : Nat) (c2 : Nat) (A : List Nat) (B : List Nat) (i : Nat) (w w' : World) : Prop := if i = 6 ∨ i = 10 then (Aw b w q 41 #[.int .i64 (kd : Int), .int .i64 (k : Int), Q] ∧ b < w.heap.size ∧ w.ownsRow wa.heap.size 3 1 (.slice P1 m c1) m (VI (ints A)) ∧ w.ownsRow wa.heap.size 3 1 (.slice P2 m c2) m (VI (ints B)) → Aw b w' q 41 #[.int .i64 (kd : Int), .int .i64 (k : Int), Q] ∧ b < w'.heap.size ∧ w'.ownsRow wa.heap.size 3 1 (.slice P1 m c1) m (VI (ints A)) ∧ w'.ownsRow wa.heap.size 3 1 (.slice P2 m c2) m (VI (ints B))) else On w w'
theorem DPK.on (wa : World) (Z : Nat → Prop) (W0 : World) (b : Nat) (V : Nat) (o : List Nn) (r : Nat) (r1 : Nat) (kd : Nat) (k : Nat) (ar : List Nat) (Q : Value) (q : Nat) (P1 : Option Addr) (P2 : Option Addr) (m : Nat) (c1 : Nat) (c2 : Nat) (A : List Nat) (B : List Nat) {i : Nat} {w w' : World} (h : ¬ (i = 6 ∨ i = 10)) (k9 : On w w') : DPK wa Z W0 b V o r r1 kd k ar Q q P1 P2 m c1 c2 A B i w w' := by unfold DPK; rw [if_neg h]; exact k9
theorem DPK.sp (wa : World) (Z : Nat → Prop) (W0 : World) (b : Nat) (V : Nat) (o : List Nn) (r : Nat) (r1 : Nat) (kd : Nat) (k : Nat) (ar : List Nat) (Q : Value) (q : Nat) (P1 : Option Addr) (P2 : Option Addr) (m : Nat) (c1 : Nat) (c2 : Nat) (A : List Nat) (B : List Nat) {i : Nat} {w w' : World} (h : i = 6 ∨ i = 10) (k9 : Aw b w q 41 #[.int .i64 (kd : Int), .int .i64 (k : Int), Q] ∧ b < w.heap.size ∧ w.ownsRow wa.heap.size 3 1 (.slice P1 m c1) m (VI (ints A)) ∧ w.ownsRow wa.heap.size 3 1 (.slice P2 m c2) m (VI (ints B)) → Aw b w' q 41 #[.int .i64 (kd : Int), .int .i64 (k : Int), Q] ∧ b < w'.heap.size ∧ w'.ownsRow wa.heap.size 3 1 (.slice P1 m c1) m (VI (ints A)) ∧ w'.ownsRow wa.heap.size 3 1 (.slice P2 m c2) m (VI (ints B))) : DPK wa Z W0 b V o r r1 kd k ar Q q P1 P2 m c1 c2 A B i w w' := by unfold DPK; rw [if_pos h]; exact k9
theorem DP.cases {j : Nat} (h : j < 15) : j = 0 ∨ j = 1 ∨ j = 2 ∨ j = 3 ∨ j = 4 ∨ j = 5 ∨ j = 6 ∨ j = 7 ∨ j = 8 ∨ j = 9 ∨ j = 10 ∨ j = 11 ∨ j = 12 ∨ j = 13 ∨ j = 14 := by omega
theorem DP.on (wa : World) (Z : Nat → Prop) (W0 : World) (b : Nat) (V : Nat) (o : List Nn) (r : Nat) (r1 : Nat) (kd : Nat) (k : Nat) (ar : List Nat) (Q : Value) (q : Nat) (P1 : Option Addr) (P2 : Option Addr) (m : Nat) (c1 : Nat) (c2 : Nat) (A : List Nat) (B : List Nat) {j : Nat} (hj : j < 15) {f : Tmp → Value} {w w' : World} (k9 : On w w') (h : DP wa Z W0 b V o r r1 kd k ar Q q P1 P2 m c1 c2 A B j f w) : DP wa Z W0 b V o r r1 kd k ar Q q P1 P2 m c1 c2 A B j f w' := by
  rcases DP.cases hj with rfl | rfl | rfl | rfl | rfl | rfl | rfl | rfl | rfl | rfl | rfl | rfl | rfl | rfl | rfl
  · exact h
  · exact h
  · exact h
  · exact h
  · exact h
  · exact h
  · obtain ⟨W1, h1, h2⟩ := (show ∃ W1 : World, (f 34 = .int .i64 (r : Int) ∧ Dr wa Z W1 b V (o ++ [(⟨kd, k, A⟩ : Nn)]) ∧ Dk b W0 W1) ∧ On W1 w from h)
    exact ⟨W1, h1, h2.trans k9⟩
  · exact h
  · exact h
  · exact h
  · obtain ⟨W1, h1, h2⟩ := (show ∃ W1 : World, (f 34 = .int .i64 (r : Int) ∧ f 38 = .int .i64 (r1 : Int) ∧ Dr wa Z W1 b V (o ++ [(⟨kd, k, A⟩ : Nn)] ++ duN r1 ⟨kd, k, ar⟩ B) ∧ Dk b W0 W1) ∧ On W1 w from h)
    exact ⟨W1, h1, h2.trans k9⟩
  · exact h
  · exact h
  · obtain ⟨W1, h1, h2⟩ := (show ∃ W1 : World, (Dr wa Z W1 b V o ∧ Dk b W0 W1) ∧ On W1 w from h)
    exact ⟨W1, h1, h2.trans k9⟩
  · have h := (show Aw b w q 41 #[.int .i64 (kd : Int), .int .i64 (k : Int), Q] ∧ b < w.heap.size ∧ w.ownsRow wa.heap.size 3 1 (.slice P1 m c1) m (VI (ints A)) ∧ w.ownsRow wa.heap.size 3 1 (.slice P2 m c2) m (VI (ints B)) from h)
    exact ⟨h.1.dk (Dk.of_on h.2.1 k9), Nat.lt_of_lt_of_le h.2.1 k9.size, owns_on h.2.2.1 k9, owns_on h.2.2.2 k9⟩
theorem DP.dep (wa : World) (Z : Nat → Prop) (W0 : World) (b : Nat) (V : Nat) (o : List Nn) (r : Nat) (r1 : Nat) (kd : Nat) (k : Nat) (ar : List Nat) (Q : Value) (q : Nat) (P1 : Option Addr) (P2 : Option Addr) (m : Nat) (c1 : Nat) (c2 : Nat) (A : List Nat) (B : List Nat) {j : Nat} (hj : j < 15) {f f' : Tmp → Value} {w : World} (hd : ∀ d, d ∈ (match j with | 0 => [28] | 1 => [29] | 2 => [30] | 3 => [31] | 4 => [32] | 5 => [33] | 6 => [34] | 7 => [35] | 8 => [36] | 9 => [37] | 10 => [34, 38] | 11 => [8] | 12 => [9] | 13 => [] | 14 => [] | _ => []) → f d = f' d) (h : DP wa Z W0 b V o r r1 kd k ar Q q P1 P2 m c1 c2 A B j f w) : DP wa Z W0 b V o r r1 kd k ar Q q P1 P2 m c1 c2 A B j f' w := by
  rcases DP.cases hj with rfl | rfl | rfl | rfl | rfl | rfl | rfl | rfl | rfl | rfl | rfl | rfl | rfl | rfl | rfl
  · have h' : f 28 = .pointer (some ⟨b, 0, none⟩) := h
    simp only [hd 28 (by simp)] at h'
    exact h'
  · have h' : f 29 = .pointer (some ⟨q, 0, none⟩) := h
    simp only [hd 29 (by simp)] at h'
    exact h'
  · have h' : f 30 = .int .i64 (kd : Int) := h
    simp only [hd 30 (by simp)] at h'
    exact h'
  · have h' : f 31 = .pointer (some ⟨q, 1, none⟩) := h
    simp only [hd 31 (by simp)] at h'
    exact h'
  · have h' : f 32 = .int .i64 (k : Int) := h
    simp only [hd 32 (by simp)] at h'
    exact h'
  · have h' : f 33 = .slice P1 m c1 := h
    simp only [hd 33 (by simp)] at h'
    exact h'
  · have h' : ∃ W1 : World, (f 34 = .int .i64 (r : Int) ∧ Dr wa Z W1 b V (o ++ [(⟨kd, k, A⟩ : Nn)]) ∧ Dk b W0 W1) ∧ On W1 w := h
    simp only [hd 34 (by simp)] at h'
    exact h'
  · have h' : f 35 = .pointer (some ⟨b, 0, none⟩) := h
    simp only [hd 35 (by simp)] at h'
    exact h'
  · have h' : f 36 = .agg #[.int .i64 (kd : Int), .int .i64 (k : Int), Q] := h
    simp only [hd 36 (by simp)] at h'
    exact h'
  · have h' : f 37 = .slice P2 m c2 := h
    simp only [hd 37 (by simp)] at h'
    exact h'
  · have h' : ∃ W1 : World, (f 34 = .int .i64 (r : Int) ∧ f 38 = .int .i64 (r1 : Int) ∧ Dr wa Z W1 b V (o ++ [(⟨kd, k, A⟩ : Nn)] ++ duN r1 ⟨kd, k, ar⟩ B) ∧ Dk b W0 W1) ∧ On W1 w := h
    simp only [hd 34 (by simp)] at h'
    simp only [hd 38 (by simp)] at h'
    exact h'
  · have h' : f 8 = .int .i64 (r : Int) := h
    simp only [hd 8 (by simp)] at h'
    exact h'
  · have h' : f 9 = .int .i64 (r1 : Int) := h
    simp only [hd 9 (by simp)] at h'
    exact h'
  · have h' : ∃ W1 : World, (Dr wa Z W1 b V o ∧ Dk b W0 W1) ∧ On W1 w := h
    exact h'
  · have h' : Aw b w q 41 #[.int .i64 (kd : Int), .int .i64 (k : Int), Q] ∧ b < w.heap.size ∧ w.ownsRow wa.heap.size 3 1 (.slice P1 m c1) m (VI (ints A)) ∧ w.ownsRow wa.heap.size 3 1 (.slice P2 m c2) m (VI (ints B)) := h
    exact h'
set_option maxHeartbeats 16000000 in
theorem dpush_any (wa : World) (Z : Nat → Prop) (w : World) (b V : Nat) (o : List Nn) (D : Dr wa Z w b V o) (hV : V ≤ 24) (hl : o.length ≤ 50000) (x : Nn) (hok : okN (V + o.length) ⟨x.kind, x.k, []⟩ ∨ True) (hkd' : x.kind ≤ 5) (hk0' : x.kind = 0 → x.k ≤ 1 ∧ x.args = []) (hk1' : x.kind ≠ 0 → 1 ≤ x.args.length) (hk4' : x.kind = 4 → 1 ≤ x.k ∧ x.k ≤ x.args.length) (hkz' : x.kind ≠ 0 → x.kind ≠ 4 → x.k = 0) (hm16' : x.args.length ≤ 16) (Q : Value) (P1 P2 : Option Addr) (m c1 c2 : Nat) (hm' : x.args.length = m) (A B : List Nat) (RA' : w.ownsRow wa.heap.size 3 1 (.slice P1 m c1) m (VI (ints A))) (RB' : w.ownsRow wa.heap.size 3 1 (.slice P2 m c2) m (VI (ints B))) (hAZ : ∀ g, (Value.slice P1 m c1).ownBlock = some g → ¬ Z g) (hBZ : ∀ g, (Value.slice P2 m c2).ownBlock = some g → ¬ Z g) :
    Calls Try.prog 23 #[.pointer (some ⟨b, 0, none⟩), .agg #[.int .i64 (x.kind : Int), .int .i64 (x.k : Int), Q], .slice P1 m c1, .slice P2 m c2] w fun e w' => e = .returned (.tuple #[.int .i64 ((puN V o x A B).2.1 : Int), .int .i64 ((puN V o x A B).2.2 : Int)]) ∧ Dr wa Z w' b V (puN V o x A B).1 ∧ Dk b w w' := by
  have hAl : A.length = m := by have := VI_len (rd_of_row RA'); rwa [ints_length] at this
  have hBm : B.length = m := by have := VI_len (rd_of_row RB'); rwa [ints_length] at this
  obtain ⟨kd, k, ar⟩ := x
  have hkd : kd ≤ 5 := hkd'
  have hk0 : kd = 0 → k ≤ 1 ∧ ar = [] := hk0'
  have hk1 : kd ≠ 0 → 1 ≤ ar.length := hk1'
  have hk4 : kd = 4 → 1 ≤ k ∧ k ≤ ar.length := hk4'
  have hkz : kd ≠ 0 → kd ≠ 4 → k = 0 := hkz'
  have hm16 : ar.length ≤ 16 := hm16'
  have hm : ar.length = m := hm'
  have hBl : B.length = ar.length := by omega
  clear hok hkd' hk0' hk1' hk4' hkz' hm16' hm'
  simp only
  obtain ⟨q, hq⟩ : ∃ q, w.heap.size = q := ⟨_, rfl⟩
  obtain ⟨w0, hw0⟩ : ∃ w0, w.alloc (.cells #[.int .i64 (kd : Int), .int .i64 (k : Int), Q] 41) = w0 := ⟨_, rfl⟩
  have P0 : On w w0 := by rw [← hw0]; exact (On.refl w).alloc _
  have D0 := D.to P0
  have A0 : Aw b w0 q 41 #[.int .i64 (kd : Int), .int .i64 (k : Int), Q] := by
    refine D.new_aw P0 ?_ (by omega)
    rw [← hw0, ← hq]; exact Own.new _ _ _
  have K0 := Dk.of_on D.lt P0
  have RA := owns_on RA' P0
  have RB := owns_on RB' P0
  have hcap1 := (rd_of_row RA).cap
  have hmax1 := (rd_of_row RA).max
  have hcap2 := (rd_of_row RB).cap
  have hmax2 := (rd_of_row RB).max
  obtain ⟨r, hr⟩ : ∃ r, V + o.length = r := ⟨_, rfl⟩
  obtain ⟨r1, hr1⟩ : ∃ r1, r + 1 = r1 := ⟨_, rfl⟩
  clear D RA' RB' P0
  obtain ⟨n0, n1, n2⟩ := own3 A0.1
  by_cases h1 : kd = 1
  · subst h1
    obtain rfl : k = 0 := hkz (by decide) (by decide)
    have hpn : puN V o ⟨1, 0, ar⟩ A B = (o ++ [⟨3, 0, B⟩] ++ [⟨3, 0, A⟩], r, r1) := by rw [← hr1, ← hr]; simp [puN, puY, puZ]
    rw [hpn]
    have hC := daddR wa Z w0 b V o D0 hV (by omega) r hr 3 0 3 0 rfl rfl B P2 m c2 RB hBZ
    have HD := Lib.hid (And.intro D0 (And.intro RA K0))
    clear A0 D0 RA RB K0
    simp only [show ((1 : Nat) : Int) = 1 from rfl, show ((0 : Nat) : Int) = 0 from rfl] at hw0 n0 ⊢
    go_enter Try.func23, Try.ntmps23
    go_wp2_with fail
    refine hC.mono ?_
    rintro e w2 ⟨rfl, D2, K2⟩
    clear hC
    have hl1 : (o ++ [(⟨3, 0, B⟩ : Nn)]).length = o.length + 1 := by rw [List.length_append]; rfl
    have hC := daddR wa Z w2 b V _ D2 hV (by omega) r1 (by omega) 3 0 3 0 rfl rfl A P1 m c1 (HD.out.1.ints K2 HD.out.2.1) hAZ
    clear D2
    go_wp2_with fail
    refine hC.mono ?_
    rintro e w3 ⟨rfl, D3, K3⟩
    clear hC
    go_wp2
    go_ret2
    exact ⟨rfl, D3, HD.out.2.2.trans (K2.trans K3)⟩
  by_cases h5 : kd = 5
  · subst h5
    obtain rfl : k = 0 := hkz (by decide) (by decide)
    have hpn : puN V o ⟨5, 0, ar⟩ A B = pxO V A B o (m - 1) := by rw [← hAl]; simp [puN]
    rw [hpn]
    have hC := dxor_any wa Z w0 b V o D0 hV hl P1 P2 m c1 c2 A B RA RB (by have := hk1 (by decide); omega) (by omega)
    obtain ⟨⟨o', p', n'⟩, hpx⟩ : ∃ z, pxO V A B o (m - 1) = z := ⟨_, rfl⟩
    rw [hpx] at hC ⊢
    simp only at hC ⊢
    have HD := Lib.hid K0
    clear A0 D0 RA RB K0
    simp only [show ((5 : Nat) : Int) = 5 from rfl, show ((0 : Nat) : Int) = 0 from rfl] at hw0 n0 ⊢
    go_enter Try.func23, Try.ntmps23
    go_wp2_with fail
    refine hC.mono ?_
    rintro e w2 ⟨rfl, D2, K2⟩
    clear hC
    go_wp2
    go_ret2
    exact ⟨rfl, D2, HD.out.trans K2⟩
  have hdl : (duN r1 ⟨kd, k, ar⟩ B).length = 1 := by
    unfold duN
    have : ¬ (kd = 5 ∧ B.length % 2 = 0) := fun h => h5 h.1
    simp only [if_neg this]
    repeat' split
    all_goals rfl
  have hpn : puN V o ⟨kd, k, ar⟩ A B = (o ++ [(⟨kd, k, A⟩ : Nn)] ++ duN r1 ⟨kd, k, ar⟩ B, r, r1) := by
    have hkc : kd = 0 ∨ kd = 2 ∨ kd = 3 ∨ kd = 4 := by omega
    rw [← hr1, ← hr]
    rcases hkc with rfl | rfl | rfl | rfl
    · have hA : A = [] := List.eq_nil_of_length_eq_zero (by rw [hAl, ← hm, (hk0 rfl).2]; rfl)
      simp [puN, puY, puZ, duN, hA]
    · simp [puN, puY, puZ, duN, hkz]
    · simp [puN, puY, puZ, duN, hkz]
    · simp [puN, puY, puZ, duN, hAl, hBm]
  rw [hpn]
  have h1i : ¬ (kd : Int) = 1 := by omega
  have h5i : ¬ (kd : Int) = 5 := by omega
  have HK := Lib.hid K0
  clear K0 hpn
  go_enter Try.func23, Try.ntmps23
  go_upto_region 6 with fail
  (try rw [hw0])
  refine wp_region_w (by kernel_rfl) 15 (DP wa Z w0 b V o r r1 kd k ar Q q P1 P2 m c1 c2 A B) DPEx (DPK wa Z w0 b V o r r1 kd k ar Q q P1 P2 m c1 c2 A B) [none, none, none, none, none, none, none, none, some 8, some 9, none, none, none, none, none, none, none, none, none, none, none, none, none, none, none, none, none, none, some 28, some 29, some 30, some 31, some 32, some 33, some 34, some 35, some 36, some 37, some 38] (by kernel_rfl) (by kernel_rfl) (by kernel_rfl) rfl ?rgDep ?rgKeep (by decide) ?rgInit ?rgOps9 ?rgDone9
  case rgDep =>
    intro j9 f1 f2 W hj hd h
    refine DP.dep wa Z w0 b V o r r1 kd k ar Q q P1 P2 m c1 c2 A B hj ?_ h
    rcases DP.cases hj with rfl | rfl | rfl | rfl | rfl | rfl | rfl | rfl | rfl | rfl | rfl | rfl | rfl | rfl | rfl <;> first | (intro d hm; simp at hm; done) | (intro d hm; simp at hm; (try rcases hm with rfl | rfl) <;> (try subst hm) <;> exact hd _ (by kernel_rfl))
  case rgKeep =>
    intro i9 j9 f1 W W' hi hj hij hex hw1 hw2 hk h
    unfold DPK at hk
    by_cases h6 : i9 = 6
    · subst h6
      rw [if_pos (by decide)] at hk
      rcases DP.cases hj with rfl | rfl | rfl | rfl | rfl | rfl | rfl | rfl | rfl | rfl | rfl | rfl | rfl | rfl | rfl
      · exact h
      · exact h
      · exact h
      · exact h
      · exact h
      · exact h
      · exact absurd rfl hij
      · exact h
      · exact h
      · exact h
      · exact absurd (hw1.symm.trans (show _ = true by kernel_rfl)) (by decide)
      · exact h
      · exact h
      · exact absurd rfl hex
      · exact hk h
    by_cases h10 : i9 = 10
    · subst h10
      rw [if_pos (by decide)] at hk
      rcases DP.cases hj with rfl | rfl | rfl | rfl | rfl | rfl | rfl | rfl | rfl | rfl | rfl | rfl | rfl | rfl | rfl
      · exact h
      · exact h
      · exact h
      · exact h
      · exact h
      · exact h
      · exact absurd rfl hex
      · exact h
      · exact h
      · exact h
      · exact absurd rfl hij
      · exact h
      · exact h
      · exact absurd (hw2.symm.trans (show _ = true by kernel_rfl)) (by decide)
      · exact hk h
    rw [if_neg (by omega)] at hk
    exact DP.on wa Z w0 b V o r r1 kd k ar Q q P1 P2 m c1 c2 A B hj hk h
  case rgInit =>
    intro j9 h1 h2
    have h1' : 13 ≤ j9 := h1
    have h2' : j9 < 15 := h2
    obtain rfl | rfl : j9 = 13 ∨ j9 = 14 := by omega
    · exact ⟨_, ⟨D0, Dk.refl b _⟩, (On.refl _).drew⟩
    · exact ⟨A0.dk (Dk.of_on D0.lt (On.refl _).drew), D0.lt, owns_on RA (On.refl _).drew, owns_on RB (On.refl _).drew⟩
  case rgOps9 =>
    refine ⟨?_, ?_, ?_, ?_, ?_, ?_, ?_, ?_, ?_, ?_, ?_, ?_, ?_, trivial⟩
    · refine fun a W hp => ob_yes rfl (does_value (w' := W) (v := a.eval (.tmp 0)) rfl (DPK.on wa Z w0 b V o r r1 kd k ar Q q P1 P2 m c1 c2 A B (by decide) (On.refl W)) ((val_eq (by rw [hp.tsize]; exact (show (28 : Nat) < 39 by decide))).trans (show a.eval (.tmp 0) = .pointer (some ⟨b, 0, none⟩) from hp.same 0 (by kernel_rfl))))
    · refine fun a W hp => ob_yes rfl (does_value (w' := W) (v := .pointer (some ⟨q, 0, none⟩)) (do_value ?_) (DPK.on wa Z w0 b V o r r1 kd k ar Q q P1 P2 m c1 c2 A B (by decide) (On.refl W)) (val_eq (by rw [hp.tsize]; exact (show (29 : Nat) < 39 by decide))))
      (try simp only [List.map_toArray, List.map_cons, List.map_nil])
      rw [show a.eval (.tmp 5) = .pointer (some ⟨q, 0, none⟩) from hp.same 5 (by kernel_rfl)]
      go_simp
    · refine fun a W hp => ob_yes rfl (does_value (w' := W) (v := .int .i64 (kd : Int)) (do_value ?_) (DPK.on wa Z w0 b V o r r1 kd k ar Q q P1 P2 m c1 c2 A B (by decide) (On.refl W)) (val_eq (by rw [hp.tsize]; exact (show (30 : Nat) < 39 by decide))))
      have hR : Aw b W q 41 #[.int .i64 (kd : Int), .int .i64 (k : Int), Q] ∧ b < W.heap.size ∧ W.ownsRow wa.heap.size 3 1 (.slice P1 m c1) m (VI (ints A)) ∧ W.ownsRow wa.heap.size 3 1 (.slice P2 m c2) m (VI (ints B)) := hp.fact 14 (by decide) (.inl (by decide)) (.inl (by decide))
      obtain ⟨n0, n1, n2⟩ := own3 hR.1.1
      clear hR
      (try simp only [List.map_toArray, List.map_cons, List.map_nil])
      rw [show a.eval (.tmp 29) = .pointer (some ⟨q, 0, none⟩) from hp.fact 1 (by decide) (.inr (by kernel_rfl)) (.inl (by decide))]
      go_simp
    · refine fun a W hp => ob_yes rfl (does_value (w' := W) (v := .pointer (some ⟨q, 1, none⟩)) (do_value ?_) (DPK.on wa Z w0 b V o r r1 kd k ar Q q P1 P2 m c1 c2 A B (by decide) (On.refl W)) (val_eq (by rw [hp.tsize]; exact (show (31 : Nat) < 39 by decide))))
      (try simp only [List.map_toArray, List.map_cons, List.map_nil])
      rw [show a.eval (.tmp 5) = .pointer (some ⟨q, 0, none⟩) from hp.same 5 (by kernel_rfl)]
      go_simp
    · refine fun a W hp => ob_yes rfl (does_value (w' := W) (v := .int .i64 (k : Int)) (do_value ?_) (DPK.on wa Z w0 b V o r r1 kd k ar Q q P1 P2 m c1 c2 A B (by decide) (On.refl W)) (val_eq (by rw [hp.tsize]; exact (show (32 : Nat) < 39 by decide))))
      have hR : Aw b W q 41 #[.int .i64 (kd : Int), .int .i64 (k : Int), Q] ∧ b < W.heap.size ∧ W.ownsRow wa.heap.size 3 1 (.slice P1 m c1) m (VI (ints A)) ∧ W.ownsRow wa.heap.size 3 1 (.slice P2 m c2) m (VI (ints B)) := hp.fact 14 (by decide) (.inl (by decide)) (.inl (by decide))
      obtain ⟨n0, n1, n2⟩ := own3 hR.1.1
      clear hR
      (try simp only [List.map_toArray, List.map_cons, List.map_nil])
      rw [show a.eval (.tmp 31) = .pointer (some ⟨q, 1, none⟩) from hp.fact 3 (by decide) (.inr (by kernel_rfl)) (.inl (by decide))]
      go_simp
    · refine fun a W hp => ob_yes rfl (does_value (w' := W) (v := a.eval (.tmp 2)) rfl (DPK.on wa Z w0 b V o r r1 kd k ar Q q P1 P2 m c1 c2 A B (by decide) (On.refl W)) ((val_eq (by rw [hp.tsize]; exact (show (33 : Nat) < 39 by decide))).trans (show a.eval (.tmp 2) = .slice P1 m c1 from hp.same 2 (by kernel_rfl))))
    · refine fun a W hp => ob_yes rfl ?_
      obtain ⟨W1, ⟨D1, K1⟩, k1⟩ : ∃ W1 : World, (Dr wa Z W1 b V o ∧ Dk b w0 W1) ∧ On W1 W := hp.fact 13 (by decide) (.inl (by decide)) (.inr (.inl rfl))
      have D := D1.to k1
      have K := K1.trans (Dk.of_on D1.lt k1)
      have hR : Aw b W q 41 #[.int .i64 (kd : Int), .int .i64 (k : Int), Q] ∧ b < W.heap.size ∧ W.ownsRow wa.heap.size 3 1 (.slice P1 m c1) m (VI (ints A)) ∧ W.ownsRow wa.heap.size 3 1 (.slice P2 m c2) m (VI (ints B)) := hp.fact 14 (by decide) (.inl (by decide)) (.inl (by decide))
      have e28 := (show a.eval (.tmp 28) = .pointer (some ⟨b, 0, none⟩) from hp.fact 0 (by decide) (.inr (by kernel_rfl)) (.inl (by decide)))
      have e30 := (show a.eval (.tmp 30) = .int .i64 (kd : Int) from hp.fact 2 (by decide) (.inr (by kernel_rfl)) (.inl (by decide)))
      have e32 := (show a.eval (.tmp 32) = .int .i64 (k : Int) from hp.fact 4 (by decide) (.inr (by kernel_rfl)) (.inl (by decide)))
      have e33 := (show a.eval (.tmp 33) = .slice P1 m c1 from hp.fact 5 (by decide) (.inr (by kernel_rfl)) (.inl (by decide)))
      simp only [Act.eval, Array.getD_eq_getD_getElem?] at e28 e30 e32 e33
      unfold Does
      go_simp
      (try rw [e28, e30, e32, e33])
      refine (daddR wa Z W b V o D hV (by omega) r hr kd k _ _ rfl rfl A P1 m c1 hR.2.2.1 hAZ).mono ?_
      rintro e w9 ⟨rfl, D9, K9⟩
      refine ⟨⟨_, rfl⟩, DPK.sp wa Z w0 b V o r r1 kd k ar Q q P1 P2 m c1 c2 A B (by decide) (fun h => ⟨h.1.dk K9, Nat.lt_of_lt_of_le h.2.1 K9.1, D.ints K9 h.2.2.1, D.ints K9 h.2.2.2⟩), ?_⟩
      exact ⟨w9, ⟨val_eq (by rw [hp.tsize]; exact (show (34 : Nat) < 39 by decide)), D9, K.trans K9⟩, On.refl _⟩
    · refine fun a W hp => ob_yes rfl (does_value (w' := W) (v := a.eval (.tmp 0)) rfl (DPK.on wa Z w0 b V o r r1 kd k ar Q q P1 P2 m c1 c2 A B (by decide) (On.refl W)) ((val_eq (by rw [hp.tsize]; exact (show (35 : Nat) < 39 by decide))).trans (show a.eval (.tmp 0) = .pointer (some ⟨b, 0, none⟩) from hp.same 0 (by kernel_rfl))))
    · refine fun a W hp => ob_yes rfl (does_value (w' := W) (v := .agg #[.int .i64 (kd : Int), .int .i64 (k : Int), Q]) (do_value ?_) (DPK.on wa Z w0 b V o r r1 kd k ar Q q P1 P2 m c1 c2 A B (by decide) (On.refl W)) (val_eq (by rw [hp.tsize]; exact (show (36 : Nat) < 39 by decide))))
      have hR : Aw b W q 41 #[.int .i64 (kd : Int), .int .i64 (k : Int), Q] ∧ b < W.heap.size ∧ W.ownsRow wa.heap.size 3 1 (.slice P1 m c1) m (VI (ints A)) ∧ W.ownsRow wa.heap.size 3 1 (.slice P2 m c2) m (VI (ints B)) := hp.fact 14 (by decide) (.inl (by decide)) (.inl (by decide))
      obtain ⟨n0, n1, n2⟩ := own3 hR.1.1
      clear hR
      (try simp only [List.map_toArray, List.map_cons, List.map_nil])
      rw [show a.eval (.tmp 5) = .pointer (some ⟨q, 0, none⟩) from hp.same 5 (by kernel_rfl)]
      go_simp
    · refine fun a W hp => ob_yes rfl (does_value (w' := W) (v := a.eval (.tmp 3)) rfl (DPK.on wa Z w0 b V o r r1 kd k ar Q q P1 P2 m c1 c2 A B (by decide) (On.refl W)) ((val_eq (by rw [hp.tsize]; exact (show (37 : Nat) < 39 by decide))).trans (show a.eval (.tmp 3) = .slice P2 m c2 from hp.same 3 (by kernel_rfl))))
    · refine fun a W hp => ob_yes rfl ?_
      obtain ⟨W1, ⟨g34, D1, K1⟩, k1⟩ : ∃ W1 : World, (slv a 34 = .int .i64 (r : Int) ∧ Dr wa Z W1 b V (o ++ [(⟨kd, k, A⟩ : Nn)]) ∧ Dk b w0 W1) ∧ On W1 W := hp.fact 6 (by decide) (.inr (by kernel_rfl)) (.inr (.inl rfl))
      have D := D1.to k1
      have K := K1.trans (Dk.of_on D1.lt k1)
      have hR : Aw b W q 41 #[.int .i64 (kd : Int), .int .i64 (k : Int), Q] ∧ b < W.heap.size ∧ W.ownsRow wa.heap.size 3 1 (.slice P1 m c1) m (VI (ints A)) ∧ W.ownsRow wa.heap.size 3 1 (.slice P2 m c2) m (VI (ints B)) := hp.fact 14 (by decide) (.inl (by decide)) (.inl (by decide))
      have hl3 : (o ++ [(⟨kd, k, A⟩ : Nn)]).length = o.length + 1 := by rw [List.length_append]; rfl
      have e35 := (show a.eval (.tmp 35) = .pointer (some ⟨b, 0, none⟩) from hp.fact 7 (by decide) (.inr (by kernel_rfl)) (.inl (by decide)))
      have e36 := (show a.eval (.tmp 36) = .agg #[.int .i64 (kd : Int), .int .i64 (k : Int), Q] from hp.fact 8 (by decide) (.inr (by kernel_rfl)) (.inl (by decide)))
      have e37 := (show a.eval (.tmp 37) = .slice P2 m c2 from hp.fact 9 (by decide) (.inr (by kernel_rfl)) (.inl (by decide)))
      simp only [Act.eval, Array.getD_eq_getD_getElem?] at e35 e36 e37
      unfold Does
      go_simp
      (try rw [e35, e36, e37])
      refine (ddual1 wa Z W b V _ D hV (by omega) r1 (by omega) ⟨kd, k, ar⟩ hkd hk0 hk4 hm16 Q B hBl P2 m c2 hR.2.2.2 hBZ hdl).mono ?_
      rintro e w9 ⟨rfl, D9, K9⟩
      refine ⟨⟨_, rfl⟩, DPK.sp wa Z w0 b V o r r1 kd k ar Q q P1 P2 m c1 c2 A B (by decide) (fun h => ⟨h.1.dk K9, Nat.lt_of_lt_of_le h.2.1 K9.1, D.ints K9 h.2.2.1, D.ints K9 h.2.2.2⟩), ?_⟩
      exact ⟨w9, ⟨(val_ne (a := a) (x := some 38) (d := 34) (v := .int .i64 (r1 : Int)) (by decide)).trans g34, val_eq (by rw [hp.tsize]; exact (show (38 : Nat) < 39 by decide)), D9, K.trans K9⟩, On.refl _⟩
    · refine fun a W hp => ?_
      obtain ⟨W1, ⟨g34, g38, D1, K1⟩, k1⟩ : ∃ W1 : World, (slv a 34 = .int .i64 (r : Int) ∧ slv a 38 = .int .i64 (r1 : Int) ∧ Dr wa Z W1 b V (o ++ [(⟨kd, k, A⟩ : Nn)] ++ duN r1 ⟨kd, k, ar⟩ B) ∧ Dk b w0 W1) ∧ On W1 W := hp.fact 10 (by decide) (.inr (by kernel_rfl)) (.inl (by decide))
      exact ob_yes rfl (does_value (w' := W) (v := slv a 34) rfl (DPK.on wa Z w0 b V o r r1 kd k ar Q q P1 P2 m c1 c2 A B (by decide) (On.refl W)) ((val_eq (by rw [hp.tsize]; exact (show (8 : Nat) < 39 by decide))).trans g34))
    · refine fun a W hp => ?_
      obtain ⟨W1, ⟨g34, g38, D1, K1⟩, k1⟩ : ∃ W1 : World, (slv a 34 = .int .i64 (r : Int) ∧ slv a 38 = .int .i64 (r1 : Int) ∧ Dr wa Z W1 b V (o ++ [(⟨kd, k, A⟩ : Nn)] ++ duN r1 ⟨kd, k, ar⟩ B) ∧ Dk b w0 W1) ∧ On W1 W := hp.fact 10 (by decide) (.inr (by kernel_rfl)) (.inl (by decide))
      exact ob_yes rfl (does_value (w' := W) (v := slv a 38) rfl (DPK.on wa Z w0 b V o r r1 kd k ar Q q P1 P2 m c1 c2 A B (by decide) (On.refl W)) ((val_eq (by rw [hp.tsize]; exact (show (9 : Nat) < 39 by decide))).trans g38))
  case rgDone9 =>
    intro fv w9 hf
    obtain ⟨W1, ⟨g34, g38, D1, K1⟩, k1⟩ : ∃ W1 : World, (fv 34 = .int .i64 (r : Int) ∧ fv 38 = .int .i64 (r1 : Int) ∧ Dr wa Z W1 b V (o ++ [(⟨kd, k, A⟩ : Nn)] ++ duN r1 ⟨kd, k, ar⟩ B) ∧ Dk b w0 W1) ∧ On W1 w9 := hf 10 (by decide) (by decide)
    have g8 : fv 8 = .int .i64 (r : Int) := hf 11 (by decide) (by decide)
    have g9 : fv 9 = .int .i64 (r1 : Int) := hf 12 (by decide) (by decide)
    have D9 := D1.to k1
    have K9 := K1.trans (Dk.of_on D1.lt k1)
    clear hf D1 K1 k1
    simp only [fillL, g8, g9]
    have HD9 := Lib.hid (And.intro D9 K9)
    clear D9 K9 g34 g38 g8 g9 D0 RA RB A0
    go_wp2
    go_ret2
    exact ⟨rfl, HD9.out.1, HK.out.trans HD9.out.2⟩
end Go.Proofs.Ytmkogcaafkobaaa.Fm
