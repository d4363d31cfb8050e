/-
  A region that draws its order: what holds of each slot and of each block when it has ended, whatever the order was. No statement of the program.
-/
import Derived.Test.YtkchpagjkgmpmaaGreatNatA
import Derived.OrdersHeld
import Derived.RegionTactic
namespace Go.Proofs.YtkchpagjkgmpmaaGreat
open Go.RowKit
set_option linter.unusedVariables false
namespace Num

/-- cells that hold no words, and are no list of fractions -/
def NoWords (t : TypeId) (cur : Array Value) : Prop := (t = 24 → cur.size ≤ 3) ∧ ∀ (k : Nat) (x : Int), cur[k]? ≠ some (.int .u32 x)
/-- of what was there, only blocks that hold no words have been written -/
def Kept (w w' : World) : Prop := w.heap.size ≤ w'.heap.size ∧ ∀ b, b < w.heap.size → w'.heap[b]? = w.heap[b]? ∨ ∃ cur t, w.heap[b]? = some (.cells cur t (0, 0)) ∧ NoWords t cur
theorem Kept.refl (w : World) : Kept w w := ⟨Nat.le_refl _, fun _ _ => .inl rfl⟩
theorem Kept.trans {a b c : World} (h : Kept a b) (k : Kept b c) : Kept a c := by
  refine ⟨Nat.le_trans h.1 k.1, fun x hx => ?_⟩
  rcases h.2 x hx with e | e
  · rcases k.2 x (Nat.lt_of_lt_of_le hx h.1) with e2 | ⟨cur, t, e2, hn⟩
    · exact .inl (e2.trans e)
    · exact .inr ⟨cur, t, e.symm.trans e2, hn⟩
  · exact .inr e
theorem Kept.on {w w' : World} (h : On w w') : Kept w w' := ⟨h.size, fun b hb => .inl (h.block b hb)⟩
theorem Kept.only {w w' : World} {g : Nat} {t : TypeId} {cur : Array Value} (h : Only g w w') (ho : Own w g t cur) (hn : NoWords t cur) : Kept w w' := by
  refine ⟨h.size, fun b hb => ?_⟩
  by_cases e : b = g
  · subst e; exact .inr ⟨cur, t, ho, hn⟩
  · exact .inl (h.block b hb (by simp; exact e))
theorem Rd.kept {w w' : World} {A : Option Addr} {n c : Nat} {xs : List Nat} (h : Rd w A n c xs) (k : Kept w w') : Rd w' A n c xs := by
  refine ⟨h.1, h.2.1, h.2.2.1, h.2.2.2.1, h.none_, fun hn => ?_⟩
  obtain ⟨ad, e, hl, hc⟩ := h.2.2.2.2.2 hn
  refine ⟨ad, e, Nat.lt_of_lt_of_le hl k.1, fun j hj => ?_⟩
  rcases k.2 ad.block hl with e2 | ⟨cur, t, e2, hnw⟩
  · exact (World.cell?_of_block (by rw [block_of_add]; exact e2)).trans (hc j hj)
  · exfalso
    have h0 := hc 0 hn
    rw [add_nil] at h0
    unfold World.cell? at h0
    rw [e2] at h0
    simp only at h0
    split at h0
    · cases h0
    · exact hnw.2 _ _ h0
theorem Nm.kept {w w' : World} {A : Option Addr} {n c v L : Nat} (h : Nm w A n c v L) (k : Kept w w') : Nm w' A n c v L := by
  obtain ⟨xs, h1, h2⟩ := h
  exact ⟨xs, h1.kept k, h2⟩

section
variable {P : Program} {ops : Array Oper} {Q : Exit → Act → World → Prop}

def dstOf (ops : Array Oper) (i : Nat) : Option Tmp := (ops[i]?).bind (·.dst)
/-- operation i waits for operation j -/
def waits (ops : Array Oper) : Nat → Nat → Nat → Bool
  | 0, _, _ => false
  | f + 1, i, j => match ops[i]? with
    | none => false
    | some o => o.after.toList.any fun e => Region.binds .any e && (e.on == j || waits ops f e.on j)
/-- no operation writes slot d -/
def freeB (ops : Array Oper) (d : Tmp) : Bool := (List.range ops.size).all fun i => dstOf ops i != some d
/-- a block that the region makes or writes, or that it reads: the operation that makes it (none of the region's: it stood before), the slot of its address, its type, what it holds, the operation that writes it (none: it is only read) -/
structure Tg where
  by_ : Nat
  slot : Nat
  t : TypeId
  st : Nat
  init : Array Value
def regCheck (ops : Array Oper) (n : Nat) (ts : List Tg) : Bool :=
  ((List.range ops.size).all fun i => match dstOf ops i with
    | none => true
    | some d => decide (d < n) && (List.range ops.size).all fun j => i == j || dstOf ops j != some d) &&
  (ts.all fun tg => ((List.range ops.size).all fun i => dstOf ops i != some tg.slot || i == tg.by_) && decide (tg.slot < n) &&
    (decide (ops.size ≤ tg.by_) || (dstOf ops tg.by_ == some tg.slot && (decide (ops.size ≤ tg.st) || waits ops 3 tg.st tg.by_))) &&
    (decide (ops.size ≤ tg.st) || (dstOf ops tg.st == none))) &&
  ((List.range ts.length).all fun k => (List.range ts.length).all fun l => k == l || match ts[k]?, ts[l]? with
    | some a, some b => a.slot != b.slot && (a.st != b.st || decide (ops.size ≤ a.st))
    | _, _ => true)

theorem dstOf_some {i : Nat} {o : Oper} (h : ops[i]? = some o) : dstOf ops i = o.dst := by unfold dstOf; rw [h]; rfl
theorem dstOf_lt {i : Nat} {d : Tmp} (h : dstOf ops i = some d) : i < ops.size := by
  rcases Nat.lt_or_ge i ops.size with h1 | h1
  · exact h1
  · unfold dstOf at h; rw [Array.getElem?_eq_none h1] at h; cases h

structure RegOk (ops : Array Oper) (n : Nat) (ts : List Tg) : Prop where
  lt : ∀ i d, dstOf ops i = some d → d < n
  inj : ∀ i j d, dstOf ops i = some d → dstOf ops j = some d → i = j
  slot : ∀ tg ∈ ts, ∀ i, dstOf ops i = some tg.slot → i = tg.by_
  slotlt : ∀ tg ∈ ts, tg.slot < n
  made : ∀ tg ∈ ts, tg.by_ < ops.size → dstOf ops tg.by_ = some tg.slot
  stmk : ∀ tg ∈ ts, tg.by_ < ops.size → tg.st < ops.size → waits ops 3 tg.st tg.by_ = true
  st : ∀ tg ∈ ts, tg.st < ops.size → dstOf ops tg.st = none
  slots : ∀ (k l : Nat) (a b : Tg), ts[k]? = some a → ts[l]? = some b → k ≠ l → a.slot ≠ b.slot
  sts : ∀ (k l : Nat) (a b : Tg), ts[k]? = some a → ts[l]? = some b → k ≠ l → a.st < ops.size → a.st ≠ b.st

theorem regCheck_spec {n : Nat} {ts : List Tg} (h : regCheck ops n ts = true) : RegOk ops n ts := by
  unfold regCheck at h
  simp only [Bool.and_eq_true] at h
  obtain ⟨⟨h1, h2⟩, h3⟩ := h
  rw [List.all_eq_true] at h1 h2 h3
  have hd : ∀ i d, dstOf ops i = some d → d < n ∧ ∀ j, j < ops.size → i = j ∨ dstOf ops j ≠ some d := by
    intro i d hi
    have := h1 i (List.mem_range.2 (dstOf_lt hi))
    rw [hi] at this
    simp only [Bool.and_eq_true, decide_eq_true_iff, List.all_eq_true, List.mem_range, Bool.or_eq_true, beq_iff_eq, bne_iff_ne] at this
    exact this
  have ht : ∀ tg ∈ ts, ((∀ i, i < ops.size → dstOf ops i ≠ some tg.slot ∨ i = tg.by_) ∧ tg.slot < n) ∧ (ops.size ≤ tg.by_ ∨ (dstOf ops tg.by_ = some tg.slot ∧ (ops.size ≤ tg.st ∨ waits ops 3 tg.st tg.by_ = true))) ∧ (ops.size ≤ tg.st ∨ dstOf ops tg.st = none) := by
    intro tg htg
    have := h2 tg htg
    simp only [Bool.and_eq_true, decide_eq_true_iff, List.all_eq_true, List.mem_range, Bool.or_eq_true, beq_iff_eq, bne_iff_ne] at this
    exact ⟨this.1.1, this.1.2, this.2⟩
  have hk : ∀ (k l : Nat) (a b : Tg), ts[k]? = some a → ts[l]? = some b → k ≠ l → a.slot ≠ b.slot ∧ (a.st ≠ b.st ∨ ops.size ≤ a.st) := by
    intro k l a b ha hb hkl
    have lk : k < ts.length := (List.getElem?_eq_some_iff.1 ha).1
    have ll : l < ts.length := (List.getElem?_eq_some_iff.1 hb).1
    have := h3 k (List.mem_range.2 lk)
    rw [List.all_eq_true] at this
    have := this l (List.mem_range.2 ll)
    rw [ha, hb] at this
    simp only [Bool.and_eq_true, decide_eq_true_iff, Bool.or_eq_true, beq_iff_eq, bne_iff_ne] at this
    rcases this with e | e
    · exact absurd e hkl
    · exact e
  refine ⟨fun i d hi => (hd i d hi).1, fun i j d hi hj => ?_, fun tg h i hi => ?_, fun tg h => (ht tg h).1.2, fun tg h hm => ?_, fun tg h hm hs => ?_, fun tg h hs => ?_, fun k l a b ha hb hkl => (hk k l a b ha hb hkl).1, fun k l a b ha hb hkl hs => ?_⟩
  · rcases (hd i d hi).2 j (dstOf_lt hj) with e | e
    · exact e
    · exact absurd hj e
  · rcases (ht tg h).1.1 i (dstOf_lt hi) with e | e
    · exact absurd hi e
    · exact e
  · rcases (ht tg h).2.1 with e | e
    · omega
    · exact e.1
  · rcases (ht tg h).2.1 with e | e
    · omega
    · rcases e.2 with e | e
      · omega
      · exact e
  · rcases (ht tg h).2.2 with e | e
    · omega
    · exact e
  · rcases (hk k l a b ha hb hkl).2 with e | e
    · exact e
    · omega

def BlkOK (W0 : World) (G : Nat → Array Value → World → Prop) (L : Array Bool) (a : Act) (w : World) (k : Nat) (tg : Tg) : Prop :=
  ∃ g cur, a.tmps.getD tg.slot undef = .pointer (some ⟨g, 0, none⟩) ∧ W0.heap.size ≤ g ∧ Own w g tg.t cur ∧ NoWords tg.t cur ∧ (L.getD tg.st false = false → cur = tg.init) ∧ (L.getD tg.st false = true → G k cur w)

structure RegInv (ops : Array Oper) (W0 Wi : World) (a0 : Act) (F : Nat → Value → World → Prop) (ts : List Tg) (G : Nat → Array Value → World → Prop) (L : Array Bool) (a : Act) (w : World) : Prop where
  on : On W0 w
  kept : Kept Wi w
  size : L.size = ops.size
  tsize : a.tmps.size = a0.tmps.size
  defers : a.defers = a0.defers
  closed : ∀ i o, ops[i]? = some o → L.getD i false = true → ∀ e ∈ o.after, Region.binds .any e = true → L.getD e.on false = true
  same : ∀ d, freeB ops d = true → a.tmps.getD d undef = a0.tmps.getD d undef
  fact : ∀ i d, dstOf ops i = some d → L.getD i false = true → F i (a.tmps.getD d undef) w
  blk : ∀ (k : Nat) (tg : Tg), ts[k]? = some tg → L.getD tg.by_ true = true → BlkOK W0 G L a w k tg
  apart : ∀ (k l : Nat) (a1 b1 : Tg), ts[k]? = some a1 → ts[l]? = some b1 → k ≠ l → a1.st < ops.size → L.getD a1.by_ true = true → L.getD b1.by_ true = true → a.tmps.getD a1.slot undef ≠ a.tmps.getD b1.slot undef

/-- what is known when operation i is carried out -/
structure Pre (ops : Array Oper) (W0 Wi : World) (a0 : Act) (F : Nat → Value → World → Prop) (ts : List Tg) (i : Nat) (a : Act) (w : World) : Prop where
  on : On W0 w
  kept : Kept Wi w
  same : ∀ d, freeB ops d = true → a.tmps.getD d undef = a0.tmps.getD d undef
  fact : ∀ j d, waits ops 3 i j = true → dstOf ops j = some d → F j (a.tmps.getD d undef) w
  blk : ∀ (k : Nat) (tg : Tg), ts[k]? = some tg → (ops.size ≤ tg.by_ ∨ waits ops 3 i tg.by_ = true) → (ops.size ≤ tg.st ∨ waits ops 4 tg.st i = true ∨ tg.st = i) → ∃ g, a.tmps.getD tg.slot undef = .pointer (some ⟨g, 0, none⟩) ∧ W0.heap.size ≤ g ∧ Own w g tg.t tg.init

theorem put_getD_ne {a : Act} {x : Option Tmp} {v : Value} {d : Tmp} (h : x ≠ some d) : (a.put x v).tmps.getD d undef = a.tmps.getD d undef := by
  cases x with
  | none => rfl
  | some y =>
    have : y ≠ d := fun e => h (by rw [e])
    simp [Act.put, Array.getElem?_setIfInBounds_ne this]
theorem put_getD_eq {a : Act} {v : Value} {d : Tmp} (h : d < a.tmps.size) : (a.put (some d) v).tmps.getD d undef = v := by
  simp [Act.put, h]
theorem put_size {a : Act} {x : Option Tmp} {v : Value} : (a.put x v).tmps.size = a.tmps.size := by cases x <;> simp [Act.put]
theorem put_defers {a : Act} {x : Option Tmp} {v : Value} : (a.put x v).defers = a.defers := by cases x <;> rfl
theorem free_ne {d : Tmp} (h : freeB ops d = true) (i : Nat) : dstOf ops i ≠ some d := by
  intro e
  unfold freeB at h
  rw [List.all_eq_true] at h
  have := h i (List.mem_range.2 (dstOf_lt e))
  rw [e] at this
  simp at this
theorem getD_false_true {L : Array Bool} {i : Nat} (h : L.getD i true = false) : i < L.size := by
  rcases Nat.lt_or_ge i L.size with h1 | h1
  · exact h1
  · simp [Array.getElem?_eq_none h1] at h
theorem getD_either {L : Array Bool} {i : Nat} (h : i < L.size) : L.getD i true = L.getD i false := by simp [h]
theorem getD_set_self {L : Array Bool} {i : Nat} (h : i < L.size) (b : Bool) : (L.setIfInBounds i true).getD i b = true := by simp [h]

theorem waits_listed {L : Array Bool} (hcl : ∀ i o, ops[i]? = some o → L.getD i false = true → ∀ e ∈ o.after, Region.binds .any e = true → L.getD e.on false = true) :
    ∀ (f i j : Nat) (o : Oper), ops[i]? = some o → (∀ e ∈ o.after, Region.binds .any e = true → L.getD e.on false = true) → waits ops f i j = true → L.getD j false = true := by
  intro f
  induction f with
  | zero => intro i j o _ _ h; cases h
  | succ f ih =>
    intro i j o ho hall h
    unfold waits at h
    rw [ho] at h
    simp only [List.any_eq_true, Bool.and_eq_true, Bool.or_eq_true, beq_iff_eq, Array.mem_toList_iff] at h
    obtain ⟨e, he, hb, h1⟩ := h
    have hl := hall e he hb
    rcases h1 with rfl | h1
    · exact hl
    · cases hoe : ops[e.on]? with
      | none => cases f with
        | zero => cases h1
        | succ f => unfold waits at h1; rw [hoe] at h1; cases h1
      | some oe => exact ih e.on j oe hoe (hcl e.on oe hoe hl) h1

variable {W0 Wi : World} {a0 : Act} {F : Nat → Value → World → Prop} {ts : List Tg} {G : Nat → Array Value → World → Prop}

theorem RegInv.pre {L : Array Bool} {a : Act} {w : World} (H : RegInv ops W0 Wi a0 F ts G L a w) {i : Nat} {o : Oper} (ho : ops[i]? = some o) (hu : L.getD i true = false) (hall : ∀ e ∈ o.after, Region.binds .any e = true → L.getD e.on false = true) : Pre ops W0 Wi a0 F ts i a w := by
  refine ⟨H.on, H.kept, H.same, fun j d hw hd => H.fact j d hd (waits_listed H.closed 3 i j o ho hall hw), fun k tg htg hm hs => ?_⟩
  have hlive : L.getD tg.by_ true = true := by
    rcases hm with h | h
    · simp [Array.getElem?_eq_none (show L.size ≤ tg.by_ by rw [H.size]; exact h)]
    · have := waits_listed H.closed 3 i tg.by_ o ho hall h
      have hlt : tg.by_ < L.size := by
        rcases Nat.lt_or_ge tg.by_ L.size with h1 | h1
        · exact h1
        · simp [Array.getElem?_eq_none h1] at this
      rw [getD_either hlt]; exact this
  obtain ⟨g, cur, h1, h2, h3, h4, h5, h6⟩ := H.blk k tg htg hlive
  have hst : L.getD tg.st false = false := by
    rcases hs with h | h | h
    · simp [Array.getElem?_eq_none (show L.size ≤ tg.st by rw [H.size]; exact h)]
    · cases hb : L.getD tg.st false with
      | false => rfl
      | true =>
        exfalso
        cases hos : ops[tg.st]? with
        | none => unfold waits at h; rw [hos] at h; cases h
        | some os =>
          have := waits_listed H.closed 4 tg.st i os hos (H.closed tg.st os hos hb) h
          rw [← getD_either (getD_false_true hu)] at this
          rw [hu] at this; cases this
    · rw [h, ← getD_either (getD_false_true hu)]; exact hu
  exact ⟨g, h1, h2, by rw [← h5 hst]; exact h3⟩

theorem RegInv.next (hc : RegOk ops a0.tmps.size ts) (hF : ∀ i v w w', Kept w w' → F i v w → F i v w') {L : Array Bool} {a : Act} {w w' : World} (H : RegInv ops W0 Wi a0 F ts G L a w) {i : Nat} {o : Oper} (ho : ops[i]? = some o) (hu : L.getD i true = false) (hall : ∀ e ∈ o.after, Region.binds .any e = true → L.getD e.on false = true)
    {v : Value} (hk : Kept w w') (hon : On W0 w') (hv : o.dst ≠ none → F i v w') (hblk : ∀ (k : Nat) (tg : Tg), ts[k]? = some tg → (L.setIfInBounds i true).getD tg.by_ true = true → BlkOK W0 G (L.setIfInBounds i true) (a.put o.dst v) w' k tg)
    (hap : ∀ (k l : Nat) (a1 b1 : Tg), ts[k]? = some a1 → ts[l]? = some b1 → k ≠ l → a1.st < ops.size → (L.setIfInBounds i true).getD a1.by_ true = true → (L.setIfInBounds i true).getD b1.by_ true = true → (a.put o.dst v).tmps.getD a1.slot undef ≠ (a.put o.dst v).tmps.getD b1.slot undef) :
    RegInv ops W0 Wi a0 F ts G (L.setIfInBounds i true) (a.put o.dst v) w' := by
  have hdo := dstOf_some ho
  have hlt := getD_false_true hu
  refine ⟨hon, H.kept.trans hk, by simp [H.size], by rw [put_size]; exact H.tsize, by rw [put_defers]; exact H.defers, ?_, ?_, ?_, hblk, hap⟩
  · intro j oj hj hl e he hb
    apply getD_set_true
    by_cases hij : i = j
    · subst hij
      rw [ho] at hj; cases hj
      exact hall e he hb
    · rw [getD_set_ne false hij] at hl
      exact H.closed j oj hj hl e he hb
  · intro d hd
    rw [put_getD_ne (by rw [← hdo]; exact free_ne hd i)]
    exact H.same d hd
  · intro j d hj hl
    by_cases hij : i = j
    · subst hij
      rw [hdo] at hj
      rw [hj, put_getD_eq (by rw [H.tsize]; exact hc.lt i d (by rw [hdo]; exact hj))]
      exact hv (by rw [hj]; simp)
    · rw [getD_set_ne false hij] at hl
      rw [put_getD_ne (fun e => hij (hc.inj i j d (by rw [hdo]; exact e) hj))]
      exact hF _ _ _ _ hk (H.fact j d hj hl)

theorem BlkOK.next (hc : RegOk ops a0.tmps.size ts) (hG : ∀ k cur w w', Kept w w' → G k cur w → G k cur w') {L : Array Bool} {a : Act} {w w' : World} (H : RegInv ops W0 Wi a0 F ts G L a w) {i : Nat} {o : Oper} (ho : ops[i]? = some o) (hu : L.getD i true = false) {v : Value} (hk : Kept w w') {k : Nat} {tg : Tg} (ht : ts[k]? = some tg) (hm : tg.by_ ≠ i) (hs : tg.st ≠ i)
    (hown : ∀ g cur, Own w g tg.t cur → a.tmps.getD tg.slot undef = .pointer (some ⟨g, 0, none⟩) → Own w' g tg.t cur) (hl : (L.setIfInBounds i true).getD tg.by_ true = true) : BlkOK W0 G (L.setIfInBounds i true) (a.put o.dst v) w' k tg := by
  rw [getD_set_ne true (Ne.symm hm)] at hl
  obtain ⟨g, cur, h1, h2, h3, h4, h5, h6⟩ := H.blk k tg ht hl
  refine ⟨g, cur, ?_, h2, hown g cur h3 h1, h4, fun e => h5 ?_, fun e => hG _ _ _ _ hk (h6 ?_)⟩
  · rw [put_getD_ne (fun e => hm (hc.slot tg (List.mem_of_getElem? ht) i (by rw [dstOf_some ho]; exact e)).symm)]; exact h1
  · rwa [getD_set_ne false (Ne.symm hs)] at e
  · rwa [getD_set_ne false (Ne.symm hs)] at e

theorem apart_next (hc : RegOk ops a0.tmps.size ts) {L : Array Bool} {a : Act} {w : World} (H : RegInv ops W0 Wi a0 F ts G L a w) {i : Nat} {o : Oper} (ho : ops[i]? = some o) {v : Value} {k l : Nat} {a1 b1 : Tg} (hk : ts[k]? = some a1) (hl : ts[l]? = some b1) (hkl : k ≠ l) (hst : a1.st < ops.size) (h1 : a1.by_ ≠ i) (h2 : b1.by_ ≠ i) (l1 : (L.setIfInBounds i true).getD a1.by_ true = true) (l2 : (L.setIfInBounds i true).getD b1.by_ true = true) :
    (a.put o.dst v).tmps.getD a1.slot undef ≠ (a.put o.dst v).tmps.getD b1.slot undef := by
  rw [getD_set_ne true (Ne.symm h1)] at l1
  rw [getD_set_ne true (Ne.symm h2)] at l2
  rw [put_getD_ne (fun e => h1 (hc.slot a1 (List.mem_of_getElem? hk) i (by rw [dstOf_some ho]; exact e)).symm), put_getD_ne (fun e => h2 (hc.slot b1 (List.mem_of_getElem? hl) i (by rw [dstOf_some ho]; exact e)).symm)]
  exact H.apart k l a1 b1 hk hl hkl hst l1 l2

/-- one operation that is carried out says this -/
def Does (P : Program) (Q : Exit → Act → World → Prop) (F : Nat → Value → World → Prop) (i : Nat) (o : Oper) (a : Act) (w : World) : Prop :=
  Oper.wp P o a w (fun a' w' => ∃ v, a' = a.put o.dst v ∧ On w w' ∧ F i v w') Q

theorem countP_set_lt {L : Array Bool} {i : Nat} (hu : L.getD i true = false) : (L.setIfInBounds i true).toList.countP (fun b => !b) < L.toList.countP (fun b => !b) := by
  have hlt := getD_false_true hu
  have hlt' : i < L.toList.length := by simpa using hlt
  have hv : L.toList[i] = false := by simpa [hlt] using hu
  have h1 : 0 < L.toList.countP (fun b => !b) := List.countP_pos_iff.2 ⟨_, List.getElem_mem hlt', by rw [hv]; rfl⟩
  rw [Array.toList_setIfInBounds, List.countP_set hlt', hv]
  generalize L.toList.countP (fun b => !b) = q at h1 ⊢
  show q - 1 + 0 < q
  omega
/-- the first that has not come up may come up: the edges lead back to what stands before -/
def edgesBack (ops : Array Oper) : Bool := (List.range ops.size).all fun i => match ops[i]? with
  | none => true
  | some o => o.after.toList.all fun e => !Region.binds .any e || decide (e.on < i)
theorem ready_of_unlisted {L : Array Bool} (hs : L.size = ops.size) (he : edgesBack ops = true) : ∀ i, L.getD i true = false → Region.ready .any ops L ≠ [] := by
  intro i
  induction i using Nat.strongRecOn with
  | ind i ih =>
    intro hu
    have hlt := getD_false_true hu
    obtain ⟨o, ho⟩ : ∃ o, ops[i]? = some o := ⟨_, Array.getElem?_eq_getElem (by rw [← hs]; exact hlt)⟩
    by_cases hall : ∀ e ∈ o.after, Region.binds .any e = true → L.getD e.on false = true
    · intro e
      have : i ∈ Region.ready .any ops L := mem_ready.2 ⟨hu, o, ho, hall⟩
      rw [e] at this; cases this
    · simp only [Classical.not_forall] at hall
      obtain ⟨e, hm, hb, hn⟩ := hall
      have hb2 : e.on < i := by
        unfold edgesBack at he
        rw [List.all_eq_true] at he
        have := he i (List.mem_range.2 (by rw [← hs]; exact hlt))
        rw [ho] at this
        simp only [List.all_eq_true, decide_eq_true_iff, Array.mem_toList_iff, Bool.or_eq_true, Bool.not_eq_true'] at this
        rcases this e hm with h | h
        · rw [hb] at h; cases h
        · exact h
      refine ih e.on hb2 ?_
      rw [getD_either (by omega)]
      cases h : L.getD e.on false with
      | false => rfl
      | true => exact absurd h hn

theorem wp_region_law {id : Nat} {Wi : World} (hm : P.follows .mixedOrders = true) (W0 : World) (F : Nat → Value → World → Prop) (ts : List Tg) (G : Nat → Array Value → World → Prop)
    (hck : regCheck ops a0.tmps.size ts = true) (hed : edgesBack ops = true) (hF : ∀ i v w w', Kept w w' → F i v w → F i v w') (hG : ∀ k cur w w', Kept w w' → G k cur w → G k cur w')
    (hon : On W0 Wi) (hb0 : ∀ (k : Nat) (tg : Tg), ts[k]? = some tg → ops.size ≤ tg.by_ → ∃ g, a0.tmps.getD tg.slot undef = .pointer (some ⟨g, 0, none⟩) ∧ W0.heap.size ≤ g ∧ Own Wi g tg.t tg.init ∧ NoWords tg.t tg.init)
    (hap0 : ∀ (k l : Nat) (a1 b1 : Tg), ts[k]? = some a1 → ts[l]? = some b1 → k ≠ l → a1.st < ops.size → ops.size ≤ a1.by_ → ops.size ≤ b1.by_ → a0.tmps.getD a1.slot undef ≠ a0.tmps.getD b1.slot undef)
    (hplain : ∀ i o, ops[i]? = some o → (∀ (k : Nat) (tg : Tg), ts[k]? = some tg → tg.by_ ≠ i ∧ tg.st ≠ i) → ∀ a w', Pre ops W0 Wi a0 F ts i a w' → if Region.wanted o (yielded ops a.tmps) = true then Does P Q F i o a w' else F i undef w')
    (halloc : ∀ (k : Nat) (tg : Tg), ts[k]? = some tg → ∀ o, ops[tg.by_]? = some o → NoWords tg.t tg.init ∧ (∀ v w, F tg.by_ v w) ∧ ∀ (a : Act) (w : World), Region.wanted o (yielded ops a.tmps) = true ∧ (execOp a.eval o).run P w = .ok (.value (.pointer (some ⟨w.heap.size, 0, none⟩))) (w.alloc (.cells tg.init tg.t)))
    (hstore : ∀ (k : Nat) (tg : Tg), ts[k]? = some tg → ∀ o, ops[tg.st]? = some o → ∀ a w1 g, Pre ops W0 Wi a0 F ts tg.st a w1 → a.tmps.getD tg.slot undef = .pointer (some ⟨g, 0, none⟩) → Own w1 g tg.t tg.init → Region.wanted o (yielded ops a.tmps) = true ∧ ∃ w' cur, (execOp a.eval o).run P w1 = .ok .skip w' ∧ Only g w1 w' ∧ Own w' g tg.t cur ∧ NoWords tg.t cur ∧ G k cur w')
    (hdone : ∀ a w1, On W0 w1 → Kept Wi w1 → a.tmps.size = a0.tmps.size → a.defers = a0.defers → (∀ d, freeB ops d = true → a.tmps.getD d undef = a0.tmps.getD d undef) → (∀ i d, dstOf ops i = some d → F i (a.tmps.getD d undef) w1) →
      (∀ (k : Nat) (tg : Tg), ts[k]? = some tg → ∃ g cur, a.tmps.getD tg.slot undef = .pointer (some ⟨g, 0, none⟩) ∧ W0.heap.size ≤ g ∧ Own w1 g tg.t cur ∧ (ops.size ≤ tg.st → cur = tg.init) ∧ (tg.st < ops.size → G k cur w1)) →
      (∀ (k l : Nat) (a1 b1 : Tg), ts[k]? = some a1 → ts[l]? = some b1 → k ≠ l → a1.st < ops.size → a.tmps.getD a1.slot undef ≠ a.tmps.getD b1.slot undef) → Q .normal a w1) :
    (Code.region id ops true).wp P Q a0 Wi := by
  have hc := regCheck_spec hck
  apply wp_region_any hm
  have key : ∀ (fuel : Nat) (L : Array Bool) (a : Act) (w1 : World), RegInv ops W0 Wi a0 F ts G L a w1 → L.toList.countP (fun b => !b) ≤ fuel → wpAny P .any ops Q fuel L a w1 := by
    have hend : ∀ (L : Array Bool) (a : Act) (w : World), RegInv ops W0 Wi a0 F ts G L a w → (∀ i, i < ops.size → L.getD i false = true) → Q .normal a w := by
      intro L a w H hall
      have hlive : ∀ n, L.getD n true = true := by
        intro n
        rcases Nat.lt_or_ge n L.size with h1 | h1
        · rw [getD_either h1]; exact hall n (by rw [← H.size]; exact h1)
        · simp [Array.getElem?_eq_none h1]
      refine hdone a w H.on H.kept H.tsize H.defers H.same (fun i d hd => H.fact i d hd (hall i (dstOf_lt hd))) (fun k tg ht => ?_) (fun k l a1 b1 hk hl hkl hs => H.apart k l a1 b1 hk hl hkl hs (hlive _) (hlive _))
      obtain ⟨g, cur, h1, h2, h3, h4, h5, h6⟩ := H.blk k tg ht (hlive _)
      refine ⟨g, cur, h1, h2, h3, fun e => h5 ?_, fun e => h6 (hall _ e)⟩
      simp [Array.getElem?_eq_none (show L.size ≤ tg.st by rw [H.size]; exact e)]
    -- nothing is ready only when all have come up: the least that has not come up is shown by counting
    intro fuel
    induction fuel with
    | zero =>
      intro L a w H hf
      have hz : L.toList.countP (fun b => !b) = 0 := by omega
      rw [List.countP_eq_zero] at hz
      have hall : ∀ i, i < ops.size → L.getD i false = true := by
        intro i hi
        have hi' : i < L.size := by rw [H.size]; exact hi
        have := hz L[i] (by simp)
        simp at this
        simp [hi', this]
      refine ⟨?_, hend L a w H hall⟩
      apply List.eq_nil_iff_forall_not_mem.2
      intro j hj
      have := (mem_ready.1 hj).1
      have hj' := getD_false_true this
      rw [getD_either hj', hall j (by rw [← H.size]; exact hj')] at this
      cases this
    | succ fuel ih =>
      intro L a w H hf
      refine ⟨?_, ?_⟩
      · intro hr
        refine hend L a w H fun i hi => ?_
        have hi' : i < L.size := by rw [H.size]; exact hi
        rw [← getD_either hi']
        cases h : L.getD i true with
        | true => rfl
        | false => exact absurd hr (ready_of_unlisted H.size hed i h)
      · intro i hi
        obtain ⟨hu, o, ho, hall⟩ := mem_ready.1 hi
        have hpre := H.pre ho hu hall
        have hcount := countP_set_lt hu
        have hio := getD_false_true hu
        have hisz : i < ops.size := by rw [← H.size]; exact hio
        have hnotst : ∀ (k : Nat) (tg : Tg), ts[k]? = some tg → tg.st = i → o.dst = none := fun k tg ht e => by
          rw [← dstOf_some ho, ← e]; exact hc.st tg (List.mem_of_getElem? ht) (by omega)
        have hismk : ∀ (k : Nat) (tg : Tg), ts[k]? = some tg → tg.by_ = i → o.dst = some tg.slot := fun k tg ht e => by
          rw [← dstOf_some ho, ← e]; exact hc.made tg (List.mem_of_getElem? ht) (by omega)
        unfold wpOp
        rw [ho]
        show if Region.wanted o (yielded ops a.tmps) = true then _ else _
        by_cases hal : ∃ (k : Nat) (tg : Tg), ts[k]? = some tg ∧ tg.by_ = i
        · obtain ⟨k, tg, htg, rfl⟩ := hal
          obtain ⟨hnw, hFa, hrun⟩ := halloc k tg htg o ho
          obtain ⟨hw, hr⟩ := hrun a w
          rw [if_pos hw]
          left
          unfold Oper.wp
          rw [hr]
          show wpAny P .any ops Q fuel _ (a.put o.dst _) _
          have hd := hismk k tg htg rfl
          have honw : On w (w.alloc (.cells tg.init tg.t)) := (On.refl w).alloc _
          have hstu : L.getD tg.st false = false := by
            rcases Nat.lt_or_ge tg.st ops.size with h1 | h1
            · cases hb : L.getD tg.st false with
              | false => rfl
              | true =>
                exfalso
                obtain ⟨os, hos⟩ : ∃ os, ops[tg.st]? = some os := ⟨_, Array.getElem?_eq_getElem h1⟩
                have := waits_listed H.closed 3 tg.st tg.by_ os hos (H.closed tg.st os hos hb) (hc.stmk tg (List.mem_of_getElem? htg) hisz h1)
                rw [← getD_either hio] at this
                rw [hu] at this; cases this
            · simp [Array.getElem?_eq_none (show L.size ≤ tg.st by rw [H.size]; exact h1)]
          have hne : tg.st ≠ tg.by_ := fun e => by
            have := hnotst k tg htg e
            rw [hd] at this; cases this
          refine ih _ _ _ (H.next hc hF ho hu hall (Kept.on honw) (H.on.trans honw) (fun _ => hFa _ _) ?_ ?_) (by omega)
          · intro l tg' ht' hl
            by_cases hkl : k = l
            · subst hkl
              rw [htg] at ht'; cases ht'
              refine ⟨w.heap.size, tg.init, ?_, H.on.size, Own.new w tg.t tg.init, hnw, fun _ => rfl, fun e => ?_⟩
              · rw [hd, put_getD_eq (by rw [H.tsize]; exact hc.slotlt tg (List.mem_of_getElem? htg))]
              · rw [getD_set_ne false (Ne.symm hne), hstu] at e; cases e
            · have hm' : tg'.by_ ≠ tg.by_ := fun e => by
                have := hismk l tg' ht' e
                rw [hd] at this
                exact hc.slots k l tg tg' htg ht' hkl (by injection this)
              have hs' : tg'.st ≠ tg.by_ := fun e => by
                have := hnotst l tg' ht' e
                rw [hd] at this; cases this
              exact BlkOK.next hc hG H ho hu (Kept.on honw) ht' hm' hs' (fun g cur h _ => h.on honw) hl
          · intro l m a1 b1 h1 h2 hlm hss l1 l2
            by_cases e1 : a1.by_ = tg.by_
            · have d1 := hismk l a1 h1 e1
              have e2 : b1.by_ ≠ tg.by_ := fun e => by
                have d2 := hismk m b1 h2 e
                rw [d1] at d2
                exact hc.slots l m a1 b1 h1 h2 hlm (by injection d2)
              rw [getD_set_ne true (Ne.symm e2)] at l2
              obtain ⟨g, cur, q1, q2, q3, _⟩ := H.blk m b1 h2 l2
              rw [d1, put_getD_eq (by rw [H.tsize]; exact hc.slotlt a1 (List.mem_of_getElem? h1)), put_getD_ne (fun e => hc.slots l m a1 b1 h1 h2 hlm (by injection e)), q1]
              intro e
              injection e with e
              injection e with e
              injection e with e
              have := q3.lt
              omega
            · by_cases e2 : b1.by_ = tg.by_
              · have d2 := hismk m b1 h2 e2
                rw [getD_set_ne true (Ne.symm e1)] at l1
                obtain ⟨g, cur, q1, q2, q3, _⟩ := H.blk l a1 h1 l1
                rw [d2, put_getD_eq (by rw [H.tsize]; exact hc.slotlt b1 (List.mem_of_getElem? h2)), put_getD_ne (fun e => hc.slots l m a1 b1 h1 h2 hlm (by injection e with e; exact e.symm)), q1]
                intro e
                injection e with e
                injection e with e
                injection e with e
                have := q3.lt
                omega
              · exact apart_next hc H ho h1 h2 hlm hss e1 e2 l1 l2
        · by_cases hst : ∃ (k : Nat) (tg : Tg), ts[k]? = some tg ∧ tg.st = i
          · obtain ⟨k, tg, htg, rfl⟩ := hst
            have hd := hnotst k tg htg rfl
            have hlive : L.getD tg.by_ true = true := by
              rcases Nat.lt_or_ge tg.by_ ops.size with h1 | h1
              · have := waits_listed H.closed 3 tg.st tg.by_ o ho hall (hc.stmk tg (List.mem_of_getElem? htg) h1 hisz)
                rw [getD_either (by rw [H.size]; exact h1)]; exact this
              · simp [Array.getElem?_eq_none (show L.size ≤ tg.by_ by rw [H.size]; exact h1)]
            obtain ⟨g, cur, h1, h2, h3, h4, h5, h6⟩ := H.blk k tg htg hlive
            have h5' := h5 (by rw [← getD_either hio]; exact hu)
            subst h5'
            obtain ⟨hw, w', cur', hr, ho', hn', hnw', hg'⟩ := hstore k tg htg o ho a w g hpre h1 h3
            rw [if_pos hw]
            left
            unfold Oper.wp
            rw [hr]
            show wpAny P .any ops Q fuel _ (a.put o.dst _) _
            have hk : Kept w w' := Kept.only ho' h3 h4
            refine ih _ _ _ (H.next hc hF ho hu hall hk (H.on.only ho' h2) (fun e => absurd hd e) ?_ ?_) (by omega)
            · intro l tg' ht' hl
              have hm' : tg'.by_ ≠ tg.st := fun e => hal ⟨l, tg', ht', e⟩
              by_cases hkl : k = l
              · subst hkl
                rw [htg] at ht'; cases ht'
                refine ⟨g, cur', ?_, h2, hn', hnw', fun e => ?_, fun _ => hg'⟩
                · rw [hd]; exact h1
                · rw [getD_set_self hio] at e; cases e
              · have hs' : tg'.st ≠ tg.st := fun e => hc.sts k l tg tg' htg ht' hkl hisz e.symm
                refine BlkOK.next hc hG H ho hu hk ht' hm' hs' (fun g' cur2 q1 q2 => q1.only ho' (fun e => ?_)) hl
                rw [getD_set_ne true (Ne.symm hm')] at hl
                refine H.apart k l tg tg' htg ht' hkl hisz hlive hl ?_
                rw [h1, q2, e]
            · intro l m a1 b1 q1 q2 hlm hss l1 l2
              exact apart_next hc H ho q1 q2 hlm hss (fun e => hal ⟨l, a1, q1, e⟩) (fun e => hal ⟨m, b1, q2, e⟩) l1 l2
          · have hno : ∀ (k : Nat) (tg : Tg), ts[k]? = some tg → tg.by_ ≠ i ∧ tg.st ≠ i := fun k tg ht => ⟨fun e => hal ⟨k, tg, ht, e⟩, fun e => hst ⟨k, tg, ht, e⟩⟩
            have hp := hplain i o ho hno a w hpre
            have step : ∀ (v : Value) (w' : World), On w w' → F i v w' → wpAny P .any ops Q fuel (L.setIfInBounds i true) (a.put o.dst v) w' := by
              intro v w' honw hf
              refine ih _ _ _ (H.next hc hF ho hu hall (Kept.on honw) (H.on.trans honw) (fun _ => hf) ?_ ?_) (by omega)
              · intro l tg' ht' hl
                exact BlkOK.next hc hG H ho hu (Kept.on honw) ht' (hno l tg' ht').1 (hno l tg' ht').2 (fun g cur h _ => h.on honw) hl
              · intro l m a1 b1 q1 q2 hlm hss l1 l2
                exact apart_next hc H ho q1 q2 hlm hss (hno l a1 q1).1 (hno m b1 q2).1 l1 l2
            by_cases hw : Region.wanted o (yielded ops a.tmps) = true
            · rw [if_pos hw] at hp ⊢
              left
              refine Oper.wp_mono ?_ hp
              rintro a' w' ⟨v, rfl, honw, hf⟩
              exact step v w' honw hf
            · rw [if_neg hw] at hp ⊢
              exact step undef w (On.refl w) hp
  refine key _ _ _ _ ?_ ?_
  · refine ⟨hon.drew, Kept.on ((On.refl Wi).drew), by simp, rfl, rfl, ?_, fun _ _ => rfl, ?_, ?_, ?_⟩
    · intro i o ho hl
      have hi : i < ops.size := (Array.getElem?_eq_some_iff.1 ho).1
      simp [hi] at hl
    · intro i d hd hl
      have hi := dstOf_lt hd
      simp [hi] at hl
    · intro k tg ht hl
      have hi : ops.size ≤ tg.by_ := by
        rcases Nat.lt_or_ge tg.by_ ops.size with h1 | h1
        · simp [h1] at hl
        · exact h1
      obtain ⟨g, h1, h2, h3, h4⟩ := hb0 k tg ht hi
      refine ⟨g, tg.init, h1, h2, h3, h4, fun _ => rfl, fun e => ?_⟩
      rcases Nat.lt_or_ge tg.st ops.size with h1 | h1
      · simp [h1] at e
      · simp [h1] at e
    · intro k l a1 b1 h1 h2 hkl hss l1 l2
      have hx : ∀ n : Nat, (Array.replicate ops.size false).getD n true = true → ops.size ≤ n := by
        intro n hn
        rcases Nat.lt_or_ge n ops.size with h1 | h1
        · simp [h1] at hn
        · exact h1
      exact hap0 k l a1 b1 h1 h2 hkl hss (hx _ l1) (hx _ l2)
  · simp
    exact Nat.le_trans List.countP_le_length (by simp)
end
end Num
end Go.Proofs.YtkchpagjkgmpmaaGreat
