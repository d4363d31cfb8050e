/-
  What is wrong with a node: checkK, argsOf, checkNode.
-/
import Derived.Test.YtmkogcaafkobaaaFm
namespace Go.Proofs.Ytmkogcaafkobaaa.Fm
open Go.RowKit Go.Proofs.Ytmkogcaafkobaaa.Sb
set_option linter.unusedVariables false
set_option maxRecDepth 100000
/-- the error of a node's K -/
def kErr (x : Nd) : Nat :=
  if x.kind = 0 then (if x.k < 0 ∨ 1 < x.k then 3 else 0) else if x.kind = 4 then (if x.k < 1 ∨ (x.args.length : Int) < x.k then 3 else 0) else if x.k = 0 then 0 else 2
def leastA (kind : Int) : Nat := if kind = 0 then 0 else 1
def mostA (kind : Int) : Nat := if kind = 0 then 0 else if kind = 1 then 1 else 16
def badA (m a : Int) : Prop := a < 0 ∨ m ≤ a
instance (m a : Int) : Decidable (badA m a) := by unfold badA; infer_instance
/-- the error of a node whose arguments must be below m -/
def ndErr (m : Int) (x : Nd) : Nat :=
  if x.kind < 0 ∨ 5 < x.kind then 7 else if x.args.length < leastA x.kind ∨ mostA x.kind < x.args.length then 11
  else if ∃ a ∈ x.args, badA m a then 10 else kErr x
set_option maxHeartbeats 4000000 in
theorem checkK_any (w : World) (x : Nd) (P : Option Addr) (m k : Nat) (hm : x.args.length = m) :
    Calls Try.prog 47 #[.agg #[.int .i64 x.kind, .int .i64 x.k, .slice P m k]] w fun e w' => e = .returned (errV (kErr x)) ∧ On w w' := by
  obtain ⟨kind, kk, args⟩ := x
  unfold kErr
  simp only at hm ⊢
  rw [hm]
  clear hm
  by_cases h0 : kind = 0
  · subst h0
    rw [if_pos rfl]
    by_cases h1 : kk < 0
    · rw [if_pos (Or.inl h1)]
      go_enter Try.func47, Try.ntmps47
      go_wp2
      go_ret
      exact ⟨rfl, (On.refl w).alloc _⟩
    · by_cases h2 : 1 < kk
      · rw [if_pos (Or.inr h2)]
        go_enter Try.func47, Try.ntmps47
        go_wp2
        go_ret
        exact ⟨rfl, (On.refl w).alloc _⟩
      · rw [if_neg (by omega)]
        go_enter Try.func47, Try.ntmps47
        go_wp2
        go_ret
        exact ⟨rfl, (On.refl w).alloc _⟩
  · rw [if_neg h0]
    by_cases h4 : kind = 4
    · subst h4
      rw [if_pos rfl]
      by_cases h1 : kk < 1
      · rw [if_pos (Or.inl h1)]
        go_enter Try.func47, Try.ntmps47
        go_wp2
        go_ret
        exact ⟨rfl, (On.refl w).alloc _⟩
      · by_cases h2 : (m : Int) < kk
        · rw [if_pos (Or.inr h2)]
          go_enter Try.func47, Try.ntmps47
          go_wp2
          go_ret
          exact ⟨rfl, (On.refl w).alloc _⟩
        · rw [if_neg (by omega)]
          go_enter Try.func47, Try.ntmps47
          go_wp2
          go_ret
          exact ⟨rfl, (On.refl w).alloc _⟩
    · rw [if_neg h4]
      by_cases h1 : kk = 0
      · subst h1
        rw [if_pos rfl]
        go_enter Try.func47, Try.ntmps47
        go_wp2
        go_ret
        exact ⟨rfl, (On.refl w).alloc _⟩
      · rw [if_neg h1]
        go_enter Try.func47, Try.ntmps47
        go_wp2
        go_ret
        exact ⟨rfl, (On.refl w).alloc _⟩
set_option maxHeartbeats 1000000 in
theorem argsOf_any (w : World) (kind : Int) :
    Calls Try.prog 46 #[.int .i64 kind] w fun e w' => e = .returned (.tuple #[.int .i64 (leastA kind : Nat), .int .i64 (mostA kind : Nat)]) ∧ w = w' := by
  unfold leastA mostA
  by_cases h0 : kind = 0
  · subst h0
    go_enter Try.func46, Try.ntmps46
    go_wp2
    go_ret2
    exact ⟨rfl, rfl⟩
  · by_cases h1 : kind = 1
    · subst h1
      go_enter Try.func46, Try.ntmps46
      go_wp2
      go_ret2
      exact ⟨rfl, rfl⟩
    · rw [if_neg h0, if_neg h0, if_neg h1]
      go_enter Try.func46, Try.ntmps46
      go_wp2
      go_ret2
      exact ⟨rfl, rfl⟩
theorem VI_at {w : World} {P : Option Addr} {m k : Nat} {l : List Int} (h : Rd w P m k (VI l)) {j : Nat} (hj : j < m) : ∃ ad, P = some ad ∧ ad.block < w.heap.size ∧ w.cell? (ad.add j) = some (.int .i64 (l.getD j 0)) :=
  h.at_ j _ (VI_get (by have := h.len; rw [VI_length] at this; omega))
theorem VI_len {w : World} {P : Option Addr} {m k : Nat} {l : List Int} (h : Rd w P m k (VI l)) : l.length = m := by have := h.len; rwa [VI_length] at this
theorem getD_mem0 {l : List Int} {j : Nat} (h : j < l.length) : l.getD j 0 ∈ l := by
  have : l.getD j 0 = l[j] := by simp [h]
  rw [this]; exact List.getElem_mem h
theorem bad_all {m : Int} {l : List Int} {n : Nat} (hn : l.length = n) (h : ∀ j, j < n → ¬ badA m (l.getD j 0)) : ¬ ∃ a ∈ l, badA m a := by
  rintro ⟨a, ha, hb⟩
  obtain ⟨j, hj, rfl⟩ := List.mem_iff_getElem.1 ha
  refine h j (by omega) ?_
  have : l.getD j 0 = l[j] := by simp [hj]
  rw [this]; exact hb
set_option maxHeartbeats 8000000 in
theorem checkNode_any (w : World) (x : Nd) (P : Option Addr) (m k : Nat) (number : Int) (hR : Rd w P m k (VI x.args)) :
    Calls Try.prog 33 #[.agg #[.int .i64 x.kind, .int .i64 x.k, .slice P m k], .int .i64 number] w fun e w' => e = .returned (errV (ndErr number x)) ∧ On w w' := by
  have hK := fun W => checkK_any W x P m k (VI_len hR)
  have hA := fun W => argsOf_any W x.kind
  have hm := VI_len hR
  have hcap := hR.cap
  have hmax := hR.max
  unfold ndErr
  rw [hm]
  obtain ⟨kind, kk, args⟩ := x
  simp only at hm hR hK hA ⊢
  have HM := Lib.hid hm
  have HR := Lib.hid hR
  clear hm hR
  by_cases h0 : kind < 0 ∨ 5 < kind
  · rw [if_pos h0]
    clear hK hA
    rcases h0 with h0 | h0
    · go_enter Try.func33, Try.ntmps33
      go_wp2
      go_ret
      exact ⟨rfl, (On.refl w).alloc _⟩
    · have h1 : ¬ kind < 0 := by omega
      go_enter Try.func33, Try.ntmps33
      go_wp2
      go_ret
      exact ⟨rfl, (On.refl w).alloc _⟩
  · rw [if_neg h0]
    have h1 : ¬ kind < 0 := by omega
    have h2 : ¬ 5 < kind := by omega
    clear h0
    generalize leastA kind = le at *
    generalize mostA kind = mo at *
    by_cases h3 : m < le ∨ mo < m
    · rw [if_pos h3]
      clear hK
      by_cases h4 : (m : Int) < (le : Int)
      · go_enter Try.func33, Try.ntmps33
        go_wp2_with (refine (hA _).mono ?_; rintro e w' ⟨rfl, rfl⟩)
        go_ret
        exact ⟨rfl, (On.refl w).alloc _⟩
      · have h5 : (mo : Int) < (m : Int) := by omega
        go_enter Try.func33, Try.ntmps33
        go_wp2_with (refine (hA _).mono ?_; rintro e w' ⟨rfl, rfl⟩)
        go_ret
        exact ⟨rfl, (On.refl w).alloc _⟩
    · rw [if_neg h3]
      have h4 : ¬ (m : Int) < (le : Int) := by omega
      have h5 : ¬ (mo : Int) < (m : Int) := by omega
      clear h3
      obtain ⟨q, hq⟩ : ∃ q, w.heap.size = q := ⟨_, rfl⟩
      obtain ⟨er, her⟩ : ∃ er, (if ∃ a, a ∈ args ∧ badA number a then 10 else kErr { kind := kind, k := kk, args := args }) = er := ⟨_, rfl⟩
      rw [her]
      have HE := Lib.hid her
      clear her
      go_enter Try.func33, Try.ntmps33
      go_wp2_with (refine (hA _).mono ?_; rintro e w' ⟨rfl, rfl⟩)
      clear hA h4 h5
      go_loopw [40] (fun i wr => ∃ j : Nat, j ≤ m ∧ i = .int .i64 (j : Int) ∧ (∀ t, t < j → ¬ badA number (args.getD t 0)) ∧ On w wr ∧ Own wr q 41 #[.int .i64 kind, .int .i64 kk, .slice P m k]) (fun i _ => m - (intOf i).toNat)
      case atStart => exact ⟨0, by omega, rfl, fun t ht => absurd ht (by omega), (On.refl _).alloc _, by rw [← hq]; exact Own.new _ _ _⟩
      case round =>
        obtain ⟨j, hj, rfl, hgood, hon, hO⟩ := hrel
        by_cases hlt : j < m
        · obtain ⟨ad, rfl, hb, hc⟩ := VI_at (HR.out.on hon) hlt
          obtain ⟨a, ha⟩ : ∃ a, args.getD j 0 = a := ⟨_, rfl⟩
          have hmem : a ∈ args := by rw [← ha]; exact getD_mem0 (by rw [HM.out]; exact hlt)
          rw [ha] at hc
          by_cases hbad : badA number a
          · have he : er = 10 := by rw [← HE.out, if_pos ⟨a, hmem, hbad⟩]
            subst he
            clear hgood hO
            by_cases hb1 : a < 0
            · go_wp2
              go_ret
              exact ⟨rfl, hon⟩
            · have hb2 : number ≤ a := by rcases hbad with h | h; exact absurd h hb1; exact h
              go_wp2
              go_ret
              exact ⟨rfl, hon⟩
          · have hb1 : ¬ a < 0 := fun h => hbad (.inl h)
            have hb2 : ¬ number ≤ a := fun h => hbad (.inr h)
            have HG := Lib.hid (And.intro hgood (And.intro ha (And.intro hbad hO)))
            clear hgood ha hbad hmem hO
            go_wp2
            refine ⟨⟨j + 1, by omega, by go_num, fun t ht => ?_, hon, HG.out.2.2.2⟩, by simp [intOf]; omega⟩
            by_cases e : t = j
            · subst e; rw [HG.out.2.1]; exact HG.out.2.2.1
            · exact HG.out.1 t (by omega)
        · obtain rfl : j = m := by omega
          have he : kErr { kind := kind, k := kk, args := args } = er := by rw [← HE.out, if_neg (bad_all HM.out hgood)]
          rw [he] at hK
          clear he
          have r0 := hO.cell 0
          have r1 := hO.cell 1
          have r2 := hO.cell 2
          simp at r0 r1 r2
          clear hgood hO
          go_wp2_with fail
          refine (hK _).mono ?_
          rintro e w4 ⟨rfl, P4⟩
          go_wp2
          go_ret
          exact ⟨rfl, hon.trans P4⟩
end Go.Proofs.Ytmkogcaafkobaaa.Fm
