/-
  value, own, isZero, negative, inverse, sign.
-/
import Derived.Test.YtkpeliokhmigoaaRat1
import Derived.Deep.RegionHeld3
namespace Go.Proofs.Ytkpeliokhmigoaa
open Go.RowKit
set_option linter.unusedVariables false
namespace Num
theorem raw_fit {s : Bool} {xs ys : List Nat} (h : fitB s xs ys = true) (hx : 0 < xs.length) : raw s xs ys = fr s (val xs) (val ys) := by
  unfold raw; rw [if_pos ⟨of_decide_eq_true h, hx⟩]
theorem raw_no {s : Bool} {xs ys : List Nat} (h : fitB s xs ys = false) : raw s xs ys = 0 := by
  unfold raw; rw [if_neg (fun e => of_decide_eq_false h e.1)]
theorem raw_nil (s : Bool) (ys : List Nat) : raw s [] ys = 0 := by unfold raw; rw [if_neg (fun e => by have := e.2; simp at this)]
theorem fit_parts {s : Bool} {xs ys : List Nat} (h : fitB s xs ys = true) (hx : 0 < xs.length) : Clean xs ∧ Clean ys ∧ 0 < val xs ∧ 0 < val ys ∧ Nat.gcd (val xs) (val ys) = 1 := by
  have h1 : FitP s xs ys := of_decide_eq_true h
  rcases h1 with ⟨rfl, _⟩ | ⟨⟨a, b⟩, ⟨c, d⟩, e⟩
  · simp at hx
  · exact ⟨b, d, val_pos b a, val_pos d c, e⟩
theorem own_nextr (w : World) (o : Obj) (t : TypeId) (cur : Array Value) : Own ((w.alloc o).alloc (.cells cur t)) (w.heap.size + 1) t cur := by
  have h := Own.new (w.alloc o) t cur
  rwa [show (w.alloc o).heap.size = w.heap.size + 1 from by simp] at h
theorem on3 {w w' : World} {g : Nat} (h : On w w') (hg : w.heap.size ≤ g) (u v x : Value) : On w (((w'.setCell ⟨g, 0, none⟩ u).setCell ⟨g, 1, none⟩ v).setCell ⟨g, 2, none⟩ x) :=
  ((h.setCell (p := ⟨g, 0, none⟩) hg u).setCell (p := ⟨g, 1, none⟩) hg v).setCell (p := ⟨g, 2, none⟩) hg x
/-- a block that holds a fraction holds no words -/
theorem rat_far {w : World} {g : Nat} {t : TypeId} {b : Bool} {A1 A2 A : Option Addr} {n1 c1 n2 c2 n c : Nat} {xs : List Nat} (h : Rd w A n c xs) (ho : Own w g t #[.bool b, .slice A1 n1 c1, .slice A2 n2 c2]) : 0 < n → ∀ ad, A = some ad → ad.block ≠ g := by
  intro hn ad e hg
  obtain ⟨ad2, e2, _, hc⟩ := h.at_ 0 hn
  rw [e] at e2
  injection e2 with e2
  subst e2
  rw [add_nil] at hc
  have ho' : w.heap[ad.block]? = some (.cells #[.bool b, .slice A1 n1 c1, .slice A2 n2 c2] t (0, 0)) := by rw [hg]; exact ho
  unfold World.cell? at hc
  rw [ho'] at hc
  simp only at hc
  split at hc
  · cases hc
  · match hi : ad.off with
    | 0 => rw [hi] at hc; injection hc with hc; cases hc
    | 1 => rw [hi] at hc; injection hc with hc; cases hc
    | 2 => rw [hi] at hc; injection hc with hc; cases hc
    | k + 3 => rw [hi] at hc; simp at hc
theorem Rd.only' {w w' : World} {g : Nat} {A : Option Addr} {n c : Nat} {xs : List Nat} (h : Rd w A n c xs) (hb : Only g w w') (hg : 0 < n → ∀ ad, A = some ad → ad.block ≠ g) : Rd w' A n c xs := by
  refine ⟨h.1, h.2.1, h.2.2.1, h.2.2.2.1, h.none_, fun hn => ?_⟩
  obtain ⟨ad, e, hl, hc⟩ := h.2.2.2.2.2 hn
  refine ⟨ad, e, Nat.lt_of_lt_of_le hl hb.size, fun j hj => ?_⟩
  have hne := hg hn ad e
  exact (World.cell?_of_block (hb.block _ (by rw [block_of_add]; exact hl) (by rw [block_of_add]; simp; exact hne))).trans (hc j hj)
theorem only3 {w : World} {g : Nat} (u v x : Value) : Only g w (((w.setCell ⟨g, 0, none⟩ u).setCell ⟨g, 1, none⟩ v).setCell ⟨g, 2, none⟩ x) := (((Only.refl g w).set_ 0 u).set_ 1 v).set_ 2 x
theorem nm_put {w : World} {g : Nat} {t : TypeId} {b : Bool} {A1 A2 A : Option Addr} {n1 c1 n2 c2 n c y L : Nat} (h : Nm w A n c y L) (ho : Own w g t #[.bool b, .slice A1 n1 c1, .slice A2 n2 c2]) (u v x : Value) : Nm (((w.setCell ⟨g, 0, none⟩ u).setCell ⟨g, 1, none⟩ v).setCell ⟨g, 2, none⟩ x) A n c y L := by
  obtain ⟨xs, h1, h2⟩ := h
  exact ⟨xs, h1.only' (only3 u v x) (rat_far h1 ho), h2⟩
theorem isR_put {w : World} {g : Nat} {t : TypeId} {b : Bool} {A1 A2 : Option Addr} {n1 c1 n2 c2 L : Nat} {r : Rat} {z : Value} (h : IsR w z r L) (ho : Own w g t #[.bool b, .slice A1 n1 c1, .slice A2 n2 c2]) (u v x : Value) : IsR (((w.setCell ⟨g, 0, none⟩ u).setCell ⟨g, 1, none⟩ v).setCell ⟨g, 2, none⟩ x) z r L := by
  obtain ⟨A, n, c, xs, A', n', c', ys, h1, h2, h3, h4⟩ := h
  exact ⟨A, n, c, xs, A', n', c', ys, h1, h2.only' (only3 u v x) (rat_far h2 ho), h3.only' (only3 u v x) (rat_far h3 ho), h4⟩
set_option maxHeartbeats 800000 in
theorem value_any (w : World) (s : Bool) (A A' : Option Addr) (n c n' c' L : Nat) (xs ys : List Nat) (h : Rd w A n c xs) (k : Rd w A' n' c' ys) (hn : n ≤ L) (hn' : n' ≤ L) (hL : L ≤ 5000) :
    Calls Try.prog 54 #[.agg #[.bool s, .slice A n c, .slice A' n' c']] w (RatPost w (raw s xs ys) L) := by
  have B := ((On.refl w).alloc (.cells #[.bool s, .slice A n c, .slice A' n' c'] 24)).alloc (.cells #[.bool false, .slice none 0 0, .slice none 0 0] 24)
  have O1 := (Own.new w 24 #[.bool s, .slice A n c, .slice A' n' c']).alloc (.cells #[.bool false, .slice none 0 0, .slice none 0 0] 24)
  have O2 := own_nextr w (.cells #[.bool s, .slice A n c, .slice A' n' c'] 24) 24 #[.bool false, .slice none 0 0, .slice none 0 0]
  have h1 := h.on B
  have k1 := k.on B
  by_cases h0 : n = 0
  · subst h0
    obtain rfl := List.eq_nil_of_length_eq_zero h.len
    have HR := Lib.hid (raw_nil s ys)
    go_enter Try.func54, Try.ntmps54
    go_wp2
    exact bodyPost_ret (v := .agg #[.bool false, .slice none 0 0, .slice none 0 0]) (by simp [results, Try.results54, go_sem]) rfl ⟨_, rfl, by rw [HR.out]; exact isR_zero _ _, B⟩
  · have hb0 : ((n : Int) == 0) = false := by simp; omega
    have hxp : 0 < xs.length := by rw [h.len]; omega
    have HO1 := Lib.hid O1
    have HO2 := Lib.hid O2
    clear O1 O2
    go_enter Try.func54, Try.ntmps54
    go_wp2_with fail
    refine (valid_any _ _ _ _ _ _ _ _ _ _ h1 k1 (by omega) (by omega)).mono ?_
    rintro e w2 ⟨rfl, P2⟩
    have O1 := HO1.out.on P2
    have O2 := HO2.out.on P2
    have a0 : w2.cell? ⟨w.heap.size, 0, none⟩ = some (.bool s) := O1.cell 0
    have af0 := O1.frozen 0
    have a1 : w2.cell? ⟨w.heap.size, 1, none⟩ = some (.slice A n c) := O1.cell 1
    have af1 := O1.frozen 1
    have a2 : w2.cell? ⟨w.heap.size, 2, none⟩ = some (.slice A' n' c') := O1.cell 2
    have af2 := O1.frozen 2
    have r0 : w2.cell? ⟨w.heap.size + 1, 0, none⟩ = some (.bool false) := O2.cell 0
    have rf0 := O2.frozen 0
    have r1 : w2.cell? ⟨w.heap.size + 1, 1, none⟩ = some (.slice none 0 0) := O2.cell 1
    have rf1 := O2.frozen 1
    have r2 : w2.cell? ⟨w.heap.size + 1, 2, none⟩ = some (.slice none 0 0) := O2.cell 2
    have rf2 := O2.frozen 2
    cases hf : fitB s xs ys
    · have HR := Lib.hid (raw_no hf)
      clear hf
      go_wp2
      exact bodyPost_ret (v := .agg #[.bool false, .slice none 0 0, .slice none 0 0]) (by simp [results, Try.results54, go_sem, r0, r1, r2]) rfl ⟨_, rfl, by rw [HR.out]; exact isR_zero _ _, on3 (B.trans P2) (by omega) _ _ _⟩
    · have HF := Lib.hid hf
      clear hf
      go_wp2
      have hon := on3 (g := w.heap.size + 1) (B.trans P2) (by omega) (.bool s) (.slice A n c) (.slice A' n' c')
      obtain ⟨C, C', p1, p2, p3⟩ := fit_parts HF.out hxp
      exact bodyPost_ret (v := .agg #[.bool s, .slice A n c, .slice A' n' c']) (by simp [results, Try.results54, go_sem, r0, r1, r2]) rfl ⟨_, rfl, by rw [raw_fit HF.out hxp]; exact isR_one (h.on hon) (k.on hon) C C' hn hn' p1 p2 p3, hon⟩
end Num
end Go.Proofs.Ytkpeliokhmigoaa
