/-
  slices.Values of cubes, slices.AppendSeq over it.
-/
import Derived.RangeFuncNested
import Derived.RangeFuncBound
import Derived.RangeFuncBox
import Derived.RangeFuncCalls
import Derived.RangeFuncLeaves
import Derived.Shelf.Abstract
import Derived.Shelf.RegionOpen
import Derived.WalkKit
import Derived.OwnWalkIn
import Derived.TacticsInMore
import Derived.LoopNIn
import Derived.LoopIn
import Derived.Maps.AppendAt
import Derived.Test.YthamjboppnlpdaaDd
namespace Go.Proofs.Ythamjboppnlpdaa.It
open Go.RowKit Go.Shelf
open Go.Proofs.Ythamjboppnlpdaa.Cu (Cz CV RdC CV_app CV_get cubeInfo own2)
set_option linter.unusedVariables false
set_option maxRecDepth 100000
attribute [local go_sem] Oper.semAt_some
def czv (x : Cz) : Value := .agg #[.int .i64 x.1, .int .i64 x.2]
theorem rd_below {w w' : World} {A : Option Addr} {n c : Nat} {xs : List Cz} (h : RdC w A n c xs) (hb : Below w.heap.size w w') : RdC w' A n c xs := h.keep hb.size fun p hp => hb.cell hp
theorem take_succ_getD {xs : List Cz} {k : Nat} (h : k < xs.length) : xs.take (k + 1) = xs.take k ++ [xs.getD k (0, 0)] := by
  rw [List.take_add_one, List.getElem?_eq_getElem h, List.getD_eq_getElem?_getD, List.getElem?_eq_getElem h]
  rfl
set_option maxHeartbeats 4000000 in
theorem values1_in (F : Fence) (n : Nat) (h7 : F.fn 68) (hro : F.round = none) (hn : 1 ≤ n) (l Bs : Nat) (A : Option Addr) (len cap : Nat) (xs : List Cz) (w : World) (hrd : RdC w A len cap xs) (J Jx : List Cz → World → Prop) (hJa : ∀ s W o, J s W → w.heap.size ≤ W.heap.size → J s (W.alloc o))
    (hY : ∀ pre x W, J pre W → pre.length < len → YieldAt F (n - 1) Try.prog l #[czv x] W fun e W' =>
      (e = .returned (.bool true) ∧ J (pre ++ [x]) W' ∧ Below w.heap.size W W') ∨ (e = .returned (.bool false) ∧ Jx (pre ++ [x]) W'))
    (W : World) (hBs : W.cell? ⟨Bs, 0, none⟩ = some (.slice A len cap)) (hbw : Below w.heap.size w W) (h0 : J [] W) :
    CallsIn F n Try.prog 68 #[.func (.yield l) #[] #[], .pointer (some ⟨Bs, 0, none⟩)] W fun e W' => (∃ v, e = .returned v) ∧
      ((∃ ys, ys = xs ∧ J ys W') ∨ (∃ pre, pre <+: xs ∧ Jx pre W')) := by
  have hxl := hrd.len
  have hcap := hrd.cap
  have hmax := hrd.max
  have HR := Lib.hid hrd
  clear hrd
  refine callsIn_of_wp Try.func68 rfl h7 ?_ hro
  simp only [Try.ntmps68, List.size_toArray, List.length_cons, List.length_nil, Nat.reduceAdd, Nat.reduceSub, Array.replicate_succ, Array.replicate_zero, List.push_toArray, List.append_toArray, List.nil_append, List.cons_append]
  gi_wp2
  gi_loopw [7] (fun i wr => ∃ k : Nat, k ≤ len ∧ i = .int .i64 k ∧ J (xs.take k) wr ∧ Below w.heap.size w wr)
    (fun i _ => len - (intOf i).toNat)
  case atStart => exact ⟨0, Nat.zero_le _, rfl, h0, hbw⟩
  case round =>
    obtain ⟨k, hk, rfl, hJs, hnx⟩ := hrel
    by_cases hlt : k < len
    · obtain ⟨ad, rfl, hb, hc0, hc1⟩ := (rd_below HR.out hnx).at_ hlt
      have htk := take_succ_getD (xs := xs) (k := k) (by omega)
      obtain ⟨⟨x1, x2⟩, hx⟩ : ∃ z, xs.getD k (0, 0) = z := ⟨_, rfl⟩
      rw [hx] at hc0 hc1 htk
      simp only at hc0 hc1
      have Z0 : Sb.Own (wr.alloc (.cells #[.int .i64 0, .int .i64 0] 23)) wr.heap.size 23 #[.int .i64 0, .int .i64 0] := Sb.Own.new _ _ _
      have Z1 : Sb.Own (wr.alloc (.cells #[.int .i64 x1, .int .i64 x2] 23)) wr.heap.size 23 #[.int .i64 x1, .int .i64 x2] := Sb.Own.new _ _ _
      obtain ⟨k0, k1⟩ := own2 Z0
      obtain ⟨m0, m1⟩ := own2 Z1
      have f0 := Z0.frozen 0
      have f1 := Z0.frozen 1
      clear Z0 Z1
      obtain ⟨fn, tmps, assign, body, hy, hR⟩ := hY (xs.take k) (x1, x2) (wr.alloc (.cells #[.int .i64 x1, .int .i64 x2] 23)) (hJa _ _ _ hJs hnx.size) (by rw [List.length_take]; omega)
      unfold czv at hy
      dsimp only at hy
      gi_wp2
      refine hR.mono ?_
      rintro e W3 (⟨rfl, hJ3, hk3⟩ | ⟨rfl, hJx3⟩)
      · have hnx3 := hnx.trans (((Below.refl w.heap.size wr).alloc hnx.size _).trans hk3)
        rw [← htk] at hJ3
        clear k0 k1 m0 m1 f0 f1 hc0 hc1 hy
        gi_wp2
        go_roundw
        case rel => exact ⟨k + 1, by omega, by simp, hJ3, hnx3⟩
        all_goals (simp [intOf]; omega)
      · clear k0 k1 m0 m1 f0 f1 hc0 hc1 hy
        gi_wp2
        refine bodyPost_ret (results_none rfl _ _ _) rfl ?_
        exact ⟨⟨_, rfl⟩, .inr ⟨_, ⟨xs.drop (k + 1), by rw [← htk]; exact List.take_append_drop _ _⟩, hJx3⟩⟩
    · obtain rfl : k = len := by omega
      gi_wp2
      go_end0
      exact ⟨⟨_, rfl⟩, .inl ⟨_, by rw [← hxl, List.take_length], hJs⟩⟩
/-- slices.Values(s) hands back a value over which one may range -/
theorem values_stops (F : Fence) (n : Nat) (h7 : F.fn 68) (hro : F.round = none) (hn : 1 ≤ n) (Bs : Nat) (A : Option Addr) (len cap : Nat) (xs : List Cz) (w w1 : World) (hrd : RdC w A len cap xs) (hb : Below w.heap.size w w1) (hBs : Bs < w1.heap.size) (hc : w1.cell? ⟨Bs, 0, none⟩ = some (.slice A len cap)) :
    SeqStopsK F n Try.prog 68 #[.pointer (some ⟨Bs, 0, none⟩)] (fun x : Cz => #[czv x]) (Below w.heap.size) (fun ys => ys = xs) (fun pre => pre <+: xs) len w1 := fun l J Jx W hW hJ _ hY h0 =>
  values1_in F n h7 hro hn l Bs A len cap xs w hrd J Jx (fun s W' o hj hs => hJ s W' _ none hj (World.grownBy_alloc W' o none) (fun r e => by cases e)) hY W ((hW.cell (p := ⟨Bs, 0, none⟩) hBs).trans hc) (hb.trans (hW.mono hb.size)) h0
/-- a box of two cells -/
def Box2 (W : World) (B : Nat) (x : Cz) : Prop := W.heap[B]? = some (.cells #[.int .i64 x.1, .int .i64 x.2] 23 (0, 0))
theorem box2_own {X Y : World} {row : Option Nat} {B : Nat} {x : Cz} (h : Box2 X B x) (hg : X.grownBy Y row) (hr : ∀ r, row = some r → ∃ o : Obj, X.heap[r]? = some o ∧ o.isCells = false) : Box2 Y B x := by
  refine (hg.block B (Array.getElem?_eq_some_iff.1 h).1 (fun e => ?_)).trans h
  obtain ⟨o, ho, hc⟩ := hr B e.symm
  rw [show X.heap[B]? = _ from h] at ho
  cases ho
  cases hc
theorem box2_cells {W : World} {B : Nat} {x : Cz} (h : Box2 W B x) : W.cell? ⟨B, 0, none⟩ = some (.int .i64 x.1) ∧ W.cell? ⟨B, 1, none⟩ = some (.int .i64 x.2) := by
  constructor <;> simp [World.cell?, show W.heap[B]? = _ from h]
theorem cell_two_new (w : World) (x y : Value) (t : TypeId) : ∀ j u, [x, y][j]? = some u → (w.alloc (.cells #[x, y] t)).cell? ((⟨w.heap.size, 0, none⟩ : Addr).add j) = some u := by
  intro j u hj
  obtain ⟨h0, h1⟩ := own2 (Sb.Own.new w t #[x, y])
  match j, hj with
  | 0, hj =>
    simp at hj
    subst hj
    exact h0
  | 1, hj =>
    simp at hj
    subst hj
    exact h1
  | j + 2, hj => simp at hj
set_option maxHeartbeats 8000000 in
theorem appendseq_in (F : Fence) (n : Nat) (h8 : F.fn 76) (h7 : F.fn 68) (hro : F.round = none) (hn : 3 ≤ n) (Bs : Nat) (A : Option Addr) (len cap : Nat) (xs : List Cz) (w : World) (hrd : RdC w A len cap xs) (hl : len ≤ 1024) (hBs : Bs < w.heap.size) (hc : w.cell? ⟨Bs, 0, none⟩ = some (.slice A len cap)) :
    CallsIn F n Try.prog 76 #[.slice none 0 0, .func (.func 68) #[] #[.pointer (some ⟨Bs, 0, none⟩)]] w fun e W' => ∃ v, e = .returned v ∧ W'.ownsRow w.heap.size 23 2 v len (CV xs) ∧ Below w.heap.size w W' := by
  have hxl := hrd.len
  have h1 : 1 ≤ n := by omega
  obtain ⟨i0, hi, hz0, hz1, hz2⟩ := info_parts cubeInfo
  refine callsIn_of_wp_marks Try.func76 rfl h8 ?_ hro
  simp only [Try.ntmps76, List.size_toArray, List.length_cons, List.length_nil, Nat.reduceAdd, Nat.reduceSub, Array.replicate_succ, Array.replicate_zero, List.push_toArray, List.append_toArray, List.nil_append, List.cons_append]
  gi_wp2
  have bO := Boxed.new w 37 (.slice none 0 0)
  have hB0 : Below w.heap.size w (w.alloc (.cells #[.slice none 0 0] 37)) := (Below.refl _ w).alloc (Nat.le_refl _) _
  refine wpIn_rangeFunc_ownH hro h1 (gf := 68) (lb := #[.pointer (some ⟨Bs, 0, none⟩)]) rfl h7 (enters_of Try.func68 (by kernel_rfl) rfl)
    (values_stops F (n - 1) h7 hro (by omega) Bs A len cap xs w _ hrd hB0 (by simp; omega) ((hB0.cell (p := ⟨Bs, 0, none⟩) hBs).trans hc)) belowK_t (belowK_b (by simp)) (Below.refl _ _) (fun _ => rfl)
    (fun pre W => (∃ v, Boxed W w.heap.size 37 v ∧ W.ownsRow w.heap.size 23 2 v pre.length (CV pre) ∧ True) ∧ Below w.heap.size w W)
    (fun _ _ _ => False)
    (OwnFrom.and (Own.from (holdsRow_own w.heap.size w.heap.size 37 23 2 (fun pre => pre.length) (fun pre => CV pre) (fun _ _ => True)) _) (ownFrom_below (Nat.le_refl _) (by simp)))
    (fun _ _ _ _ _ hs _ _ => hs)
    ⟨⟨_, bO, World.ownsRow_nil _ _ _ _, trivial⟩, hB0⟩
    (fun x a' W => ∃ Bx, w.heap.size < Bx ∧ Box2 W Bx x ∧ a' = { tmps := #[.slice none 0 0, .func (.func 68) #[] #[.pointer (some ⟨Bs, 0, none⟩)], .pointer (some ⟨w.heap.size, 0, none⟩), undef, .slice none 0 0, .pointer (some ⟨Bx, 0, none⟩), .func (.func 68) #[] #[.pointer (some ⟨Bs, 0, none⟩)], czv x, undef, undef, undef, undef, undef], defers := [] })
    (fun x a' _ X Y row hs hg hr => by obtain ⟨Bx, h1, h2, h3⟩ := hs; exact ⟨Bx, h1, box2_own h2 hg (fun r e => (hr r e).2), h3⟩)
    ?assign ?body ?done ?stop
  case assign =>
    rintro l pre ⟨x1, x2⟩ W K ⟨⟨v, hv, hrow, _⟩, hB⟩ hK
    have Z0 : Sb.Own (W.alloc (.cells #[.int .i64 0, .int .i64 0] 23)) W.heap.size 23 #[.int .i64 0, .int .i64 0] := Sb.Own.new _ _ _
    obtain ⟨k0, k1⟩ := own2 Z0
    have f0 := Z0.frozen 0
    have f1 := Z0.frozen 1
    clear Z0
    unfold czv at hK ⊢
    dsimp only at hK ⊢
    gi_wp2
    exact hK _ _ ((KeepsOthers.alloc _ _).from _) ((Below.refl _ W).alloc hB.size _) ⟨⟨v, hv.alloc _, hrow.alloc _, trivial⟩, hB.alloc hB.size _⟩ ⟨W.heap.size, hv.lt, World.alloc_heap_new W _, rfl⟩
  case body =>
    rintro l pre ⟨x1, x2⟩ a' W hlw ⟨r, hr⟩ ⟨⟨v, hv, hrow, _⟩, hB⟩ ⟨Bx, hBx, hX, rfl⟩ hlt
    have hc := hv.cell
    obtain ⟨x0, x1'⟩ := box2_cells hX
    simp only at x0 x1'
    gi_wp2_with (gi_at_builtin; refine wpListIn_append_own _ rfl _ _ 37 rfl w.heap.size 23 i0 (.agg #[.int .i64 0, .int .i64 0]) 2 16 Try.underlying37 hi hz0 hz1 hz2 rfl (by decide) _ _ _ rfl (hrow.alloc _) ⟨W.heap.size, 0, none⟩ 1 1 [.int .i64 x1, .int .i64 x2] rfl rfl (cell_two_new _ _ _ _) (by simp [Value.oneCell']) (by unfold maxLen; omega) (by omega) (by have := hB.size; simp; omega) ?_; intro v' w1 hown' hgrow _; obtain ⟨g', cap', rfl⟩ := ownsRow_succ hown'; obtain ⟨hv1, hv2, hr2, hk2, hb2⟩ := hv.appended (by decide) hrow hB.size (Nat.le_refl _) hown' hgrow; have hc1 := hv1.cell; have hf1 := hv1.frozen)
    exact ⟨hk2.from _, hb2, ⟨_, hv2, by rw [CV_app, List.length_append]; exact hr2, trivial⟩, hB.trans hb2⟩
  case done =>
    rintro D ys W hD hys ⟨⟨v, hv, hrow, _⟩, hB⟩ hK
    subst hys
    have hc := hv.cell
    gi_wp2
    refine ⟨by simp, .inl ⟨_, _, rfl, run_takeDeferred hK, ?_⟩⟩
    exact ⟨_, results_tmp rfl _ _ _, v, rfl, by rw [← hxl]; exact ownsRow_putObj hrow _ hK rfl, hB.trans (belowK_b (w := w) (Nat.le_refl _) W D _ _ (by simp at hD; omega) hK rfl rfl)⟩
  case stop =>
    rintro D c pre W _ _ h _
    exact h.elim
end Go.Proofs.Ythamjboppnlpdaa.It
