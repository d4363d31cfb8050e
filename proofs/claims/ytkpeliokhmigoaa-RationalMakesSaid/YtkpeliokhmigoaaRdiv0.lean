/-
  For the specification's Div: append at a step of a region that draws its order; a[k:].
-/
import Derived.Test.YtkpeliokhmigoaaRup
import Derived.Test.YtkpeliokhmigoaaDiva
import Derived.Test.YtkpeliokhmigoaaRmul
import Derived.Deep.RegionHeld3
import Derived.Test.YtkpeliokhmigoaaLehm
namespace Go.Proofs.Ytkpeliokhmigoaa
open Go.RowKit
set_option linter.unusedVariables false
namespace Num
section
variable {P : Program}
theorem step_app {w : World} {ops : Array Oper} {o : Oper} {a : Act} {K : Act → World → Prop} {Q : Exit → Act → World → Prop} {E : Prop} (hgd : o.guard = none) (s x : Operand) (t : TypeId)
    (ho : o.op = .call { callee := .builtin .append, args := #[s, x], argTypes := #[t, t] })
    (base : Nat) (e : TypeId) (z : Value) (bytes : Nat) (ht : P.underlying t = some (.slice e)) (hinfo : (P.info? e).map (fun i => (i.zero, i.size, i.bytes)) = some (some z, 1, bytes)) (hzs : z.cells.size = 1) (hb8 : bytes ≤ 8)
    (k : IntKind) (v : Value) (n : Nat) (xs : List Nat) (hs : a.eval s = v) (hown : w.ownsRow base e 1 v n (VW k xs))
    (A : Option Addr) (m c : Nat) (news : List Nat) (hx : a.eval x = .slice A m c) (hl : news.length = m) (hA : A = none → m = 0 ∧ c = 0) (hn : ∀ ad, A = some ad → ∀ j, j < m → w.cell? (ad.add j) = some (.int k (gw news j : Int)))
    (hsm : n + m ≤ 1000000000) (hbase : base ≤ w.heap.size)
    (h : ∀ v' w', w'.ownsRow base e 1 v' (n + m) (VW k (xs ++ news)) → w.grownBy w' v.ownBlock → (v'.ownBlock = v.ownBlock ∨ v'.ownBlock = some w.heap.size) → K (a.put o.dst v') w') :
    if Region.wanted o (yielded ops a.tmps) = true then Oper.wp P o a w K Q else E := by
  have hw : Region.wanted o (yielded ops a.tmps) = true := by simp [Region.wanted, hgd]
  rw [if_pos hw]
  obtain ⟨v', w', hrun, h2, h3, h4⟩ := run_app (P := P) w base t o.type e z bytes ht hinfo hzs hb8 k v n xs hown A m c news hl hA hn hsm hbase
  unfold Oper.wp
  simp [execOp, ho, resolve, invoke, builtin, hs, hx, hrun, Result.andThen]
  exact h _ _ h2 h3 h4
end
theorem rdl_step (us qs : List Nat) (k V R d R' A : Nat) (hk : k < qs.length) (h : A = val (us.take (k + 1)) + BB ^ (k + 1) * (R + V * val (qs.drop (k + 1)))) (hd : gw us k + BB * R = R' + V * d) :
    A = val (us.take k) + BB ^ k * (R' + V * val ((qs.set k d).drop k)) := by
  have e4 : val ((qs.set k d).drop k) = d + BB * val (qs.drop (k + 1)) := by
    rw [val_drop_any, gw_set _ _ _ _ hk, if_pos rfl]
    congr 2
    have : (qs.set k d).drop (k + 1) = qs.drop (k + 1) := by
      apply List.ext_getElem?
      intro j
      rw [List.getElem?_drop, List.getElem?_drop, List.getElem?_set, if_neg (by omega)]
    rw [this]
  rw [e4, h, val_take_succ_any]
  have e5 : R' + V * (d + BB * val (qs.drop (k + 1))) = gw us k + BB * (R + V * val (qs.drop (k + 1))) := by
    rw [Nat.mul_add V, Nat.mul_add BB, ← Nat.mul_assoc BB V, Nat.mul_comm BB V, Nat.mul_assoc V BB, ← Nat.mul_assoc V BB] at *
    omega
  rw [e5, Nat.mul_add (BB ^ k), Nat.pow_succ, ← Nat.mul_assoc, Nat.add_assoc]
/-- the two leading words -/
theorem two_top (l : List Nat) (ok : Ok l) (m : Nat) (hl : l.length ≤ m + 2) : gw l (m + 1) * 4294967296 + gw l m = val l / BB ^ m := by
  rw [val_div_pow l ok m, val_drop_any l m, val_drop_any l (m + 1), List.drop_of_length_le (show l.length ≤ m + 1 + 1 by omega)]
  simp only [val, Nat.mul_zero, Nat.add_zero, BB]
  omega
/-- the estimate by the leading words is not too small -/
theorem guess_ge (U V P t f : Nat) (hP : 0 < P) (hV : 0 < V) (ht : t = U / P) (hf : f * P ≤ V) (hf0 : 0 < f) : U / V ≤ t / f := by
  rw [Nat.le_div_iff_mul_le hf0, ht, Nat.le_div_iff_mul_le hP, Nat.mul_assoc]
  exact Nat.le_trans (Nat.mul_le_mul_left _ hf) (Nat.div_mul_le_self U V)
/-- the guess as the program computes it -/
theorem guess_val (T f q : Nat) (h : q ≤ T / f) (hq : q < 4294967296) : ∃ G : Nat, min ((T : Int) / (f : Int)) 4294967295 = (G : Int) ∧ q ≤ G ∧ G < 4294967296 := by
  refine ⟨min (T / f) 4294967295, ?_, by omega, by omega⟩
  have e : (T : Int) / (f : Int) = ((T / f : Nat) : Int) := by rw [Int.natCast_ediv]
  rw [e]
  omega
/-- where a[k:] begins -/
def cutA (A : Option Addr) (c k : Nat) : Option Addr := if c = k then A else A.map (·.add k)
theorem Rd.cutA {w : World} {A : Option Addr} {n c : Nat} {xs : List Nat} (h : Rd w A n c xs) {k : Nat} (hk : k ≤ n) : Rd w (cutA A c k) (n - k) (c - k) (xs.drop k) := h.cut hk
theorem run_cut (w : World) (A : Option Addr) (n c k : Nat) (h1 : k ≤ n) (h2 : n ≤ c) (h3 : c ≤ 9223372036854775807) :
    (Instr.slice 22 (.slice A n c) (some (.int .i64 (k : Int))) none none).run Try.prog w = .ok (.slice (cutA A c k) (n - k) (c - k)) w := by
  unfold cutA
  go_simp

end Num
end Go.Proofs.Ytkpeliokhmigoaa
