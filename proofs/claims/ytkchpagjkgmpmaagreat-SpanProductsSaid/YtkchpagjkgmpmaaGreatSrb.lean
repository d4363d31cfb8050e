/-
  Lists of two fractions.
-/
import Derived.Test.YtkchpagjkgmpmaaGreatSrf
namespace Go.Proofs.YtkchpagjkgmpmaaGreat
open Go.RowKit
set_option linter.unusedVariables false
namespace Num
def Fact.frats (rs : List Rat) (M : Nat) : Fact := ⟨fun v w => ∃ g, v = .slice (some ⟨g, 0, none⟩) rs.length rs.length ∧ FRats w g rs M, fun _ _ _ k ⟨g, e, h⟩ => ⟨g, e, h.kept k⟩⟩
theorem run_build2 {w : World} {s1 : Bool} {A1 : Option Addr} {n1 c1 : Nat} {D1 : Option Addr} {m1 e1 : Nat} {s2 : Bool} {A2 : Option Addr} {n2 c2 : Nat} {D2 : Option Addr} {m2 e2 : Nat} : (Instr.buildSlice 54 2 #[(0, .agg #[.bool s1, .slice A1 n1 c1, .slice D1 m1 e1]), (1, .agg #[.bool s2, .slice A2 n2 c2, .slice D2 m2 e2])]).run Tryz.prog w = .ok (.slice (some ⟨w.heap.size, 0, none⟩) 2 2) (w.alloc (.cells #[.bool s1, .slice A1 n1 c1, .slice D1 m1 e1, .bool s2, .slice A2 n2 c2, .slice D2 m2 e2] 24)) := by
  go_simp
set_option maxRecDepth 100000 in
theorem ob_build2 {Q : Exit → Act → World → Prop} {a : Act} {F : Nat → Value → World → Prop} {w : World} {i : Nat} {dd : Option Tmp} {ty t1 t2 : Nat} {pos : String} {after : Array Edge} {gu : Option (Nat × Bool)} {u v : Value} {r1 r2 : Rat} {M : Nat} (h1 : a.tmps.getD t1 undef = u) (h2 : a.tmps.getD t2 undef = v) (I1 : Fld w u r1 M) (I2 : Fld w v r2 M) (hf : ∀ v w', (∃ g, v = .slice (some ⟨g, 0, none⟩) 2 2 ∧ FRats w' g [r1, r2] M) → F i v w') :
    Does Tryz.prog Q F i ⟨dd, .buildSlice 54 2 #[(0, .tmp t1), (1, .tmp t2)], ty, pos, after, gu⟩ a w := by
  obtain ⟨s1, A1, n1, c1, D1, m1, e1, z1⟩ := fld_form I1
  obtain ⟨s2, A2, n2, c2, D2, m2, e2, z2⟩ := fld_form I2
  subst z1; subst z2
  have hr : (execOp a.eval ⟨dd, .buildSlice 54 2 #[(0, .tmp t1), (1, .tmp t2)], ty, pos, after, gu⟩).run Tryz.prog w = .ok (.value (.slice (some ⟨w.heap.size, 0, none⟩) 2 2)) (w.alloc (.cells #[.bool s1, .slice A1 n1 c1, .slice D1 m1 e1, .bool s2, .slice A2 n2 c2, .slice D2 m2 e2] 24)) := by
    refine do_value ?_
    simp only [List.map_toArray, List.map_cons, List.map_nil]
    rw [show a.eval (.tmp t1) = _ from h1, show a.eval (.tmp t2) = _ from h2]
    exact run_build2
  unfold Does Oper.wp
  rw [hr]
  exact ⟨_, rfl, (On.refl w).alloc _, hf _ _ ⟨_, rfl, frats_two I1 I2⟩⟩
theorem lo2 {r q : Rat} (h : r ≤ q) : lowest r [q] = r := by show rmin r q = r; unfold rmin; grind
theorem hi2 {r q : Rat} (h : r ≤ q) : highest r [q] = q := by show rmax r q = q; unfold rmax; grind
theorem lo4 {a b c d : Rat} (h : a ≤ b) (k : c ≤ d) : lowest a [b, c, d] = rmin a c := by show rmin (rmin (rmin a b) c) d = rmin a c; unfold rmin; grind
theorem hi4 {a b c d : Rat} (h : a ≤ b) (k : c ≤ d) : highest a [b, c, d] = rmax b d := by show rmax (rmax (rmax a b) c) d = rmax b d; unfold rmax; grind
theorem clip_mono {x y : Rat} (h : x ≤ y) : clipR x ≤ clipR y := by unfold clipR rmax rmin; grind
end Num
end Go.Proofs.YtkchpagjkgmpmaaGreat
