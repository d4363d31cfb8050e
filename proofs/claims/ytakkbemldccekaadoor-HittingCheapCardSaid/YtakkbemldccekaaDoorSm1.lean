/-
  Sets in order, for the library's sort: the element type, its order, what the program's Compare answers.
-/
import Derived.Test.YtakkbemldccekaaDoorSs1
import Derived.Test.YtakkbemldccekaaDoorSo
import Derived.Test.YtakkbemldccekaaDoorSb3
import Derived.Shelf.SlSortCmp.NoneTotal
import Derived.Lib.RowBridge
namespace Go.Proofs.YtakkbemldccekaaDoor.Sb
open Go.RowKit Go.Shelf Go.Lib Go.Sort
set_option linter.unusedVariables false
/-- a set as a number that is small -/
structure S24 where
  v : Nat
  h : v < 16777216
instance : Inhabited S24 := ⟨⟨0, by decide⟩⟩
def encS (x : S24) : Value := .int .i64 (x.v : Int)
def cfS (x y : S24) : Int := cmpS x.v y.v
theorem ltS (x y : S24) : ltOf cfS x y = decide (cmpS x.v y.v < 0) := rfl
theorem swoS : SWO (ltOf cfS) where
  irrefl x := by rw [ltS]; have := (cmpS_eq x.v x.v).2 rfl; simp; omega
  trans x y z h1 h2 := by
    rw [ltS] at *
    have := cmpS_trans x.v y.v z.v (of_decide_eq_true h1) (of_decide_eq_true h2)
    simpa using this
  ntrans x y z h1 h2 := by
    rw [ltS] at *
    have a := of_decide_eq_false h1
    have b := of_decide_eq_false h2
    rw [cmpS_lt] at a b
    rw [decide_eq_false]
    rw [cmpS_lt]; omega
theorem totS (x y : S24) (h1 : ltOf cfS x y = false) (h2 : ltOf cfS y x = false) : x = y := by
  rw [ltS] at *
  have a := of_decide_eq_false h1
  have b := of_decide_eq_false h2
  rw [cmpS_neg] at b
  have e : x.v = y.v := (cmpS_eq _ _).1 (by omega)
  cases x; cases y; simp at e; subst e; rfl
def toS (l : List Nat) (h : ∀ x ∈ l, x < 16777216) : List S24 := l.pmap (fun x hx => ⟨x, hx⟩) h
theorem toS_v (l : List Nat) (h : ∀ x ∈ l, x < 16777216) : (toS l h).map (·.v) = l := by unfold toS; rw [List.map_pmap]; simp
theorem toS_len (l : List Nat) (h : ∀ x ∈ l, x < 16777216) : (toS l h).length = l.length := by unfold toS; simp
theorem compare_enters : ∀ args w, (callFunc 56 args).run Tryd.prog w = .ok (.enter 56 args) w := enters_of Tryd.func56 (by kernel_rfl) rfl
theorem cmpLays (blk off size : Nat) (w : World) : CmpLays1 Tryd.prog 56 #[] encS cfS blk off size w := by
  intro m os dk _ x y
  have h := compare_any (sortWorld encS w blk off m dk os) (x.v : Int) (y.v : Int)
  rw [cut_nat _ x.h, cut_nat _ y.h] at h
  refine Calls.mono h ?_
  rintro e w' ⟨he, hw⟩
  exact ⟨he, 0, #[], by rw [grow_empty, ← hw]; rfl⟩
end Go.Proofs.YtakkbemldccekaaDoor.Sb
