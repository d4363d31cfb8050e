/-
  An array of two ints that came in, by value.
-/
import Derived.Test.YtmkogcaafkobaaaFm
import Derived.WideKeyArr2
import Derived.Lib.SmallJoins
namespace Go.Proofs.Ytmkogcaafkobaaa.Fm
open Go.ChangeShapes Go.WideShapes Go.ChangeAt Go.RowKit Go.WideMaps
set_option linter.unusedVariables false
set_option maxRecDepth 100000
theorem arr2 : ArrKey Try.prog 45 3 2 := ⟨Try.underlying45, by kernel_rfl, by kernel_rfl, by kernel_rfl⟩
theorem two_of (xs : Array Value) (h : xs.size = 2) : ∃ a b, xs = #[a, b] := by
  obtain ⟨l⟩ := xs
  match l, h with
  | [a, b], _ => exact ⟨a, b, rfl⟩
theorem open_two {H : Type} {enc : TypeId × Value → H} {W : World} {r : Reach} {b0 base : Nat} {sp : Nat → Bool} {held : Bool} {v : Value} {d : DataW H} {p : List MemPlace} (hv : Value.okWide Try.prog W r b0 45 v) (h : DataW.Trod enc Try.prog W base sp held 45 v d p) :
    ∃ x y, v = .agg #[.int .i64 x, .int .i64 y] := by
  obtain ⟨xs, rfl, hn⟩ := okWide_arr arr2 hv
  obtain ⟨c0, c1, rfl⟩ := two_of xs hn
  obtain ⟨fuel, hf⟩ := h
  cases fuel with
  | zero => simp [DataW.trod] at hf
  | succ m =>
    rw [DataW.trod_step] at hf
    unfold DataW.trodStep at hf
    simp only [arr2.hu, Value.cells] at hf
    rw [if_pos (by rw [arr2.size]; rfl)] at hf
    simp only [Option.map_eq_some_iff] at hf
    obtain ⟨ys, hy, _⟩ := hf
    have e2 : List.range 2 = [0, 1] := rfl
    rw [e2, List.mapM_cons] at hy
    simp only [bind, Option.bind_eq_some_iff, pure, Option.some.injEq, List.mapM_cons] at hy
    obtain ⟨y0, h0, z1, ⟨y1, h1, _⟩, _⟩ := hy
    have ec : Try.prog.cellsOf 3 = 1 := arr2.one
    rw [ec] at h0 h1
    obtain ⟨x, ex, _⟩ := DataW.trod_int Try.underlying3 h0
    obtain ⟨y, ey, _⟩ := DataW.trod_int Try.underlying3 h1
    simp at ex ey
    exact ⟨x, y, by rw [ex, ey]⟩
end Go.Proofs.Ytmkogcaafkobaaa.Fm
