/-
  Formulas in memory; Valid.
-/
import Derived.Test.YtmkogcaafkobaaaSo
import Derived.Test.YtmkogcaafkobaaaFp
import Derived.BigRegion
namespace Go.Proofs.Ytmkogcaafkobaaa.Fm
open Go.RowKit Go.Proofs.Ytmkogcaafkobaaa.Sb
set_option linter.unusedVariables false
set_option maxRecDepth 100000
/-- a node with any numbers -/
structure Nd where
  kind : Int
  k : Int
  args : List Int
def Nd.z : Nd := ⟨0, 0, []⟩
/-- the slice reads as the nodes xs -/
def RdN (w : World) (A : Option Addr) (n c : Nat) (xs : List Nd) : Prop :=
  xs.length = n ∧ n ≤ c ∧ c ≤ 9223372036854775807 ∧ (A = none → c = 0) ∧ (0 < n → ∃ ad, A = some ad ∧ ad.block < w.heap.size ∧ ∀ j, j < n → ∃ (P : Option Addr) (m k : Nat),
    w.cell? (ad.add (j * 3)) = some (.int .i64 (xs.getD j Nd.z).kind) ∧ w.cell? ⟨(ad.add (j * 3)).block, (ad.add (j * 3)).off + 1, none⟩ = some (.int .i64 (xs.getD j Nd.z).k) ∧
    w.cell? ⟨(ad.add (j * 3)).block, (ad.add (j * 3)).off + 2, none⟩ = some (.slice P m k) ∧ Rd w P m k (VI (xs.getD j Nd.z).args))
theorem RdN.keep {w w' : World} {A : Option Addr} {n c : Nat} {xs : List Nd} (h : RdN w A n c xs) (hs : w.heap.size ≤ w'.heap.size) (hk : ∀ p : Addr, p.block < w.heap.size → w'.cell? p = w.cell? p) : RdN w' A n c xs := by
  refine ⟨h.1, h.2.1, h.2.2.1, h.2.2.2.1, fun hn => ?_⟩
  obtain ⟨ad, e, hb, hc⟩ := h.2.2.2.2 hn
  refine ⟨ad, e, Nat.lt_of_lt_of_le hb hs, fun j hj => ?_⟩
  obtain ⟨P, m, k, h1, h2, h3, h4⟩ := hc j hj
  have hb' : (ad.add (j * 3)).block < w.heap.size := by rw [block_of_add]; exact hb
  exact ⟨P, m, k, (hk _ hb').trans h1, (hk ⟨(ad.add (j * 3)).block, (ad.add (j * 3)).off + 1, none⟩ hb').trans h2, (hk ⟨(ad.add (j * 3)).block, (ad.add (j * 3)).off + 2, none⟩ hb').trans h3, h4.keep hs hk⟩
theorem RdN.on {w w' : World} {A : Option Addr} {n c : Nat} {xs : List Nd} (h : RdN w A n c xs) (k : On w w') : RdN w' A n c xs :=
  h.keep k.size fun p hp => Below.cell k hp
theorem RdN.len {w : World} {A : Option Addr} {n c : Nat} {xs : List Nd} (h : RdN w A n c xs) : xs.length = n := h.1
theorem RdN.cap {w : World} {A : Option Addr} {n c : Nat} {xs : List Nd} (h : RdN w A n c xs) : n ≤ c := h.2.1
theorem RdN.max {w : World} {A : Option Addr} {n c : Nat} {xs : List Nd} (h : RdN w A n c xs) : c ≤ 9223372036854775807 := h.2.2.1
theorem RdN.nil_ (w : World) : RdN w none 0 0 [] := ⟨rfl, by omega, by omega, fun _ => rfl, fun h => absurd h (by omega)⟩
theorem RdN.at_ {w : World} {A : Option Addr} {n c : Nat} {xs : List Nd} (h : RdN w A n c xs) (j : Nat) (hj : j < n) :
    ∃ ad, A = some ad ∧ ad.block < w.heap.size ∧ ∃ (P : Option Addr) (m k : Nat),
    w.cell? (ad.add (j * 3)) = some (.int .i64 (xs.getD j Nd.z).kind) ∧ w.cell? ⟨(ad.add (j * 3)).block, (ad.add (j * 3)).off + 1, none⟩ = some (.int .i64 (xs.getD j Nd.z).k) ∧
    w.cell? ⟨(ad.add (j * 3)).block, (ad.add (j * 3)).off + 2, none⟩ = some (.slice P m k) ∧ Rd w P m k (VI (xs.getD j Nd.z).args) := by
  obtain ⟨ad, e, hb, hc⟩ := h.2.2.2.2 (by omega)
  exact ⟨ad, e, hb, hc j hj⟩
/-- Valid -/
def validB (vars : Int) (n : Nat) (arg : Int) : Bool := decide (0 ≤ vars) && decide (0 ≤ arg) && decide (arg - (n : Int) < vars)
/-- an int of the machine -/
def I64 (x : Int) : Prop := -9223372036854775808 ≤ x ∧ x ≤ 9223372036854775807
set_option maxHeartbeats 2000000 in
theorem valid_any (w : World) (vars : Int) (A : Option Addr) (n c : Nat) (top arg : Int) (hv : I64 vars) (ha : I64 arg) (hn : n ≤ 9223372036854775807) :
    Calls Try.prog 34 #[.agg #[.int .i64 vars, .slice A n c, .int .i64 top], .int .i64 arg] w fun e w' => e = .returned (.bool (validB vars n arg)) ∧ On w w' := by
  unfold I64 at hv ha
  unfold validB
  by_cases h1 : 0 ≤ vars
  · rw [decide_eq_true h1, Bool.true_and]
    by_cases h2 : 0 ≤ arg
    · rw [decide_eq_true h2, Bool.true_and]
      by_cases h3 : arg - (n : Int) < vars
      · rw [decide_eq_true h3]
        go_enter Try.func34, Try.ntmps34
        go_wp2
        go_ret
        exact ⟨rfl, (On.refl w).alloc _⟩
      · rw [decide_eq_false h3]
        go_enter Try.func34, Try.ntmps34
        go_wp2
        go_ret
        exact ⟨rfl, (On.refl w).alloc _⟩
    · rw [decide_eq_false h2, Bool.false_and]
      go_enter Try.func34, Try.ntmps34
      go_wp2
      go_ret
      exact ⟨rfl, (On.refl w).alloc _⟩
  · rw [decide_eq_false h1, Bool.false_and, Bool.false_and]
    go_enter Try.func34, Try.ntmps34
    go_wp2
    go_ret
    exact ⟨rfl, (On.refl w).alloc _⟩
set_option maxHeartbeats 2000000 in
theorem rvalid_any (w : World) (vars : Int) (A : Option Addr) (n c : Nat) (top arg : Int) (hv : I64 vars) (ha : I64 arg) (hn : n ≤ 9223372036854775807) :
    Calls Try.prog 27 #[.agg #[.int .i64 vars, .slice A n c, .int .i64 top], .int .i64 arg] w fun e w' => e = .returned (.bool (validB vars n arg)) ∧ On w w' := by
  unfold I64 at hv ha
  unfold validB
  by_cases h1 : 0 ≤ vars
  · rw [decide_eq_true h1, Bool.true_and]
    by_cases h2 : 0 ≤ arg
    · rw [decide_eq_true h2, Bool.true_and]
      by_cases h4 : arg < vars
      · have h3 : arg - (n : Int) < vars := by omega
        rw [decide_eq_true h3]
        go_enter Try.func27, Try.ntmps27
        go_wp2
        go_ret
        exact ⟨rfl, (On.refl w).alloc _⟩
      · by_cases h3 : arg - (n : Int) < vars
        · have h5 : arg - vars < (n : Int) := by omega
          rw [decide_eq_true h3]
          go_enter Try.func27, Try.ntmps27
          go_wp2
          go_ret
          exact ⟨rfl, (On.refl w).alloc _⟩
        · have h5 : ¬ arg - vars < (n : Int) := by omega
          rw [decide_eq_false h3]
          go_enter Try.func27, Try.ntmps27
          go_wp2
          go_ret
          exact ⟨rfl, (On.refl w).alloc _⟩
    · rw [decide_eq_false h2, Bool.false_and]
      go_enter Try.func27, Try.ntmps27
      go_wp2
      go_ret
      exact ⟨rfl, (On.refl w).alloc _⟩
  · rw [decide_eq_false h1, Bool.false_and, Bool.false_and]
    go_enter Try.func27, Try.ntmps27
    go_wp2
    go_ret
    exact ⟨rfl, (On.refl w).alloc _⟩
end Go.Proofs.Ytmkogcaafkobaaa.Fm
