/-
  Sets of events: the number of ones of a word of at most 24 bits, as math/bits counts them.
-/
import Derived.Laws.BitsAllLaws
import Derived.Laws.BitsLemmas
import Derived.Lib.BitFns
namespace Go.Proofs.Ythamjboppnlpdaa.Sb
set_option linter.unusedVariables false
theorem and_step (a b : Nat) : a &&& b = (a % 256 &&& b % 256) + 256 * (a / 256 &&& b / 256) := by
  have h1 : (a &&& b) % 256 = (a % 256 &&& b % 256) := Nat.and_mod_two_pow (n := 8)
  have h2 : (a &&& b) / 256 = (a / 256 &&& b / 256) := by
    have := Nat.shiftRight_and_distrib (a := a) (b := b) (i := 8)
    simpa [Nat.shiftRight_eq_div_pow] using this
  omega
/-- an and with the same mask on three bytes -/
theorem and_bytes (a0 a1 a2 m M : Nat) (h0 : a0 < 256) (h1 : a1 < 256) (h2 : a2 < 256) (hm : M % 256 = m) (hm1 : M / 256 % 256 = m) (hm2 : M / 256 / 256 % 256 = m) :
    (a0 + 256 * a1 + 65536 * a2) &&& M = (a0 &&& m) + 256 * (a1 &&& m) + 65536 * (a2 &&& m) := by
  rw [and_step (a0 + 256 * a1 + 65536 * a2) M, hm, show (a0 + 256 * a1 + 65536 * a2) % 256 = a0 by omega, show (a0 + 256 * a1 + 65536 * a2) / 256 = a1 + 256 * a2 by omega,
    and_step (a1 + 256 * a2) (M / 256), hm1, show (a1 + 256 * a2) % 256 = a1 by omega, show (a1 + 256 * a2) / 256 = a2 by omega,
    and_step a2 (M / 256 / 256), hm2, show a2 % 256 = a2 by omega, show a2 / 256 = 0 by omega, Nat.zero_and]
  omega
def y8 (b : Nat) : Nat := (b / 2 &&& 85) + (b &&& 85)
def z8 (b : Nat) : Nat := (y8 b / 4 &&& 51) + (y8 b &&& 51)
def p8 (b : Nat) : Nat := (z8 b / 16 + z8 b) &&& 15
theorem y8_lt : ∀ b, b < 256 → y8 b < 256 := by decide +kernel
theorem z8_lt : ∀ b, b < 256 → z8 b < 256 ∧ z8 b % 16 ≤ 4 ∧ z8 b / 16 ≤ 4 := by decide +kernel
theorem p8_pop : ∀ b, b < 256 → p8 b = Lib.popAux 8 b := by decide +kernel
theorem p8_le : ∀ b, b < 256 → p8 b ≤ 8 := by decide +kernel
theorem m1 : ∀ c, c < 2 → ∀ b, b < 128 → (b + 128 * c) &&& 85 = b &&& 85 := by decide +kernel
theorem m2 : ∀ c, c < 4 → ∀ b, b < 64 → (b + 64 * c) &&& 51 = b &&& 51 := by decide +kernel
theorem m3 : ∀ c, c < 5 → ∀ b, b < 80 → (b + 16 * c) &&& 15 = b &&& 15 := by decide +kernel
theorem step1 (b0 b1 b2 : Nat) (h0 : b0 < 256) (h1 : b1 < 256) (h2 : b2 < 256) :
    ((b0 + 256 * b1 + 65536 * b2) / 2 &&& 6148914691236517205) + ((b0 + 256 * b1 + 65536 * b2) &&& 6148914691236517205) = y8 b0 + 256 * y8 b1 + 65536 * y8 b2 := by
  rw [show (b0 + 256 * b1 + 65536 * b2) / 2 = (b0 / 2 + 128 * (b1 % 2)) + 256 * (b1 / 2 + 128 * (b2 % 2)) + 65536 * (b2 / 2) by omega,
    and_bytes _ _ _ 85 _ (by omega) (by omega) (by omega) (by decide) (by decide) (by decide), and_bytes _ _ _ 85 _ h0 h1 h2 (by decide) (by decide) (by decide),
    m1 _ (by omega) _ (by omega), m1 _ (by omega) _ (by omega)]
  unfold y8; omega
theorem step2 (b0 b1 b2 : Nat) (h0 : b0 < 256) (h1 : b1 < 256) (h2 : b2 < 256) :
    ((y8 b0 + 256 * y8 b1 + 65536 * y8 b2) / 4 &&& 3689348814741910323) + ((y8 b0 + 256 * y8 b1 + 65536 * y8 b2) &&& 3689348814741910323) = z8 b0 + 256 * z8 b1 + 65536 * z8 b2 := by
  have g0 := y8_lt b0 h0; have g1 := y8_lt b1 h1; have g2 := y8_lt b2 h2
  unfold z8
  generalize y8 b0 = a0 at *; generalize y8 b1 = a1 at *; generalize y8 b2 = a2 at *
  rw [show (a0 + 256 * a1 + 65536 * a2) / 4 = (a0 / 4 + 64 * (a1 % 4)) + 256 * (a1 / 4 + 64 * (a2 % 4)) + 65536 * (a2 / 4) by omega,
    and_bytes _ _ _ 51 _ (by omega) (by omega) (by omega) (by decide) (by decide) (by decide), and_bytes _ _ _ 51 _ g0 g1 g2 (by decide) (by decide) (by decide),
    m2 _ (by omega) _ (by omega), m2 _ (by omega) _ (by omega)]
  omega
theorem step3 (b0 b1 b2 : Nat) (h0 : b0 < 256) (h1 : b1 < 256) (h2 : b2 < 256) :
    ((z8 b0 + 256 * z8 b1 + 65536 * z8 b2) / 16 + (z8 b0 + 256 * z8 b1 + 65536 * z8 b2)) &&& 1085102592571150095 = p8 b0 + 256 * p8 b1 + 65536 * p8 b2 := by
  have g0 := z8_lt b0 h0; have g1 := z8_lt b1 h1; have g2 := z8_lt b2 h2
  unfold p8
  generalize z8 b0 = a0 at *; generalize z8 b1 = a1 at *; generalize z8 b2 = a2 at *
  rw [show (a0 + 256 * a1 + 65536 * a2) / 16 + (a0 + 256 * a1 + 65536 * a2) = ((a0 / 16 + a0) + 16 * (a1 % 16)) + 256 * ((a1 / 16 + a1) + 16 * (a2 % 16)) + 65536 * (a2 / 16 + a2) by omega,
    and_bytes _ _ _ 15 _ (by omega) (by omega) (by omega) (by decide) (by decide) (by decide),
    m3 _ (by omega) _ (by omega), m3 _ (by omega) _ (by omega)]
theorem pop_split (f g c : Nat) : Lib.popAux (f + g) c = Lib.popAux f c + Lib.popAux g (c / 2 ^ f) := by
  induction f generalizing c with
  | zero => simp [Lib.popAux]
  | succ f ih =>
    rw [show f + 1 + g = (f + g) + 1 by omega, Lib.popAux, Lib.popAux, ih, Nat.div_div_eq_div_mul, Nat.pow_succ', Nat.add_assoc]
theorem pop8_mod (c : Nat) : Lib.popAux 8 c = Lib.popAux 8 (c % 256) := by
  simp only [Lib.popAux]; omega
theorem pop24 (c : Nat) (hc : c < 16777216) : Lib.popAux 24 c = p8 (c % 256) + p8 (c / 256 % 256) + p8 (c / 65536) := by
  rw [show (24 : Nat) = 8 + (8 + 8) from rfl, pop_split, pop_split, pop8_mod c, pop8_mod (c / 2 ^ 8), Nat.div_div_eq_div_mul, ← p8_pop _ (by omega), ← p8_pop _ (by omega), ← p8_pop _ (by omega)]
  simp only [Nat.reducePow, Nat.reduceMul]; omega
/-- the road of math/bits, over numbers -/
def road1 (x : Nat) : Nat := (x / 2 &&& 6148914691236517205) + (x &&& 6148914691236517205)
def road2 (x : Nat) : Nat := (x / 4 &&& 3689348814741910323) + (x &&& 3689348814741910323)
def road3 (x : Nat) : Nat := (x / 16 + x) &&& 1085102592571150095
theorem road_lt (c : Nat) (hc : c < 16777216) : road1 c < 16777216 ∧ road2 (road1 c) < 16777216 ∧ road3 (road2 (road1 c)) = p8 (c % 256) + 256 * p8 (c / 256 % 256) + 65536 * p8 (c / 65536) := by
  have e : c = c % 256 + 256 * (c / 256 % 256) + 65536 * (c / 65536) := by omega
  have h0 : c % 256 < 256 := by omega
  have h1 : c / 256 % 256 < 256 := by omega
  have h2 : c / 65536 < 256 := by omega
  generalize c % 256 = b0 at *; generalize c / 256 % 256 = b1 at *; generalize c / 65536 = b2 at *
  have e1 : road1 c = y8 b0 + 256 * y8 b1 + 65536 * y8 b2 := by rw [e]; exact step1 b0 b1 b2 h0 h1 h2
  have e2 : road2 (road1 c) = z8 b0 + 256 * z8 b1 + 65536 * z8 b2 := by rw [e1]; exact step2 b0 b1 b2 h0 h1 h2
  have g0 := y8_lt b0 h0; have g1 := y8_lt b1 h1; have g2 := y8_lt b2 h2
  have k0 := z8_lt b0 h0; have k1 := z8_lt b1 h1; have k2 := z8_lt b2 h2
  refine ⟨by omega, by omega, ?_⟩
  rw [e2]; exact step3 b0 b1 b2 h0 h1 h2
theorem road_all (c : Nat) (hc : c < 16777216) : ∃ y, road3 (road2 (road1 c)) = y ∧ y < 16777216 ∧ ((y + y / 256) + (y + y / 256) / 65536) % 128 = Lib.popAux 24 c := by
  obtain ⟨_, _, e⟩ := road_lt c hc
  refine ⟨_, e, ?_, ?_⟩
  · have := p8_le (c % 256) (by omega); have := p8_le (c / 256 % 256) (by omega); have := p8_le (c / 65536) (by omega)
    omega
  · rw [pop24 c hc]
    have h0 := p8_le (c % 256) (by omega); have h1 := p8_le (c / 256 % 256) (by omega); have h2 := p8_le (c / 65536) (by omega)
    generalize p8 (c % 256) = a at *; generalize p8 (c / 256 % 256) = b at *; generalize p8 (c / 65536) = d at *
    clear e
    have e1 : (a + 256 * b + 65536 * d) / 256 = b + 256 * d := by omega
    rw [e1]
    have e2 : (a + 256 * b + 65536 * d + (b + 256 * d)) / 65536 = d := by omega
    rw [e2]; omega
end Go.Proofs.Ythamjboppnlpdaa.Sb
