/-
  The specification's Gcd.
-/
import Derived.Test.YtkpeliokhmigoaaRdiv
import Derived.Deep.LoopGhost
namespace Go.Proofs.Ytkpeliokhmigoaa
open Go.RowKit
set_option linter.unusedVariables false
namespace Num
set_option maxRecDepth 100000 in
set_option maxHeartbeats 1000000 in
theorem rgcd_any (w : World) (A A' : Option Addr) (n c n' c' L : Nat) (xs ys : List Nat) (h : Rd w A n c xs) (k : Rd w A' n' c' ys) (hn : n ≤ L) (hn' : n' ≤ L) (hL : L ≤ 10000) :
    Calls Try.prog 39 #[.slice A n c, .slice A' n' c'] w (Gives w (Nat.gcd (val xs) (val ys)) L) := by
  obtain ⟨gg, hg⟩ : ∃ gg, Nat.gcd (val xs) (val ys) = gg := ⟨_, rfl⟩
  rw [hg]
  have HG0 := Lib.hid hg
  clear hg
  go_enter Try.func39, Try.ntmps39
  go_wp2_with fail
  refine (rtrim_any _ _ _ _ L _ h (by have := tl_le xs; rw [h.len] at this; omega) (by omega)).mono ?_
  rintro e w1 ⟨A1, n1, c1, rfl, ⟨as1, R1, C1, V1, L1⟩, P1⟩
  go_wp2_with fail
  refine (rtrim_any _ _ _ _ L _ (k.on P1) (by have := tl_le ys; rw [k.len] at this; omega) (by omega)).mono ?_
  rintro e w2 ⟨A2, n2, c2, rfl, ⟨bs1, R2, C2, V2, L2⟩, P2⟩
  have R1' := R1.on P2
  have hon := P1.trans P2
  have HG : Hid (Nat.gcd (val as1) (val bs1) = gg) := Lib.hid (by rw [V1, V2]; exact HG0.out)
  clear h k R1 P1 P2 V1 V2 HG0
  go_wp2
  go_loopg [0, 1] (val bs1) (fun gh s0 s1 wr => ∃ (A1 : Option Addr) (n1 c1 : Nat) (l1 : List Nat) (A2 : Option Addr) (n2 c2 : Nat) (l2 : List Nat), s0 = .slice A1 n1 c1 ∧ s1 = .slice A2 n2 c2 ∧ Rd wr A1 n1 c1 l1 ∧ Rd wr A2 n2 c2 l2 ∧ Clean l1 ∧ Clean l2 ∧ n1 ≤ L ∧ n2 ≤ L ∧ val l2 ≤ gh ∧ Nat.gcd (val l1) (val l2) = gg ∧ On w wr)
  case atStart => exact ⟨A1, n1, c1, as1, A2, n2, c2, bs1, rfl, rfl, R1', R2, C1, C2, L1, L2, Nat.le_refl _, HG.out, hon⟩
  case round =>
    clear R1' R2 C1 C2 L1 L2 hon HG
    obtain ⟨A1, n1, c1, l1, A2, n2, c2, l2, rfl, rfl, R1, R2, C1, C2, h1, h2, hgh, hg, hon⟩ := hrel
    have HG := Lib.hid hg
    clear hg
    by_cases h0 : 0 < n2
    · have hp2 : 0 < val l2 := val_pos C2 (by rw [R2.len]; omega)
      go_wp2_with fail
      refine (rdiv_pos _ _ _ _ _ _ _ _ _ R1 R2 (by omega) (by omega) hp2).mono ?_
      rintro e w3 ⟨A5, n5, c5, A6, n6, c6, rfl, _, ⟨rs, RR, CR, VR, LR⟩, hon3⟩
      have hlt : val rs < val l2 := by rw [VR]; exact Nat.mod_lt _ hp2
      have HG2 : Hid (Nat.gcd (val l2) (val rs) = gg) := Lib.hid (by rw [VR, Nat.gcd_comm, ← Nat.gcd_rec, Nat.gcd_comm, HG.out])
      clear VR
      go_wp2
      go_roundg (val rs)
      case measure => omega
      case rel => exact ⟨_, _, _, l2, _, _, _, rs, rfl, rfl, R2.on hon3, RR, C2, CR, h2, by omega, Nat.le_refl _, HG2.out, hon.trans hon3⟩
    · obtain rfl : n2 = 0 := by omega
      obtain rfl := List.eq_nil_of_length_eq_zero R2.len
      have hgz : gg = val l1 := by rw [← HG.out]; simp [val]
      have HGZ := Lib.hid hgz
      clear hgz
      go_wp2
      go_ret
      exact ⟨_, _, _, rfl, ⟨l1, R1, C1, HGZ.out.symm, h1⟩, hon⟩
end Num
end Go.Proofs.Ytkpeliokhmigoaa
