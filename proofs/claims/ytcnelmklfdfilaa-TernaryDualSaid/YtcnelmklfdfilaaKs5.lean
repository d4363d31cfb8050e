/-
  The program's three values: Next.
-/
import Derived.Test.YtcnelmklfdfilaaKs4
namespace Go.Proofs.Ytcnelmklfdfilaa.Fm
open Go.RowKit Go.Proofs.Ytcnelmklfdfilaa.Sb
set_option linter.unusedVariables false
set_option maxRecDepth 100000
set_option maxHeartbeats 4000000 in
/-- the closure: whether an argument is unknown -/
theorem tunk_any (w : World) (vars n c g q b : Nat) (top : Int) (A : Option Addr) (vs : List Nat) (y nn a : Nat) (hQ : Own w q 24 #[.int .i64 (vars : Int), .slice A n c, .int .i64 top]) (hK : Own w (q + 1) 26 #[.int .i64 (y : Int), .int .i64 (nn : Int)]) (hB : Own w b 33 #[.slice (some ⟨g, 0, none⟩) n n]) (hG : Own w g 3 (VI (ints vs)).toArray) (hl : vs.length = n) (hn : n ≤ 128) (hy : y < 16777216) (hnn : nn < 16777216) (hv : vars ≤ 24) (ha : a < vars + n) :
    Calls Try.prog 33 #[.int .i64 (a : Int), .pointer (some ⟨q, 0, none⟩), .pointer (some ⟨q + 1, 0, none⟩), .pointer (some ⟨b, 0, none⟩)] w fun e w' => e = .returned (.bool (decide (argT vars vs y nn a = 2))) ∧ On w w' := by
  have hV := tof_any w vars top A n c (some ⟨g, 0, none⟩) n n vs y nn a (own_rdI hG hl (by omega)) hy hnn hv ha
  obtain ⟨v, hve⟩ : ∃ v, argT vars vs y nn a = v := ⟨_, rfl⟩
  rw [hve] at hV ⊢
  obtain ⟨r0, r1, r2⟩ := own3 hQ
  obtain ⟨k0, k1⟩ := own2 hK
  have b0 : w.cell? ⟨b, 0, none⟩ = some (.slice (some ⟨g, 0, none⟩) n n) := by rw [hB.cell]; rfl
  have e2 : decide (v = 2) = decide ((v : Int) = 2) := by rw [Bool.eq_iff_iff]; simp; omega
  rw [e2]
  clear hQ hK hB hG hve e2
  go_enter Try.func33, Try.ntmps33
  go_wp2_with fail
  refine hV.mono ?_
  rintro e w1 ⟨rfl, P1⟩
  clear hV
  go_wp2
  go_ret
  exact ⟨by first | rfl | (congr 2), P1⟩
set_option maxHeartbeats 4000000 in
/-- the first element of a list of ints that a closure of Next accepts -/
theorem index_any (w : World) (P : Option Addr) (m k : Nat) (args : List Nat) (hR : Rd w P m k (VI (ints args))) (hm : m ≤ 16) (p : Nat → Bool) (v1 v2 v3 : Value)
    (hp : ∀ W a, On w W → a ∈ args → Calls Try.prog 33 #[.int .i64 (a : Int), v1, v2, v3] W fun e w' => e = .returned (.bool (p a)) ∧ On W w')
    (t : Nat) (ht : t < m) (hb : ∀ s, s < t → p (args.getD s 0) = false) (h2 : p (args.getD t 0) = true) :
    Calls Try.prog 32 #[.slice P m k, .func (.func 33) #[] #[v1, v2, v3]] w fun e w' => e = .returned (.int .i64 (t : Int)) ∧ On w w' := by
  have hcap := hR.cap
  have hmax := hR.max
  have hl : args.length = m := by have := VI_len hR; rwa [ints_length] at this
  have HR := Lib.hid (And.intro hR (And.intro hl (And.intro hp (And.intro hb h2))))
  clear hR hl hp hb h2
  go_enter Try.func32, Try.ntmps32
  go_wp2
  go_loopw [8] (fun j wr => ∃ s : Nat, s ≤ t ∧ j = .int .i64 (s : Int) ∧ On w wr) (fun j _ => m - (intOf j).toNat)
  case atStart => exact ⟨0, by omega, rfl, On.refl w⟩
  case round =>
    obtain ⟨s, hs, rfl, hon⟩ := hrel
    have hsm : s < m := by omega
    obtain ⟨ad, rfl, hb2, hc⟩ := VI_at (HR.out.1.on hon) hsm
    have hl2 : s < args.length := by rw [HR.out.2.1]; exact hsm
    rw [ints_getD hl2] at hc
    have hP := HR.out.2.2.1 wr _ hon (getD_memN hl2)
    have hbs := HR.out.2.2.2.1 s
    have h2 := HR.out.2.2.2.2
    by_cases hst : s = t
    · subst hst
      rw [h2] at hP
      obtain ⟨a, hae⟩ : ∃ a, args.getD s 0 = a := ⟨_, rfl⟩
      rw [hae] at hc hP
      clear hae h2 hbs hl2
      go_wp2_with fail
      refine hP.mono ?_
      rintro e w1 ⟨rfl, P1⟩
      clear hP
      go_wp2
      go_ret
      exact ⟨rfl, hon.trans P1⟩
    · rw [hbs (by omega)] at hP
      obtain ⟨a, hae⟩ : ∃ a, args.getD s 0 = a := ⟨_, rfl⟩
      rw [hae] at hc hP
      clear hae h2 hbs hl2
      go_wp2_with fail
      refine hP.mono ?_
      rintro e w1 ⟨rfl, P1⟩
      clear hP
      go_wp2
      go_roundw
      case rel => exact ⟨s + 1, by omega, by go_num, hon.trans P1⟩
      case measure => simp [intOf] <;> omega
end Go.Proofs.Ytcnelmklfdfilaa.Fm
