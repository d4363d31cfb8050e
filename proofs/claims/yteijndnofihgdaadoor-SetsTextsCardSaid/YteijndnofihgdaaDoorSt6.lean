/-
  The specification's Parse of sets, as a whole.
-/
import Derived.Test.YteijndnofihgdaaDoorSt5
namespace Go.Proofs.YteijndnofihgdaaDoor.Sb
open Go.RowKit Go.Lib
set_option linter.unusedVariables false
set_option maxRecDepth 100000
abbrev RpC (b : ByteArray) (x : Int) (c : Int) : Prop := ∀ w : World, Calls Tryd.prog 45 #[.string b] w fun e w' => e = .returned (.tuple #[.int .i64 x, .int .i64 c]) ∧ w = w'
set_option maxHeartbeats 1000000 in
theorem rp_brace (b : ByteArray) (h : (b.toList == ([123, 125] : List UInt8)) = true) : RpC b 0 0 := by
  intro w
  go_enter Tryd.func45, Tryd.ntmps45
  go_wp2
  go_ret2
  exact ⟨rfl, rfl⟩
set_option maxHeartbeats 1000000 in
theorem rp_short (b : ByteArray) (n : Nat) (h : (b.toList == ([123, 125] : List UInt8)) = false) (hs : b.size = n) (hn : (n : Int) < 3) : RpC b 0 2 := by
  intro w
  go_enter Tryd.func45, Tryd.ntmps45
  go_wp2
  go_ret2
  exact ⟨rfl, rfl⟩
set_option maxHeartbeats 1000000 in
theorem rp_first (b : ByteArray) (n x : Nat) (h : (b.toList == ([123, 125] : List UInt8)) = false) (hs : b.size = n) (hn : (3 : Int) ≤ (n : Int)) (hn0 : 0 < n) (h0 : ∀ h, (b[0]'h).toNat = x) (hx : ¬ (x : Int) = 123) : RpC b 0 2 := by
  intro w
  go_enter Tryd.func45, Tryd.ntmps45
  go_wp2
  go_ret2
  exact ⟨rfl, rfl⟩
set_option maxHeartbeats 1000000 in
theorem rp_last (b : ByteArray) (n m y : Nat) (hl : n ≤ 1000) (h : (b.toList == ([123, 125] : List UInt8)) = false) (hs : b.size = n) (hn : (3 : Int) ≤ (n : Int)) (hn0 : 0 < n) (h0 : ∀ h, (b[0]'h).toNat = 123) (em : (n : Int) - 1 = (m : Int)) (hm2 : (m : Int) < (n : Int)) (h1 : ∀ h, (b[m]'h).toNat = y) (hy : ¬ (y : Int) = 125) : RpC b 0 2 := by
  intro w
  have hyb : ((y : Int) != 125) = true := by simpa using hy
  go_enter Tryd.func45, Tryd.ntmps45
  go_wp2
  go_ret2
  exact ⟨rfl, rfl⟩
theorem str_at (s : List UInt8) (i : Nat) (hi : i < s.length) (d : UInt8) (hd : s[i] = d) : ∀ h, ((str s)[i]'h).toNat = d.toNat := by
  intro h
  rw [← hd]
  rfl
theorem u8_inj (a : UInt8) (n : Nat) (hn : n < 256) (h : a.toNat = n) : a = UInt8.ofNat n := by
  apply UInt8.toNat_inj.1
  rw [h]
  simp; omega
theorem rparse_any (w : World) (s : List UInt8) (hl : s.length ≤ 1000) :
    Calls Tryd.prog 45 #[.string (str s)] w fun e w' => e = .returned (.tuple #[.int .i64 (parseR s).1, .int .i64 ((parseR s).2 : Nat)]) ∧ On w w' := by
  have lift : ∀ x c, RpC (str s) x c → Calls Tryd.prog 45 #[.string (str s)] w fun e w' => e = .returned (.tuple #[.int .i64 x, .int .i64 c]) ∧ On w w' := fun x c h => (h w).mono fun e w' ⟨h1, h2⟩ => ⟨h1, by rw [← h2]; exact On.refl _⟩
  by_cases hb : s = [123, 125]
  · subst hb
    exact lift 0 0 (rp_brace _ (by rw [str_toList]; rfl))
  · have hbe : ((str s).toList == ([123, 125] : List UInt8)) = false := by rw [str_toList, beq_eq_false_iff_ne]; exact hb
    have hsz := str_size s
    by_cases h3 : s.length < 3
    · have hR : parseR s = (0, 2) := by
        unfold parseR
        rw [if_neg]
        rintro ⟨h1, h2⟩
        rcases s with _ | ⟨a, _ | ⟨c, _ | ⟨d, r⟩⟩⟩
        · simp at h1
        · simp at h2
        · simp at h1 h2
          exact hb (by rw [h1, h2])
        · simp at h3
          omega
      rw [hR]
      exact lift 0 2 (rp_short _ s.length hbe hsz (by omega))
    · have h3' : (3 : Int) ≤ (s.length : Int) := by omega
      have h0p : 0 < s.length := by omega
      rcases s with _ | ⟨a, u⟩
      · simp at h0p
      · by_cases ha : a = 123
        · subst ha
          have hune : u ≠ [] := by rintro rfl; simp at h3
          obtain ⟨v, z, rfl⟩ : ∃ v z, u = v ++ [z] := ⟨u.dropLast, u.getLast hune, (List.dropLast_concat_getLast hune).symm⟩
          have hlen : ((123 : UInt8) :: (v ++ [z])).length = v.length + 2 := by simp
          have hat : ((123 : UInt8) :: (v ++ [z]))[v.length + 1]'(by rw [hlen]; omega) = z := by simp
          have h1 := str_at ((123 : UInt8) :: (v ++ [z])) (v.length + 1) (by rw [hlen]; omega) z hat
          have h0 := str_at ((123 : UInt8) :: (v ++ [z])) 0 h0p 123 rfl
          rw [hlen] at hsz h3' h3 hl
          by_cases hz : z = 125
          · subst hz
            have hvne : v ≠ [] := by
              rintro rfl
              exact hb rfl
            have hR : parseR (123 :: (v ++ [125])) = restE 0 (-1) true true v := by
              unfold parseR
              rw [if_pos ⟨rfl, by simp⟩]
              have : ((123 : UInt8) :: (v ++ [125])).tail.dropLast = v := by simp
              rw [this, if_neg hvne]
            rw [hR]
            refine rparse_mid w _ (v.length + 2) (v.length + 1) v hl hsz rfl (by omega) ?_ h0 h1 ?_ (by omega)
            · rw [str_toList]; exact hb
            · rw [str_ext]
              congr 1
              simp
          · have hR : parseR (123 :: (v ++ [z])) = (0, 2) := by
              unfold parseR
              rw [if_neg]
              rintro ⟨_, h2⟩
              simp at h2
              exact hz h2
            rw [hR]
            exact lift 0 2 (rp_last _ (v.length + 2) (v.length + 1) z.toNat hl hbe hsz h3' (by omega) h0 (by omega) (by omega) h1 (fun e => hz (u8_inj z 125 (by decide) (by omega))))
        · have hR : parseR (a :: u) = (0, 2) := by
            unfold parseR
            rw [if_neg]
            rintro ⟨h1, _⟩
            simp at h1
            exact ha h1
          rw [hR]
          have h0 := str_at (a :: u) 0 h0p a rfl
          exact lift 0 2 (rp_first _ (a :: u).length a.toNat hbe hsz h3' h0p h0 (fun e => ha (u8_inj a 123 (by decide) (by omega))))
end Go.Proofs.YteijndnofihgdaaDoor.Sb
