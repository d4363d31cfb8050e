/-
  The specification's Parse.
-/
import Derived.Test.YtkchpagjkgmpmaaRatA
import Derived.Test.YtkchpagjkgmpmaaRatB
import Derived.Deep.RegionHeld3
namespace Go.Proofs.Ytkchpagjkgmpmaa
open Go.RowKit
set_option linter.unusedVariables false
namespace Num
theorem textB_bad' (s : ByteArray) (k : Nat) (h : k < s.size) (hk : ¬ (48 ≤ gw (bl s) k ∧ gw (bl s) k ≤ 57)) : textB s = false := by
  unfold textB
  apply decide_eq_false
  intro h1
  exact hk (h1.digs.get (by rw [bl_length]; exact h))
theorem textB_one (s : ByteArray) (h : s.size = 1) (h0 : gw (bl s) 0 = 48) : textB s = true := by
  unfold textB
  apply decide_eq_true
  left
  have hl : (bl s).length = 1 := by rw [bl_length, h]
  obtain ⟨x, hx⟩ := List.length_eq_one_iff.1 hl
  rw [hx] at h0 ⊢
  simp [gw] at h0
  rw [h0]
theorem textB_lead (s : ByteArray) (h : 1 < s.size) (h0 : gw (bl s) 0 = 48) : textB s = false := by
  unfold textB
  apply decide_eq_false
  rintro (h1 | ⟨_, h1, _⟩)
  · have := bl_length s
    rw [h1] at this
    simp at this
    omega
  · exact h1 h0
theorem rd_empty (w : World) (t : TypeId) : Rd (w.alloc (.cells #[] t)) (some ⟨w.heap.size, 0, none⟩) 0 0 [] := ⟨rfl, by omega, by omega, Ok.nil, fun _ => rfl, fun h => absurd h (by omega)⟩
/-- what a call of the specification's Parse says -/
def RParse (w : World) (s : ByteArray) (e : Ending) (w' : World) : Prop :=
  (textB s = true ∧ Gives2 w (dv (bl s)) s.size (.int .i64 0) e w') ∨ (textB s = false ∧ e = .returned (.tuple #[.slice none 0 0, .int .i64 2]) ∧ On w w')
set_option maxHeartbeats 400000 in
theorem rparse_large (w : World) (s : ByteArray) (hs : 65536 < s.size) (hs2 : s.size ≤ 9223372036854775807) :
    Calls Try.prog 50 #[.string s] w fun e w' => e = .returned (.tuple #[.slice none 0 0, .int .i64 4]) ∧ w' = w := by
  go_enter Try.func50, Try.ntmps50
  go_wp2
  go_ret2
  exact ⟨rfl, rfl⟩
set_option maxHeartbeats 400000 in
theorem rparse_nil (w : World) (s : ByteArray) (hz : s.size = 0) :
    Calls Try.prog 50 #[.string s] w (RParse w s) := by
  have e1 := (toList_nil_iff s).2 hz
  have HB := Lib.hid (textB_nil s hz)
  have hs : s.size ≤ 0 := by omega
  clear hz
  go_enter Try.func50, Try.ntmps50
  go_wp2
  go_ret2
  exact .inr ⟨HB.out, rfl, On.refl _⟩
set_option maxHeartbeats 400000 in
theorem rparse_lead (w : World) (s : ByteArray) (hs : s.size ≤ 10000) (h1 : 1 < s.size) (h0 : gw (bl s) 0 = 48) :
    Calls Try.prog 50 #[.string s] w (RParse w s) := by
  have hz : 0 < s.size := by omega
  have hne : ¬ s.toList = [] := fun e => by have := (toList_nil_iff s).1 e; omega
  have e1 : s.toList.isEmpty = false := by simp [hne]
  have hg := bl_get s 0 hz
  have e2 : ((s[0].toNat : Int) == 48) = true := by rw [← hg, h0]; rfl
  have HB := Lib.hid (textB_lead s h1 h0)
  clear h0 hg
  go_enter Try.func50, Try.ntmps50
  go_wp2
  go_ret2
  exact .inr ⟨HB.out, rfl, On.refl _⟩
set_option maxRecDepth 100000 in
set_option maxHeartbeats 2000000 in
theorem rparse_a (w : World) (s : ByteArray) (hs : s.size ≤ 10000) (hz : 0 < s.size) (hc : gw (bl s) 0 ≠ 48) :
    Calls Try.prog 50 #[.string s] w (RParse w s) := by
  have hne : ¬ s.toList = [] := fun e => by have := (toList_nil_iff s).1 e; omega
  have e1 : s.toList.isEmpty = false := by simp [hne]
  have hg := bl_get s 0 hz
  have e2 : ((s[0].toNat : Int) == 48) = false := by rw [← hg]; simp; omega
  have HGOOD : Hid (IsDig (bl s) → textB s = true) := Lib.hid (fun hd => textB_good s hz hc hd)
  have HBAD : Hid (∀ k, k < s.size → ¬ (48 ≤ gw (bl s) k ∧ gw (bl s) k ≤ 57) → textB s = false) := Lib.hid (fun k hk hb => textB_bad' s k hk hb)
  clear hc hg
  go_enter Try.func50, Try.ntmps50
  go_wp2
  go_loopw [4, 24] (fun s4 i wr => ∃ (k : Nat) (A : Option Addr) (n c : Nat) (xs : List Nat), k ≤ s.size ∧ i = .int .i64 (k : Int) ∧ s4 = .slice A n c ∧ Rd wr A n c xs ∧ Clean xs ∧ n ≤ k ∧ val xs = dv ((bl s).take k) ∧ IsDig ((bl s).take k) ∧ On w wr) (fun _ i _ => s.size - (intOf i).toNat)
  case atStart => exact ⟨0, _, 0, 0, [], by omega, rfl, rfl, rd_empty w _, clean_nil, Nat.le_refl _, rfl, by intro b hb; simp at hb, (On.refl w).alloc _⟩
  case round =>
    obtain ⟨k, A, n, c, xs, hk, rfl, rfl, R, C, hn, hv, hd, hon⟩ := hrel
    have HD := Lib.hid hd
    have HV := Lib.hid hv
    clear hd hv
    by_cases hlt : k < s.size
    · have hgk := bl_get s k hlt
      by_cases hdig : 48 ≤ s[k].toNat ∧ s[k].toNat ≤ 57
      · obtain ⟨d1, d2⟩ := hdig
        have HK := Lib.hid ((isDig_take_succ (bl s) k (by rw [bl_length]; exact hlt)).2 ⟨HD.out, by rw [hgk]; exact d1, by rw [hgk]; exact d2⟩)
        have HT := Lib.hid (dv_take_succ (bl s) k (by rw [bl_length]; exact hlt))
        have HGK := Lib.hid hgk
        clear hgk
        have k0 : (0 : Int) ≤ (k : Int) := by omega
        have k1 : (k : Int) < (s.size : Int) := by omega
        go_wp2
        have kw : IntKind.u8.wrap ((s[k].toNat : Int) - 48) = (s[k].toNat : Int) - 48 := by rw [IntKind.wrap_u8]; omega
        have kw2 : IntKind.i64.wrap ((s[k].toNat : Int) - 48) = (s[k].toNat : Int) - 48 := IntWalk.i64_in _ (by omega)
        go_region_held3 (fun W => On wr W)
          (first | exact (On.refl wr).drew | assumption | exact On.trans (by assumption) Pt | exact On.trans (by assumption) Pm | exact On.trans (by assumption) Pa)
          (first
            | (go_at_call 90; refine (rmul_any _ _ _ _ _ _ _ (n + 2) _ _ (R.on ?_) Rt ?_ ?_ ?_).mono ?_; assumption; omega; omega; omega; rintro e w' ⟨Am, nm, cm, rfl, ⟨xm, Rm, Cm, Vm, Lm⟩, Pm⟩; rw [Vt] at Vm)
            | (go_at_call 91; refine (radd_any _ _ _ _ _ _ _ (n + 2) _ _ (Rm.on Pt) Rt ?_ ?_ ?_ ?_).mono ?_; omega; omega; omega; omega; rintro e w' ⟨Aa, na, ca, rfl, ⟨xa, Ra, Ca, Va, La⟩, Pa⟩)
            | (go_at_call 92; refine (rof_any _ _ ?_ ?_).mono ?_; omega; omega; rintro e w' ⟨At, nt, ct, rfl, ⟨xt, Rt, Ct, Vt, Lt⟩, Pt⟩))
        all_goals
          rename_i hHe
          have hva : val xa = dv ((bl s).take (k + 1)) := by
            rw [Va, Vm, Vt, HV.out, HT.out, HGK.out, show Int.toNat 10 = 10 from rfl]; omega
          have hln := clean_len Ca (k + 1) (by
            rw [hva]
            have h1 := dv_lt HK.out
            rw [List.length_take, bl_length, Nat.min_eq_left (by omega)] at h1
            exact Nat.lt_of_lt_of_le h1 (Nat.pow_le_pow_left (by decide) _))
          rw [Ra.len] at hln
          have HVA := Lib.hid hva
          have honf := Lib.hid (hon.trans hHe)
          clear hva Va Vm Vt hHe Pa Pt Pm Rt Rm Ct Cm R
          go_wp2
          exact ⟨⟨k + 1, Aa, na, ca, xa, by omega, by go_num, rfl, Ra, Ca, hln, HVA.out, HK.out, honf.out⟩, by simp [intOf]; omega⟩
      · have HB := Lib.hid (HBAD.out k hlt (by rw [hgk]; exact hdig))
        clear hgk
        by_cases d1 : 48 ≤ s[k].toNat
        · have d2 : ¬ s[k].toNat ≤ 57 := fun e => hdig ⟨d1, e⟩
          clear hdig
          go_wp2
          go_ret2
          exact .inr ⟨HB.out, rfl, hon⟩
        · clear hdig
          go_wp2
          go_ret2
          exact .inr ⟨HB.out, rfl, hon⟩
    · obtain rfl : k = s.size := by omega
      have hall : (bl s).take s.size = bl s := List.take_of_length_le (by rw [bl_length]; exact Nat.le_refl _)
      have HA := Lib.hid hall
      clear hall
      go_wp2
      go_ret2
      exact .inl ⟨HGOOD.out (by rw [← HA.out]; exact HD.out), _, _, _, rfl, ⟨xs, R, C, by rw [HV.out, HA.out], hn⟩, hon⟩
set_option maxRecDepth 100000 in
set_option maxHeartbeats 2000000 in
theorem rparse_b (w : World) (s : ByteArray) (hs : s.size ≤ 10000) (hz : 0 < s.size) (hc : gw (bl s) 0 = 48 ∧ s.size = 1) :
    Calls Try.prog 50 #[.string s] w (RParse w s) := by
  have hne : ¬ s.toList = [] := fun e => by have := (toList_nil_iff s).1 e; omega
  have e1 : s.toList.isEmpty = false := by simp [hne]
  have hg := bl_get s 0 hz
  have e2 : ((s[0].toNat : Int) == 48) = true := by rw [← hg, hc.1]; rfl
  have e3 : ¬ 1 < s.size := by omega
  have HGOOD : Hid (IsDig (bl s) → textB s = true) := Lib.hid (fun hd => textB_one s hc.2 hc.1)
  have HBAD : Hid (∀ k, k < s.size → ¬ (48 ≤ gw (bl s) k ∧ gw (bl s) k ≤ 57) → textB s = false) := Lib.hid (fun k hk hb => textB_bad' s k hk hb)
  clear hc hg
  go_enter Try.func50, Try.ntmps50
  go_wp2
  go_loopw [4, 24] (fun s4 i wr => ∃ (k : Nat) (A : Option Addr) (n c : Nat) (xs : List Nat), k ≤ s.size ∧ i = .int .i64 (k : Int) ∧ s4 = .slice A n c ∧ Rd wr A n c xs ∧ Clean xs ∧ n ≤ k ∧ val xs = dv ((bl s).take k) ∧ IsDig ((bl s).take k) ∧ On w wr) (fun _ i _ => s.size - (intOf i).toNat)
  case atStart => exact ⟨0, _, 0, 0, [], by omega, rfl, rfl, rd_empty w _, clean_nil, Nat.le_refl _, rfl, by intro b hb; simp at hb, (On.refl w).alloc _⟩
  case round =>
    obtain ⟨k, A, n, c, xs, hk, rfl, rfl, R, C, hn, hv, hd, hon⟩ := hrel
    have HD := Lib.hid hd
    have HV := Lib.hid hv
    clear hd hv
    by_cases hlt : k < s.size
    · have hgk := bl_get s k hlt
      by_cases hdig : 48 ≤ s[k].toNat ∧ s[k].toNat ≤ 57
      · obtain ⟨d1, d2⟩ := hdig
        have HK := Lib.hid ((isDig_take_succ (bl s) k (by rw [bl_length]; exact hlt)).2 ⟨HD.out, by rw [hgk]; exact d1, by rw [hgk]; exact d2⟩)
        have HT := Lib.hid (dv_take_succ (bl s) k (by rw [bl_length]; exact hlt))
        have HGK := Lib.hid hgk
        clear hgk
        have k0 : (0 : Int) ≤ (k : Int) := by omega
        have k1 : (k : Int) < (s.size : Int) := by omega
        go_wp2
        have kw : IntKind.u8.wrap ((s[k].toNat : Int) - 48) = (s[k].toNat : Int) - 48 := by rw [IntKind.wrap_u8]; omega
        have kw2 : IntKind.i64.wrap ((s[k].toNat : Int) - 48) = (s[k].toNat : Int) - 48 := IntWalk.i64_in _ (by omega)
        go_region_held3 (fun W => On wr W)
          (first | exact (On.refl wr).drew | assumption | exact On.trans (by assumption) Pt | exact On.trans (by assumption) Pm | exact On.trans (by assumption) Pa)
          (first
            | (go_at_call 90; refine (rmul_any _ _ _ _ _ _ _ (n + 2) _ _ (R.on ?_) Rt ?_ ?_ ?_).mono ?_; assumption; omega; omega; omega; rintro e w' ⟨Am, nm, cm, rfl, ⟨xm, Rm, Cm, Vm, Lm⟩, Pm⟩; rw [Vt] at Vm)
            | (go_at_call 91; refine (radd_any _ _ _ _ _ _ _ (n + 2) _ _ (Rm.on Pt) Rt ?_ ?_ ?_ ?_).mono ?_; omega; omega; omega; omega; rintro e w' ⟨Aa, na, ca, rfl, ⟨xa, Ra, Ca, Va, La⟩, Pa⟩)
            | (go_at_call 92; refine (rof_any _ _ ?_ ?_).mono ?_; omega; omega; rintro e w' ⟨At, nt, ct, rfl, ⟨xt, Rt, Ct, Vt, Lt⟩, Pt⟩))
        all_goals
          rename_i hHe
          have hva : val xa = dv ((bl s).take (k + 1)) := by
            rw [Va, Vm, Vt, HV.out, HT.out, HGK.out, show Int.toNat 10 = 10 from rfl]; omega
          have hln := clean_len Ca (k + 1) (by
            rw [hva]
            have h1 := dv_lt HK.out
            rw [List.length_take, bl_length, Nat.min_eq_left (by omega)] at h1
            exact Nat.lt_of_lt_of_le h1 (Nat.pow_le_pow_left (by decide) _))
          rw [Ra.len] at hln
          have HVA := Lib.hid hva
          have honf := Lib.hid (hon.trans hHe)
          clear hva Va Vm Vt hHe Pa Pt Pm Rt Rm Ct Cm R
          go_wp2
          exact ⟨⟨k + 1, Aa, na, ca, xa, by omega, by go_num, rfl, Ra, Ca, hln, HVA.out, HK.out, honf.out⟩, by simp [intOf]; omega⟩
      · have HB := Lib.hid (HBAD.out k hlt (by rw [hgk]; exact hdig))
        clear hgk
        by_cases d1 : 48 ≤ s[k].toNat
        · have d2 : ¬ s[k].toNat ≤ 57 := fun e => hdig ⟨d1, e⟩
          clear hdig
          go_wp2
          go_ret2
          exact .inr ⟨HB.out, rfl, hon⟩
        · clear hdig
          go_wp2
          go_ret2
          exact .inr ⟨HB.out, rfl, hon⟩
    · obtain rfl : k = s.size := by omega
      have hall : (bl s).take s.size = bl s := List.take_of_length_le (by rw [bl_length]; exact Nat.le_refl _)
      have HA := Lib.hid hall
      clear hall
      go_wp2
      go_ret2
      exact .inl ⟨HGOOD.out (by rw [← HA.out]; exact HD.out), _, _, _, rfl, ⟨xs, R, C, by rw [HV.out, HA.out], hn⟩, hon⟩
theorem rparse_any (w : World) (s : ByteArray) (hs : s.size ≤ 10000) :
    Calls Try.prog 50 #[.string s] w (RParse w s) := by
  rcases Nat.eq_zero_or_pos s.size with hz | hz
  · exact rparse_nil w s hz
  · by_cases h0 : gw (bl s) 0 = 48
    · rcases Nat.lt_or_ge 1 s.size with h1 | h1
      · exact rparse_lead w s hs h1 h0
      · exact rparse_b w s hs hz ⟨h0, by omega⟩
    · exact rparse_a w s hs hz h0
end Num
end Go.Proofs.Ytkchpagjkgmpmaa
