/-
  What the statements call besides: equal lists, equal formulas, Is, Clip.
-/
import Derived.Test.YtmkogcaafkobaaaFu
namespace Go.Proofs.Ytmkogcaafkobaaa.Fm
open Go.RowKit Go.Proofs.Ytmkogcaafkobaaa.Sb
set_option linter.unusedVariables false
set_option maxRecDepth 100000
set_option maxHeartbeats 2000000 in
theorem ints_eq (w : World) (A : Option Addr) (n c : Nat) (A' : Option Addr) (n' c' : Nat) (l : List Int) (h : Rd w A n c (VI l)) (h' : Rd w A' n' c' (VI l)) :
    Calls Try.prog 44 #[.slice A n c, .slice A' n' c'] w fun e w' => e = .returned (.bool true) ∧ On w w' := by
  obtain rfl : n = n' := by rw [← VI_len h, VI_len h']
  have hcap := h.cap
  have hmax := h.max
  have hcap' := h'.cap
  have hmax' := h'.max
  go_enter Try.func44, Try.ntmps44
  go_wp2
  go_loopw [13] (fun i wr => ∃ k : Nat, k ≤ n ∧ i = .int .i64 (k : Int) ∧ On w wr) (fun i _ => n - (intOf i).toNat)
  case atStart => exact ⟨0, by omega, rfl, On.refl _⟩
  case round =>
    obtain ⟨k, hk, rfl, hon⟩ := hrel
    by_cases hlt : k < n
    · obtain ⟨ad, rfl, hb, hc⟩ := VI_at (h.on hon) hlt
      obtain ⟨ad', rfl, hb', hc'⟩ := VI_at (h'.on hon) hlt
      obtain ⟨x, hx⟩ : ∃ x, l.getD k 0 = x := ⟨_, rfl⟩
      rw [hx] at hc hc'
      clear hx
      go_wp2
      go_region
      all_goals go_wp2
      exact ⟨⟨k + 1, by omega, by go_num, hon.drew⟩, by simp [intOf]; omega⟩
    · obtain rfl : k = n := by omega
      go_wp2
      go_ret
      exact ⟨rfl, hon⟩
theorem is_err (w : World) (x : Int) : Calls Try.prog 16 #[.iface 43 (.int .i64 x), .int .i64 x] w fun e w' => e = .returned (.bool true) ∧ w = w' := by
  have hta : ∀ W, (Instr.typeAssert (.iface 43 (.int .i64 x)) 28 43 true).run Try.prog W = .ok (.tuple #[.int .i64 x, .bool true]) W := fun _ => by kernel_rfl
  go_enter Try.func16, Try.ntmps16
  go_wp2
  go_ret
  exact ⟨rfl, rfl⟩

theorem clip_any (w : World) (v : Nat) (hv : v ≤ 24) : Calls Try.prog 14 #[.int .i64 (v : Int), .int .i64 0, .int .i64 24] w fun e w' => e = .returned (.int .i64 (v : Int)) ∧ w = w' := by
  by_cases h0 : v = 0
  · subst h0
    go_enter Try.func14, Try.ntmps14
    go_wp2
    go_ret
    exact ⟨rfl, rfl⟩
  · have h1 : min (v : Int) 24 = (v : Int) := by omega
    have h2 : max (0 : Int) (v : Int) = (v : Int) := by omega
    have h3 : 0 < v := by omega
    go_enter Try.func14, Try.ntmps14
    go_wp2
    go_ret
    exact ⟨rfl, rfl⟩
set_option maxHeartbeats 8000000 in
theorem formula_eq (w : World) (vars top : Int) (A : Option Addr) (n c : Nat) (A' : Option Addr) (n' c' : Nat) (xs : List Nd) (h : RdN w A n c xs) (h' : RdN w A' n' c' xs) :
    Calls Try.prog 29 #[.agg #[.int .i64 vars, .slice A n c, .int .i64 top], .agg #[.int .i64 vars, .slice A' n' c', .int .i64 top]] w fun e w' => e = .returned (.bool true) ∧ On w w' := by
  obtain rfl : n = n' := by rw [← h.len, h'.len]
  have hcap := h.cap
  have hmax := h.max
  have hcap' := h'.cap
  have hmax' := h'.max
  obtain ⟨q, hq⟩ : ∃ q, w.heap.size = q := ⟨_, rfl⟩
  obtain ⟨w0, hw0⟩ : ∃ w0, (w.alloc (.cells #[.int .i64 vars, .slice A n c, .int .i64 top] 24)).alloc (.cells #[.int .i64 vars, .slice A' n c', .int .i64 top] 24) = w0 := ⟨_, rfl⟩
  have O1 : Own w0 q 24 #[.int .i64 vars, .slice A n c, .int .i64 top] := by rw [← hw0, ← hq]; exact (Own.new _ _ _).alloc _
  have O2 : Own w0 (q + 1) 24 #[.int .i64 vars, .slice A' n c', .int .i64 top] := by
    rw [← hw0, ← hq]
    have := Own.new (w.alloc (.cells #[.int .i64 vars, .slice A n c, .int .i64 top] 24)) 24 #[.int .i64 vars, .slice A' n c', .int .i64 top]
    simpa using this
  have P0 : On w w0 := by rw [← hw0]; exact ((On.refl w).alloc _).alloc _
  have HO := Lib.hid (And.intro O1 (And.intro O2 (And.intro P0 hw0)))
  clear O1 O2 P0 hw0
  go_enter Try.func29, Try.ntmps29
  go_wp2
  rw [HO.out.2.2.2]
  go_loopw [30] (fun i wr => ∃ k : Nat, k ≤ n ∧ i = .int .i64 (k : Int) ∧ On w0 wr) (fun i _ => n - (intOf i).toNat)
  case atStart => exact ⟨0, by omega, rfl, On.refl _⟩
  case round =>
    obtain ⟨k, hk, rfl, hon⟩ := hrel
    by_cases hlt : k < n
    · obtain ⟨r0, r1, r2⟩ := own3 (HO.out.1.on hon)
      obtain ⟨s0, s1, s2⟩ := own3 (HO.out.2.1.on hon)
      have P := HO.out.2.2.1.trans hon
      obtain ⟨ad, rfl, hb, P1, m1, k1, a0, a1, a2, hR1⟩ := (h.on P).at_ k hlt
      obtain ⟨ad', rfl, hb', P2, m2, k2, b0, b1, b2, hR2⟩ := (h'.on P).at_ k hlt
      obtain ⟨x, hx⟩ : ∃ x, xs.getD k Nd.z = x := ⟨_, rfl⟩
      rw [hx] at a0 a1 hR1 b0 b1 hR2
      obtain ⟨xk, hxk⟩ : ∃ xk, x.kind = xk := ⟨_, rfl⟩
      obtain ⟨xx, hxx⟩ : ∃ xx, x.k = xx := ⟨_, rfl⟩
      rw [hxk] at a0 b0
      rw [hxx] at a1 b1
      have hI := fun W (kk : On wr W) => ints_eq W P1 m1 k1 P2 m2 k2 x.args (hR1.on kk) (hR2.on kk)
      have HI := Lib.hid hI
      have hadb : (ad.add (k * 3)).block < wr.heap.size := by rw [block_of_add]; exact hb
      have hadb' : (ad'.add (k * 3)).block < wr.heap.size := by rw [block_of_add]; exact hb'
      have hS : ∀ W, On wr W → On wr W ∧ W.cell? ⟨q, 1, none⟩ = some (.slice (some ad) n c) ∧ W.cell? ⟨q + 1, 1, none⟩ = some (.slice (some ad') n c') ∧ W.cell? (ad.add (k * 3)) = some (.int .i64 xk) ∧ W.cell? ⟨(ad.add (k * 3)).block, (ad.add (k * 3)).off + 1, none⟩ = some (.int .i64 xx) ∧ W.cell? ⟨(ad.add (k * 3)).block, (ad.add (k * 3)).off + 2, none⟩ = some (.slice P1 m1 k1) ∧ W.cell? (ad'.add (k * 3)) = some (.int .i64 xk) ∧ W.cell? ⟨(ad'.add (k * 3)).block, (ad'.add (k * 3)).off + 1, none⟩ = some (.int .i64 xx) ∧ W.cell? ⟨(ad'.add (k * 3)).block, (ad'.add (k * 3)).off + 2, none⟩ = some (.slice P2 m2 k2) := fun W kk =>
        ⟨kk, (own3 (HO.out.1.on (hon.trans kk))).2.1, (own3 (HO.out.2.1.on (hon.trans kk))).2.1, (Below.cell kk hadb).trans a0, (Below.cell kk (p := ⟨(ad.add (k * 3)).block, (ad.add (k * 3)).off + 1, none⟩) hadb).trans a1, (Below.cell kk (p := ⟨(ad.add (k * 3)).block, (ad.add (k * 3)).off + 2, none⟩) hadb).trans a2, (Below.cell kk hadb').trans b0, (Below.cell kk (p := ⟨(ad'.add (k * 3)).block, (ad'.add (k * 3)).off + 1, none⟩) hadb').trans b1, (Below.cell kk (p := ⟨(ad'.add (k * 3)).block, (ad'.add (k * 3)).off + 2, none⟩) hadb').trans b2⟩
      have HS := Lib.hid hS
      clear hS hI hx hxk hxx hR1 hR2 h h' hadb hadb' P
      go_wp2
      go_region_held3 (fun W => On wr W ∧ W.cell? ⟨q, 1, none⟩ = some (.slice (some ad) n c) ∧ W.cell? ⟨q + 1, 1, none⟩ = some (.slice (some ad') n c') ∧ W.cell? (ad.add (k * 3)) = some (.int .i64 xk) ∧ W.cell? ⟨(ad.add (k * 3)).block, (ad.add (k * 3)).off + 1, none⟩ = some (.int .i64 xx) ∧ W.cell? ⟨(ad.add (k * 3)).block, (ad.add (k * 3)).off + 2, none⟩ = some (.slice P1 m1 k1) ∧ W.cell? (ad'.add (k * 3)) = some (.int .i64 xk) ∧ W.cell? ⟨(ad'.add (k * 3)).block, (ad'.add (k * 3)).off + 1, none⟩ = some (.int .i64 xx) ∧ W.cell? ⟨(ad'.add (k * 3)).block, (ad'.add (k * 3)).off + 2, none⟩ = some (.slice P2 m2 k2))
        (first | exact HS.out _ (On.refl _).drew | exact HS.out _ (On.refl _) | (go_split_ands; exact HS.out _ (On.trans (by assumption) PA)) | assumption)
        (first | (go_at_call 44; go_split_ands; (with_reducible refine (HI.out _ ?_).mono ?_); assumption; rintro e wA ⟨rfl, PA⟩))
      all_goals
        rename_i hHe
        have hOnF := hHe.1
        clear hHe
        go_wp2
        go_roundw
        case rel => exact ⟨k + 1, by omega, by go_num, hon.trans hOnF⟩
        case measure => simp [intOf] <;> omega
    · obtain rfl : k = n := by omega
      go_wp2
      go_ret
      exact ⟨rfl, HO.out.2.2.1.trans hon⟩
end Go.Proofs.Ytmkogcaafkobaaa.Fm
