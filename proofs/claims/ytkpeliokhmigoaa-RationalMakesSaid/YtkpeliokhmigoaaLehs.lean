/-
  leadingSteps: the first steps of Euclid's algorithm, as far as the leading bits determine them.
-/
import Derived.Test.YtkpeliokhmigoaaLehw
namespace Go.Proofs.Ytkpeliokhmigoaa
open Go.RowKit
set_option linter.unusedVariables false
namespace Num
/-- what a call of leadingSteps says -/
def StepsPost (w : World) (x y : Nat) (e : Ending) (w' : World) : Prop :=
  ∃ p0 q0 a b c d p q : Int, e = .returned (.agg #[.int .i64 a, .int .i64 b, .int .i64 c, .int .i64 d]) ∧ Steps x y p0 q0 a b c d p q ∧ On w w'
theorem gw_top (xs : List Nat) (h : Ok xs) (m : Nat) (hl : xs.length ≤ m + 1) : gw xs m = val xs / BB ^ m := by
  rw [val_div_pow xs h m, val_drop_any' xs m, List.drop_of_length_le (by omega)]
  simp [val]
theorem lead_lt62 (x m s t : Nat) (hs : s ≤ 31) (ht : x / BB ^ (m + 2) = t) (hts : t * 2 ^ s < 4294967296) : x / (2 ^ (34 - s) * BB ^ m) < 4611686018427387904 := by
  have hp : 0 < 2 ^ (34 - s) * BB ^ m := Nat.mul_pos (Nat.pow_pos (by decide)) (Nat.pow_pos BB_pos)
  rw [Nat.div_lt_iff_lt_mul hp]
  have h1 : t < 2 ^ (32 - s) := by
    have h2 : t * 2 ^ s < 2 ^ (32 - s) * 2 ^ s := by rw [← Nat.pow_add, show 32 - s + s = 32 from by omega]; exact hts
    exact Nat.lt_of_mul_lt_mul_right h2
  have h3 : x < 2 ^ (32 - s) * BB ^ (m + 2) := by
    rw [← Nat.div_lt_iff_lt_mul (Nat.pow_pos BB_pos), ht]; exact h1
  have h4 : 4611686018427387904 * (2 ^ (34 - s) * BB ^ m) = 2 ^ (32 - s) * BB ^ (m + 2) := by
    rw [show 34 - s = 32 - s + 2 from by omega, Nat.pow_add 2 (32 - s) 2, Nat.pow_add BB m 2]
    have e : BB ^ 2 = 18446744073709551616 := by decide
    rw [e]
    generalize 2 ^ (32 - s) = u
    generalize BB ^ m = v
    rw [show (2 : Nat) ^ 2 = 4 from rfl, Nat.mul_comm u 4, Nat.mul_assoc 4 u v, ← Nat.mul_assoc 4611686018427387904 4 (u * v), Nat.mul_comm v, ← Nat.mul_assoc u, Nat.mul_comm u 18446744073709551616, Nat.mul_assoc 18446744073709551616 u v]
  omega
theorem lehm_mul (t c : Int) (h0 : 0 ≤ t) (h1 : t ≤ 1073741824) (h : -1073741824 ≤ c ∧ c ≤ 1073741824) : -1152921504606846976 ≤ t * c ∧ t * c ≤ 1152921504606846976 := by
  have a1 := Int.mul_le_mul_of_nonneg_left h.1 h0
  have a2 := Int.mul_le_mul_of_nonneg_left h.2 h0
  omega
/-- what the quotient takes off the leading part is no more than there is -/
theorem lehm_quot {x y p0 q0 a b c d p q t t' : Int} (h : Steps x y p0 q0 a b c d p q) (p1 : 0 < q + c) (p2 : 0 < q + d) (ht : 0 ≤ t) (l1 : t * (q + c) ≤ p + a) (l2 : t' * (q + d) ≤ p + b) (e : t = t') : 0 ≤ t * q ∧ t * q ≤ 4611686019501129728 := by
  subst e
  have hq0 : 0 ≤ q := by rcases h.sg with ⟨_, _, s3, s4⟩ | ⟨_, _, s3, s4⟩ <;> omega
  refine ⟨Int.mul_nonneg ht hq0, ?_⟩
  have := h.bp
  have := h.ba
  have := h.bb
  rcases h.sg with ⟨_, _, s3, s4⟩ | ⟨_, _, s3, s4⟩
  · have := Int.mul_le_mul_of_nonneg_left (show q ≤ q + d by omega) ht
    omega
  · have := Int.mul_le_mul_of_nonneg_left (show q ≤ q + c by omega) ht
    omega
theorem own_next (w : World) (o : Obj) (t : TypeId) (cur : Array Value) : Own ((w.alloc o).alloc (.cells cur t)) (w.heap.size + 1) t cur := by
  have h := Own.new (w.alloc o) t cur
  rwa [show (w.alloc o).heap.size = w.heap.size + 1 from by simp] at h
set_option maxRecDepth 100000 in
set_option maxHeartbeats 2000000 in
theorem steps_any (w : World) (A A' : Option Addr) (m c n' c' : Nat) (xs ys : List Nat) (h : Rd w A (m + 3) c xs) (k : Rd w A' n' c' ys) (hm : m ≤ 10000) (hle : n' ≤ m + 3) (htop : gw xs (m + 2) ≠ 0) (hv : val ys ≤ val xs) :
    Calls Try.prog 78 #[.slice A (m + 3) c, .slice A' n' c'] w (StepsPost w (val xs) (val ys)) := by
  obtain ⟨ad, rfl, hb, hcell⟩ := h.at_ (m + 2) (by omega)
  have gx := h.ok.get (m + 2)
  have hc := h.cap
  have hmx := h.max
  have hnb : nb (gw xs (m + 2)) ≤ 32 := (nb_le_iff _ _).2 (by omega)
  have hnp : 0 < nb (gw xs (m + 2)) := by unfold nb; rw [if_neg htop]; omega
  obtain ⟨s, hs⟩ : ∃ s, nb (gw xs (m + 2)) + s = 32 := ⟨32 - nb (gw xs (m + 2)), by omega⟩
  have hs31 : s ≤ 31 := by omega
  have hxt : gw xs (m + 2) * 2 ^ s < 4294967296 := by
    have h1 := nb_lt (gw xs (m + 2))
    have h2 : gw xs (m + 2) * 2 ^ s < 2 ^ nb (gw xs (m + 2)) * 2 ^ s := Nat.mul_lt_mul_of_pos_right h1 (Nat.pow_pos (by decide))
    rw [← Nat.pow_add, hs] at h2
    exact h2
  have ex := gw_top xs h.ok (m + 2) (by rw [h.len]; omega)
  have ey := gw_top ys k.ok (m + 2) (by rw [k.len]; omega)
  have hyt : gw ys (m + 2) * 2 ^ s < 4294967296 := by
    have h1 : gw ys (m + 2) ≤ gw xs (m + 2) := by rw [ex, ey]; exact Nat.div_le_div_right hv
    have h2 : gw ys (m + 2) * 2 ^ s ≤ gw xs (m + 2) * 2 ^ s := Nat.mul_le_mul_right _ h1
    omega
  have hpl := lead_lt62 (val xs) m s _ hs31 ex.symm hxt
  have hql := lead_lt62 (val ys) m s _ hs31 ey.symm hyt
  obtain ⟨K, hK⟩ : ∃ K, 2 ^ (34 - s) * BB ^ m = K := ⟨_, rfl⟩
  have hKp : 0 < K := by rw [← hK]; exact Nat.mul_pos (Nat.pow_pos (by decide)) (Nat.pow_pos BB_pos)
  have lx := cut_low (val xs) K hKp
  have ly := cut_low (val ys) K hKp
  have hB := bitLen_nb (gw xs (m + 2)) (by omega)
  have HB := Lib.hid hB
  have hsb : (32 : Int) - ((nb (gw xs (m + 2)) : Nat) : Int) = (s : Int) := by omega
  have HSB := Lib.hid hsb
  rw [hK] at hpl hql
  have HLX := Lib.hid lx
  have HLY := Lib.hid ly
  have HK := Lib.hid hK
  obtain ⟨P0, hP⟩ : ∃ P0, val xs / K = P0 := ⟨_, rfl⟩
  obtain ⟨Q0, hQ⟩ : ∃ Q0, val ys / K = Q0 := ⟨_, rfl⟩
  rw [hP] at hpl HLX
  rw [hQ] at hql HLY
  have HP := Lib.hid hP
  have HQ := Lib.hid hQ
  have hst := Steps.start (val xs : Int) (val ys : Int) (P0 : Int) (Q0 : Int) (by omega) (by omega) (by omega) (by omega) (by omega) (by omega)
  have HST := Lib.hid hst
  have HXT := Lib.hid hxt
  have HYT := Lib.hid hyt
  clear hB hsb lx ly hK hst hP hQ hnb hnp hs htop hxt hyt ex ey hv
  obtain ⟨N, hN⟩ : ∃ N, m + 3 = N := ⟨_, rfl⟩
  obtain ⟨M1, hM1⟩ : ∃ N, m + 2 = N := ⟨_, rfl⟩
  have w1 : IntKind.i64.wrap ((N : Int) - 1) = (M1 : Int) := by rw [IntWalk.i64_in _ (by omega)]; omega
  have i1 : M1 < N := by omega
  have hN2 : (N : Int) = (m : Int) + 3 := by omega
  have HN2 := Lib.hid hN2
  have h' : Rd w (some ad) N c xs := by rw [← hN]; exact h
  have hle' : N ≤ m + 3 := by omega
  rw [hM1] at hcell gx HB HSB
  rw [hN] at hc ⊢
  clear h hN hM1 hN2
  have h1 := h'.alloc (.cells #[.int .i64 0, .int .i64 0, .int .i64 0, .int .i64 0] 89)
  have k1 := k.alloc (.cells #[.int .i64 0, .int .i64 0, .int .i64 0, .int .i64 0] 89)
  have hc1 : (w.alloc (.cells #[.int .i64 0, .int .i64 0, .int .i64 0, .int .i64 0] 89)).cell? (ad.add M1) = some (.int .u32 ((gw xs M1 : Nat) : Int)) := by
    obtain ⟨ad2, e2, _, hc2⟩ := h1.at_ M1 i1
    injection e2 with e2
    subst e2
    exact hc2
  go_enter Try.func78, Try.ntmps78
  go_wp2_with fail
  refine (Try.bits_LeadingZeros32 ((gw xs M1 : Nat) : Int) _ (by omega) (by omega)).mono ?_
  rintro e w' ⟨rfl, hw⟩
  rw [hw]
  clear hw w'
  rw [Int.toNat_natCast, HB.out, HSB.out]
  go_wp2_with fail
  refine (leading_is _ _ _ _ m s P0 _ h1 hle' (by omega) hs31 HXT.out _ HN2.out (by rw [HK.out]; exact HP.out)).mono ?_
  rintro e w' ⟨rfl, rfl⟩
  go_wp2_with fail
  refine (leading_is _ _ _ _ m s Q0 _ k1 hle (by omega) hs31 HYT.out _ HN2.out (by rw [HK.out]; exact HQ.out)).mono ?_
  rintro e w' ⟨rfl, rfl⟩
  go_wp2
  go_loopg [6, 7] Q0 (fun g pv qv wr => ∃ a b c d p q : Int, pv = .int .i64 p ∧ qv = .int .i64 q ∧ 0 ≤ q + c ∧ q + c ≤ (g : Int) ∧ Own wr (w.heap.size + 1) 89 #[.int .i64 a, .int .i64 b, .int .i64 c, .int .i64 d] ∧ Own wr w.heap.size 89 #[.int .i64 0, .int .i64 0, .int .i64 0, .int .i64 0] ∧ Steps (val xs) (val ys) P0 Q0 a b c d p q ∧ On w wr)
  case atStart => exact ⟨1, 0, 0, 1, P0, Q0, rfl, rfl, by omega, by omega, own_next w _ _ _, (Own.new _ _ _).alloc _, HST.out, ((On.refl w).alloc _).alloc _⟩
  case round =>
    obtain ⟨a, b, c, d, p, q, rfl, rfl, hq0, hqg, ho1, ho2, hS, hon⟩ := hrel
    have c0 : wr.cell? ⟨w.heap.size + 1, 0, none⟩ = some (.int .i64 a) := ho1.cell 0
    have c1 : wr.cell? ⟨w.heap.size + 1, 1, none⟩ = some (.int .i64 b) := ho1.cell 1
    have c2 : wr.cell? ⟨w.heap.size + 1, 2, none⟩ = some (.int .i64 c) := ho1.cell 2
    have c3 : wr.cell? ⟨w.heap.size + 1, 3, none⟩ = some (.int .i64 d) := ho1.cell 3
    have f10 := ho1.frozen 0
    have f11 := ho1.frozen 1
    have f12 := ho1.frozen 2
    have f13 := ho1.frozen 3
    have e0 : wr.cell? ⟨w.heap.size, 0, none⟩ = some (.int .i64 0) := ho2.cell 0
    have e1 : wr.cell? ⟨w.heap.size, 1, none⟩ = some (.int .i64 0) := ho2.cell 1
    have e2 : wr.cell? ⟨w.heap.size, 2, none⟩ = some (.int .i64 0) := ho2.cell 2
    have e3 : wr.cell? ⟨w.heap.size, 3, none⟩ = some (.int .i64 0) := ho2.cell 3
    have f20 := ho2.frozen 0
    have f21 := ho2.frozen 1
    have f22 := ho2.frozen 2
    have f23 := ho2.frozen 3
    have HS := Lib.hid hS
    have HO1 := Lib.hid ho1
    have HO2 := Lib.hid ho2
    obtain ⟨sp, sq, sg, pa, pb, qc, qd, ⟨ba1, ba2⟩, ⟨bb1, bb2⟩, ⟨bc1, bc2⟩, ⟨bd1, bd2⟩, bp, bq, y0, yx, xx, gc, lt⟩ := hS
    clear sp sq sg y0 yx xx gc lt ho1 ho2
    by_cases h1 : q + c = 0
    · have t1 : (q + c != 0) = false := by simp [h1]
      have H1 := Lib.hid h1
      clear h1
      go_wp2
      exact bodyPost_ret (v := .agg #[.int .i64 a, .int .i64 b, .int .i64 c, .int .i64 d]) (by simp [results, Try.results78, go_sem, e0, e1, e2, e3]) rfl ⟨P0, Q0, a, b, c, d, p, q, rfl, HS.out, (((hon.setCell (Nat.le_refl _) _).setCell (Nat.le_refl _) _).setCell (Nat.le_refl _) _).setCell (Nat.le_refl _) _⟩
    · have t1 : (q + c != 0) = true := by rw [bne_iff_ne]; exact h1
      have p1 : 0 < q + c := by omega
      have H1 := Lib.hid h1
      clear h1
      by_cases h2 : q + d = 0
      · have t2 : (q + d != 0) = false := by simp [h2]
        have H2 := Lib.hid h2
        clear h2
        go_wp2
        exact bodyPost_ret (v := .agg #[.int .i64 a, .int .i64 b, .int .i64 c, .int .i64 d]) (by simp [results, Try.results78, go_sem, e0, e1, e2, e3]) rfl ⟨P0, Q0, a, b, c, d, p, q, rfl, HS.out, (((hon.setCell (Nat.le_refl _) _).setCell (Nat.le_refl _) _).setCell (Nat.le_refl _) _).setCell (Nat.le_refl _) _⟩
      · have t2 : (q + d != 0) = true := by rw [bne_iff_ne]; exact h2
        have p2 : 0 < q + d := by omega
        have H2 := Lib.hid h2
        clear h2
        have l1 := Int.ediv_mul_le (p + a) (show q + c ≠ 0 from H1.out)
        have u1 := Int.lt_ediv_add_one_mul_self (p + a) p1
        have l2 := Int.ediv_mul_le (p + b) (show q + d ≠ 0 from H2.out)
        have u2 := Int.lt_ediv_add_one_mul_self (p + b) p2
        have g1 : 0 ≤ (p + a) / (q + c) := Int.ediv_nonneg pa (by omega)
        have g2 : 0 ≤ (p + b) / (q + d) := Int.ediv_nonneg pb (by omega)
        by_cases h3 : (p + a) / (q + c) = (p + b) / (q + d)
        · have t3 : ((p + a) / (q + c) != (p + b) / (q + d)) = false := by simp [h3]
          have H3 := Lib.hid h3
          clear h3
          by_cases h4 : 1073741824 < (p + a) / (q + c)
          · have H4 := Lib.hid h4
            go_wp2
            exact bodyPost_ret (v := .agg #[.int .i64 a, .int .i64 b, .int .i64 c, .int .i64 d]) (by simp [results, Try.results78, go_sem, e0, e1, e2, e3]) rfl ⟨P0, Q0, a, b, c, d, p, q, rfl, HS.out, (((hon.setCell (Nat.le_refl _) _).setCell (Nat.le_refl _) _).setCell (Nat.le_refl _) _).setCell (Nat.le_refl _) _⟩
          · have H4 := Lib.hid h4
            have h4' : (p + a) / (q + c) ≤ 1073741824 := by omega
            have m1 := lehm_mul ((p + a) / (q + c)) c g1 h4' ⟨bc1, bc2⟩
            have m2 := lehm_mul ((p + a) / (q + c)) d g1 h4' ⟨bd1, bd2⟩
            have m3 := lehm_quot HS.out p1 p2 g1 l1 l2 H3.out
            obtain ⟨m11, m12⟩ := m1
            obtain ⟨m21, m22⟩ := m2
            obtain ⟨m31, m32⟩ := m3
            have ga1 := HO1.out.alloc (.cells #[.int .i64 c, .int .i64 d, .int .i64 (a - (p + a) / (q + c) * c), .int .i64 (b - (p + a) / (q + c) * d)] 89)
            have ga2 := HO2.out.alloc (.cells #[.int .i64 c, .int .i64 d, .int .i64 (a - (p + a) / (q + c) * c), .int .i64 (b - (p + a) / (q + c) * d)] 89)
            have ga3 := Own.new wr 89 #[.int .i64 c, .int .i64 d, .int .i64 (a - (p + a) / (q + c) * c), .int .i64 (b - (p + a) / (q + c) * d)]
            have gn : w.heap.size + 1 ≠ wr.heap.size := Nat.ne_of_lt HO1.out.lt
            have GA1 := Lib.hid ga1
            have GA2 := Lib.hid ga2
            have GA3 := Lib.hid ga3
            have GN := Lib.hid gn
            clear ga1 ga2 ga3 gn
            by_cases h5 : -1073741824 ≤ a - (p + a) / (q + c) * c ∧ a - (p + a) / (q + c) * c ≤ 1073741824
            · have H5 := Lib.hid h5
              go_wp2_with fail
              refine (small_yes _ _ H5.out).mono ?_
              rintro e w' ⟨rfl, rfl⟩
              obtain ⟨wx, hwx⟩ : ∃ wx, wr.alloc (.cells #[.int .i64 c, .int .i64 d, .int .i64 (a - (p + a) / (q + c) * c), .int .i64 (b - (p + a) / (q + c) * d)] 89) = wx := ⟨_, rfl⟩
              rw [hwx] at GA1 GA2 GA3 ⊢
              have honx : On w wx := by rw [← hwx]; exact hon.alloc _
              clear hwx
              clear c0 e0 f10 f20 c1 e1 f11 f21 c2 e2 f12 f22 c3 e3 f13 f23
              have c0 : wx.cell? ⟨w.heap.size + 1, 0, none⟩ = some (.int .i64 a) := GA1.out.cell 0
              have c1 : wx.cell? ⟨w.heap.size + 1, 1, none⟩ = some (.int .i64 b) := GA1.out.cell 1
              have c2 : wx.cell? ⟨w.heap.size + 1, 2, none⟩ = some (.int .i64 c) := GA1.out.cell 2
              have c3 : wx.cell? ⟨w.heap.size + 1, 3, none⟩ = some (.int .i64 d) := GA1.out.cell 3
              have e0 : wx.cell? ⟨w.heap.size, 0, none⟩ = some (.int .i64 0) := GA2.out.cell 0
              have e1 : wx.cell? ⟨w.heap.size, 1, none⟩ = some (.int .i64 0) := GA2.out.cell 1
              have e2 : wx.cell? ⟨w.heap.size, 2, none⟩ = some (.int .i64 0) := GA2.out.cell 2
              have e3 : wx.cell? ⟨w.heap.size, 3, none⟩ = some (.int .i64 0) := GA2.out.cell 3
              have n0 : wx.cell? ⟨wr.heap.size, 0, none⟩ = some (.int .i64 c) := GA3.out.cell 0
              have n1 : wx.cell? ⟨wr.heap.size, 1, none⟩ = some (.int .i64 d) := GA3.out.cell 1
              have n2 : wx.cell? ⟨wr.heap.size, 2, none⟩ = some (.int .i64 (a - (p + a) / (q + c) * c)) := GA3.out.cell 2
              have n3 : wx.cell? ⟨wr.heap.size, 3, none⟩ = some (.int .i64 (b - (p + a) / (q + c) * d)) := GA3.out.cell 3
              have f10 := GA1.out.frozen 0
              have f20 := GA2.out.frozen 0
              have f11 := GA1.out.frozen 1
              have f21 := GA2.out.frozen 1
              have f12 := GA1.out.frozen 2
              have f22 := GA2.out.frozen 2
              have f13 := GA1.out.frozen 3
              have f23 := GA2.out.frozen 3
            
              clear h5
              by_cases h6 : -1073741824 ≤ b - (p + a) / (q + c) * d ∧ b - (p + a) / (q + c) * d ≤ 1073741824
              · go_wp2_with fail
                refine (small_yes _ _ h6).mono ?_
                rintro e w' ⟨rfl, rfl⟩
                go_wp2
                have HS2 := HS.out.step (K := (K : Int)) (t := (p + a) / (q + c)) (by omega) HLX.out.1 HLX.out.2 HLY.out.1 HLY.out.2 H1.out H2.out g1 l1 u1 (by rw [H3.out]; exact l2) (by rw [H3.out]; exact u2) H5.out h6
                have hms : p + a < (p + a) / (q + c) * (q + c) + (q + c) := by have := u1; rw [Int.add_mul, Int.one_mul] at this; exact this
                rw [Int.mul_add] at hms
                have hz := HS2.qc
                go_roundg ((p - (p + a) / (q + c) * q) + (a - (p + a) / (q + c) * c)).toNat
                case measure => omega
                case rel =>
                  refine ⟨c, d, _, _, q, _, rfl, rfl, hz, by omega, (((GA1.out.set_ 0 _).set_ 1 _).set_ 2 _).set_ 3 _, (((GA2.out.far (by show w.heap.size ≠ w.heap.size + 1; omega) _).far (by show w.heap.size ≠ w.heap.size + 1; omega) _).far (by show w.heap.size ≠ w.heap.size + 1; omega) _).far (by show w.heap.size ≠ w.heap.size + 1; omega) _, HS2, ?_⟩
                  exact (((honx.setCell (by show w.heap.size ≤ w.heap.size + 1; omega) _).setCell (by show w.heap.size ≤ w.heap.size + 1; omega) _).setCell (by show w.heap.size ≤ w.heap.size + 1; omega) _).setCell (by show w.heap.size ≤ w.heap.size + 1; omega) _
              · have H6 := Lib.hid h6
                clear h6
                go_wp2_with fail
                refine (small_no _ _ H6.out).mono ?_
                rintro e w' ⟨rfl, rfl⟩
                go_wp2
                exact bodyPost_ret (v := .agg #[.int .i64 a, .int .i64 b, .int .i64 c, .int .i64 d]) (by simp [results, Try.results78, go_sem, e0, e1, e2, e3]) rfl ⟨P0, Q0, a, b, c, d, p, q, rfl, HS.out, (((honx.setCell (Nat.le_refl _) _).setCell (Nat.le_refl _) _).setCell (Nat.le_refl _) _).setCell (Nat.le_refl _) _⟩
            · have H5 := Lib.hid h5
              clear h5
              go_wp2_with fail
              refine (small_no _ _ H5.out).mono ?_
              rintro e w' ⟨rfl, rfl⟩
              obtain ⟨wx, hwx⟩ : ∃ wx, wr.alloc (.cells #[.int .i64 c, .int .i64 d, .int .i64 (a - (p + a) / (q + c) * c), .int .i64 (b - (p + a) / (q + c) * d)] 89) = wx := ⟨_, rfl⟩
              rw [hwx] at GA1 GA2 GA3 ⊢
              have honx : On w wx := by rw [← hwx]; exact hon.alloc _
              clear hwx
              clear c0 e0 f10 f20 c1 e1 f11 f21 c2 e2 f12 f22 c3 e3 f13 f23
              have c0 : wx.cell? ⟨w.heap.size + 1, 0, none⟩ = some (.int .i64 a) := GA1.out.cell 0
              have c1 : wx.cell? ⟨w.heap.size + 1, 1, none⟩ = some (.int .i64 b) := GA1.out.cell 1
              have c2 : wx.cell? ⟨w.heap.size + 1, 2, none⟩ = some (.int .i64 c) := GA1.out.cell 2
              have c3 : wx.cell? ⟨w.heap.size + 1, 3, none⟩ = some (.int .i64 d) := GA1.out.cell 3
              have e0 : wx.cell? ⟨w.heap.size, 0, none⟩ = some (.int .i64 0) := GA2.out.cell 0
              have e1 : wx.cell? ⟨w.heap.size, 1, none⟩ = some (.int .i64 0) := GA2.out.cell 1
              have e2 : wx.cell? ⟨w.heap.size, 2, none⟩ = some (.int .i64 0) := GA2.out.cell 2
              have e3 : wx.cell? ⟨w.heap.size, 3, none⟩ = some (.int .i64 0) := GA2.out.cell 3
              have n0 : wx.cell? ⟨wr.heap.size, 0, none⟩ = some (.int .i64 c) := GA3.out.cell 0
              have n1 : wx.cell? ⟨wr.heap.size, 1, none⟩ = some (.int .i64 d) := GA3.out.cell 1
              have n2 : wx.cell? ⟨wr.heap.size, 2, none⟩ = some (.int .i64 (a - (p + a) / (q + c) * c)) := GA3.out.cell 2
              have n3 : wx.cell? ⟨wr.heap.size, 3, none⟩ = some (.int .i64 (b - (p + a) / (q + c) * d)) := GA3.out.cell 3
              have f10 := GA1.out.frozen 0
              have f20 := GA2.out.frozen 0
              have f11 := GA1.out.frozen 1
              have f21 := GA2.out.frozen 1
              have f12 := GA1.out.frozen 2
              have f22 := GA2.out.frozen 2
              have f13 := GA1.out.frozen 3
              have f23 := GA2.out.frozen 3
              go_wp2
              exact bodyPost_ret (v := .agg #[.int .i64 a, .int .i64 b, .int .i64 c, .int .i64 d]) (by simp [results, Try.results78, go_sem, e0, e1, e2, e3]) rfl ⟨P0, Q0, a, b, c, d, p, q, rfl, HS.out, (((honx.setCell (Nat.le_refl _) _).setCell (Nat.le_refl _) _).setCell (Nat.le_refl _) _).setCell (Nat.le_refl _) _⟩
        · have t3 : ((p + a) / (q + c) != (p + b) / (q + d)) = true := by rw [bne_iff_ne]; exact h3
          have H3 := Lib.hid h3
          clear h3
          go_wp2
          exact bodyPost_ret (v := .agg #[.int .i64 a, .int .i64 b, .int .i64 c, .int .i64 d]) (by simp [results, Try.results78, go_sem, e0, e1, e2, e3]) rfl ⟨P0, Q0, a, b, c, d, p, q, rfl, HS.out, (((hon.setCell (Nat.le_refl _) _).setCell (Nat.le_refl _) _).setCell (Nat.le_refl _) _).setCell (Nat.le_refl _) _⟩
end Num
end Go.Proofs.Ytkpeliokhmigoaa
