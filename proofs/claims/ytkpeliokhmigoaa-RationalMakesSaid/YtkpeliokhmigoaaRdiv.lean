/-
  The specification's Div.
-/
import Derived.Test.YtkpeliokhmigoaaRdiv0
import Derived.Deep.DeepCutAuto
namespace Go.Proofs.Ytkpeliokhmigoaa
open Go.RowKit
set_option linter.unusedVariables false
namespace Num
set_option maxHeartbeats 400000 in
theorem rdiv_zero (w : World) (A A' : Option Addr) (n c n' c' : Nat) (xs ys : List Nat) (h : Rd w A n c xs) (k : Rd w A' n' c' ys) (hn' : n' ≤ 100000) (hz : val ys = 0) :
    Calls Try.prog 40 #[.slice A n c, .slice A' n' c'] w fun e w' => e = .returned (.tuple #[.slice none 0 0, .slice none 0 0, .int .i64 8]) ∧ On w w' := by
  have HZ := Lib.hid hz
  clear hz
  go_enter Try.func40, Try.ntmps40
  go_wp2_with fail
  refine (rtrim_any _ _ _ _ n' _ k (by have := tl_le ys; rw [k.len] at this; exact this) (by omega)).mono ?_
  rintro e w1 ⟨A1, n1, c1, rfl, ⟨zs, R1, C1, V1, L1⟩, P1⟩
  obtain rfl : n1 = 0 := by
    rcases Nat.eq_zero_or_pos n1 with h0 | h0
    · exact h0
    · have := val_pos C1 (by rw [R1.len]; exact h0)
      rw [V1, HZ.out] at this; omega
  clear V1
  go_wp2
  go_ret3
  exact ⟨rfl, P1⟩
theorem and_p31 (x : Nat) : x &&& 2147483648 = if x.testBit 31 then 2147483648 else 0 := by
  have e : ∀ i, Nat.testBit 2147483648 i = decide (31 = i) := fun i => by
    have := @Nat.testBit_two_pow 31 i
    exact this
  apply Nat.eq_of_testBit_eq
  intro i
  rw [Nat.testBit_and, e]
  by_cases h : 31 = i
  · subst h
    cases hx : x.testBit 31 <;> simp [e]
  · cases hx : x.testBit 31 <;> simp [h, e]
/-- the test of the highest bit -/
theorem and31 (x : Nat) (h : x < 2147483648) : bits .and .u32 (x : Int) 2147483648 = 0 := by
  have h1 := u32_and_nat x 2147483648 (by omega) (by decide)
  rw [show ((2147483648 : Nat) : Int) = 2147483648 from rfl] at h1
  rw [h1]
  have h2 : x &&& 2147483648 = 0 := by
    rw [and_p31, Nat.testBit_lt_two_pow (by omega)]
    rfl
  rw [h2]; rfl
theorem and31' (x : Nat) (h : 2147483648 ≤ x) (h2 : x < 4294967296) : bits .and .u32 (x : Int) 2147483648 = 2147483648 := by
  have h1 := u32_and_nat x 2147483648 (by omega) (by decide)
  rw [show ((2147483648 : Nat) : Int) = 2147483648 from rfl] at h1
  rw [h1]
  have h2 : x &&& 2147483648 = 2147483648 := by
    rw [and_p31]
    have hb : x.testBit 31 = true := by
      rw [Nat.testBit_eq_decide_div_mod_eq, show (2 : Nat) ^ 31 = 2147483648 from rfl]
      simp; omega
    rw [hb]; rfl
  rw [h2]; rfl
/-- a word shifted left, nothing lost -/
theorem shl32 (x s : Nat) (h : x * 2 ^ s < 4294967296) : IntKind.u32.wrap ((x : Int) * 2 ^ s) = ((x * 2 ^ s : Nat) : Int) := by
  rw [cast_shl, IntKind.wrap_u32]; omega
theorem own_nextb (w : World) (o : Obj) (t : TypeId) (cur : Array Value) : Own ((w.alloc o).alloc (.cells cur t)) (w.heap.size + 1) t cur := by
  have h := Own.new (w.alloc o) t cur
  rwa [show (w.alloc o).heap.size = w.heap.size + 1 from by simp] at h
theorem on_grown {w0 w w' : World} {row : Option Nat} (h : On w0 w) (hg : w.grownBy w' row) (hb : ∀ k, row = some k → w0.heap.size ≤ k) : On w0 w' := Below.grown h hg h.size hb
theorem own_grown {w w' : World} {row : Option Nat} {g : Nat} {t : TypeId} {cur : Array Value} (h : Own w g t cur) (hg : w.grownBy w' row) (hne : some g ≠ row) : Own w' g t cur := (hg.block g h.lt hne).trans h
theorem own_row0 {w : World} {g base : Nat} {t : TypeId} {k : IntKind} (h : Own w g t #[]) (hb : base ≤ g) : w.ownsRow base t 1 (.slice (some ⟨g, 0, none⟩) 0 0) 0 (VW k []) :=
  ⟨rfl, .inr ⟨g, 0, #[], rfl, hb, h, Nat.le_refl _, by decide, rfl, rfl⟩⟩
theorem own_row1 {w : World} {g base : Nat} {t : TypeId} {k : IntKind} {x : Nat} (h : Own w g t #[.int k (x : Int)]) (hb : base ≤ g) : w.ownsRow base t 1 (.slice (some ⟨g, 0, none⟩) 1 1) 1 (VW k [x]) :=
  ⟨rfl, .inr ⟨g, 1, #[.int k (x : Int)], rfl, hb, h, Nat.le_refl _, by decide, rfl, rfl⟩⟩
set_option maxRecDepth 100000 in
set_option maxHeartbeats 2000000 in
theorem rdiv_pos (w : World) (A A' : Option Addr) (n c n' c' : Nat) (xs ys : List Nat) (h : Rd w A n c xs) (k : Rd w A' n' c' ys) (hn : n ≤ 10000) (hn' : n' ≤ 10000) (hp : 0 < val ys) :
    Calls Try.prog 40 #[.slice A n c, .slice A' n' c'] w fun e w' => ∃ A1 n1 c1 A2 n2 c2, e = .returned (.tuple #[.slice A1 n1 c1, .slice A2 n2 c2, .int .i64 0]) ∧ Nm w' A1 n1 c1 (val xs / val ys) n ∧ Nm w' A2 n2 c2 (val xs % val ys) n' ∧ On w w' := by
  have HP := Lib.hid hp
  clear hp
  go_enter Try.func40, Try.ntmps40
  go_wp2_with fail
  refine (rtrim_any _ _ _ _ n' _ k (by have := tl_le ys; rw [k.len] at this; exact this) (by omega)).mono ?_
  rintro e w1 ⟨A1, n1, c1, rfl, ⟨zs, R1, C1, V1, L1⟩, P1⟩
  obtain ⟨m, hm⟩ : ∃ m, n1 = m + 1 := by
    rcases Nat.eq_zero_or_pos n1 with h0 | h0
    · subst h0
      rw [List.eq_nil_of_length_eq_zero R1.len] at V1
      have := HP.out
      simp [val] at V1; omega
    · exact ⟨n1 - 1, by omega⟩
  have htop := clean_last C1 m (by rw [R1.len]; exact hm)
  obtain ⟨ab, rfl, hbb, hcb⟩ := R1.at_ m (by omega)
  have gx := R1.ok.get m
  have hnb : nb (gw zs m) ≤ 32 := (nb_le_iff _ _).2 (by omega)
  have hnp : 0 < nb (gw zs m) := by unfold nb; rw [if_neg htop]; omega
  obtain ⟨s, hs⟩ : ∃ s, nb (gw zs m) + s = 32 := ⟨32 - nb (gw zs m), by omega⟩
  have HN := Lib.hid (norm_div zs R1.ok m s (by rw [R1.len]; exact hm) htop hs)
  have hlo : ∀ j, j < s → gw zs m * 2 ^ j < 2147483648 := fun j hj => by
    have h1 := nb_lt (gw zs m)
    have h2 : gw zs m * 2 ^ (j + 1) < 2 ^ nb (gw zs m) * 2 ^ (j + 1) := Nat.mul_lt_mul_of_pos_right h1 (Nat.pow_pos (by decide))
    rw [← Nat.pow_add] at h2
    have h3 : 2 ^ (nb (gw zs m) + (j + 1)) ≤ 2 ^ 32 := Nat.pow_le_pow_right (by decide) (by omega)
    rw [Nat.pow_succ, ← Nat.mul_assoc] at h2
    omega
  have hhi : 2147483648 ≤ gw zs m * 2 ^ s ∧ gw zs m * 2 ^ s < 4294967296 := by
    have h1 := nb_lt (gw zs m)
    have h2 : gw zs m * 2 ^ s < 2 ^ nb (gw zs m) * 2 ^ s := Nat.mul_lt_mul_of_pos_right h1 (Nat.pow_pos (by decide))
    rw [← Nat.pow_add, hs] at h2
    have h3 : 2 ^ (nb (gw zs m) - 1) ≤ gw zs m := nb_ge (gw zs m) (by omega)
    have h4 : 2 ^ (nb (gw zs m) - 1) * 2 ^ s ≤ gw zs m * 2 ^ s := Nat.mul_le_mul_right _ h3
    rw [← Nat.pow_add, show nb (gw zs m) - 1 + s = 31 from by omega] at h4
    exact ⟨h4, h2⟩
  have HLO := Lib.hid hlo
  have HHI := Lib.hid hhi
  have HM := Lib.hid hm
  have HZL : Hid (val zs < BB ^ n1) := Lib.hid (by have := val_lt R1.ok; rw [R1.len] at this; exact this)
  have HV1 := Lib.hid V1
  have w0 : IntKind.i64.wrap ((n1 : Int) - 1) = (m : Int) := by rw [IntWalk.i64_in _ (by omega)]; omega
  have i1 : m < n1 := by omega
  have hs31 : s ≤ 31 := by omega
  have hd1 : ((n1 : Int) == 0) = false := by simp; omega
  clear hlo hhi hm hs hnb hnp htop V1
  go_wp2
  go_loop [8] (fun sv => ∃ j : Nat, j ≤ s ∧ sv = .int .i64 (j : Int)) (fun sv => s - (intOf sv).toNat)
  case atStart => exact ⟨0, by omega, rfl⟩
  case round =>
    obtain ⟨j, hj, rfl⟩ := hrel
    by_cases hlt : j < s
    · have hx := HLO.out j hlt
      have e1 := shl32 (gw zs m) j (by omega)
      obtain ⟨X, hX⟩ : ∃ X, gw zs m * 2 ^ j = X := ⟨_, rfl⟩
      rw [hX] at e1 hx
      have e2 := and31 X hx
      clear hX
      go_wp2
      go_round
      case rel => exact ⟨j + 1, by omega, by go_num⟩
      case measure => first | (simp [intOf]; done) | (simp [intOf]; omega)
    · obtain rfl : j = s := by omega
      have e1 := shl32 (gw zs m) j HHI.out.2
      have hh := HHI.out
      obtain ⟨X, hX⟩ : ∃ X, gw zs m * 2 ^ j = X := ⟨_, rfl⟩
      rw [hX] at e1 hh
      have e2 := and31' X hh.1 hh.2
      clear hX hh
      go_wp2_with fail
      refine (rup_any _ _ _ _ j _ (h.on P1) (by omega) hs31).mono ?_
      rintro e w2 ⟨A2, n2, c2, rfl, ⟨ua, R2, C2, V2, L2⟩, P2⟩
      go_wp2_with fail
      refine (rup_any _ _ _ _ j _ (R1.on P2) (by omega) hs31).mono ?_
      rintro e w3 ⟨A3, n3, c3, rfl, ⟨ub, R3, C3, V3, L3⟩, P3⟩
      have RA := R2.on P3
      have hon := (P1.trans P2).trans P3
      have V3' := V3
      rw [HV1.out] at V3'
      obtain rfl : n1 = n3 := by
        have h1 := norm_tl ub R3.ok m (by rw [V3]; exact HN.out.1) (by rw [V3]; exact HN.out.2)
        rw [C3, R3.len] at h1
        rw [h1]; exact HM.out
      have htop3 := norm_top ub R3.ok m (by rw [R3.len]; exact HM.out) (by rw [V3]; exact HN.out.1)
      have HT3 := Lib.hid htop3
      have HVA := Lib.hid V2
      have HVB := Lib.hid V3'
      clear V2 V3 V3' htop3 R1 P1 P2 P3 hcb hbb C1
      go_wp2
      obtain ⟨k0, hk0, hk1⟩ : ∃ k0, n2 + 1 - n1 = k0 ∧ k0 ≤ n2 := ⟨_, rfl, by omega⟩
      have hmx : max (0 : Int) ((n2 : Int) - (n1 : Int) + 1) = (k0 : Int) := by omega
      have HK0 := Lib.hid hk0
      have hmk := fun W => run_mk n2 (by omega) W
      have hca := RA.cap
      have hma := RA.max
      clear hk0
      go_upto_region 9 with (fail)
      go_cut [9, 10] (fun s9 s10 wx => ∃ (g : Nat) (cur : Array Value) (A9 : Option Addr) (c9 : Nat), s9 = .slice (some ⟨g, 0, none⟩) n2 n2 ∧ Own wx g 53 cur ∧ Has cur 0 (List.replicate n2 0) ∧ w3.heap.size ≤ g ∧ s10 = .slice A9 (n2 - k0) c9 ∧ Rd wx A9 (n2 - k0) c9 (ua.drop k0) ∧ On w3 wx)
      case first =>
        have RK := RA.cutA hk1
        have hsl : ∀ W, (Instr.slice 22 (.slice A2 n2 c2) (some (.int .i64 (k0 : Int))) none none).run Try.prog W = .ok (.slice (cutA A2 c2 k0) (n2 - k0) (c2 - k0)) W := fun W => run_cut W A2 n2 c2 k0 hk1 hca hma
        obtain ⟨AK, hAK⟩ : ∃ AK, cutA A2 c2 k0 = AK := ⟨_, rfl⟩
        rw [hAK] at RK hsl
        clear hAK
        have hk2 : (0 : Int) ≤ (k0 : Int) := by omega
        have hw1 : IntKind.i64.wrap ((n2 : Int) - (n1 : Int)) = (n2 : Int) - (n1 : Int) := IntWalk.i64_in _ (by omega)
        have hw2 : IntKind.i64.wrap ((n2 : Int) - (n1 : Int) + 1) = (n2 : Int) - (n1 : Int) + 1 := IntWalk.i64_in _ (by omega)
        have hk3 : (k0 : Int) ≤ (n2 : Int) := by omega
        go_region_held3 (fun W => On w3 W) (first | (refine on_grown ?_ hgrow5 ?_; assumption; (intro kk ek; simp [Value.ownBlock] at ek; omega)) | (repeat' (first | assumption | exact On.refl w3 | apply On.drew | apply On.alloc)))
          (first | (refine step_app rfl (.tmp 40) (.tmp 48) 22 ?_ w3.heap.size 53 (.int .u32 0) 4 Try.underlying22 info32 rfl (by decide) .u32 (.slice (some ⟨w3.heap.size + 1, 0, none⟩) 0 0) 0 [] ?_ ?_ AK (n2 - k0) (c2 - k0) (ua.drop k0) ?_ ?_ ?_ ?_ ?_ ?_ ?_; rfl; rfl; (refine own_row0 ?_ ?_; (first | exact Own.new _ _ _ | exact (Own.new _ _ _).alloc _ | exact own_nextb _ _ _ _ | exact (Own.new _ _ _).drew | exact ((Own.new _ _ _).alloc _).drew | exact (own_nextb _ _ _ _).drew); omega); rfl; (exact RK.len); (exact RK.nil_app); (refine (RK.on ?_).cells_app; assumption); (omega); (simp <;> omega); intro v' w5 hown5 hgrow5 hor) | (refine step_app rfl (.tmp 40) (.tmp 48) 22 ?_ w3.heap.size 53 (.int .u32 0) 4 Try.underlying22 info32 rfl (by decide) .u32 (.slice (some ⟨w3.heap.size, 0, none⟩) 0 0) 0 [] ?_ ?_ AK (n2 - k0) (c2 - k0) (ua.drop k0) ?_ ?_ ?_ ?_ ?_ ?_ ?_; rfl; rfl; (refine own_row0 ?_ ?_; (first | exact Own.new _ _ _ | exact (Own.new _ _ _).alloc _ | exact own_nextb _ _ _ _ | exact (Own.new _ _ _).drew | exact ((Own.new _ _ _).alloc _).drew | exact (own_nextb _ _ _ _).drew); omega); rfl; (exact RK.len); (exact RK.nil_app); (refine (RK.on ?_).cells_app; assumption); (omega); (simp <;> omega); intro v' w5 hown5 hgrow5 hor))
        all_goals
          go_wp2
          go_meet
          rw [Nat.zero_add, List.nil_append] at hown5
          obtain ⟨A9, c9, rfl⟩ := row_form hown5
          have R9 := rd_of_row (R2.ok.drop k0) hown5
          first
            | exact ⟨w3.heap.size, _, A9, c9, rfl, own_grown ((Own.new w3 _ _).alloc _).drew hgrow5 (by simp [Value.ownBlock]), has_made _, by omega, rfl, R9, by assumption⟩
            | exact ⟨w3.heap.size + 1, _, A9, c9, rfl, own_grown (own_nextb w3 _ _ _).drew hgrow5 (by simp [Value.ownBlock]), has_made _, by omega, rfl, R9, by assumption⟩
            | (have hs5 : On w3 w5 := on_grown ((On.refl w3).alloc _).drew hgrow5 (fun kk ek => by simp [Value.ownBlock] at ek; omega)
               exact ⟨w5.heap.size, _, A9, c9, rfl, Own.new w5 _ _, has_made _, hs5.size, rfl, R9.alloc _, hs5.alloc _⟩)
      case rest =>
        obtain ⟨g, cur0, A9, c9, rfl, hown, hhas, hg, rfl, R9, hon9⟩ := hcut
        have RA9 := RA.on hon9
        have RB9 := R3.on hon9
        have hon4 := hon.trans hon9
        obtain ⟨V, hV⟩ : ∃ V, val ub = V := ⟨_, rfl⟩
        have HVV := Lib.hid hV
        have hVge : BB ^ m ≤ V := by rw [← hV]; exact clean_ge C3 m (by rw [R3.len]; exact HM.out)
        have hVlt : V < BB ^ n1 := by rw [← hV, ← R3.len]; exact val_lt R3.ok
        have hVp : 0 < V := Nat.lt_of_lt_of_le (Nat.pow_pos BB_pos) hVge
        have hr0 : val (ua.drop k0) < V := by
          have h1 := val_lt (R2.ok.drop k0)
          rw [List.length_drop, R2.len] at h1
          have hmo := HM.out
          have hko := HK0.out
          have h2 : BB ^ (n2 - k0) ≤ BB ^ m := Nat.pow_le_pow_right BB_pos (by omega)
          omega
        have HR0 := Lib.hid hr0
        have HVG := Lib.hid hVge
        have HVL := Lib.hid hVlt
        have HVP := Lib.hid hVp
        have hua := R2.len
        have HUA := Lib.hid hua
        have f0 := RB9.ok.get m
        have hft := HT3.out
        clear hV hVge hVlt hVp hr0 hua R2 hmk e1 e2 hmx RA9 RB9 hon4
        go_wp2
        go_loopw [10, 11] (fun s10 s11 wr => ∃ (k : Nat) (iv : Int) (Ar : Option Addr) (nr cr : Nat) (rs : List Nat) (cur : Array Value) (qs : List Nat), s10 = .slice Ar nr cr ∧ s11 = .int .i64 iv ∧ k ≤ k0 ∧ (iv = (k : Int) - 1 ∨ (iv < 0 ∧ k = 0)) ∧ -100000 ≤ iv ∧ Rd wr Ar nr cr rs ∧ nr ≤ n1 + 1 ∧ Own wr g 53 cur ∧ Has cur 0 qs ∧ qs.length = n2 ∧ val ua = val (ua.take k) + BB ^ k * (val rs + V * val (qs.drop k)) ∧ val rs < V ∧ On w3 wr) (fun _ s11 _ => (intOf s11 + 1).toNat)
        case atStart => exact ⟨k0, _, A9, n2 - k0, c9, ua.drop k0, cur0, List.replicate n2 0, rfl, rfl, Nat.le_refl _, by have := HK0.out; omega, by omega, R9, by have := HK0.out; omega, hown, hhas, by simp, by rw [List.drop_replicate, val_replicate, Nat.mul_zero, Nat.add_zero, ← val_split_any], HR0.out, hon9⟩
        case round =>
          obtain ⟨k, iv, Ar, nr, cr, rs, cur, qs, rfl, rfl, hk, hiv, hiv2, Rr, hnr, ho, hh, hql, heq, hlt2, honr⟩ := hrel
          have H1 := Lib.hid hql
          have H2 := Lib.hid heq
          have H3 := Lib.hid hlt2
          have H4 := Lib.hid ho
          clear hql heq hlt2 ho
          rcases k with _ | k
          · have hneg : iv < 0 := by omega
            clear hiv
            have h2 := H2.out
            simp only [List.take_zero, List.drop_zero, Nat.pow_zero, Nat.one_mul, show val ([] : List Nat) = 0 from rfl, Nat.zero_add] at h2
            rw [HVA.out] at h2
            have hend := dl_end (val rs) V (val qs) (val xs) (val ys) (2 ^ j) (Nat.pow_pos (by decide)) HP.out (by rw [← HVV.out, HVB.out]) h2 H3.out
            have HE := Lib.hid hend
            have Rq := Rd.own (n := n2) (c := n2) H4.out hh H1.out (Nat.le_refl _) (by omega)
            have HQL : Hid (tl qs ≤ n) := Lib.hid (by
              apply tl_len_of_lt
              rw [HE.out.1]
              have := val_lt h.ok
              rw [h.len] at this
              exact Nat.lt_of_le_of_lt (Nat.div_le_self _ _) this)
            clear h2 hend
            go_wp2_with fail
            refine (rtrim_any _ _ _ _ n _ Rq HQL.out (by omega)).mono ?_
            rintro e w6 ⟨A6, n6, c6, rfl, N6, P6⟩
            rw [HE.out.1] at N6
            go_wp2_with fail
            refine (rdown_any _ _ _ _ j _ (Rr.on P6) (by omega) hs31).mono ?_
            rintro e w7 ⟨A7, n7, c7, rfl, ⟨ws, R7, C7, V7, L7⟩, P7⟩
            rw [HE.out.2, Nat.mul_div_cancel _ (Nat.pow_pos (by decide))] at V7
            have HV7 := Lib.hid V7
            clear V7
            go_wp2
            go_ret3
            refine ⟨_, _, _, _, _, _, rfl, N6.on P7, ⟨ws, R7, C7, HV7.out, ?_⟩, ((hon.trans honr).trans P6).trans P7⟩
            have h5 := clean_len C7 n1 (by
              rw [HV7.out]
              exact Nat.lt_trans (Nat.mod_lt _ HP.out) (by rw [← HV1.out]; exact HZL.out))
            rw [R7.len] at h5
            omega
          · obtain rfl : iv = (k : Int) := by omega
            clear hiv hiv2
            obtain ⟨ad, rfl, hba, hca2⟩ := (RA.on honr).at_ k (by omega)
            have ga := RA.ok.get k
            have RBr := R3.on honr
            have hgr : g < wr.heap.size := H4.out.lt
            have HS1 : Hid ((wr.alloc (.cells #[.int .u32 ((gw ua k : Nat) : Int)] 53)).ownsRow wr.heap.size 53 1 (.slice (some ⟨wr.heap.size, 0, none⟩) 1 1) 1 (VW .u32 [gw ua k])) := Lib.hid (own_row1 (Own.new wr _ _) (Nat.le_refl _))
            have RrA := Rr.alloc (.cells #[.int .u32 ((gw ua k : Nat) : Int)] 53)
            have HN1 := Lib.hid RrA.nil_app
            have HC1 := Lib.hid RrA.cells_app
            have HL1 := Lib.hid Rr.len
            have HA1 : Hid (val ([gw ua k] ++ rs) = gw ua k + BB * val rs) := Lib.hid rfl
            have HO1 : Hid (Ok ([gw ua k] ++ rs)) := Lib.hid ((Ok.one ga).append Rr.ok)
            clear RrA
            go_wp2_with (at_builtin; refine wpList_app rfl (.tmp 62) (.tmp 63) 22 rfl wr.heap.size 53 (.int .u32 0) 4 Try.underlying22 info32 rfl (by decide) .u32 (.slice (some ⟨wr.heap.size, 0, none⟩) 1 1) 1 [gw ua k] rfl HS1.out Ar nr cr rs rfl HL1.out HN1.out HC1.out (by omega) (by simp) ?_; intro v' w5 hown5 hgrow5 _)
            obtain ⟨A5, c5, ho5⟩ := row_form hown5
            subst ho5
            have R5 := rd_of_row HO1.out hown5
            have hon5 : On wr w5 := on_row ((On.refl wr).alloc _) HS1.out (Nat.le_refl _) hgrow5
            go_wp2_with fail
            refine (rtrim_any _ _ _ _ (nr + 1) _ R5 (Nat.le_trans (tl_le _) (by rw [R5.len]; omega)) (by omega)).mono ?_
            rintro e w6 ⟨A6, n6, c6, rfl, ⟨us, R6, C6, V6, L6⟩, P6⟩
            rw [HA1.out] at V6
            have hon6 : On wr w6 := hon5.trans P6
            have hn6 : n6 ≤ n1 + 1 := by
              have h5 := clean_len C6 (n1 + 1) (by
                rw [V6, Nat.pow_succ]
                have h1 := H3.out
                have h2 := HVL.out
                have h3 : (val rs + 1) * BB ≤ V * BB := Nat.mul_le_mul_right _ h1
                have h4 : V * BB ≤ BB ^ n1 * BB := Nat.mul_le_mul_right _ (Nat.le_of_lt h2)
                rw [Nat.add_mul, Nat.mul_comm (val rs)] at h3
                have h5 : gw ua k < BB := ga
                omega)
              rwa [R6.len] at h5
            have HV6 := Lib.hid V6
            clear V6 R5 hown5 hgrow5 P6 hon5 Rr
            have g1 := R6.ok.get n1
            have g2 := R6.ok.get m
            go_wp2_with fail
            refine (word_is _ _ _ _ _ R6 _ n1 rfl (by omega)).mono ?_
            rintro e w' ⟨rfl, rfl⟩
            go_wp2_with fail
            refine (word_is _ _ _ _ _ R6 _ m rfl (by omega)).mono ?_
            rintro e w' ⟨rfl, rfl⟩
            go_wp2_with fail
            refine (word_is _ _ _ _ _ (RBr.on hon6) _ m rfl (by omega)).mono ?_
            rintro e w' ⟨rfl, rfl⟩
            have o1 := or64' (gw us n1) (gw us m) g1 g2
            have ht2 : gw us n1 * 4294967296 + gw us m = val us / BB ^ m := by
              have := two_top us R6.ok m (by rw [R6.len]; have := HM.out; omega)
              rwa [← HM.out] at this
            have hfv : gw ub m * BB ^ m ≤ V := by
              have e : gw ub m = V / BB ^ m := by
                rw [← HVV.out, val_div_pow ub R3.ok m, val_drop_any, List.drop_of_length_le (by rw [R3.len]; have := HM.out; omega)]
                simp [val]
              rw [e]; exact Nat.div_mul_le_self _ _
            have hult : val us < V * BB := by
              rw [HV6.out]
              have h3 : (val rs + 1) * BB ≤ V * BB := Nat.mul_le_mul_right _ H3.out
              rw [Nat.add_mul, Nat.mul_comm (val rs)] at h3
              have h5 : gw ua k < BB := ga
              omega
            obtain ⟨q, hq⟩ : ∃ q, val us / V = q := ⟨_, rfl⟩
            have hqB : q < 4294967296 := by rw [← hq]; exact Nat.div_lt_of_lt_mul hult
            obtain ⟨T, hT⟩ : ∃ T, gw us n1 * 4294967296 + gw us m = T := ⟨_, rfl⟩
            have hTw : IntKind.u64.wrap ((T : Int) / ((gw ub m : Nat) : Int)) = (T : Int) / ((gw ub m : Nat) : Int) := by
              have h1 : (T : Int) / ((gw ub m : Nat) : Int) = ((T / gw ub m : Nat) : Int) := by rw [Int.natCast_ediv]
              have h2 := Nat.div_le_self T (gw ub m)
              rw [h1]
              have h3 : T ≤ 18446744073709551615 := by omega
              generalize T / gw ub m = Y at *
              exact IntWalk.u64_in _ (by omega)
            rw [hT] at o1 ht2
            have hge := guess_ge (val us) V (BB ^ m) T (gw ub m) (Nat.pow_pos BB_pos) HVP.out ht2 hfv (by omega)
            rw [hq] at hge
            obtain ⟨G, hmin, hqG, hG⟩ := guess_val T (gw ub m) q hge hqB
            have hGm : (G : Int) % 4294967296 = (G : Int) := by omega
            have HQ := Lib.hid hq
            have HULT := Lib.hid hult
            have hf1 : (((gw ub m : Nat) : Int) == 0) = false := by simp; omega
            clear ht2 hfv hT hq hge hult
            go_wp2_with fail
            have R8 : Rd (w6.alloc (.cells #[.int .u32 (G : Int)] 53)) (some ⟨w6.heap.size, 0, none⟩) 1 1 [G] := rd_one w6 53 G hG
            refine (rmul_any _ _ _ _ _ _ _ (n1 + 1) _ _ ((RBr.on hon6).alloc _) R8 (by omega) (by omega) (by omega)).mono ?_
            rintro e w8 ⟨A8, n8, c8, rfl, ⟨ps, R9p, C9p, V9p, L9p⟩, P8⟩
            have hvp : val ps = V * G := by rw [V9p, HVV.out]; simp [val]
            have HVPs := Lib.hid hvp
            have hon8 : On wr w8 := (hon6.alloc _).trans P8
            have R6' := (R6.alloc (.cells #[.int .u32 (G : Int)] 53)).on P8
            have RB8 := RBr.on hon8
            clear V9p hvp R8 hmin hGm o1
            have HG8 := H4.out.on hon8
            have HOG := Lib.hid HG8
            have hone : On w w8 := (hon.trans honr).trans hon8
            have hon38 : On w3 w8 := honr.trans hon8
            clear HG8 R6 RBr P8
            go_wp2
            obtain ⟨wo, hwo⟩ : ∃ wo : World, wr = wo := ⟨_, rfl⟩
            rw [hwo] at hon6 hon8 honr hgr H4
            clear hwo
            go_loopw [12, 13] (fun s12 s13 wi => ∃ (g' : Nat) (Ap : Option Addr) (np cp : Nat) (ps : List Nat), s12 = .int .u64 (g' : Int) ∧ s13 = .slice Ap np cp ∧ Rd wi Ap np cp ps ∧ np ≤ n1 + 1 ∧ val ps = V * g' ∧ q ≤ g' ∧ g' < 4294967296 ∧ On w8 wi) (fun s12 _ _ => (intOf s12).toNat)
            case atStart => exact ⟨G, A8, n8, c8, ps, rfl, rfl, R9p, L9p, HVPs.out, hqG, hG, On.refl _⟩
            case round =>
              obtain ⟨g', Ap, np, cp, ps', rfl, rfl, Rp, hnp, hvp, hqg, hgl, honi⟩ := hrel
              have HV9 := Lib.hid hvp
              clear hvp
              by_cases hcmp : V * g' ≤ val us
              · have hgq : g' = q := by
                  have h1 : g' ≤ val us / V := (Nat.le_div_iff_mul_le HVP.out).2 (by rw [Nat.mul_comm]; exact hcmp)
                  rw [HQ.out] at h1
                  omega
                subst hgq
                have hcn : cmpI (val ps') (val us) ≤ 0 := by
                  rw [HV9.out]
                  rcases Nat.lt_or_eq_of_le hcmp with h | h
                  · rw [cmpI_lt h]; decide
                  · rw [cmpI_eq h]; decide
                have hcd : decide (0 < cmpI (val ps') (val us)) = false := decide_eq_false (by omega)
                have HCMP := Lib.hid hcmp
                clear hcmp
                go_wp2_with fail
                refine (rcmp_any _ _ _ _ _ _ _ _ _ Rp (R6'.on honi) (by omega) (by omega)).mono ?_
                rintro e w' ⟨rfl, rfl⟩
                go_wp2_with fail
                refine (rsub_new _ _ _ _ _ _ _ _ _ (R6'.on honi) Rp (by omega) (by omega) (by rw [HV9.out]; exact HCMP.out)).mono ?_
                rintro e w10 ⟨A10, n10, c10, rfl, ⟨vs, R10, C10, V10, L10⟩, P10, F10⟩
                rw [HV9.out] at V10
                have HVT := Lib.hid V10
                have hon10 := honi.trans P10
                have HO10 := Lib.hid (HOG.out.on hon10)
                have hcell : w10.cell? ⟨g, k, none⟩ = some (.int .u32 ((gw qs k : Nat) : Int)) := (HO10.out.cell _).trans (by have := hh.get k (by rw [H1.out]; omega); rwa [Nat.zero_add] at this)
                have hfroz : w10.frozen? ⟨g, k, none⟩ = false := HO10.out.frozen _
                have hA := hh.set_ (j := k) (x := g') (by rw [H1.out]; omega) hgl
                rw [Nat.zero_add] at hA
                have hmod := Nat.div_add_mod (val us) V
                rw [HQ.out] at hmod
                have hmlt := Nat.mod_lt (val us) HVP.out
                have HFIN : Hid (val ua = val (ua.take k) + BB ^ k * (val vs + V * val ((qs.set k g').drop k)) ∧ val vs < V) := Lib.hid (by
                  refine ⟨rdl_step ua qs k V (val rs) g' (val vs) _ (by rw [H1.out]; omega) H2.out ?_, ?_⟩
                  · rw [← HV6.out, HVT.out]; omega
                  · rw [HVT.out]; omega)
                have hnv : n10 ≤ n1 + 1 := by omega
                have hOn : On w3 w10 := hon38.trans hon10
                have hwg : w3.heap.size ≤ g := hg
                clear V10 hmod hmlt hcn hcd
                have h8 : g < w8.heap.size := HOG.out.lt
                have hfar : ∀ ad, A10 = some ad → ad.block ≠ g := fun ad e => by
                  have h1 := F10 ad e
                  have h2 := honi.size
                  omega
                have HFAR := Lib.hid hfar
                clear hfar F10
                go_wp2
                refine ⟨⟨k, (k : Int) - 1, A10, n10, c10, vs, _, qs.set k g', rfl, rfl, by omega, .inl rfl, by omega, R10.only ((Only.refl g w10).set_ k _) HFAR.out, hnv, HO10.out.set_ _ _, hA, by rw [List.length_set, H1.out], HFIN.out.1, HFIN.out.2, hOn.setCell hwg _⟩, by simp [intOf]⟩
              · have hlt3 : val us < V * g' := by omega
                have hcd : decide (0 < cmpI (val ps') (val us)) = true := by rw [HV9.out, cmpI_gt hlt3]; rfl
                have hg1 : q < g' := by
                  have h1 : val us / V < g' := Nat.div_lt_of_lt_mul hlt3
                  rwa [HQ.out] at h1
                have hle3 : val ub ≤ val ps' := by
                  rw [HV9.out, HVV.out]
                  have : V * 1 ≤ V * g' := Nat.mul_le_mul_left _ (by omega)
                  omega
                have HLE := Lib.hid hle3
                clear hcmp hlt3 hle3
                go_wp2_with fail
                refine (rcmp_any _ _ _ _ _ _ _ _ _ Rp (R6'.on honi) (by omega) (by omega)).mono ?_
                rintro e w' ⟨rfl, rfl⟩
                go_wp2_with fail
                refine (rsub_good _ _ _ _ _ _ _ _ _ Rp (RB8.on honi) (by omega) (by omega) HLE.out).mono ?_
                rintro e w10 ⟨A10, n10, c10, rfl, ⟨vs, R10, C10, V10, L10⟩, P10⟩
                rw [HV9.out, HVV.out] at V10
                have HVT := Lib.hid V10
                clear V10 hcd
                go_wp2
                go_roundw
                case rel =>
                  exact ⟨g' - 1, A10, n10, c10, vs, by congr 1; omega, rfl, R10, by omega, by rw [HVT.out, Nat.mul_sub, Nat.mul_one], by omega, by omega, honi.trans P10⟩
                case measure => simp [intOf]; omega
end Num
end Go.Proofs.Ytkpeliokhmigoaa
