/-
  What is wrong with a formula: the specification's node, Check of the program and of the specification.
-/
import Derived.Test.YtmkogcaafkobaaaFc
namespace Go.Proofs.Ytmkogcaafkobaaa.Fm
open Go.RowKit Go.Proofs.Ytmkogcaafkobaaa.Sb
set_option linter.unusedVariables false
set_option maxRecDepth 100000
set_option maxHeartbeats 8000000 in
theorem rnode_0 (w : World) (vars top : Int) (A : Option Addr) (n c : Nat) (xs : List Nd) (h : RdN w A n c xs) (hv0 : 0 ≤ vars) (hv1 : vars ≤ 24) (hn : n ≤ 128) (i : Nat) (hi : i < n) (hK : (xs.getD i Nd.z).kind = 0) :
    Calls Try.prog 26 #[.agg #[.int .i64 vars, .slice A n c, .int .i64 top], .int .i64 (i : Int)] w fun e w' => e = .returned (.int .i64 (ndErr (vars + i) (xs.getD i Nd.z) : Nat)) ∧ On w w' := by
  obtain ⟨ad, rfl, hb, P, m, k, hc0, hc1, hc2, hR⟩ := h.at_ i hi
  have hncap := h.cap
  have hnmax := h.max
  obtain ⟨x, hx⟩ : ∃ x, xs.getD i Nd.z = x := ⟨_, rfl⟩
  obtain ⟨kind, kk, args⟩ := x
  rw [hx] at hK hc0 hc1 hR ⊢
  simp only at hK hc0 hc1 hR
  subst hK
  clear hx h
  have hbk : (ad.add (i * 3)).block < w.heap.size := by rw [block_of_add]; exact hb
  have PB := (On.refl w).alloc (.cells #[.int .i64 vars, .slice (some ad) n c, .int .i64 top] 24)
  have hd0 := (Below.cell PB hbk).trans hc0
  have hd1 := (Below.cell PB (p := ⟨(ad.add (i * 3)).block, (ad.add (i * 3)).off + 1, none⟩) hbk).trans hc1
  have hd2 := (Below.cell PB (p := ⟨(ad.add (i * 3)).block, (ad.add (i * 3)).off + 2, none⟩) hbk).trans hc2
  clear hc0 hc1 hc2 PB hbk
  have hm := VI_len hR
  have hcap := hR.cap
  have hmax := hR.max
  obtain ⟨er, her⟩ : ∃ er, ndErr (vars + i) (⟨0, kk, args⟩ : Nd) = er := ⟨_, rfl⟩
  rw [her]
  unfold ndErr at her
  rw [if_neg (by simp only; omega), show leastA (⟨0, kk, args⟩ : Nd).kind = 0 from rfl, show mostA (⟨0, kk, args⟩ : Nd).kind = 0 from rfl] at her
  simp only at her
  rw [hm] at her
  have HM := Lib.hid hm
  have HR := Lib.hid hR
  clear hm hR
  obtain ⟨q, hq⟩ : ∃ q, w.heap.size = q := ⟨_, rfl⟩
  by_cases h3 : m < 0 ∨ 0 < m
  · rw [if_pos h3] at her
    subst her
    by_cases h4 : (m : Int) < 0
    · omega
    · have h5 : (0 : Int) < (m : Int) := by omega
      go_enter Try.func26, Try.ntmps26
      go_wp2
      go_ret
      exact ⟨rfl, ((On.refl w).alloc _).alloc _⟩
  · rw [if_neg h3] at her
    have h4 : ¬ (m : Int) < 0 := by omega
    have h5 : ¬ (0 : Int) < (m : Int) := by omega
    clear h3
    have HE := Lib.hid her
    clear her
    go_enter Try.func26, Try.ntmps26
    go_wp2
    clear hd0 hd1 hd2
    go_loopw [41] (fun i2 wr => ∃ j : Nat, j ≤ m ∧ i2 = .int .i64 (j : Int) ∧ (∀ t, t < j → ¬ badA (vars + i) (args.getD t 0)) ∧ On w wr ∧ Own wr q 24 #[.int .i64 vars, .slice (some ad) n c, .int .i64 top] ∧ Own wr (q + 1) 41 #[.int .i64 0, .int .i64 kk, .slice P m k]) (fun i2 _ => m - (intOf i2).toNat)
    case atStart => exact ⟨0, by omega, rfl, fun t ht => absurd ht (by omega), ((On.refl _).alloc _).alloc _, by rw [← hq]; exact (Own.new _ _ _).alloc _, by rw [← hq]; have := Own.new (w.alloc (.cells #[.int .i64 vars, .slice (some ad) n c, .int .i64 top] 24)) 41 #[.int .i64 0, .int .i64 kk, .slice P m k]; simpa using this⟩
    case round =>
      obtain ⟨j, hj, rfl, hgood, hon, hO, hO1⟩ := hrel
      by_cases hlt : j < m
      · omega
      · obtain rfl : j = m := by omega
        have he : (if kk < 0 ∨ 1 < kk then 3 else 0) = er := by rw [← HE.out, if_neg (bad_all HM.out hgood)]; rfl
        have r0 := hO1.cell 0
        have r1 := hO1.cell 1
        have r2 := hO1.cell 2
        simp at r0 r1 r2
        clear hgood hO hO1
        by_cases h6 : kk = 0
        · subst h6
          obtain rfl : 0 = er := he
          go_wp2
          go_ret
          exact ⟨rfl, hon⟩
        · by_cases h7 : kk = 1
          · subst h7
            obtain rfl : 0 = er := he
            go_wp2
            go_ret
            exact ⟨rfl, hon⟩
          · rw [if_pos (by omega)] at he
            subst he
            have h8 : (kk != 0) = true := by simpa using h6
            have h9 : (kk != 1) = true := by simpa using h7
            go_wp2
            go_ret
            exact ⟨rfl, hon⟩
set_option maxHeartbeats 8000000 in
theorem rnode_1 (w : World) (vars top : Int) (A : Option Addr) (n c : Nat) (xs : List Nd) (h : RdN w A n c xs) (hv0 : 0 ≤ vars) (hv1 : vars ≤ 24) (hn : n ≤ 128) (i : Nat) (hi : i < n) (hK : (xs.getD i Nd.z).kind = 1) :
    Calls Try.prog 26 #[.agg #[.int .i64 vars, .slice A n c, .int .i64 top], .int .i64 (i : Int)] w fun e w' => e = .returned (.int .i64 (ndErr (vars + i) (xs.getD i Nd.z) : Nat)) ∧ On w w' := by
  obtain ⟨ad, rfl, hb, P, m, k, hc0, hc1, hc2, hR⟩ := h.at_ i hi
  have hncap := h.cap
  have hnmax := h.max
  obtain ⟨x, hx⟩ : ∃ x, xs.getD i Nd.z = x := ⟨_, rfl⟩
  obtain ⟨kind, kk, args⟩ := x
  rw [hx] at hK hc0 hc1 hR ⊢
  simp only at hK hc0 hc1 hR
  subst hK
  clear hx h
  have hbk : (ad.add (i * 3)).block < w.heap.size := by rw [block_of_add]; exact hb
  have PB := (On.refl w).alloc (.cells #[.int .i64 vars, .slice (some ad) n c, .int .i64 top] 24)
  have hd0 := (Below.cell PB hbk).trans hc0
  have hd1 := (Below.cell PB (p := ⟨(ad.add (i * 3)).block, (ad.add (i * 3)).off + 1, none⟩) hbk).trans hc1
  have hd2 := (Below.cell PB (p := ⟨(ad.add (i * 3)).block, (ad.add (i * 3)).off + 2, none⟩) hbk).trans hc2
  clear hc0 hc1 hc2 PB hbk
  have hm := VI_len hR
  have hcap := hR.cap
  have hmax := hR.max
  obtain ⟨er, her⟩ : ∃ er, ndErr (vars + i) (⟨1, kk, args⟩ : Nd) = er := ⟨_, rfl⟩
  rw [her]
  unfold ndErr at her
  rw [if_neg (by simp only; omega), show leastA (⟨1, kk, args⟩ : Nd).kind = 1 from rfl, show mostA (⟨1, kk, args⟩ : Nd).kind = 1 from rfl] at her
  simp only at her
  rw [hm] at her
  have HM := Lib.hid hm
  have HR := Lib.hid hR
  clear hm hR
  obtain ⟨q, hq⟩ : ∃ q, w.heap.size = q := ⟨_, rfl⟩
  by_cases h3 : m < 1 ∨ 1 < m
  · rw [if_pos h3] at her
    subst her
    by_cases h4 : (m : Int) < 1
    · go_enter Try.func26, Try.ntmps26
      go_wp2
      go_ret
      exact ⟨rfl, ((On.refl w).alloc _).alloc _⟩
    · have h5 : (1 : Int) < (m : Int) := by omega
      go_enter Try.func26, Try.ntmps26
      go_wp2
      go_ret
      exact ⟨rfl, ((On.refl w).alloc _).alloc _⟩
  · rw [if_neg h3] at her
    have h4 : ¬ (m : Int) < 1 := by omega
    have h5 : ¬ (1 : Int) < (m : Int) := by omega
    clear h3
    have HE := Lib.hid her
    clear her
    go_enter Try.func26, Try.ntmps26
    go_wp2
    clear hd0 hd1 hd2
    go_loopw [41] (fun i2 wr => ∃ j : Nat, j ≤ m ∧ i2 = .int .i64 (j : Int) ∧ (∀ t, t < j → ¬ badA (vars + i) (args.getD t 0)) ∧ On w wr ∧ Own wr q 24 #[.int .i64 vars, .slice (some ad) n c, .int .i64 top] ∧ Own wr (q + 1) 41 #[.int .i64 1, .int .i64 kk, .slice P m k]) (fun i2 _ => m - (intOf i2).toNat)
    case atStart => exact ⟨0, by omega, rfl, fun t ht => absurd ht (by omega), ((On.refl _).alloc _).alloc _, by rw [← hq]; exact (Own.new _ _ _).alloc _, by rw [← hq]; have := Own.new (w.alloc (.cells #[.int .i64 vars, .slice (some ad) n c, .int .i64 top] 24)) 41 #[.int .i64 1, .int .i64 kk, .slice P m k]; simpa using this⟩
    case round =>
      obtain ⟨j, hj, rfl, hgood, hon, hO, hO1⟩ := hrel
      by_cases hlt : j < m
      · obtain ⟨ad2, rfl, hb2, hc⟩ := VI_at (HR.out.on hon) hlt
        obtain ⟨a, ha⟩ : ∃ a, args.getD j 0 = a := ⟨_, rfl⟩
        have hmem : a ∈ args := by rw [← ha]; exact getD_mem0 (by rw [HM.out]; exact hlt)
        rw [ha] at hc
        have r0 := hO.cell 0
        simp at r0
        by_cases hbad : badA (vars + i) a
        · have he : er = 10 := by rw [← HE.out, if_pos ⟨a, hmem, hbad⟩]
          subst he
          clear hgood hO hO1
          by_cases hb1 : a < 0
          · go_wp2
            go_ret
            exact ⟨rfl, hon⟩
          · have hb3 : vars + i ≤ a := by rcases hbad with h | h; exact absurd h hb1; exact h
            go_wp2
            go_ret
            exact ⟨rfl, hon⟩
        · have hb1 : ¬ a < 0 := fun h => hbad (.inl h)
          have hb3 : ¬ vars + i ≤ a := fun h => hbad (.inr h)
          have HG := Lib.hid (And.intro hgood (And.intro ha (And.intro hbad (And.intro hO hO1))))
          clear hgood ha hbad hmem hO hO1
          go_wp2
          refine ⟨⟨j + 1, by omega, by go_num, fun t ht => ?_, hon, HG.out.2.2.2⟩, by simp [intOf]; omega⟩
          by_cases e : t = j
          · subst e; rw [HG.out.2.1]; exact HG.out.2.2.1
          · exact HG.out.1 t (by omega)
      · obtain rfl : j = m := by omega
        have he : (if kk = 0 then 0 else 2) = er := by rw [← HE.out, if_neg (bad_all HM.out hgood)]; rfl
        have r0 := hO1.cell 0
        have r1 := hO1.cell 1
        have r2 := hO1.cell 2
        simp at r0 r1 r2
        clear hgood hO hO1
        by_cases h6 : kk = 0
        · subst h6
          obtain rfl : 0 = er := he
          go_wp2
          go_ret
          exact ⟨rfl, hon⟩
        · rw [if_neg h6] at he
          subst he
          go_wp2
          go_ret
          exact ⟨rfl, hon⟩
set_option maxHeartbeats 8000000 in
theorem rnode_2 (w : World) (vars top : Int) (A : Option Addr) (n c : Nat) (xs : List Nd) (h : RdN w A n c xs) (hv0 : 0 ≤ vars) (hv1 : vars ≤ 24) (hn : n ≤ 128) (i : Nat) (hi : i < n) (hK : (xs.getD i Nd.z).kind = 2) :
    Calls Try.prog 26 #[.agg #[.int .i64 vars, .slice A n c, .int .i64 top], .int .i64 (i : Int)] w fun e w' => e = .returned (.int .i64 (ndErr (vars + i) (xs.getD i Nd.z) : Nat)) ∧ On w w' := by
  obtain ⟨ad, rfl, hb, P, m, k, hc0, hc1, hc2, hR⟩ := h.at_ i hi
  have hncap := h.cap
  have hnmax := h.max
  obtain ⟨x, hx⟩ : ∃ x, xs.getD i Nd.z = x := ⟨_, rfl⟩
  obtain ⟨kind, kk, args⟩ := x
  rw [hx] at hK hc0 hc1 hR ⊢
  simp only at hK hc0 hc1 hR
  subst hK
  clear hx h
  have hbk : (ad.add (i * 3)).block < w.heap.size := by rw [block_of_add]; exact hb
  have PB := (On.refl w).alloc (.cells #[.int .i64 vars, .slice (some ad) n c, .int .i64 top] 24)
  have hd0 := (Below.cell PB hbk).trans hc0
  have hd1 := (Below.cell PB (p := ⟨(ad.add (i * 3)).block, (ad.add (i * 3)).off + 1, none⟩) hbk).trans hc1
  have hd2 := (Below.cell PB (p := ⟨(ad.add (i * 3)).block, (ad.add (i * 3)).off + 2, none⟩) hbk).trans hc2
  clear hc0 hc1 hc2 PB hbk
  have hm := VI_len hR
  have hcap := hR.cap
  have hmax := hR.max
  obtain ⟨er, her⟩ : ∃ er, ndErr (vars + i) (⟨2, kk, args⟩ : Nd) = er := ⟨_, rfl⟩
  rw [her]
  unfold ndErr at her
  rw [if_neg (by simp only; omega), show leastA (⟨2, kk, args⟩ : Nd).kind = 1 from rfl, show mostA (⟨2, kk, args⟩ : Nd).kind = 16 from rfl] at her
  simp only at her
  rw [hm] at her
  have HM := Lib.hid hm
  have HR := Lib.hid hR
  clear hm hR
  obtain ⟨q, hq⟩ : ∃ q, w.heap.size = q := ⟨_, rfl⟩
  by_cases h3 : m < 1 ∨ 16 < m
  · rw [if_pos h3] at her
    subst her
    by_cases h4 : (m : Int) < 1
    · go_enter Try.func26, Try.ntmps26
      go_wp2
      go_ret
      exact ⟨rfl, ((On.refl w).alloc _).alloc _⟩
    · have h5 : (16 : Int) < (m : Int) := by omega
      go_enter Try.func26, Try.ntmps26
      go_wp2
      go_ret
      exact ⟨rfl, ((On.refl w).alloc _).alloc _⟩
  · rw [if_neg h3] at her
    have h4 : ¬ (m : Int) < 1 := by omega
    have h5 : ¬ (16 : Int) < (m : Int) := by omega
    clear h3
    have HE := Lib.hid her
    clear her
    go_enter Try.func26, Try.ntmps26
    go_wp2
    clear hd0 hd1 hd2
    go_loopw [41] (fun i2 wr => ∃ j : Nat, j ≤ m ∧ i2 = .int .i64 (j : Int) ∧ (∀ t, t < j → ¬ badA (vars + i) (args.getD t 0)) ∧ On w wr ∧ Own wr q 24 #[.int .i64 vars, .slice (some ad) n c, .int .i64 top] ∧ Own wr (q + 1) 41 #[.int .i64 2, .int .i64 kk, .slice P m k]) (fun i2 _ => m - (intOf i2).toNat)
    case atStart => exact ⟨0, by omega, rfl, fun t ht => absurd ht (by omega), ((On.refl _).alloc _).alloc _, by rw [← hq]; exact (Own.new _ _ _).alloc _, by rw [← hq]; have := Own.new (w.alloc (.cells #[.int .i64 vars, .slice (some ad) n c, .int .i64 top] 24)) 41 #[.int .i64 2, .int .i64 kk, .slice P m k]; simpa using this⟩
    case round =>
      obtain ⟨j, hj, rfl, hgood, hon, hO, hO1⟩ := hrel
      by_cases hlt : j < m
      · obtain ⟨ad2, rfl, hb2, hc⟩ := VI_at (HR.out.on hon) hlt
        obtain ⟨a, ha⟩ : ∃ a, args.getD j 0 = a := ⟨_, rfl⟩
        have hmem : a ∈ args := by rw [← ha]; exact getD_mem0 (by rw [HM.out]; exact hlt)
        rw [ha] at hc
        have r0 := hO.cell 0
        simp at r0
        by_cases hbad : badA (vars + i) a
        · have he : er = 10 := by rw [← HE.out, if_pos ⟨a, hmem, hbad⟩]
          subst he
          clear hgood hO hO1
          by_cases hb1 : a < 0
          · go_wp2
            go_ret
            exact ⟨rfl, hon⟩
          · have hb3 : vars + i ≤ a := by rcases hbad with h | h; exact absurd h hb1; exact h
            go_wp2
            go_ret
            exact ⟨rfl, hon⟩
        · have hb1 : ¬ a < 0 := fun h => hbad (.inl h)
          have hb3 : ¬ vars + i ≤ a := fun h => hbad (.inr h)
          have HG := Lib.hid (And.intro hgood (And.intro ha (And.intro hbad (And.intro hO hO1))))
          clear hgood ha hbad hmem hO hO1
          go_wp2
          refine ⟨⟨j + 1, by omega, by go_num, fun t ht => ?_, hon, HG.out.2.2.2⟩, by simp [intOf]; omega⟩
          by_cases e : t = j
          · subst e; rw [HG.out.2.1]; exact HG.out.2.2.1
          · exact HG.out.1 t (by omega)
      · obtain rfl : j = m := by omega
        have he : (if kk = 0 then 0 else 2) = er := by rw [← HE.out, if_neg (bad_all HM.out hgood)]; rfl
        have r0 := hO1.cell 0
        have r1 := hO1.cell 1
        have r2 := hO1.cell 2
        simp at r0 r1 r2
        clear hgood hO hO1
        by_cases h6 : kk = 0
        · subst h6
          obtain rfl : 0 = er := he
          go_wp2
          go_ret
          exact ⟨rfl, hon⟩
        · rw [if_neg h6] at he
          subst he
          go_wp2
          go_ret
          exact ⟨rfl, hon⟩
set_option maxHeartbeats 8000000 in
theorem rnode_3 (w : World) (vars top : Int) (A : Option Addr) (n c : Nat) (xs : List Nd) (h : RdN w A n c xs) (hv0 : 0 ≤ vars) (hv1 : vars ≤ 24) (hn : n ≤ 128) (i : Nat) (hi : i < n) (hK : (xs.getD i Nd.z).kind = 3) :
    Calls Try.prog 26 #[.agg #[.int .i64 vars, .slice A n c, .int .i64 top], .int .i64 (i : Int)] w fun e w' => e = .returned (.int .i64 (ndErr (vars + i) (xs.getD i Nd.z) : Nat)) ∧ On w w' := by
  obtain ⟨ad, rfl, hb, P, m, k, hc0, hc1, hc2, hR⟩ := h.at_ i hi
  have hncap := h.cap
  have hnmax := h.max
  obtain ⟨x, hx⟩ : ∃ x, xs.getD i Nd.z = x := ⟨_, rfl⟩
  obtain ⟨kind, kk, args⟩ := x
  rw [hx] at hK hc0 hc1 hR ⊢
  simp only at hK hc0 hc1 hR
  subst hK
  clear hx h
  have hbk : (ad.add (i * 3)).block < w.heap.size := by rw [block_of_add]; exact hb
  have PB := (On.refl w).alloc (.cells #[.int .i64 vars, .slice (some ad) n c, .int .i64 top] 24)
  have hd0 := (Below.cell PB hbk).trans hc0
  have hd1 := (Below.cell PB (p := ⟨(ad.add (i * 3)).block, (ad.add (i * 3)).off + 1, none⟩) hbk).trans hc1
  have hd2 := (Below.cell PB (p := ⟨(ad.add (i * 3)).block, (ad.add (i * 3)).off + 2, none⟩) hbk).trans hc2
  clear hc0 hc1 hc2 PB hbk
  have hm := VI_len hR
  have hcap := hR.cap
  have hmax := hR.max
  obtain ⟨er, her⟩ : ∃ er, ndErr (vars + i) (⟨3, kk, args⟩ : Nd) = er := ⟨_, rfl⟩
  rw [her]
  unfold ndErr at her
  rw [if_neg (by simp only; omega), show leastA (⟨3, kk, args⟩ : Nd).kind = 1 from rfl, show mostA (⟨3, kk, args⟩ : Nd).kind = 16 from rfl] at her
  simp only at her
  rw [hm] at her
  have HM := Lib.hid hm
  have HR := Lib.hid hR
  clear hm hR
  obtain ⟨q, hq⟩ : ∃ q, w.heap.size = q := ⟨_, rfl⟩
  by_cases h3 : m < 1 ∨ 16 < m
  · rw [if_pos h3] at her
    subst her
    by_cases h4 : (m : Int) < 1
    · go_enter Try.func26, Try.ntmps26
      go_wp2
      go_ret
      exact ⟨rfl, ((On.refl w).alloc _).alloc _⟩
    · have h5 : (16 : Int) < (m : Int) := by omega
      go_enter Try.func26, Try.ntmps26
      go_wp2
      go_ret
      exact ⟨rfl, ((On.refl w).alloc _).alloc _⟩
  · rw [if_neg h3] at her
    have h4 : ¬ (m : Int) < 1 := by omega
    have h5 : ¬ (16 : Int) < (m : Int) := by omega
    clear h3
    have HE := Lib.hid her
    clear her
    go_enter Try.func26, Try.ntmps26
    go_wp2
    clear hd0 hd1 hd2
    go_loopw [41] (fun i2 wr => ∃ j : Nat, j ≤ m ∧ i2 = .int .i64 (j : Int) ∧ (∀ t, t < j → ¬ badA (vars + i) (args.getD t 0)) ∧ On w wr ∧ Own wr q 24 #[.int .i64 vars, .slice (some ad) n c, .int .i64 top] ∧ Own wr (q + 1) 41 #[.int .i64 3, .int .i64 kk, .slice P m k]) (fun i2 _ => m - (intOf i2).toNat)
    case atStart => exact ⟨0, by omega, rfl, fun t ht => absurd ht (by omega), ((On.refl _).alloc _).alloc _, by rw [← hq]; exact (Own.new _ _ _).alloc _, by rw [← hq]; have := Own.new (w.alloc (.cells #[.int .i64 vars, .slice (some ad) n c, .int .i64 top] 24)) 41 #[.int .i64 3, .int .i64 kk, .slice P m k]; simpa using this⟩
    case round =>
      obtain ⟨j, hj, rfl, hgood, hon, hO, hO1⟩ := hrel
      by_cases hlt : j < m
      · obtain ⟨ad2, rfl, hb2, hc⟩ := VI_at (HR.out.on hon) hlt
        obtain ⟨a, ha⟩ : ∃ a, args.getD j 0 = a := ⟨_, rfl⟩
        have hmem : a ∈ args := by rw [← ha]; exact getD_mem0 (by rw [HM.out]; exact hlt)
        rw [ha] at hc
        have r0 := hO.cell 0
        simp at r0
        by_cases hbad : badA (vars + i) a
        · have he : er = 10 := by rw [← HE.out, if_pos ⟨a, hmem, hbad⟩]
          subst he
          clear hgood hO hO1
          by_cases hb1 : a < 0
          · go_wp2
            go_ret
            exact ⟨rfl, hon⟩
          · have hb3 : vars + i ≤ a := by rcases hbad with h | h; exact absurd h hb1; exact h
            go_wp2
            go_ret
            exact ⟨rfl, hon⟩
        · have hb1 : ¬ a < 0 := fun h => hbad (.inl h)
          have hb3 : ¬ vars + i ≤ a := fun h => hbad (.inr h)
          have HG := Lib.hid (And.intro hgood (And.intro ha (And.intro hbad (And.intro hO hO1))))
          clear hgood ha hbad hmem hO hO1
          go_wp2
          refine ⟨⟨j + 1, by omega, by go_num, fun t ht => ?_, hon, HG.out.2.2.2⟩, by simp [intOf]; omega⟩
          by_cases e : t = j
          · subst e; rw [HG.out.2.1]; exact HG.out.2.2.1
          · exact HG.out.1 t (by omega)
      · obtain rfl : j = m := by omega
        have he : (if kk = 0 then 0 else 2) = er := by rw [← HE.out, if_neg (bad_all HM.out hgood)]; rfl
        have r0 := hO1.cell 0
        have r1 := hO1.cell 1
        have r2 := hO1.cell 2
        simp at r0 r1 r2
        clear hgood hO hO1
        by_cases h6 : kk = 0
        · subst h6
          obtain rfl : 0 = er := he
          go_wp2
          go_ret
          exact ⟨rfl, hon⟩
        · rw [if_neg h6] at he
          subst he
          go_wp2
          go_ret
          exact ⟨rfl, hon⟩
set_option maxHeartbeats 8000000 in
theorem rnode_4 (w : World) (vars top : Int) (A : Option Addr) (n c : Nat) (xs : List Nd) (h : RdN w A n c xs) (hv0 : 0 ≤ vars) (hv1 : vars ≤ 24) (hn : n ≤ 128) (i : Nat) (hi : i < n) (hK : (xs.getD i Nd.z).kind = 4) :
    Calls Try.prog 26 #[.agg #[.int .i64 vars, .slice A n c, .int .i64 top], .int .i64 (i : Int)] w fun e w' => e = .returned (.int .i64 (ndErr (vars + i) (xs.getD i Nd.z) : Nat)) ∧ On w w' := by
  obtain ⟨ad, rfl, hb, P, m, k, hc0, hc1, hc2, hR⟩ := h.at_ i hi
  have hncap := h.cap
  have hnmax := h.max
  obtain ⟨x, hx⟩ : ∃ x, xs.getD i Nd.z = x := ⟨_, rfl⟩
  obtain ⟨kind, kk, args⟩ := x
  rw [hx] at hK hc0 hc1 hR ⊢
  simp only at hK hc0 hc1 hR
  subst hK
  clear hx h
  have hbk : (ad.add (i * 3)).block < w.heap.size := by rw [block_of_add]; exact hb
  have PB := (On.refl w).alloc (.cells #[.int .i64 vars, .slice (some ad) n c, .int .i64 top] 24)
  have hd0 := (Below.cell PB hbk).trans hc0
  have hd1 := (Below.cell PB (p := ⟨(ad.add (i * 3)).block, (ad.add (i * 3)).off + 1, none⟩) hbk).trans hc1
  have hd2 := (Below.cell PB (p := ⟨(ad.add (i * 3)).block, (ad.add (i * 3)).off + 2, none⟩) hbk).trans hc2
  clear hc0 hc1 hc2 PB hbk
  have hm := VI_len hR
  have hcap := hR.cap
  have hmax := hR.max
  obtain ⟨er, her⟩ : ∃ er, ndErr (vars + i) (⟨4, kk, args⟩ : Nd) = er := ⟨_, rfl⟩
  rw [her]
  unfold ndErr at her
  rw [if_neg (by simp only; omega), show leastA (⟨4, kk, args⟩ : Nd).kind = 1 from rfl, show mostA (⟨4, kk, args⟩ : Nd).kind = 16 from rfl] at her
  simp only at her
  rw [hm] at her
  have HM := Lib.hid hm
  have HR := Lib.hid hR
  clear hm hR
  obtain ⟨q, hq⟩ : ∃ q, w.heap.size = q := ⟨_, rfl⟩
  by_cases h3 : m < 1 ∨ 16 < m
  · rw [if_pos h3] at her
    subst her
    by_cases h4 : (m : Int) < 1
    · go_enter Try.func26, Try.ntmps26
      go_wp2
      go_ret
      exact ⟨rfl, ((On.refl w).alloc _).alloc _⟩
    · have h5 : (16 : Int) < (m : Int) := by omega
      go_enter Try.func26, Try.ntmps26
      go_wp2
      go_ret
      exact ⟨rfl, ((On.refl w).alloc _).alloc _⟩
  · rw [if_neg h3] at her
    have h4 : ¬ (m : Int) < 1 := by omega
    have h5 : ¬ (16 : Int) < (m : Int) := by omega
    clear h3
    have HE := Lib.hid her
    clear her
    go_enter Try.func26, Try.ntmps26
    go_wp2
    clear hd0 hd1 hd2
    go_loopw [41] (fun i2 wr => ∃ j : Nat, j ≤ m ∧ i2 = .int .i64 (j : Int) ∧ (∀ t, t < j → ¬ badA (vars + i) (args.getD t 0)) ∧ On w wr ∧ Own wr q 24 #[.int .i64 vars, .slice (some ad) n c, .int .i64 top] ∧ Own wr (q + 1) 41 #[.int .i64 4, .int .i64 kk, .slice P m k]) (fun i2 _ => m - (intOf i2).toNat)
    case atStart => exact ⟨0, by omega, rfl, fun t ht => absurd ht (by omega), ((On.refl _).alloc _).alloc _, by rw [← hq]; exact (Own.new _ _ _).alloc _, by rw [← hq]; have := Own.new (w.alloc (.cells #[.int .i64 vars, .slice (some ad) n c, .int .i64 top] 24)) 41 #[.int .i64 4, .int .i64 kk, .slice P m k]; simpa using this⟩
    case round =>
      obtain ⟨j, hj, rfl, hgood, hon, hO, hO1⟩ := hrel
      by_cases hlt : j < m
      · obtain ⟨ad2, rfl, hb2, hc⟩ := VI_at (HR.out.on hon) hlt
        obtain ⟨a, ha⟩ : ∃ a, args.getD j 0 = a := ⟨_, rfl⟩
        have hmem : a ∈ args := by rw [← ha]; exact getD_mem0 (by rw [HM.out]; exact hlt)
        rw [ha] at hc
        have r0 := hO.cell 0
        simp at r0
        by_cases hbad : badA (vars + i) a
        · have he : er = 10 := by rw [← HE.out, if_pos ⟨a, hmem, hbad⟩]
          subst he
          clear hgood hO hO1
          by_cases hb1 : a < 0
          · go_wp2
            go_ret
            exact ⟨rfl, hon⟩
          · have hb3 : vars + i ≤ a := by rcases hbad with h | h; exact absurd h hb1; exact h
            go_wp2
            go_ret
            exact ⟨rfl, hon⟩
        · have hb1 : ¬ a < 0 := fun h => hbad (.inl h)
          have hb3 : ¬ vars + i ≤ a := fun h => hbad (.inr h)
          have HG := Lib.hid (And.intro hgood (And.intro ha (And.intro hbad (And.intro hO hO1))))
          clear hgood ha hbad hmem hO hO1
          go_wp2
          refine ⟨⟨j + 1, by omega, by go_num, fun t ht => ?_, hon, HG.out.2.2.2⟩, by simp [intOf]; omega⟩
          by_cases e : t = j
          · subst e; rw [HG.out.2.1]; exact HG.out.2.2.1
          · exact HG.out.1 t (by omega)
      · obtain rfl : j = m := by omega
        have he : (if kk < 1 ∨ (args.length : Int) < kk then 3 else 0) = er := by rw [← HE.out, if_neg (bad_all HM.out hgood)]; rfl
        rw [HM.out] at he
        have r0 := hO1.cell 0
        have r1 := hO1.cell 1
        have r2 := hO1.cell 2
        simp at r0 r1 r2
        clear hgood hO hO1
        by_cases h6 : kk < 1
        · rw [if_pos (Or.inl h6)] at he
          subst he
          go_wp2
          go_ret
          exact ⟨rfl, hon⟩
        · by_cases h7 : (j : Int) < kk
          · rw [if_pos (Or.inr h7)] at he
            subst he
            go_wp2
            go_ret
            exact ⟨rfl, hon⟩
          · rw [if_neg (by omega)] at he
            subst he
            go_wp2
            go_ret
            exact ⟨rfl, hon⟩
set_option maxHeartbeats 8000000 in
theorem rnode_5 (w : World) (vars top : Int) (A : Option Addr) (n c : Nat) (xs : List Nd) (h : RdN w A n c xs) (hv0 : 0 ≤ vars) (hv1 : vars ≤ 24) (hn : n ≤ 128) (i : Nat) (hi : i < n) (hK : (xs.getD i Nd.z).kind = 5) :
    Calls Try.prog 26 #[.agg #[.int .i64 vars, .slice A n c, .int .i64 top], .int .i64 (i : Int)] w fun e w' => e = .returned (.int .i64 (ndErr (vars + i) (xs.getD i Nd.z) : Nat)) ∧ On w w' := by
  obtain ⟨ad, rfl, hb, P, m, k, hc0, hc1, hc2, hR⟩ := h.at_ i hi
  have hncap := h.cap
  have hnmax := h.max
  obtain ⟨x, hx⟩ : ∃ x, xs.getD i Nd.z = x := ⟨_, rfl⟩
  obtain ⟨kind, kk, args⟩ := x
  rw [hx] at hK hc0 hc1 hR ⊢
  simp only at hK hc0 hc1 hR
  subst hK
  clear hx h
  have hbk : (ad.add (i * 3)).block < w.heap.size := by rw [block_of_add]; exact hb
  have PB := (On.refl w).alloc (.cells #[.int .i64 vars, .slice (some ad) n c, .int .i64 top] 24)
  have hd0 := (Below.cell PB hbk).trans hc0
  have hd1 := (Below.cell PB (p := ⟨(ad.add (i * 3)).block, (ad.add (i * 3)).off + 1, none⟩) hbk).trans hc1
  have hd2 := (Below.cell PB (p := ⟨(ad.add (i * 3)).block, (ad.add (i * 3)).off + 2, none⟩) hbk).trans hc2
  clear hc0 hc1 hc2 PB hbk
  have hm := VI_len hR
  have hcap := hR.cap
  have hmax := hR.max
  obtain ⟨er, her⟩ : ∃ er, ndErr (vars + i) (⟨5, kk, args⟩ : Nd) = er := ⟨_, rfl⟩
  rw [her]
  unfold ndErr at her
  rw [if_neg (by simp only; omega), show leastA (⟨5, kk, args⟩ : Nd).kind = 1 from rfl, show mostA (⟨5, kk, args⟩ : Nd).kind = 16 from rfl] at her
  simp only at her
  rw [hm] at her
  have HM := Lib.hid hm
  have HR := Lib.hid hR
  clear hm hR
  obtain ⟨q, hq⟩ : ∃ q, w.heap.size = q := ⟨_, rfl⟩
  by_cases h3 : m < 1 ∨ 16 < m
  · rw [if_pos h3] at her
    subst her
    by_cases h4 : (m : Int) < 1
    · go_enter Try.func26, Try.ntmps26
      go_wp2
      go_ret
      exact ⟨rfl, ((On.refl w).alloc _).alloc _⟩
    · have h5 : (16 : Int) < (m : Int) := by omega
      go_enter Try.func26, Try.ntmps26
      go_wp2
      go_ret
      exact ⟨rfl, ((On.refl w).alloc _).alloc _⟩
  · rw [if_neg h3] at her
    have h4 : ¬ (m : Int) < 1 := by omega
    have h5 : ¬ (16 : Int) < (m : Int) := by omega
    clear h3
    have HE := Lib.hid her
    clear her
    go_enter Try.func26, Try.ntmps26
    go_wp2
    clear hd0 hd1 hd2
    go_loopw [41] (fun i2 wr => ∃ j : Nat, j ≤ m ∧ i2 = .int .i64 (j : Int) ∧ (∀ t, t < j → ¬ badA (vars + i) (args.getD t 0)) ∧ On w wr ∧ Own wr q 24 #[.int .i64 vars, .slice (some ad) n c, .int .i64 top] ∧ Own wr (q + 1) 41 #[.int .i64 5, .int .i64 kk, .slice P m k]) (fun i2 _ => m - (intOf i2).toNat)
    case atStart => exact ⟨0, by omega, rfl, fun t ht => absurd ht (by omega), ((On.refl _).alloc _).alloc _, by rw [← hq]; exact (Own.new _ _ _).alloc _, by rw [← hq]; have := Own.new (w.alloc (.cells #[.int .i64 vars, .slice (some ad) n c, .int .i64 top] 24)) 41 #[.int .i64 5, .int .i64 kk, .slice P m k]; simpa using this⟩
    case round =>
      obtain ⟨j, hj, rfl, hgood, hon, hO, hO1⟩ := hrel
      by_cases hlt : j < m
      · obtain ⟨ad2, rfl, hb2, hc⟩ := VI_at (HR.out.on hon) hlt
        obtain ⟨a, ha⟩ : ∃ a, args.getD j 0 = a := ⟨_, rfl⟩
        have hmem : a ∈ args := by rw [← ha]; exact getD_mem0 (by rw [HM.out]; exact hlt)
        rw [ha] at hc
        have r0 := hO.cell 0
        simp at r0
        by_cases hbad : badA (vars + i) a
        · have he : er = 10 := by rw [← HE.out, if_pos ⟨a, hmem, hbad⟩]
          subst he
          clear hgood hO hO1
          by_cases hb1 : a < 0
          · go_wp2
            go_ret
            exact ⟨rfl, hon⟩
          · have hb3 : vars + i ≤ a := by rcases hbad with h | h; exact absurd h hb1; exact h
            go_wp2
            go_ret
            exact ⟨rfl, hon⟩
        · have hb1 : ¬ a < 0 := fun h => hbad (.inl h)
          have hb3 : ¬ vars + i ≤ a := fun h => hbad (.inr h)
          have HG := Lib.hid (And.intro hgood (And.intro ha (And.intro hbad (And.intro hO hO1))))
          clear hgood ha hbad hmem hO hO1
          go_wp2
          refine ⟨⟨j + 1, by omega, by go_num, fun t ht => ?_, hon, HG.out.2.2.2⟩, by simp [intOf]; omega⟩
          by_cases e : t = j
          · subst e; rw [HG.out.2.1]; exact HG.out.2.2.1
          · exact HG.out.1 t (by omega)
      · obtain rfl : j = m := by omega
        have he : (if kk = 0 then 0 else 2) = er := by rw [← HE.out, if_neg (bad_all HM.out hgood)]; rfl
        have r0 := hO1.cell 0
        have r1 := hO1.cell 1
        have r2 := hO1.cell 2
        simp at r0 r1 r2
        clear hgood hO hO1
        by_cases h6 : kk = 0
        · subst h6
          obtain rfl : 0 = er := he
          go_wp2
          go_ret
          exact ⟨rfl, hon⟩
        · rw [if_neg h6] at he
          subst he
          go_wp2
          go_ret
          exact ⟨rfl, hon⟩
set_option maxHeartbeats 4000000 in
theorem rnode_any (w : World) (vars top : Int) (A : Option Addr) (n c : Nat) (xs : List Nd) (h : RdN w A n c xs) (hv0 : 0 ≤ vars) (hv1 : vars ≤ 24) (hn : n ≤ 128) (i : Nat) (hi : i < n) :
    Calls Try.prog 26 #[.agg #[.int .i64 vars, .slice A n c, .int .i64 top], .int .i64 (i : Int)] w fun e w' => e = .returned (.int .i64 (ndErr (vars + i) (xs.getD i Nd.z) : Nat)) ∧ On w w' := by
  by_cases h0 : (xs.getD i Nd.z).kind < 0 ∨ 5 < (xs.getD i Nd.z).kind
  · obtain ⟨ad, rfl, hb, P, m, k, hc0, hc1, hc2, hR⟩ := h.at_ i hi
    have hncap := h.cap
    have hnmax := h.max
    unfold ndErr
    rw [if_pos h0]
    obtain ⟨kind, hkind⟩ : ∃ kind, (xs.getD i Nd.z).kind = kind := ⟨_, rfl⟩
    rw [hkind] at h0 hc0
    have n0 : ¬ kind = 0 := by omega
    have n1 : ¬ kind = 1 := by omega
    have n2 : ¬ kind = 2 := by omega
    have n3 : ¬ kind = 3 := by omega
    have n4 : ¬ kind = 4 := by omega
    have n5 : ¬ kind = 5 := by omega
    obtain ⟨kk, hkk⟩ : ∃ kk, (xs.getD i Nd.z).k = kk := ⟨_, rfl⟩
    rw [hkk] at hc1
    clear hkk hkind h0 hR h
    have hbk : (ad.add (i * 3)).block < w.heap.size := by rw [block_of_add]; exact hb
    have PB := (On.refl w).alloc (.cells #[.int .i64 vars, .slice (some ad) n c, .int .i64 top] 24)
    have hd0 := (Below.cell PB hbk).trans hc0
    have hd1 := (Below.cell PB (p := ⟨(ad.add (i * 3)).block, (ad.add (i * 3)).off + 1, none⟩) hbk).trans hc1
    have hd2 := (Below.cell PB (p := ⟨(ad.add (i * 3)).block, (ad.add (i * 3)).off + 2, none⟩) hbk).trans hc2
    clear hc0 hc1 hc2 PB hbk
    go_enter Try.func26, Try.ntmps26
    go_wp2
    go_ret
    exact ⟨rfl, ((On.refl w).alloc _).alloc _⟩
  · have : (xs.getD i Nd.z).kind = 0 ∨ (xs.getD i Nd.z).kind = 1 ∨ (xs.getD i Nd.z).kind = 2 ∨ (xs.getD i Nd.z).kind = 3 ∨ (xs.getD i Nd.z).kind = 4 ∨ (xs.getD i Nd.z).kind = 5 := by omega
    rcases this with e | e | e | e | e | e
    · exact rnode_0 w vars top A n c xs h hv0 hv1 hn i hi e
    · exact rnode_1 w vars top A n c xs h hv0 hv1 hn i hi e
    · exact rnode_2 w vars top A n c xs h hv0 hv1 hn i hi e
    · exact rnode_3 w vars top A n c xs h hv0 hv1 hn i hi e
    · exact rnode_4 w vars top A n c xs h hv0 hv1 hn i hi e
    · exact rnode_5 w vars top A n c xs h hv0 hv1 hn i hi e
end Go.Proofs.Ytmkogcaafkobaaa.Fm
