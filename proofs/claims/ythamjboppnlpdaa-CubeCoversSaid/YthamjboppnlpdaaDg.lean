/-
  The specification of cubes: Covers, Count.
-/
import Derived.Test.YthamjboppnlpdaaDd
import Derived.Test.YthamjboppnlpdaaDf
namespace Go.Proofs.Ythamjboppnlpdaa.Cu
open Go.RowKit Go.Proofs.Ythamjboppnlpdaa.Sb
set_option linter.unusedVariables false
set_option maxRecDepth 100000
theorem notmeet {c : Cb} {l : List Cb} {j : Nat} (h : ∀ t, t < j → implC c (l.getD t (0, 0)) = false) (hj : j ≤ l.length) : ∀ d ∈ l.take j, clash c d = 0 → without (evs d) (evs c) ≠ 0 := by
  intro d hd hc
  obtain ⟨t, ht, rfl⟩ := List.getElem_of_mem hd
  rw [List.length_take] at ht
  have h1 := h t (by omega)
  have e : l.getD t (0, 0) = (l.take j)[t] := by
    rw [List.getD_eq_getElem?_getD, List.getElem?_eq_getElem (by omega), List.getElem_take]; rfl
  rw [e] at h1
  exact split_more hc h1
theorem evsz_lt {a b : Cb} (ha : OkC a) : without (evs a) (evs b) < 16777216 := Nat.lt_of_le_of_lt (without_le _ _) (evs_lt ha)
/-- the event that is split at -/
theorem split_event {c : Cb} {l : List Cb} (hl : ∀ x ∈ l, OkC x) (h : splitL c l ≠ 0) {v : Nat} (hf : ∀ x ∈ l, evs x < 2 ^ v) (hv : v ≤ 24) : ∃ k, k < v ∧ splitL c l < 16777216 ∧ splitL c l &&& (16777216 - splitL c l) = 2 ^ k ∧ (evs c).testBit k = false := by
  obtain ⟨d, hd, he⟩ := splitL_some h
  have hlt : splitL c l < 16777216 := by rw [he]; exact evsz_lt (hl d hd)
  obtain ⟨k, _, hk, hb, _, _, _, hlow, _, _⟩ := els_cons (splitL c l) hlt h
  rw [he, without_tb, Bool.and_eq_true] at hb
  exact ⟨k, fit_tb (hf d hd) hb.1, hlt, hlow, by simpa using hb.2⟩
theorem wrap_addr (a b : Nat) (h : a + b ≤ 16777216) : IntKind.i64.wrap ((a : Int) + (b : Int)) = (a : Int) + (b : Int) := by rw [IntKind.wrap_i64]; omega
theorem sum_two {p n1 n2 q u u1 u2 r1 r2 : Nat} (h24 : p ≤ 16777216) (hp : q = p) (hu : u = u1 + u2) (hn : q = n1 + n2) {a1 a2 : Nat} (h1 : a1 + u1 = n1) (h2 : a2 + u2 = n2) (e1 : n1 - u1 = r1) (e2 : n2 - u2 = r2) : r1 + r2 = p - u ∧ p - u ≤ 16777216 := by omega
set_option maxHeartbeats 32000000 in
theorem rcovers_gen (v : Nat) (hv : v ≤ 24) : ∀ (fuel : Nat) (c : Cb), 24 - pc (evs c) < fuel → OkC c → evs c < 2 ^ v → ∀ (l : List Cb), (∀ x ∈ l, OkC x) → (∀ x ∈ l, evs x < 2 ^ v) → ∀ (w : World) (A : Option Addr) (n cc : Nat), RdC w A n cc (zl l) → n ≤ 2000 →
    Calls Try.prog 38 #[.slice A n cc, cbV c] w fun e w' => e = .returned (.bool (decide (U v l c = 0))) ∧ On w w' := by
  intro fuel
  induction fuel with
  | zero => intro c h; omega
  | succ fuel ih =>
    intro c hfuel hc hfit l hl hf w A n cc h hn2
    have hnl : l.length = n := by have := h.len; rwa [zl_len] at this
    have hcap := h.cap
    have hmax := h.max
    have hI := fun W x (hx : x ∈ l) => rimplies_ok W c x hc (hl x hx)
    have hM := fun W x (hx : x ∈ l) => rmeets_ok W c x hc (hl x hx)
    have hUi := fun d hd h => U_impl (v := v) (l := l) (c := c) (d := d) hd h
    have hUa := fun h => U_apart (v := v) (l := l) (c := c) h
    rw [U_leaf hv hc hfit] at hUa
    have hpos := Nat.two_pow_pos (v - pc (evs c))
    have hp24 : 2 ^ (v - pc (evs c)) ≤ 16777216 := by
      have : (2 : Nat) ^ (v - pc (evs c)) ≤ 2 ^ 24 := Nat.pow_le_pow_right (by decide) (by omega)
      exact this
    have hpf := pc_fit hv hfit
    have hsz := fun W => rsize_ok W c hc
    have hse := fun h => split_event (c := c) hl h hf hv
    have hU2 := fun k => U_two v l c k
    have hyo := fun k hk hb => yesC_ok (k := k) hc hk hb
    have hye := fun k => yes_evs c k
    have hme := fun k hk hb => more_evs (k := k) (evs_lt hc) hk hb
    have hfo := fun k hk => fit_or (k := k) hfit hk
    have hnm := fun j h hj => notmeet (c := c) (l := l) (j := j) h hj
    have hst := fun l' d h => splitL_snoc c l' d h
    have hspz := fun h h0 => splitL_zero (c := c) (l := l) h h0
    have hev := evs_lt hc
    obtain ⟨uu, hu⟩ : ∃ z, U v l c = z := ⟨_, rfl⟩
    rw [hu] at hUi hUa hU2 ⊢
    obtain ⟨pw, hpw⟩ : ∃ z, 2 ^ (v - pc (evs c)) = z := ⟨_, rfl⟩
    have hs := shl1 (v - pc (evs c))
    rw [hpw] at hUa hpos hp24 hs 
    obtain ⟨q, hq⟩ : ∃ q, w.heap.size = q := ⟨_, rfl⟩
    obtain ⟨w0, hw0⟩ : ∃ w0, w.alloc (.cells #[.int .i64 (c.1 : Int), .int .i64 (c.2 : Int)] 23) = w0 := ⟨_, rfl⟩
    obtain ⟨O0, P0⟩ := box1 hq hw0
    have HR := Lib.hid (And.intro (h.on P0) (And.intro hnl (And.intro hl (And.intro O0 (And.intro P0 hf)))))
    have HC := Lib.hid (And.intro hI (And.intro hM hsz))
    have HU := Lib.hid (And.intro hUi (And.intro hUa (And.intro hpos (And.intro hp24 (And.intro hpf hs)))))
    have HS := Lib.hid (And.intro hse (And.intro hU2 (And.intro hyo (And.intro hye (And.intro hme (And.intro hfo (And.intro hnm (And.intro hst hspz))))))))
    have HK := Lib.hid (And.intro hc (And.intro hfit (And.intro hfuel hev)))
    clear h hnl hl O0 P0 hf hI hM hsz hUi hUa hpos hp24 hpf hs hse hU2 hyo hye hme hfo hnm hst hspz hu hpw hc hfit hfuel hev
    unfold cbV
    go_enter Try.func38, Try.ntmps38
    subst hq
    go_wp2
    go_loopw [6, 5] (fun i sv wr => ∃ j : Nat, j ≤ n ∧ i = .int .i64 (j : Int) ∧ sv = .int .i64 (splitL c (l.take j) : Nat) ∧ (∀ t, t < j → implC c (l.getD t (0, 0)) = false) ∧ On w0 wr) (fun i _ _ => n - (intOf i).toNat)
    case atStart => exact ⟨0, by omega, rfl, rfl, fun t ht => by omega, On.refl _⟩
    case round =>
      obtain ⟨j, hj, rfl, rfl, hni, hon⟩ := hrel
      by_cases hlt : j < n
      · have hjl : j < l.length := by rw [HR.out.2.1]; exact hlt
        have hm := getD_mem (d := (0, 0)) hjl
        have hok := HR.out.2.2.1 _ hm
        have cI := fun W => HC.out.1 W _ hm
        have cM := fun W => HC.out.2.1 W _ hm
        have hUi := HU.out.1 _ hm
        have hsn := HS.out.2.2.2.2.2.2.2.1 (l.take j) (l.getD j (0, 0)) 
        rw [← take_snoc hjl] at hsn
        obtain ⟨ad, rfl, hb, hc0, hc1⟩ := (HR.out.1.on hon).at_ hlt
        rw [zl_cell] at hc0 hc1
        simp only at hc0 hc1
        have hbb : (ad.add (j * 2)).block < wr.heap.size := by rw [block_of_add]; exact hb
        obtain ⟨⟨x, y⟩, hx⟩ : ∃ z, l.getD j (0, 0) = z := ⟨_, rfl⟩
        rw [hx] at hc0 hc1 hok cI cM hUi hsn
        simp only at hc0 hc1
        unfold cbV at cI cM
        simp only at cI cM
        have hS0 : ∀ W, On wr W → On wr W ∧ W.cell? (ad.add (j * 2)) = some (.int .i64 (x : Int)) ∧ W.cell? ⟨(ad.add (j * 2)).block, (ad.add (j * 2)).off + 1, none⟩ = some (.int .i64 (y : Int)) ∧ W.cell? ⟨w.heap.size, 0, none⟩ = some (.int .i64 (c.1 : Int)) ∧ W.cell? ⟨w.heap.size, 1, none⟩ = some (.int .i64 (c.2 : Int)) := fun W k => ⟨k, (Below.cell k hbb).trans hc0, (Below.cell k (p := ⟨(ad.add (j * 2)).block, (ad.add (j * 2)).off + 1, none⟩) hbb).trans hc1, (own2 ((HR.out.2.2.2.1.on hon).on k)).1, (own2 ((HR.out.2.2.2.1.on hon).on k)).2⟩
        have HSS := Lib.hid hS0
        have hS6 := hS0 wr (On.refl _)
        obtain ⟨ib, hib⟩ : ∃ z, implC c (x, y) = z := ⟨_, rfl⟩
        obtain ⟨mb, hmb⟩ : ∃ z, decide (clash c (x, y) = 0) = z := ⟨_, rfl⟩
        obtain ⟨s0, hs0⟩ : ∃ z, splitL c (l.take j) = z := ⟨_, rfl⟩
        rw [hib] at cI
        rw [hmb] at cM
        rw [hs0] at hsn ⊢
        have o1 := or_nat x y (lt63 hok.1) (lt63 hok.2.1)
        have o2 := or_nat c.1 c.2 (lt63 HK.out.1.1) (lt63 HK.out.1.2.1)
        have o3 := andNot_nat (x ||| y) (c.1 ||| c.2) (lt63 (or24 hok.1 hok.2.1)) (lt63 (or24 HK.out.1.1 HK.out.1.2.1))
        have HX := Lib.hid (And.intro hsn (And.intro hUi (And.intro hib (And.intro hmb (And.intro hni (And.intro hx (And.intro cI (And.intro cM (And.intro hon (And.intro hok (And.intro o1 (And.intro o2 o3))))))))))))
        clear hS0 hsn hUi hib hmb hs0 hni hx cI cM hon hok o1 o2 o3 hbb hc0 hc1 hm hjl
        go_wp2
        go_region_held3 (fun W => On wr W ∧ W.cell? (ad.add (j * 2)) = some (.int .i64 (x : Int)) ∧ W.cell? ⟨(ad.add (j * 2)).block, (ad.add (j * 2)).off + 1, none⟩ = some (.int .i64 (y : Int)) ∧ W.cell? ⟨w.heap.size, 0, none⟩ = some (.int .i64 (c.1 : Int)) ∧ W.cell? ⟨w.heap.size, 1, none⟩ = some (.int .i64 (c.2 : Int)))
          (first | exact HSS.out _ (On.refl _).drew | exact HSS.out _ (On.refl _) | assumption | (go_split_ands; exact HSS.out _ (On.trans (by assumption) PA)))
          (first
            | (go_at_call 25; (with_reducible refine (HX.out.2.2.2.2.2.2.1 _).mono ?_); rintro e wA ⟨rfl, PA⟩))
        obtain ⟨w7, hwe⟩ : ∃ w7, w7 = wA := ⟨_, rfl⟩
        subst hwe
        rename_i hHe
        have hOn7 := hHe.1
        clear hHe PA hS6
        have hS7 := HSS.out _ hOn7
        have HON := Lib.hid hOn7
        clear hOn7
        cases ib with
        | true =>
          go_wp2
          go_ret
          refine ⟨?_, HR.out.2.2.2.2.1.trans (HX.out.2.2.2.2.2.2.2.2.1.trans HON.out)⟩
          rw [HX.out.2.1 HX.out.2.2.1]
          rfl
        | false =>
          go_wp2
          go_region_held3 (fun W => On wr W ∧ W.cell? (ad.add (j * 2)) = some (.int .i64 (x : Int)) ∧ W.cell? ⟨(ad.add (j * 2)).block, (ad.add (j * 2)).off + 1, none⟩ = some (.int .i64 (y : Int)) ∧ W.cell? ⟨w.heap.size, 0, none⟩ = some (.int .i64 (c.1 : Int)) ∧ W.cell? ⟨w.heap.size, 1, none⟩ = some (.int .i64 (c.2 : Int)))
            (first | exact HSS.out _ (On.drew HON.out) | exact HSS.out _ HON.out | assumption | (go_split_ands; exact HSS.out _ (On.trans (by assumption) PA)))
            (first
              | (go_at_call 50; (with_reducible refine (HX.out.2.2.2.2.2.2.2.1 _).mono ?_); rintro e wA ⟨rfl, PA⟩))
          obtain ⟨w8, hwe⟩ : ∃ w7, w7 = wA := ⟨_, rfl⟩
          subst hwe
          rename_i hHe
          have hOn8 := hHe.1
          clear hHe PA hS7
          obtain ⟨_, d0, d1, d2, d3⟩ := HSS.out _ hOn8
          have HON8 := Lib.hid hOn8
          clear hOn8
          have hnx : ∀ t, t < j + 1 → implC c (l.getD t (0, 0)) = false := fun t ht => by
            by_cases e : t = j
            · subst e; rw [HX.out.2.2.2.2.2.1]; exact HX.out.2.2.1
            · exact HX.out.2.2.2.2.1 t (by omega)
          have hsn := HX.out.1 (fun hcl => split_more hcl HX.out.2.2.1)
          cases mb with
          | true =>
            have hcl := of_decide_eq_true HX.out.2.2.2.1
            rw [if_pos hcl] at hsn
            obtain ⟨o1, o2, o3⟩ := HX.out.2.2.2.2.2.2.2.2.2.2
            obtain ⟨e1, he1⟩ : ∃ z, x ||| y = z := ⟨_, rfl⟩
            obtain ⟨e2, he2⟩ : ∃ z, c.1 ||| c.2 = z := ⟨_, rfl⟩
            have hsn2 : splitL c (l.take (j + 1)) = without (x ||| y) (c.1 ||| c.2) := hsn
            rw [he1] at o1 o3 hsn2
            rw [he2] at o2 o3 hsn2
            have HN := Lib.hid (And.intro hsn2 hnx)
            clear hsn hcl hsn2 hnx he1 he2
            go_wp2_with fail
            go_quiet (fail)
            all_goals go_wp2
            go_roundw
            case rel => exact ⟨j + 1, by omega, by go_num, by rw [HN.out.1], HN.out.2, On.drewN (HX.out.2.2.2.2.2.2.2.2.1.trans HON8.out) _⟩
            case measure => simp [intOf] <;> omega
          | false =>
            have hcl := of_decide_eq_false HX.out.2.2.2.1
            rw [if_neg hcl] at hsn
            have HN := Lib.hid (And.intro hsn hnx)
            clear hsn hcl hnx d0 d1 d2 d3
            go_wp2
            go_roundw
            case rel => exact ⟨j + 1, by omega, by go_num, by rw [HN.out.1], HN.out.2, HX.out.2.2.2.2.2.2.2.2.1.trans HON8.out⟩
            case measure => simp [intOf] <;> omega
      · obtain rfl : j = n := by omega
        have et : l.take j = l := List.take_of_length_le (by rw [HR.out.2.1]; omega)
        rw [et]
        have hnot := HS.out.2.2.2.2.2.2.1 j hni (by rw [HR.out.2.1]; omega)
        rw [et] at hnot
        have hzero := HS.out.2.2.2.2.2.2.2.2 hnot
        obtain ⟨wq, hwq⟩ : ∃ z, z = wr := ⟨_, rfl⟩
        subst hwq
        by_cases hz : splitL c l = 0
        · have hua := HU.out.2.1 (hzero hz)
          rw [hz]
          have HF := Lib.hid (And.intro hua (HR.out.2.2.2.2.1.trans hon))
          clear hon hni hnot hzero hz hua et
          go_wp2
          go_ret
          refine ⟨?_, HF.out.2⟩
          rw [HF.out.1, decide_eq_false (show ¬ pw = 0 by have := HU.out.2.2.1; omega)]
          rfl
        · obtain ⟨k, hk, hslt, hlow, hkb⟩ := HS.out.1 hz
          have hlo := low_run (splitL c l) (2 ^ k) hslt hz hlow
          rw [show wrap64 (-((splitL c l : Nat) : Int)) = -((splitL c l : Nat) : Int) by unfold wrap64; omega] at hlo
          have hk24 : k < 24 := by omega
          have hU2 := HS.out.2.1 k
          have hyo := HS.out.2.2.1 k hk24 hkb
          have hye := HS.out.2.2.2.1 k
          have hme := HS.out.2.2.2.2.1 k hk24 hkb
          have hfo := HS.out.2.2.2.2.2.1 k hk
          have hp24 : 2 ^ k < 16777216 := by have : (2 : Nat) ^ k < 2 ^ 24 := Nat.pow_lt_pow_right (by decide) hk24; exact this
          have hfl : 24 - pc (evs c ||| 2 ^ k) < fuel := by have := HK.out.2.2.1; have := pc_le (evs c ||| 2 ^ k); omega
          have hA := fun W (R : RdC W A j cc (zl l)) => ih (yesC c k) (by rw [hye.1]; exact hfl) hyo.1 (by rw [hye.1]; exact hfo) l HR.out.2.2.1 HR.out.2.2.2.2.2 W A j cc R hn2
          have hB := fun W (R : RdC W A j cc (zl l)) => ih (noC c k) (by rw [hye.2]; exact hfl) hyo.2 (by rw [hye.2]; exact hfo) l HR.out.2.2.1 HR.out.2.2.2.2.2 W A j cc R hn2
          have hNU1 := U_leaf hv hyo.1 (by rw [hye.1]; exact hfo)
          have hNU2 := U_leaf hv hyo.2 (by rw [hye.2]; exact hfo)
          have hNU0 := U_leaf hv HK.out.1 HK.out.2.1
          have hN2 := U_two v [] c k
          rw [hNU1, hNU2, hNU0] at hN2
          have hle1 := Cov_U v l (yesC c k)
          have hle2 := Cov_U v l (noC c k)
          rw [hNU1] at hle1
          rw [hNU2] at hle2
          have o1 := or_nat c.1 (2 ^ k) (lt63 HK.out.1.1) (lt63 hp24)
          have o2 := or_nat c.2 (2 ^ k) (lt63 HK.out.1.2.1) (lt63 hp24)
          obtain ⟨u1, hu1⟩ : ∃ z, U v l (yesC c k) = z := ⟨_, rfl⟩
          obtain ⟨u2, hu2⟩ : ∃ z, U v l (noC c k) = z := ⟨_, rfl⟩
          rw [hu1] at hA hU2 hle1
          rw [hu2] at hB hU2 hle2
          unfold yesC cbV at hA
          unfold noC cbV at hB
          simp only at hA hB
          obtain ⟨sp, hsp⟩ : ∃ z, splitL c l = z := ⟨_, rfl⟩
          rw [hsp] at hlo hz hslt ⊢
          obtain ⟨bt, hbt⟩ : ∃ z, 2 ^ k = z := ⟨_, rfl⟩
          rw [hbt] at hlo o1 o2 hA hB
          obtain ⟨y1, hy1⟩ : ∃ z, c.1 ||| bt = z := ⟨_, rfl⟩
          obtain ⟨y2, hy2⟩ : ∃ z, c.2 ||| bt = z := ⟨_, rfl⟩
          rw [hy1] at o1 hA
          rw [hy2] at o2 hB
          have hOq := HR.out.2.2.2.1.on hon
          have hzi : ¬ (sp : Int) = 0 := by omega
          have HN := Lib.hid (And.intro hU2 (And.intro hN2 (And.intro hle1 hle2)))
          have HQ := Lib.hid (And.intro hOq (And.intro (HR.out.1.on hon) (HR.out.2.2.2.2.1.trans hon)))
          have HAB := Lib.hid (And.intro hA hB)
          obtain ⟨q0, q1⟩ := own2 hOq
          clear hA hB hU2 hN2 hNU1 hNU2 hNU0 hle1 hle2 hyo hye hme hfo hfl hp24 hnot hzero hni hon hOq hu1 hu2 hsp hbt hy1 hy2 hlow hkb et
          have hA2 := HAB.out.1 wq HQ.out.2.1
          obtain ⟨b1, hb1⟩ : ∃ z, decide (u1 = 0) = z := ⟨_, rfl⟩
          obtain ⟨b2, hb2⟩ : ∃ z, decide (u2 = 0) = z := ⟨_, rfl⟩
          have hB2 := HAB.out.2
          rw [hb1] at hA2
          rw [hb2] at hB2
          have hres : decide (uu = 0) = (b1 && b2) := by
            rw [← hb1, ← hb2, ← Bool.decide_and, decide_eq_decide]
            have := HN.out.1
            omega
          have HRS := Lib.hid hres
          have HB2 := Lib.hid hB2
          clear hres hb1 hb2 hB2
          cases b1 with
          | false =>
            go_wp2_with fail
            refine hA2.mono ?_
            rintro e w9 ⟨rfl, P9⟩
            clear hA2
            go_wp2
            go_ret
            exact ⟨by rw [HRS.out]; rfl, HQ.out.2.2.trans P9⟩
          | true =>
            go_wp2_with fail
            refine hA2.mono ?_
            rintro e w9 ⟨rfl, P9⟩
            clear hA2 q0 q1
            obtain ⟨q0, q1⟩ := own2 (HQ.out.1.on P9)
            have hB3 := HB2.out w9 (HQ.out.2.1.on P9)
            have HP9 := Lib.hid (HQ.out.2.2.trans P9)
            clear P9
            go_wp2_with fail
            refine hB3.mono ?_
            rintro e w10 ⟨rfl, P10⟩
            go_wp2
            go_ret
            exact ⟨by rw [HRS.out]; rfl, HP9.out.trans P10⟩
set_option maxHeartbeats 32000000 in
theorem rcount_gen (v : Nat) (hv : v ≤ 24) : ∀ (fuel : Nat) (c : Cb), 24 - pc (evs c) < fuel → OkC c → evs c < 2 ^ v → ∀ (l : List Cb), (∀ x ∈ l, OkC x) → (∀ x ∈ l, evs x < 2 ^ v) → ∀ (w : World) (A : Option Addr) (n cc : Nat), RdC w A n cc (zl l) → n ≤ 2000 →
    Calls Try.prog 39 #[.slice A n cc, cbV c, .int .i64 (v : Int)] w fun e w' => e = .returned (.int .i64 ((2 ^ (v - pc (evs c)) - U v l c : Nat) : Int)) ∧ On w w' := by
  intro fuel
  induction fuel with
  | zero => intro c h; omega
  | succ fuel ih =>
    intro c hfuel hc hfit l hl hf w A n cc h hn2
    have hnl : l.length = n := by have := h.len; rwa [zl_len] at this
    have hcap := h.cap
    have hmax := h.max
    have hI := fun W x (hx : x ∈ l) => rimplies_ok W c x hc (hl x hx)
    have hM := fun W x (hx : x ∈ l) => rmeets_ok W c x hc (hl x hx)
    have hUi := fun d hd h => U_impl (v := v) (l := l) (c := c) (d := d) hd h
    have hUa := fun h => U_apart (v := v) (l := l) (c := c) h
    rw [U_leaf hv hc hfit] at hUa
    have hpos := Nat.two_pow_pos (v - pc (evs c))
    have hp24 : 2 ^ (v - pc (evs c)) ≤ 16777216 := by
      have : (2 : Nat) ^ (v - pc (evs c)) ≤ 2 ^ 24 := Nat.pow_le_pow_right (by decide) (by omega)
      exact this
    have hpf := pc_fit hv hfit
    have hsz := fun W => rsize_ok W c hc
    have hse := fun h => split_event (c := c) hl h hf hv
    have hU2 := fun k => U_two v l c k
    have hyo := fun k hk hb => yesC_ok (k := k) hc hk hb
    have hye := fun k => yes_evs c k
    have hme := fun k hk hb => more_evs (k := k) (evs_lt hc) hk hb
    have hfo := fun k hk => fit_or (k := k) hfit hk
    have hnm := fun j h hj => notmeet (c := c) (l := l) (j := j) h hj
    have hst := fun l' d h => splitL_snoc c l' d h
    have hspz := fun h h0 => splitL_zero (c := c) (l := l) h h0
    have hev := evs_lt hc
    obtain ⟨uu, hu⟩ : ∃ z, U v l c = z := ⟨_, rfl⟩
    rw [hu] at hUi hUa hU2 ⊢
    obtain ⟨pw, hpw⟩ : ∃ z, 2 ^ (v - pc (evs c)) = z := ⟨_, rfl⟩
    have hs := shl1 (v - pc (evs c))
    rw [hpw] at hUa hpos hp24 hs ⊢
    obtain ⟨q, hq⟩ : ∃ q, w.heap.size = q := ⟨_, rfl⟩
    obtain ⟨w0, hw0⟩ : ∃ w0, w.alloc (.cells #[.int .i64 (c.1 : Int), .int .i64 (c.2 : Int)] 23) = w0 := ⟨_, rfl⟩
    obtain ⟨O0, P0⟩ := box1 hq hw0
    have HR := Lib.hid (And.intro (h.on P0) (And.intro hnl (And.intro hl (And.intro O0 (And.intro P0 hf)))))
    have HC := Lib.hid (And.intro hI (And.intro hM hsz))
    have HU := Lib.hid (And.intro hUi (And.intro hUa (And.intro hpos (And.intro hp24 (And.intro hpf hs)))))
    have HS := Lib.hid (And.intro hse (And.intro hU2 (And.intro hyo (And.intro hye (And.intro hme (And.intro hfo (And.intro hnm (And.intro hst hspz))))))))
    have HK := Lib.hid (And.intro hc (And.intro hfit (And.intro hfuel hev)))
    have HPW := Lib.hid hpw
    clear h hnl hl O0 P0 hf hI hM hsz hUi hUa hpos hp24 hpf hs hse hU2 hyo hye hme hfo hnm hst hspz hu hpw hc hfit hfuel hev
    unfold cbV
    go_enter Try.func39, Try.ntmps39
    subst hq
    go_wp2
    go_loopw [8, 7] (fun i sv wr => ∃ j : Nat, j ≤ n ∧ i = .int .i64 (j : Int) ∧ sv = .int .i64 (splitL c (l.take j) : Nat) ∧ (∀ t, t < j → implC c (l.getD t (0, 0)) = false) ∧ On w0 wr) (fun i _ _ => n - (intOf i).toNat)
    case atStart => exact ⟨0, by omega, rfl, rfl, fun t ht => by omega, On.refl _⟩
    case round =>
      obtain ⟨j, hj, rfl, rfl, hni, hon⟩ := hrel
      by_cases hlt : j < n
      · have hjl : j < l.length := by rw [HR.out.2.1]; exact hlt
        have hm := getD_mem (d := (0, 0)) hjl
        have hok := HR.out.2.2.1 _ hm
        have cI := fun W => HC.out.1 W _ hm
        have cM := fun W => HC.out.2.1 W _ hm
        have hUi := HU.out.1 _ hm
        have hsn := HS.out.2.2.2.2.2.2.2.1 (l.take j) (l.getD j (0, 0)) 
        rw [← take_snoc hjl] at hsn
        obtain ⟨ad, rfl, hb, hc0, hc1⟩ := (HR.out.1.on hon).at_ hlt
        rw [zl_cell] at hc0 hc1
        simp only at hc0 hc1
        have hbb : (ad.add (j * 2)).block < wr.heap.size := by rw [block_of_add]; exact hb
        obtain ⟨⟨x, y⟩, hx⟩ : ∃ z, l.getD j (0, 0) = z := ⟨_, rfl⟩
        rw [hx] at hc0 hc1 hok cI cM hUi hsn
        simp only at hc0 hc1
        unfold cbV at cI cM
        simp only at cI cM
        have hS0 : ∀ W, On wr W → On wr W ∧ W.cell? (ad.add (j * 2)) = some (.int .i64 (x : Int)) ∧ W.cell? ⟨(ad.add (j * 2)).block, (ad.add (j * 2)).off + 1, none⟩ = some (.int .i64 (y : Int)) ∧ W.cell? ⟨w.heap.size, 0, none⟩ = some (.int .i64 (c.1 : Int)) ∧ W.cell? ⟨w.heap.size, 1, none⟩ = some (.int .i64 (c.2 : Int)) := fun W k => ⟨k, (Below.cell k hbb).trans hc0, (Below.cell k (p := ⟨(ad.add (j * 2)).block, (ad.add (j * 2)).off + 1, none⟩) hbb).trans hc1, (own2 ((HR.out.2.2.2.1.on hon).on k)).1, (own2 ((HR.out.2.2.2.1.on hon).on k)).2⟩
        have HSS := Lib.hid hS0
        have hS6 := hS0 wr (On.refl _)
        obtain ⟨ib, hib⟩ : ∃ z, implC c (x, y) = z := ⟨_, rfl⟩
        obtain ⟨mb, hmb⟩ : ∃ z, decide (clash c (x, y) = 0) = z := ⟨_, rfl⟩
        obtain ⟨s0, hs0⟩ : ∃ z, splitL c (l.take j) = z := ⟨_, rfl⟩
        rw [hib] at cI
        rw [hmb] at cM
        rw [hs0] at hsn ⊢
        have o1 := or_nat x y (lt63 hok.1) (lt63 hok.2.1)
        have o2 := or_nat c.1 c.2 (lt63 HK.out.1.1) (lt63 HK.out.1.2.1)
        have o3 := andNot_nat (x ||| y) (c.1 ||| c.2) (lt63 (or24 hok.1 hok.2.1)) (lt63 (or24 HK.out.1.1 HK.out.1.2.1))
        have HX := Lib.hid (And.intro hsn (And.intro hUi (And.intro hib (And.intro hmb (And.intro hni (And.intro hx (And.intro cI (And.intro cM (And.intro hon (And.intro hok (And.intro o1 (And.intro o2 o3))))))))))))
        clear hS0 hsn hUi hib hmb hs0 hni hx cI cM hon hok o1 o2 o3 hbb hc0 hc1 hm hjl
        go_wp2
        go_region_held3 (fun W => On wr W ∧ W.cell? (ad.add (j * 2)) = some (.int .i64 (x : Int)) ∧ W.cell? ⟨(ad.add (j * 2)).block, (ad.add (j * 2)).off + 1, none⟩ = some (.int .i64 (y : Int)) ∧ W.cell? ⟨w.heap.size, 0, none⟩ = some (.int .i64 (c.1 : Int)) ∧ W.cell? ⟨w.heap.size, 1, none⟩ = some (.int .i64 (c.2 : Int)))
          (first | exact HSS.out _ (On.refl _).drew | exact HSS.out _ (On.refl _) | assumption | (go_split_ands; exact HSS.out _ (On.trans (by assumption) PA)))
          (first
            | (go_at_call 25; (with_reducible refine (HX.out.2.2.2.2.2.2.1 _).mono ?_); rintro e wA ⟨rfl, PA⟩))
        obtain ⟨w7, hwe⟩ : ∃ w7, w7 = wA := ⟨_, rfl⟩
        subst hwe
        rename_i hHe
        have hOn7 := hHe.1
        clear hHe PA hS6
        have hS7 := HSS.out _ hOn7
        have HON := Lib.hid hOn7
        clear hOn7
        cases ib with
        | true =>
          have hz8 := HC.out.2.2 w7
          obtain ⟨_, d0, d1, d2, d3⟩ := hS7
          unfold cbV at hz8
          have hpf := HU.out.2.2.2.2.1
          have hs := HU.out.2.2.2.2.2
          obtain ⟨pz, hpz⟩ : ∃ z, pc (evs c) = z := ⟨_, rfl⟩
          rw [hpz] at hz8 hpf hs
          obtain ⟨dd, hdd⟩ : ∃ z, v - pz = z := ⟨_, rfl⟩
          rw [hdd] at hs
          have hvp : ((v : Int) - (pz : Int)) = (dd : Int) := by omega
          have hd64 : dd < 64 := by omega
          have hwd : IntKind.i64.wrap (dd : Int) = (dd : Int) := wrap_smalli dd (Nat.le_trans (Nat.le_of_lt hd64) (by decide))
          have hwp := wrap_small pw HU.out.2.2.2.1
          clear hpz hdd hpf
          go_wp2_with fail
          refine hz8.mono ?_
          rintro e w9 ⟨rfl, P9⟩
          clear hz8
          go_wp2
          go_ret
          refine ⟨?_, HR.out.2.2.2.2.1.trans ((HX.out.2.2.2.2.2.2.2.2.1.trans HON.out).trans P9)⟩
          rw [HX.out.2.1 HX.out.2.2.1, Nat.sub_zero]
          show Ending.returned (Value.int .i64 (wrap64 (pw : Int))) = _
          rw [hwp]
        | false =>
          go_wp2
          go_region_held3 (fun W => On wr W ∧ W.cell? (ad.add (j * 2)) = some (.int .i64 (x : Int)) ∧ W.cell? ⟨(ad.add (j * 2)).block, (ad.add (j * 2)).off + 1, none⟩ = some (.int .i64 (y : Int)) ∧ W.cell? ⟨w.heap.size, 0, none⟩ = some (.int .i64 (c.1 : Int)) ∧ W.cell? ⟨w.heap.size, 1, none⟩ = some (.int .i64 (c.2 : Int)))
            (first | exact HSS.out _ (On.drew HON.out) | exact HSS.out _ HON.out | assumption | (go_split_ands; exact HSS.out _ (On.trans (by assumption) PA)))
            (first
              | (go_at_call 50; (with_reducible refine (HX.out.2.2.2.2.2.2.2.1 _).mono ?_); rintro e wA ⟨rfl, PA⟩))
          obtain ⟨w8, hwe⟩ : ∃ w7, w7 = wA := ⟨_, rfl⟩
          subst hwe
          rename_i hHe
          have hOn8 := hHe.1
          clear hHe PA hS7
          obtain ⟨_, d0, d1, d2, d3⟩ := HSS.out _ hOn8
          have HON8 := Lib.hid hOn8
          clear hOn8
          have hnx : ∀ t, t < j + 1 → implC c (l.getD t (0, 0)) = false := fun t ht => by
            by_cases e : t = j
            · subst e; rw [HX.out.2.2.2.2.2.1]; exact HX.out.2.2.1
            · exact HX.out.2.2.2.2.1 t (by omega)
          have hsn := HX.out.1 (fun hcl => split_more hcl HX.out.2.2.1)
          cases mb with
          | true =>
            have hcl := of_decide_eq_true HX.out.2.2.2.1
            rw [if_pos hcl] at hsn
            obtain ⟨o1, o2, o3⟩ := HX.out.2.2.2.2.2.2.2.2.2.2
            obtain ⟨e1, he1⟩ : ∃ z, x ||| y = z := ⟨_, rfl⟩
            obtain ⟨e2, he2⟩ : ∃ z, c.1 ||| c.2 = z := ⟨_, rfl⟩
            have hsn2 : splitL c (l.take (j + 1)) = without (x ||| y) (c.1 ||| c.2) := hsn
            rw [he1] at o1 o3 hsn2
            rw [he2] at o2 o3 hsn2
            have HN := Lib.hid (And.intro hsn2 hnx)
            clear hsn hcl hsn2 hnx he1 he2
            go_wp2_with fail
            go_quiet (fail)
            all_goals go_wp2
            go_roundw
            case rel => exact ⟨j + 1, by omega, by go_num, by rw [HN.out.1], HN.out.2, On.drewN (HX.out.2.2.2.2.2.2.2.2.1.trans HON8.out) _⟩
            case measure => simp [intOf] <;> omega
          | false =>
            have hcl := of_decide_eq_false HX.out.2.2.2.1
            rw [if_neg hcl] at hsn
            have HN := Lib.hid (And.intro hsn hnx)
            clear hsn hcl hnx d0 d1 d2 d3
            go_wp2
            go_roundw
            case rel => exact ⟨j + 1, by omega, by go_num, by rw [HN.out.1], HN.out.2, HX.out.2.2.2.2.2.2.2.2.1.trans HON8.out⟩
            case measure => simp [intOf] <;> omega
      · obtain rfl : j = n := by omega
        have et : l.take j = l := List.take_of_length_le (by rw [HR.out.2.1]; omega)
        rw [et]
        have hnot := HS.out.2.2.2.2.2.2.1 j hni (by rw [HR.out.2.1]; omega)
        rw [et] at hnot
        have hzero := HS.out.2.2.2.2.2.2.2.2 hnot
        obtain ⟨wq, hwq⟩ : ∃ z, z = wr := ⟨_, rfl⟩
        subst hwq
        by_cases hz : splitL c l = 0
        · have hua := HU.out.2.1 (hzero hz)
          rw [hz]
          have HF := Lib.hid (And.intro hua (HR.out.2.2.2.2.1.trans hon))
          clear hon hni hnot hzero hz hua et
          go_wp2
          go_ret
          refine ⟨?_, HF.out.2⟩
          rw [HF.out.1, Nat.sub_self]
          rfl
        · obtain ⟨k, hk, hslt, hlow, hkb⟩ := HS.out.1 hz
          have hlo := low_run (splitL c l) (2 ^ k) hslt hz hlow
          rw [show wrap64 (-((splitL c l : Nat) : Int)) = -((splitL c l : Nat) : Int) by unfold wrap64; omega] at hlo
          have hk24 : k < 24 := by omega
          have hU2 := HS.out.2.1 k
          have hyo := HS.out.2.2.1 k hk24 hkb
          have hye := HS.out.2.2.2.1 k
          have hme := HS.out.2.2.2.2.1 k hk24 hkb
          have hfo := HS.out.2.2.2.2.2.1 k hk
          have hp24 : 2 ^ k < 16777216 := by have : (2 : Nat) ^ k < 2 ^ 24 := Nat.pow_lt_pow_right (by decide) hk24; exact this
          have hfl : 24 - pc (evs c ||| 2 ^ k) < fuel := by have := HK.out.2.2.1; have := pc_le (evs c ||| 2 ^ k); omega
          have hA := fun W (R : RdC W A j cc (zl l)) => ih (yesC c k) (by rw [hye.1]; exact hfl) hyo.1 (by rw [hye.1]; exact hfo) l HR.out.2.2.1 HR.out.2.2.2.2.2 W A j cc R hn2
          have hB := fun W (R : RdC W A j cc (zl l)) => ih (noC c k) (by rw [hye.2]; exact hfl) hyo.2 (by rw [hye.2]; exact hfo) l HR.out.2.2.1 HR.out.2.2.2.2.2 W A j cc R hn2
          have hNU1 := U_leaf hv hyo.1 (by rw [hye.1]; exact hfo)
          have hNU2 := U_leaf hv hyo.2 (by rw [hye.2]; exact hfo)
          have hNU0 := U_leaf hv HK.out.1 HK.out.2.1
          have hN2 := U_two v [] c k
          rw [hNU1, hNU2, hNU0] at hN2
          have hle1 := Cov_U v l (yesC c k)
          have hle2 := Cov_U v l (noC c k)
          rw [hNU1] at hle1
          rw [hNU2] at hle2
          have o1 := or_nat c.1 (2 ^ k) (lt63 HK.out.1.1) (lt63 hp24)
          have o2 := or_nat c.2 (2 ^ k) (lt63 HK.out.1.2.1) (lt63 hp24)
          obtain ⟨u1, hu1⟩ : ∃ z, U v l (yesC c k) = z := ⟨_, rfl⟩
          obtain ⟨u2, hu2⟩ : ∃ z, U v l (noC c k) = z := ⟨_, rfl⟩
          rw [hu1] at hA hU2 hle1
          rw [hu2] at hB hU2 hle2
          obtain ⟨n1, hn1⟩ : ∃ z, 2 ^ (v - pc (evs (yesC c k))) = z := ⟨_, rfl⟩
          obtain ⟨n2, hn2'⟩ : ∃ z, 2 ^ (v - pc (evs (noC c k))) = z := ⟨_, rfl⟩
          rw [hn1] at hA hN2 hle1
          rw [hn2'] at hB hN2 hle2
          clear hn1 hn2'
          unfold yesC cbV at hA
          unfold noC cbV at hB
          simp only at hA hB
          obtain ⟨sp, hsp⟩ : ∃ z, splitL c l = z := ⟨_, rfl⟩
          rw [hsp] at hlo hz hslt ⊢
          obtain ⟨bt, hbt⟩ : ∃ z, 2 ^ k = z := ⟨_, rfl⟩
          rw [hbt] at hlo o1 o2 hA hB
          obtain ⟨y1, hy1⟩ : ∃ z, c.1 ||| bt = z := ⟨_, rfl⟩
          obtain ⟨y2, hy2⟩ : ∃ z, c.2 ||| bt = z := ⟨_, rfl⟩
          rw [hy1] at o1 hA
          rw [hy2] at o2 hB
          have hOq := HR.out.2.2.2.1.on hon
          have hzi : ¬ (sp : Int) = 0 := by omega
          have HN := Lib.hid (And.intro hU2 (And.intro hN2 (And.intro hle1 hle2)))
          have HQ := Lib.hid (And.intro hOq (And.intro (HR.out.1.on hon) (HR.out.2.2.2.2.1.trans hon)))
          have HAB := Lib.hid (And.intro hA hB)
          obtain ⟨q0, q1⟩ := own2 hOq
          clear hA hB hU2 hN2 hNU1 hNU2 hNU0 hle1 hle2 hyo hye hme hfo hfl hp24 hnot hzero hni hon hOq hu1 hu2 hsp hbt hy1 hy2 hlow hkb et
          have hS0 : ∀ W, On wq W → On wq W ∧ W.cell? ⟨w.heap.size, 0, none⟩ = some (.int .i64 (c.1 : Int)) ∧ W.cell? ⟨w.heap.size, 1, none⟩ = some (.int .i64 (c.2 : Int)) := fun W k => ⟨k, (own2 (HQ.out.1.on k)).1, (own2 (HQ.out.1.on k)).2⟩
          have HSS := Lib.hid hS0
          have hS6 := hS0 wq (On.refl _)
          have hA2 := fun W (k : On wq W) => HAB.out.1 W (HQ.out.2.1.on k)
          have hB2 := fun W (k : On wq W) => HAB.out.2 W (HQ.out.2.1.on k)
          have hNN := HN.out
          have hA3 : ∀ W, On wq W → Calls Try.prog 39 #[.slice A j cc, .agg #[.int .i64 (y1 : Int), .int .i64 (c.2 : Int)], .int .i64 (v : Int)] W fun e w' => e = .returned (.int .i64 ((n1 - u1 : Nat) : Int)) ∧ On W w' := hA2
          have hB3 : ∀ W, On wq W → Calls Try.prog 39 #[.slice A j cc, .agg #[.int .i64 (c.1 : Int), .int .i64 (y2 : Int)], .int .i64 (v : Int)] W fun e w' => e = .returned (.int .i64 ((n2 - u2 : Nat) : Int)) ∧ On W w' := hB2
          obtain ⟨r1, hr1⟩ : ∃ z, n1 - u1 = z := ⟨_, rfl⟩
          obtain ⟨r2, hr2⟩ : ∃ z, n2 - u2 = z := ⟨_, rfl⟩
          rw [hr1] at hA3
          rw [hr2] at hB3
          have hsum := sum_two HU.out.2.2.2.1 HPW.out hNN.1 hNN.2.1 hNN.2.2.1 hNN.2.2.2 hr1 hr2
          obtain ⟨rs, hrs⟩ : ∃ z, pw - uu = z := ⟨_, rfl⟩
          rw [hrs] at hsum
          have hadd := wrap_addr r1 r2 (by rw [hsum.1]; exact hsum.2)
          have hadd2 : ((r1 : Int) + (r2 : Int)) = (rs : Int) := by have := hsum.1; omega
          have HSUM := Lib.hid (And.intro hadd2 hrs)
          have HAB3 := Lib.hid (And.intro hA3 hB3)
          clear hA2 hB2 hA3 hB3 hNN hsum hadd2 hr1 hr2 hrs hS0 q0 q1
          go_wp2
          go_region_held3 (fun W => On wq W ∧ W.cell? ⟨w.heap.size, 0, none⟩ = some (.int .i64 (c.1 : Int)) ∧ W.cell? ⟨w.heap.size, 1, none⟩ = some (.int .i64 (c.2 : Int)))
            (first | exact HSS.out _ (On.refl _).drew | exact HSS.out _ (On.refl _) | assumption | (go_split_ands; exact HSS.out _ (On.trans (by assumption) PA)))
            (first
              | (go_at_call 39; go_split_ands; (with_reducible refine (HAB3.out.1 _ ?_).mono ?_); assumption; rintro e wA ⟨rfl, PA⟩)
              | (go_at_call 39; go_split_ands; (with_reducible refine (HAB3.out.2 _ ?_).mono ?_); assumption; rintro e wA ⟨rfl, PA⟩))
          rename_i hHe
          have hOn := HQ.out.2.2.trans hHe.1
          clear hHe
          go_wp2
          go_ret
          refine ⟨?_, hOn⟩
          simp [HSUM.out.1, HSUM.out.2]
end Go.Proofs.Ythamjboppnlpdaa.Cu
