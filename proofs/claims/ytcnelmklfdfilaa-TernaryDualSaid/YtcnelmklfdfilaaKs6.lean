/-
  The program's three values: Next, the walk.
-/
import Derived.Test.YtcnelmklfdfilaaKs5
namespace Go.Proofs.Ytcnelmklfdfilaa.Fm
open Go.RowKit Go.Proofs.Ytcnelmklfdfilaa.Sb
set_option linter.unusedVariables false
set_option maxRecDepth 100000
theorem first_at (P : Nat → Prop) [DecidablePred P] : ∀ (l : List Nat), (∃ a ∈ l, P a) → ∃ t, t < l.length ∧ (∀ s, s < t → ¬ P (l.getD s 0)) ∧ P (l.getD t 0) := by
  intro l
  induction l with
  | nil => rintro ⟨a, h, _⟩; cases h
  | cons b l ih =>
    rintro ⟨a, ha, hp⟩
    by_cases hb : P b
    · exact ⟨0, by simp, fun s hs => absurd hs (by omega), hb⟩
    · have : ∃ a ∈ l, P a := by
        rcases List.mem_cons.1 ha with rfl | h
        · exact absurd hp hb
        · exact ⟨a, h, hp⟩
      obtain ⟨t, ht, h1, h2⟩ := ih this
      refine ⟨t + 1, by simpa using ht, fun s hs => ?_, by simpa using h2⟩
      cases s with
      | zero => simpa using hb
      | succ s => have := h1 s (by omega); simpa using this
set_option maxHeartbeats 16000000 in
theorem tnext_ok (w : World) (f : Fn) (hf : WF f) (A : Option Addr) (n c : Nat) (h : RdN w A n c (rawL f.nodes)) (y nn : Nat) (hy : y < 2 ^ f.vars) (hnn : nn < 2 ^ f.vars) (hd : Dis y nn) :
    Calls Try.prog 14 #[.agg #[.int .i64 (f.vars : Int), .slice A n c, .int .i64 (f.top : Int)], cubV (y : Int) (nn : Int)] w fun e w' => e = .returned (.tuple #[.int .i64 (nextZ f y nn), .nilIface]) ∧ On w w' := by
  have hn : f.nodes.length = n := by have := h.len; rwa [raw_len] at this
  have hcap := h.cap
  have hmax := h.max
  have htop := hf.2.2.2
  have hn128 := hf.2.1
  have hv24 := hf.1
  rw [hn] at htop hn128
  have hp24 := pow24 hv24
  have hy24 : y < 16777216 := by omega
  have hn24 : nn < 16777216 := by omega
  obtain ⟨q, hq⟩ : ∃ q, w.heap.size = q := ⟨_, rfl⟩
  obtain ⟨w0, hw0⟩ : ∃ w0, (w.alloc (.cells #[.int .i64 (f.vars : Int), .slice A n c, .int .i64 (f.top : Int)] 24)).alloc (.cells #[.int .i64 (y : Int), .int .i64 (nn : Int)] 26) = w0 := ⟨_, rfl⟩
  have O0 : Own w0 q 24 #[.int .i64 (f.vars : Int), .slice A n c, .int .i64 (f.top : Int)] := by rw [← hw0, ← hq]; exact (Own.new _ _ _).alloc _
  have C0 : Own w0 (q + 1) 26 #[.int .i64 (y : Int), .int .i64 (nn : Int)] := by
    rw [← hw0, ← hq]
    have := Own.new (w.alloc (.cells #[.int .i64 (f.vars : Int), .slice A n c, .int .i64 (f.top : Int)] 24)) 26 #[.int .i64 (y : Int), .int .i64 (nn : Int)]
    simpa using this
  have P0 : On w w0 := by rw [← hw0]; exact ((On.refl w).alloc _).alloc _
  have hVs := tvalues_ok w0 f hf A n c (h.on P0) y nn hy hnn hd
  rw [← hw0] at hVs
  have HO := Lib.hid (And.intro O0 (And.intro C0 (And.intro P0 hw0)))
  have HR := Lib.hid h
  have HN := Lib.hid hn
  have HF := Lib.hid hf
  obtain ⟨res, hres⟩ : ∃ res, nextZ f y nn = res := ⟨_, rfl⟩
  rw [hres]
  unfold nextZ at hres
  have HRES := Lib.hid hres
  clear h hn hf O0 C0 P0 hw0 hres hy hnn hd hp24
  go_enter Try.func14, Try.ntmps14
  go_wp2_with fail
  refine hVs.mono ?_
  rintro e w1 ⟨g, rfl, OG, hg, P1⟩
  rw [HO.out.2.2.2] at P1
  clear hVs
  have O1 := HO.out.1.on P1
  have C1 := HO.out.2.1.on P1
  obtain ⟨b, hb⟩ : ∃ b, w1.heap.size = b := ⟨_, rfl⟩
  obtain ⟨w2, hw2⟩ : ∃ w2, w1.alloc (.cells #[.slice (some ⟨g, 0, none⟩) n n] 33) = w2 := ⟨_, rfl⟩
  have B2 : Own w2 b 33 #[.slice (some ⟨g, 0, none⟩) n n] := by rw [← hw2, ← hb]; exact Own.new _ _ _
  have P2 : On w1 w2 := by rw [← hw2]; exact (On.refl w1).alloc _
  have O2 := O1.on P2
  have C2 := C1.on P2
  have G2 := OG.on P2
  have Pw2 := (HO.out.2.2.1.trans P1).trans P2
  obtain ⟨r0, r1, r2⟩ := own3 O2
  obtain ⟨k0, k1⟩ := own2 C2
  have b0 : w2.cell? ⟨b, 0, none⟩ = some (.slice (some ⟨g, 0, none⟩) n n) := by rw [B2.cell]; rfl
  have hOf := fun W (k : On w2 W) a (ha : a < f.vars + n) => tof_any W f.vars (f.top : Int) A n c (some ⟨g, 0, none⟩) n n (tvals f y nn) y nn a (own_rdI (G2.on k) (by rw [tvals_len]; exact HN.out) (by omega)) hy24 hn24 hv24 ha
  have hUn := fun W (k : On w2 W) a (ha : a < f.vars + n) => tunk_any W f.vars n c g q b (f.top : Int) A (tvals f y nn) y nn a (O2.on k) (C2.on k) (B2.on k) (G2.on k) (by rw [tvals_len]; exact HN.out) (by omega) hy24 hn24 hv24 ha
  have hX := hOf w2 (On.refl _) f.top htop
  have HE : tval f y nn = argT f.vars (tvals f y nn) y nn f.top := rfl
  rw [← HE] at hX
  have HOF := Lib.hid (And.intro hUn (And.intro O2 (And.intro C2 (And.intro B2 Pw2))))
  have HW2 := Lib.hid hw2
  clear hOf hUn OG O1 C1 P1 HE hw2 O2 C2 B2 G2 Pw2 P2 hg
  by_cases hu : tval f y nn = 2
  · rw [hu] at hX
    go_upto_region 2 with fail
    rw [HW2.out]
    go_wp2_with fail
    refine hX.mono ?_
    rintro e w3 ⟨rfl, P3⟩
    clear hX r0 r1 r2 k0 k1 b0
    obtain ⟨r0, r1, r2⟩ := own3 (HOF.out.2.1.on P3)
    have HP3 := Lib.hid P3
    clear P3
    go_wp2
    clear r0 r1 r2
    go_loopw [8] (fun s8 wr => ∃ a k : Nat, s8 = .int .i64 (a : Int) ∧ nxtF f y nn k a = nxt f y nn ∧ a < f.vars + k ∧ a < f.vars + n ∧ argT f.vars (tvals f y nn) y nn a = 2 ∧ On w2 wr) (fun s8 _ => (intOf s8).toNat)
    case atStart => exact ⟨f.top, f.nodes.length + 1, rfl, rfl, by rw [HN.out]; omega, htop, hu, HP3.out⟩
    case round =>
      obtain ⟨a, k, rfl, hk, hak, han, hua, hon⟩ := hrel
      obtain ⟨wo, hwo⟩ : ∃ wo, wo = wr := ⟨_, rfl⟩
      subst hwo
      have Pw := HOF.out.2.2.2.2.trans hon
      obtain ⟨r0, r1, r2⟩ := own3 (HOF.out.2.1.on hon)
      by_cases hv : a < f.vars
      · have hge : ¬ (f.vars : Int) ≤ (a : Int) := by omega
        have hra : (a : Int) = res := by
          rw [← HRES.out, if_pos hu, ← hk]
          cases k with
          | zero => rfl
          | succ k => rw [nxtF, if_pos hv]
        subst hra
        clear hk hua
        go_wp2
        go_ret2
        exact ⟨rfl, Pw⟩
      · obtain ⟨i, hai⟩ : ∃ i, a = f.vars + i := ⟨a - f.vars, by omega⟩
        have hin : i < n := by omega
        have hil : i < f.nodes.length := by rw [HN.out]; exact hin
        obtain ⟨k, rfl⟩ : ∃ k', k = k' + 1 := ⟨k - 1, by omega⟩
        rw [nxtF, if_neg hv, show a - f.vars = i by omega] at hk
        obtain ⟨hmem, hval⟩ := fstU_spec HF.out hil (by rw [← hai]; exact hua)
        obtain ⟨ad, rfl, hb', P, m, kc, hc0', hc1', hc2', hRA⟩ := HR.out.at_ i hin
        rw [raw_get] at hRA
        have hbk : (ad.add (i * 3)).block < w.heap.size := by rw [block_of_add]; exact hb'
        have hc2 := (Below.cell Pw (p := ⟨(ad.add (i * 3)).block, (ad.add (i * 3)).off + 2, none⟩) hbk).trans hc2'
        have hm : (f.nd i).args.length = m := by have := VI_len hRA; unfold Nn.raw at this; rwa [ints_length] at this
        have hm16 : m ≤ 16 := by rw [← hm]; exact HF.out.len hil
        have harg : ∀ b ∈ (f.nd i).args, b < f.vars + i := fun b hb => HF.out.arg hil hb
        have hcapA := hRA.cap
        have hmaxA := hRA.max
        have hRA' : Rd w P m kc (VI (ints (f.nd i).args)) := hRA
        obtain ⟨args, hargs⟩ : ∃ args, (f.nd i).args = args := ⟨_, rfl⟩
        rw [hargs] at hk hmem hval hm harg hRA'
        obtain ⟨t, htl, hbe, hte⟩ := first_at (fun a => argT f.vars (tvals f y nn) y nn a = 2) args ⟨_, hmem, hval⟩
        have hfst := fstU_at (f := f) (y := y) (n := nn) htl hbe hte
        rw [hfst] at hk
        have htm : t < m := by omega
        have hI := index_any wo P m kc args (hRA'.on Pw) hm16 (fun a => decide (argT f.vars (tvals f y nn) y nn a = 2)) (.pointer (some ⟨q, 0, none⟩)) (.pointer (some ⟨q + 1, 0, none⟩)) (.pointer (some ⟨b, 0, none⟩)) (fun W a kW ha => HOF.out.1 W (hon.trans kW) a (by have := harg a ha; omega)) t htm (fun s hs => decide_eq_false (hbe s hs)) (decide_eq_true hte)
        have hb3 := harg _ (getD_memN htl)
        obtain ⟨ad2, rfl, hb2, hc⟩ := VI_at hRA' htm
        rw [ints_getD htl] at hc
        obtain ⟨x, hx⟩ : ∃ x, args.getD t 0 = x := ⟨_, rfl⟩
        rw [hx] at hk hte hb3 hc
        have hbk2 : (ad2.add t).block < w.heap.size := by rw [block_of_add]; exact hb2
        have hcx := fun W (k : On w W) => (Below.cell k hbk2).trans hc
        have e2 : (a : Int) - (f.vars : Int) = (i : Int) := by omega
        have hge : (f.vars : Int) ≤ (a : Int) := by omega
        have HX := Lib.hid (And.intro hk (And.intro hte (And.intro hon Pw)))
        have HAI := Lib.hid hai
        have HCX := Lib.hid hcx
        clear hai hc0' hc1' hc2' hbk hbk2 hRA hRA' hargs hm harg hk hmem hval hua hon Pw hfst hbe hte htl hx hc hcx
        go_wp2_with fail
        refine hI.mono ?_
        rintro e w4 ⟨rfl, P4⟩
        have hc4 := HCX.out _ (HX.out.2.2.2.trans P4)
        clear hI r0 r1 r2 hc2 HCX
        go_wp2
        go_roundw
        case rel => exact ⟨x, k, rfl, HX.out.1, by have := HAI.out; omega, by omega, HX.out.2.1, HX.out.2.2.1.trans P4⟩
        case measure =>
          have := HAI.out
          simp [intOf] <;> omega
  · have hu' : ¬ (tval f y nn : Int) = 2 := by omega
    have hr : res = -1 := by rw [← HRES.out, if_neg hu]
    subst hr
    obtain ⟨tv, htv⟩ : ∃ tv, tval f y nn = tv := ⟨_, rfl⟩
    rw [htv] at hX hu'
    clear htv hu
    go_upto_region 2 with fail
    rw [HW2.out]
    go_wp2_with fail
    refine hX.mono ?_
    rintro e w3 ⟨rfl, P3⟩
    clear hX
    go_wp2
    go_ret2
    exact ⟨rfl, HOF.out.2.2.2.2.trans P3⟩
end Go.Proofs.Ytcnelmklfdfilaa.Fm
