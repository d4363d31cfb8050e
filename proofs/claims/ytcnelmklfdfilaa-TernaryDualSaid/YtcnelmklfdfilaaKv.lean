/-
  The specification of three values: Next.
-/
import Derived.Test.YtcnelmklfdfilaaKu
namespace Go.Proofs.Ytcnelmklfdfilaa.Fm
open Go.RowKit Go.Proofs.Ytcnelmklfdfilaa.Sb
set_option linter.unusedVariables false
set_option maxRecDepth 100000
theorem fstU_at {f : Fn} {y n : Nat} {l : List Nat} {t : Nat} (ht : t < l.length) (h : ∀ s, s < t → argT f.vars (tvals f y n) y n (l.getD s 0) ≠ 2) (h2 : argT f.vars (tvals f y n) y n (l.getD t 0) = 2) : fstU f y n l = l.getD t 0 := by
  unfold fstU
  induction l generalizing t with
  | nil => simp at ht
  | cons a l ih =>
    cases t with
    | zero =>
      have e : (a :: l).getD 0 0 = a := rfl
      rw [e] at h2 ⊢
      rw [List.find?_cons_of_pos (by simp [h2])]; rfl
    | succ t =>
      have h0 := h 0 (by omega)
      have e : (a :: l).getD 0 0 = a := rfl
      rw [e] at h0
      rw [List.find?_cons_of_neg (by simpa using h0)]
      have := ih (t := t) (by simpa using ht) (fun s hs => by have := h (s + 1) (by omega); simpa using this) (by simpa using h2)
      rw [this]; simp
/-- what Next answers -/
def nextZ (f : Fn) (y n : Nat) : Int := if tval f y n = 2 then (nxt f y n : Int) else -1
set_option maxHeartbeats 16000000 in
theorem rtnext_ok (w : World) (f : Fn) (hf : WF f) (A : Option Addr) (n c : Nat) (h : RdN w A n c (rawL f.nodes)) (y nn : Nat) (hy : y < 16777216) (hnn : nn < 16777216) :
    Calls Try.prog 20 #[.agg #[.int .i64 (f.vars : Int), .slice A n c, .int .i64 (f.top : Int)], cubV (y : Int) (nn : Int)] w fun e w' => e = .returned (.int .i64 (nextZ f y nn)) ∧ On w w' := by
  have hn : f.nodes.length = n := by have := h.len; rwa [raw_len] at this
  have hcap := h.cap
  have hmax := h.max
  have htop := hf.2.2.2
  have hn128 := hf.2.1
  have hv24 := hf.1
  rw [hn] at htop hn128
  obtain ⟨q, hq⟩ : ∃ q, w.heap.size = q := ⟨_, rfl⟩
  obtain ⟨w0, hw0⟩ : ∃ w0, (w.alloc (.cells #[.int .i64 (f.vars : Int), .slice A n c, .int .i64 (f.top : Int)] 24)).alloc (.cells #[.int .i64 (y : Int), .int .i64 (nn : Int)] 26) = w0 := ⟨_, rfl⟩
  have O0 : Own w0 q 24 #[.int .i64 (f.vars : Int), .slice A n c, .int .i64 (f.top : Int)] := by rw [← hw0, ← hq]; exact (Own.new _ _ _).alloc _
  have C0 : Own w0 (q + 1) 26 #[.int .i64 (y : Int), .int .i64 (nn : Int)] := by
    rw [← hw0, ← hq]
    have := Own.new (w.alloc (.cells #[.int .i64 (f.vars : Int), .slice A n c, .int .i64 (f.top : Int)] 24)) 26 #[.int .i64 (y : Int), .int .i64 (nn : Int)]
    simpa using this
  have P0 : On w w0 := by rw [← hw0]; exact ((On.refl w).alloc _).alloc _
  have hVs := rtvalues_ok w0 f hf A n c (h.on P0) y nn hy hnn
  rw [← hw0] at hVs
  have HO := Lib.hid (And.intro O0 (And.intro C0 (And.intro P0 hw0)))
  have HR := Lib.hid h
  have HN := Lib.hid hn
  have HF := Lib.hid hf
  obtain ⟨res, hres⟩ : ∃ res, nextZ f y nn = res := ⟨_, rfl⟩
  rw [hres]
  unfold nextZ at hres
  have HRES := Lib.hid hres
  clear h hn hf O0 C0 P0 hw0 hres
  go_enter Try.func20, Try.ntmps20
  go_wp2_with fail
  refine hVs.mono ?_
  rintro e w1 ⟨g, rfl, OG, hg, P1⟩
  rw [HO.out.2.2.2] at P1
  clear hVs
  obtain ⟨r0, r1, r2⟩ := own3 (HO.out.1.on P1)
  obtain ⟨k0, k1⟩ := own2 (HO.out.2.1.on P1)
  have hOf := fun W (k : On w1 W) a (ha : a < f.vars + n) => of9_any W f.vars (f.top : Int) A n c (some ⟨g, 0, none⟩) n n (tvals f y nn) y nn a (own_rdI (OG.on k) (by rw [tvals_len]; exact HN.out) (by omega)) hy hnn hv24 ha
  have hX := hOf w1 (On.refl _) f.top htop
  have HOF := Lib.hid hOf
  have HE : tval f y nn = argT f.vars (tvals f y nn) y nn f.top := rfl
  rw [← HE] at hX
  have HP1 := Lib.hid P1
  clear hOf OG P1 HE
  by_cases hu : tval f y nn = 2
  · rw [hu] at hX
    go_wp2_with fail
    refine hX.mono ?_
    rintro e w2 ⟨rfl, P2⟩
    clear hX r0 r1 r2 k0 k1
    have HP2 := Lib.hid P2
    clear P2
    go_wp2
    go_loopw [6] (fun s6 wr => ∃ a k : Nat, s6 = .int .i64 (a : Int) ∧ nxtF f y nn k a = nxt f y nn ∧ a < f.vars + k ∧ a < f.vars + n ∧ argT f.vars (tvals f y nn) y nn a = 2 ∧ On w1 wr) (fun s6 _ => (intOf s6).toNat)
    case atStart => exact ⟨f.top, f.nodes.length + 1, rfl, rfl, by rw [HN.out]; omega, htop, hu, HP2.out⟩
    case round =>
      obtain ⟨a, k, rfl, hk, hak, han, hua, hon⟩ := hrel
      obtain ⟨wo, hwo⟩ : ∃ wo, wo = wr := ⟨_, rfl⟩
      subst hwo
      have Pw := HO.out.2.2.1.trans (HP1.out.trans hon)
      obtain ⟨r0, r1, r2⟩ := own3 ((HO.out.1.on HP1.out).on hon)
      by_cases hv : a < f.vars
      · have hge : ¬ (f.vars : Int) ≤ (a : Int) := by omega
        have hra : (a : Int) = res := by
          rw [← HRES.out, if_pos hu, ← hk]
          cases k with
          | zero => rfl
          | succ k => rw [nxtF, if_pos hv]
        subst hra
        clear hk hua
        go_wp2
        go_ret
        exact ⟨rfl, Pw⟩
      · obtain ⟨i, hai⟩ : ∃ i, a = f.vars + i := ⟨a - f.vars, by omega⟩
        have hin : i < n := by omega
        have hil : i < f.nodes.length := by rw [HN.out]; exact hin
        obtain ⟨k, rfl⟩ : ∃ k', k = k' + 1 := ⟨k - 1, by omega⟩
        rw [nxtF, if_neg hv, show a - f.vars = i by omega] at hk
        obtain ⟨hmem, hval⟩ := fstU_spec HF.out hil (by rw [← hai]; exact hua)
        obtain ⟨ad, rfl, hb, P, m, kc, hc0', hc1', hc2', hRA⟩ := HR.out.at_ i hin
        rw [raw_get] at hRA
        have hbk : (ad.add (i * 3)).block < w.heap.size := by rw [block_of_add]; exact hb
        have hc2 := (Below.cell Pw (p := ⟨(ad.add (i * 3)).block, (ad.add (i * 3)).off + 2, none⟩) hbk).trans hc2'
        have hm : (f.nd i).args.length = m := by have := VI_len hRA; unfold Nn.raw at this; rwa [ints_length] at this
        have hm16 : m ≤ 16 := by rw [← hm]; exact HF.out.len hil
        have harg : ∀ b ∈ (f.nd i).args, b < f.vars + i := fun b hb => HF.out.arg hil hb
        have hcapA := hRA.cap
        have hmaxA := hRA.max
        have hRA' : Rd w P m kc (VI (ints (f.nd i).args)) := hRA
        obtain ⟨args, hargs⟩ : ∃ args, (f.nd i).args = args := ⟨_, rfl⟩
        rw [hargs] at hk hmem hval hm harg hRA'
        have HX := Lib.hid (And.intro hRA' (And.intro hm (And.intro harg (And.intro hk (And.intro hmem hval)))))
        have HON := Lib.hid hon
        have e2 : (a : Int) - (f.vars : Int) = (i : Int) := by omega
        have hge : (f.vars : Int) ≤ (a : Int) := by omega
        have HAI := Lib.hid hai
        clear hai hc0' hc1' hc2' hbk hRA hRA' hargs hm harg hk hmem hval hua hon
        go_wp2
        clear r0 r1 r2 hc2
        go_loopw [34, 6] (fun j s6 wr => ∃ t : Nat, t ≤ m ∧ j = .int .i64 (t : Int) ∧ s6 = .int .i64 (a : Int) ∧ (∀ s, s < t → argT f.vars (tvals f y nn) y nn (args.getD s 0) ≠ 2) ∧ On w1 wr) (fun j _ _ => m - (intOf j).toNat)
        case atStart => exact ⟨0, by omega, rfl, by first | rfl | go_num, fun s hs => absurd hs (by omega), HON.out⟩
        case round =>
          obtain ⟨t, ht, rfl, rfl, hall, hon2⟩ := hrel
          obtain ⟨r0, r1, r2⟩ := own3 ((HO.out.1.on HP1.out).on hon2)
          obtain ⟨k0, k1⟩ := own2 ((HO.out.2.1.on HP1.out).on hon2)
          by_cases hlt2 : t < m
          · obtain ⟨ad2, rfl, hb2, hc⟩ := VI_at (HX.out.1.on (HO.out.2.2.1.trans (HP1.out.trans hon2))) hlt2
            have hl2 : t < args.length := by rw [HX.out.2.1]; exact hlt2
            rw [ints_getD hl2] at hc
            have hb3 := HX.out.2.2.1 _ (getD_memN hl2)
            have hfst := fun h2 => fstU_at (f := f) (y := y) (n := nn) hl2 hall h2
            obtain ⟨b, hbe⟩ : ∃ b, args.getD t 0 = b := ⟨_, rfl⟩
            rw [hbe] at hc hb3 hfst
            have hV := HOF.out wr hon2 b (by omega)
            obtain ⟨v, hve⟩ : ∃ v, argT f.vars (tvals f y nn) y nn b = v := ⟨_, rfl⟩
            rw [hve] at hV hfst
            have HA := Lib.hid (And.intro hall (And.intro hbe (And.intro hve hfst)))
            clear hall hbe hve hfst hl2
            by_cases hv2 : v = 2
            · subst hv2
              go_wp2_with fail
              refine hV.mono ?_
              rintro e w4 ⟨rfl, P4⟩
              clear hV r0 r1 r2 k0 k1
              go_wp2
              go_roundw
              case rel =>
                have hF := HA.out.2.2.2 (by first | trivial | rfl)
                have hk := HX.out.2.2.2.1
                rw [hF] at hk
                exact ⟨b, k, rfl, hk, by have := HAI.out; omega, by omega, HA.out.2.2.1, hon2.trans P4⟩
              case measure =>
                have := HAI.out
                simp [intOf] <;> omega
            · have hvi : ¬ (v : Int) = 2 := by omega
              go_wp2_with fail
              refine hV.mono ?_
              rintro e w4 ⟨rfl, P4⟩
              clear hV r0 r1 r2 k0 k1
              go_wp2
              go_roundw
              case rel =>
                refine ⟨t + 1, by omega, by go_num, rfl, fun s hs => ?_, hon2.trans P4⟩
                by_cases e : s = t
                · subst e; rw [HA.out.2.1, HA.out.2.2.1]; exact hv2
                · exact HA.out.1 s (by omega)
              case measure => simp [intOf] <;> omega
          · obtain rfl : t = m := by omega
            exfalso
            obtain ⟨s, hs, he⟩ := List.mem_iff_getElem.1 HX.out.2.2.2.2.1
            refine hall s (by rw [← HX.out.2.1]; exact hs) ?_
            have : args.getD s 0 = args[s] := by simp [hs]
            rw [this, he]
            exact HX.out.2.2.2.2.2
  · have hu' : ¬ (tval f y nn : Int) = 2 := by omega
    have hr : res = -1 := by rw [← HRES.out, if_neg hu]
    subst hr
    obtain ⟨tv, htv⟩ : ∃ tv, tval f y nn = tv := ⟨_, rfl⟩
    rw [htv] at hX hu'
    clear htv hu
    go_wp2_with fail
    refine hX.mono ?_
    rintro e w2 ⟨rfl, P2⟩
    clear hX
    go_wp2
    go_ret
    exact ⟨rfl, HO.out.2.2.1.trans (HP1.out.trans P2)⟩
end Go.Proofs.Ytcnelmklfdfilaa.Fm
