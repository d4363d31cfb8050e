/-
  Check of the program and of the specification; Light.
-/
import Derived.Test.YtmkogcaafkobaaaFd
namespace Go.Proofs.Ytmkogcaafkobaaa.Fm
open Go.RowKit Go.Proofs.Ytmkogcaafkobaaa.Sb
set_option linter.unusedVariables false
set_option maxRecDepth 100000
/-- the first error of nodes of which the first has the number m -/
def chkL (m : Int) : List Nd → Nat
  | [] => 0
  | x :: l => if ndErr m x ≠ 0 then ndErr m x else chkL (m + 1) l
theorem chkL_first (l : List Nd) (m : Int) (k : Nat) (hk : k < l.length) (h : ∀ i, i < k → ndErr (m + i) (l.getD i Nd.z) = 0) (hb : ndErr (m + k) (l.getD k Nd.z) ≠ 0) : chkL m l = ndErr (m + k) (l.getD k Nd.z) := by
  induction l generalizing m k with
  | nil => simp at hk
  | cons x l ih =>
    rw [chkL]
    cases k with
    | zero => simp at hb ⊢; exact fun h => absurd h hb
    | succ k =>
      have h0 := h 0 (by omega)
      simp at h0
      rw [if_neg (by simpa using h0)]
      have e : m + 1 + (k : Int) = m + ((k + 1 : Nat) : Int) := by omega
      have := ih (m + 1) k (by simpa using hk) (fun i hi => by
        have := h (i + 1) (by omega)
        rw [show m + 1 + (i : Int) = m + ((i + 1 : Nat) : Int) by omega]; simpa using this) (by rw [e]; simpa using hb)
      rw [this, e]; simp
theorem chkL_all (l : List Nd) (m : Int) (h : ∀ i, i < l.length → ndErr (m + i) (l.getD i Nd.z) = 0) : chkL m l = 0 := by
  induction l generalizing m with
  | nil => rfl
  | cons x l ih =>
    rw [chkL]
    have h0 := h 0 (by simp)
    simp at h0
    rw [if_neg (by simpa using h0)]
    refine ih (m + 1) fun i hi => ?_
    have := h (i + 1) (by simpa using hi)
    rw [show m + 1 + (i : Int) = m + ((i + 1 : Nat) : Int) by omega]; simpa using this
/-- the error of a formula -/
def chk (vars : Int) (xs : List Nd) (top : Int) : Nat :=
  if vars < 0 ∨ 24 < vars then 3 else if 128 < xs.length then 4 else if chkL vars xs ≠ 0 then chkL vars xs else if validB vars xs.length top = true then 0 else 10
theorem nodeFacts {w w' : World} {ad : Addr} {n c j : Nat} {xs : List Nd} (h : RdN w (some ad) n c xs) (hj : j < n) (hon : On w w') : ∃ (P : Option Addr) (m k : Nat),
    w'.cell? (ad.add (j * 3)) = some (.int .i64 (xs.getD j Nd.z).kind) ∧ w'.cell? ⟨(ad.add (j * 3)).block, (ad.add (j * 3)).off + 1, none⟩ = some (.int .i64 (xs.getD j Nd.z).k) ∧
    w'.cell? ⟨(ad.add (j * 3)).block, (ad.add (j * 3)).off + 2, none⟩ = some (.slice P m k) ∧ Rd w' P m k (VI (xs.getD j Nd.z).args) := by
  obtain ⟨ad', e, hb, h2⟩ := (h.on hon).at_ j hj
  cases e
  exact h2
set_option maxHeartbeats 8000000 in
theorem check_any (w : World) (vars top : Int) (A : Option Addr) (n c : Nat) (xs : List Nd) (h : RdN w A n c xs) (hv : I64 vars) (ht : I64 top) :
    Calls Try.prog 13 #[.agg #[.int .i64 vars, .slice A n c, .int .i64 top]] w fun e w' => e = .returned (errV (chk vars xs top)) ∧ On w w' := by
  have hn := h.len
  have hcap := h.cap
  have hmax := h.max
  obtain ⟨q, hq⟩ : ∃ q, w.heap.size = q := ⟨_, rfl⟩
  unfold chk
  rw [hn]
  have HN := Lib.hid hn
  clear hn
  by_cases h0 : vars < 0 ∨ 24 < vars
  · rw [if_pos h0]
    rcases h0 with h0 | h0
    · go_enter Try.func13, Try.ntmps13
      go_wp2
      go_ret
      exact ⟨rfl, (On.refl w).alloc _⟩
    · have h1 : ¬ vars < 0 := by omega
      go_enter Try.func13, Try.ntmps13
      go_wp2
      go_ret
      exact ⟨rfl, (On.refl w).alloc _⟩
  · rw [if_neg h0]
    have h1 : ¬ vars < 0 := by omega
    have h2 : ¬ 24 < vars := by omega
    by_cases h3 : 128 < n
    · rw [if_pos h3]
      go_enter Try.func13, Try.ntmps13
      go_wp2
      go_ret
      exact ⟨rfl, (On.refl w).alloc _⟩
    · rw [if_neg h3]
      obtain ⟨er, her⟩ : ∃ er, (if chkL vars xs ≠ 0 then chkL vars xs else if validB vars n top = true then 0 else 10) = er := ⟨_, rfl⟩
      rw [her]
      have HE := Lib.hid her
      have HR := Lib.hid h
      have hV := fun W => valid_any W vars A n c top top hv ht (by omega)
      clear her h h0
      go_enter Try.func13, Try.ntmps13
      go_wp2
      go_loopw [23] (fun i wr => ∃ j : Nat, j ≤ n ∧ i = .int .i64 (j : Int) ∧ (∀ t : Nat, t < j → ndErr (vars + t) (xs.getD t Nd.z) = 0) ∧ On w wr ∧ Own wr q 24 #[.int .i64 vars, .slice A n c, .int .i64 top]) (fun i _ => n - (intOf i).toNat)
      case atStart => exact ⟨0, by omega, rfl, fun t ht => absurd ht (by omega), (On.refl _).alloc _, by rw [← hq]; exact Own.new _ _ _⟩
      case round =>
        obtain ⟨j, hj, rfl, hgood, hon, hO⟩ := hrel
        by_cases hlt : j < n
        · obtain ⟨ad, rfl, hb, P, m, k, hc0, hc1, hc2, hR⟩ := (HR.out.on hon).at_ j hlt
          obtain ⟨x, hx⟩ : ∃ x, xs.getD j Nd.z = x := ⟨_, rfl⟩
          rw [hx] at hc0 hc1 hR
          have O2 := hO.alloc (.cells #[.int .i64 x.kind, .int .i64 x.k, .slice P m k] 41)
          have r0 := O2.cell 0
          simp only [List.getElem?_toArray, List.getElem?_cons_zero] at r0
          have hC := checkNode_any (wr.alloc (.cells #[.int .i64 x.kind, .int .i64 x.k, .slice P m k] 41)) x P m k (vars + j) (hR.alloc _)
          have HG := Lib.hid (And.intro hgood (And.intro hx O2))
          clear hgood hx hO hR O2
          by_cases he : ndErr (vars + j) x = 0
          · rw [he, errV_zero] at hC
            go_wp2_with fail
            refine hC.mono ?_
            rintro e w4 ⟨rfl, P4⟩
            clear hC
            go_wp2
            refine ⟨⟨j + 1, by omega, by go_num, fun t ht => ?_, (hon.alloc _).trans P4, HG.out.2.2.on P4⟩, by simp [intOf]; omega⟩
            by_cases e : t = j
            · subst e; rw [HG.out.2.1]; exact he
            · exact HG.out.1 t (by omega)
          · have hee : ndErr (vars + j) x = er := by
              rw [← HE.out, chkL_first xs vars j (by rw [HN.out]; exact hlt) HG.out.1 (by rw [HG.out.2.1]; exact he), HG.out.2.1, if_pos he]
            have hE2 : errV er = .iface 43 (.int .i64 (er : Int)) := errV_pos _ (by rw [← hee]; exact he)
            rw [hee, hE2] at hC
            have HE2 := Lib.hid hE2
            clear he hee hE2
            go_wp2_with fail
            refine hC.mono ?_
            rintro e w4 ⟨rfl, P4⟩
            clear hC
            go_wp2
            go_ret
            exact ⟨by rw [HE2.out]; rfl, (hon.alloc _).trans P4⟩
        · obtain rfl : j = n := by omega
          have hz : chkL vars xs = 0 := chkL_all xs vars (fun i hi => hgood i (by rw [← HN.out]; exact hi))
          have he : (if validB vars j top = true then 0 else 10) = er := by
            have h9 := HE.out
            rw [hz] at h9
            exact h9
          have r0 := hO.cell 0
          have r1 := hO.cell 1
          have r2 := hO.cell 2
          simp at r0 r1 r2
          clear hgood hO
          by_cases hb : validB vars j top = true
          · rw [if_pos hb] at he
            subst he
            rw [hb] at hV
            go_wp2_with fail
            refine (hV _).mono ?_
            rintro e w4 ⟨rfl, P4⟩
            go_wp2
            go_ret
            exact ⟨rfl, hon.trans P4⟩
          · rw [if_neg hb] at he
            subst he
            rw [Bool.eq_false_iff.2 hb] at hV
            go_wp2_with fail
            refine (hV _).mono ?_
            rintro e w4 ⟨rfl, P4⟩
            go_wp2
            go_ret
            exact ⟨rfl, hon.trans P4⟩
set_option maxHeartbeats 8000000 in
theorem rcheck_any (w : World) (vars top : Int) (A : Option Addr) (n c : Nat) (xs : List Nd) (h : RdN w A n c xs) (hv : I64 vars) (ht : I64 top) :
    Calls Try.prog 10 #[.agg #[.int .i64 vars, .slice A n c, .int .i64 top]] w fun e w' => e = .returned (.int .i64 (chk vars xs top : Nat)) ∧ On w w' := by
  have hn := h.len
  have hcap := h.cap
  have hmax := h.max
  obtain ⟨q, hq⟩ : ∃ q, w.heap.size = q := ⟨_, rfl⟩
  unfold chk
  rw [hn]
  have HN := Lib.hid hn
  clear hn
  by_cases h0 : vars < 0 ∨ 24 < vars
  · rw [if_pos h0]
    rcases h0 with h0 | h0
    · go_enter Try.func10, Try.ntmps10
      go_wp2
      go_ret
      exact ⟨rfl, (On.refl w).alloc _⟩
    · have h1 : ¬ vars < 0 := by omega
      go_enter Try.func10, Try.ntmps10
      go_wp2
      go_ret
      exact ⟨rfl, (On.refl w).alloc _⟩
  · rw [if_neg h0]
    have h1 : ¬ vars < 0 := by omega
    have h2 : ¬ 24 < vars := by omega
    by_cases h3 : 128 < n
    · rw [if_pos h3]
      go_enter Try.func10, Try.ntmps10
      go_wp2
      go_ret
      exact ⟨rfl, (On.refl w).alloc _⟩
    · rw [if_neg h3]
      obtain ⟨er, her⟩ : ∃ er, (if chkL vars xs ≠ 0 then chkL vars xs else if validB vars n top = true then 0 else 10) = er := ⟨_, rfl⟩
      rw [her]
      have HE := Lib.hid her
      have HR := Lib.hid h
      have hV := fun W => rvalid_any W vars A n c top top hv ht (by omega)
      clear her h h0
      go_enter Try.func10, Try.ntmps10
      go_wp2
      go_loopw [20] (fun i wr => ∃ j : Nat, j ≤ n ∧ i = .int .i64 (j : Int) ∧ (∀ t : Nat, t < j → ndErr (vars + t) (xs.getD t Nd.z) = 0) ∧ On w wr ∧ Own wr q 24 #[.int .i64 vars, .slice A n c, .int .i64 top]) (fun i _ => n - (intOf i).toNat)
      case atStart => exact ⟨0, by omega, rfl, fun t ht => absurd ht (by omega), (On.refl _).alloc _, by rw [← hq]; exact Own.new _ _ _⟩
      case round =>
        obtain ⟨j, hj, rfl, hgood, hon, hO⟩ := hrel
        have r0 := hO.cell 0
        have r1 := hO.cell 1
        have r2 := hO.cell 2
        simp at r0 r1 r2
        by_cases hlt : j < n
        · have hC := rnode_any wr vars top A n c xs (HR.out.on hon) (by omega) (by omega) (by omega) j hlt
          have HG := Lib.hid (And.intro hgood hO)
          clear hgood hO
          by_cases he : ndErr (vars + j) (xs.getD j Nd.z) = 0
          · rw [he] at hC
            go_wp2_with fail
            refine hC.mono ?_
            rintro e w4 ⟨rfl, P4⟩
            clear hC r0 r1 r2
            go_wp2
            refine ⟨⟨j + 1, by omega, by go_num, fun t ht => ?_, hon.trans P4, HG.out.2.on P4⟩, by simp [intOf]; omega⟩
            by_cases e : t = j
            · subst e; exact he
            · exact HG.out.1 t (by omega)
          · have hee : ndErr (vars + j) (xs.getD j Nd.z) = er := by
              rw [← HE.out, chkL_first xs vars j (by rw [HN.out]; exact hlt) HG.out.1 he, if_pos he]
            rw [hee] at hC
            have hE2 : ¬ (er : Int) = 0 := by rw [← hee]; omega
            clear he hee
            go_wp2_with fail
            refine hC.mono ?_
            rintro e w4 ⟨rfl, P4⟩
            clear hC r0 r1 r2
            go_wp2
            go_ret
            exact ⟨rfl, hon.trans P4⟩
        · obtain rfl : j = n := by omega
          have hz : chkL vars xs = 0 := chkL_all xs vars (fun i hi => hgood i (by rw [← HN.out]; exact hi))
          have he : (if validB vars j top = true then 0 else 10) = er := by
            have h9 := HE.out
            rw [hz] at h9
            exact h9
          clear hgood hO
          by_cases hb : validB vars j top = true
          · rw [if_pos hb] at he
            subst he
            rw [hb] at hV
            go_wp2_with fail
            refine (hV _).mono ?_
            rintro e w4 ⟨rfl, P4⟩
            go_wp2
            go_ret
            exact ⟨rfl, hon.trans P4⟩
          · rw [if_neg hb] at he
            subst he
            rw [Bool.eq_false_iff.2 hb] at hV
            go_wp2_with fail
            refine (hV _).mono ?_
            rintro e w4 ⟨rfl, P4⟩
            go_wp2
            go_ret
            exact ⟨rfl, hon.trans P4⟩
def lightB (xs : List Nd) : Bool := decide (xs.length ≤ 200) && xs.all fun x => decide (x.args.length ≤ 40)
set_option maxHeartbeats 4000000 in
theorem light_any (w : World) (vars top : Int) (A : Option Addr) (n c : Nat) (xs : List Nd) (h : RdN w A n c xs) :
    Calls Try.prog 8 #[.agg #[.int .i64 vars, .slice A n c, .int .i64 top]] w fun e w' => e = .returned (.bool (lightB xs)) ∧ On w w' := by
  have hn := h.len
  have hcap := h.cap
  have hmax := h.max
  obtain ⟨q, hq⟩ : ∃ q, w.heap.size = q := ⟨_, rfl⟩
  obtain ⟨er, her⟩ : ∃ er, lightB xs = er := ⟨_, rfl⟩
  rw [her]
  unfold lightB at her
  rw [hn] at her
  have HN := Lib.hid hn
  have HR := Lib.hid h
  clear hn h
  by_cases h0 : 200 < n
  · rw [decide_eq_false (by omega), Bool.false_and] at her
    subst her
    go_enter Try.func8, Try.ntmps8
    go_wp2
    go_ret
    exact ⟨rfl, (On.refl w).alloc _⟩
  · rw [decide_eq_true (by omega), Bool.true_and] at her
    have HE := Lib.hid her
    clear her
    go_enter Try.func8, Try.ntmps8
    go_wp2
    go_loopw [12] (fun i wr => ∃ j : Nat, j ≤ n ∧ i = .int .i64 (j : Int) ∧ (∀ t : Nat, t < j → (xs.getD t Nd.z).args.length ≤ 40) ∧ On w wr) (fun i _ => n - (intOf i).toNat)
    case atStart => exact ⟨0, by omega, rfl, fun t ht => absurd ht (by omega), (On.refl _).alloc _⟩
    case round =>
      obtain ⟨j, hj, rfl, hgood, hon⟩ := hrel
      by_cases hlt : j < n
      · obtain ⟨ad, rfl, hb, P, m, k, hc0, hc1, hc2, hR⟩ := (HR.out.on hon).at_ j hlt
        have hjl : j < xs.length := by rw [HN.out]; exact hlt
        have hmem : xs.getD j Nd.z ∈ xs := by
          have : xs.getD j Nd.z = xs[j] := by simp [hjl]
          rw [this]; exact List.getElem_mem hjl
        have hm := VI_len hR
        obtain ⟨x, hx⟩ : ∃ x, xs.getD j Nd.z = x := ⟨_, rfl⟩
        rw [hx] at hc0 hc1 hR hmem hm
        by_cases he : m ≤ 40
        · have HG := Lib.hid (And.intro hgood (And.intro hx hm))
          clear hgood hx hR hmem hm hjl
          go_wp2
          refine ⟨⟨j + 1, by omega, by go_num, fun t ht => ?_, hon.alloc _⟩, by simp [intOf]; omega⟩
          by_cases e : t = j
          · subst e; rw [HG.out.2.1, HG.out.2.2]; exact he
          · exact HG.out.1 t (by omega)
        · have hf : er = false := by
            rw [← HE.out, List.all_eq_false]
            exact ⟨x, hmem, by simp; omega⟩
          subst hf
          clear hgood hx hR hmem hm hjl
          go_wp2
          go_ret
          exact ⟨rfl, hon.alloc _⟩
      · obtain rfl : j = n := by omega
        have hf : er = true := by
          rw [← HE.out, List.all_eq_true]
          intro x hx
          obtain ⟨t, ht, rfl⟩ := List.mem_iff_getElem.1 hx
          have := hgood t (by rw [← HN.out]; exact ht)
          have e : xs.getD t Nd.z = xs[t] := by simp [ht]
          rw [e] at this
          exact decide_eq_true this
        subst hf
        clear hgood
        go_wp2
        go_ret
        exact ⟨rfl, hon⟩
end Go.Proofs.Ytmkogcaafkobaaa.Fm
