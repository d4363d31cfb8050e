/-
  Depth of the program and of the specification.
-/
import Derived.Test.YtimigaajhhfbhaaFs
namespace Go.Proofs.Ytimigaajhhfbhaa.Fm
open Go.RowKit Go.Proofs.Ytimigaajhhfbhaa.Sb
set_option linter.unusedVariables false
set_option maxRecDepth 100000
theorem run_mkI (n : Nat) (h : n ≤ 100000) (w : World) :
    (Instr.makeSlice 51 (.int .i64 (n : Int)) (.int .i64 (n : Int))).run Try.prog w = .ok (.slice (some ⟨w.heap.size, 0, none⟩) n n) (w.alloc (.cells (VI (ints (List.replicate n 0))).toArray 3)) := by
  have := run_make_row' 51 3 (.int .i64 0) 8 Try.underlying51 infoi rfl .i64 .i64 n (by omega) (by omega) w
  rw [made_list] at this
  rw [this, VI, ints, List.map_replicate, List.map_replicate]; rfl
theorem own_rdI {w : World} {g : Nat} {xs : List Nat} {n : Nat} (h : Own w g 3 (VI (ints xs)).toArray) (hn : xs.length = n) (hm : n ≤ 100000) : Rd w (some ⟨g, 0, none⟩) n n (VI (ints xs)) := by
  refine ⟨by rw [VI_length, ints_length]; exact hn, Nat.le_refl _, by omega, fun e => (by cases e), fun h0 => ⟨_, rfl, h.lt, fun j u hj => ?_⟩⟩
  rw [add_plain, h.cell, Nat.zero_add]
  simpa using hj
theorem own_setI {w : World} {g : Nat} {xs ys : List Nat} (h : Own w g 3 (VI (ints xs)).toArray) (i : Nat) {z : Int} {b : Nat} (hz : z = (b : Int)) (he : xs.set i b = ys) : Own (w.setCell ⟨g, i, none⟩ (.int .i64 z)) g 3 (VI (ints ys)).toArray := by
  subst hz; subst he
  have := h.set_ i (.int .i64 (b : Int))
  have e : (VI (ints xs)).toArray.setIfInBounds i (.int .i64 (b : Int)) = (VI (ints (xs.set i b))).toArray := by simp [VI, ints, List.map_set]
  rw [e] at this
  exact this
theorem own_atI {w : World} {g : Nat} {xs : List Nat} (h : Own w g 3 (VI (ints xs)).toArray) {i : Nat} (hi : i < xs.length) : w.cell? ⟨g, i, none⟩ = some (.int .i64 (xs.getD i 0 : Nat)) := by
  rw [h.cell]
  simp [VI, ints, hi]
/-- the depths in memory -/
def drow (f : Fn) (i : Nat) : List Nat := List.replicate f.vars 0 ++ (depTo f i ++ List.replicate (f.nodes.length - i) 0)
def argD (vars : Nat) (es : List Nat) (a : Nat) : Nat := argE vars (fun _ => 0) 0 es a
theorem drow_get (f : Fn) (i a : Nat) : (drow f i).getD a 0 = argD f.vars (depTo f i) a := by
  unfold drow argD argE
  by_cases h : a < f.vars
  · rw [if_pos h, List.getD_eq_getElem?_getD, List.getElem?_append_left (by simpa using h), List.getElem?_replicate]; split <;> rfl
  · rw [if_neg h, List.getD_eq_getElem?_getD, List.getElem?_append_right (by simp; omega), List.length_replicate, ← List.getD_eq_getElem?_getD, getD_rep]
theorem depTo_len {f : Fn} {i : Nat} (h : i ≤ f.nodes.length) : (depTo f i).length = i := evTo_len h
theorem drow_len {f : Fn} {i : Nat} (h : i ≤ f.nodes.length) : (drow f i).length = f.vars + f.nodes.length := by
  unfold drow
  rw [List.length_append, List.length_append, depTo_len h, List.length_replicate, List.length_replicate]; omega
theorem drow_zero (f : Fn) : drow f 0 = List.replicate (f.vars + f.nodes.length) 0 := by
  unfold drow depTo
  rw [evTo_zero, List.nil_append, Nat.sub_zero, List.replicate_append_replicate]
/-- the greatest depth of the first t arguments -/
def gmax (vars : Nat) (es : List Nat) (args : List Nat) (t : Nat) : Nat := ((args.take t).map (argD vars es)).foldl max 0
theorem gmax_succ {vars : Nat} {es args : List Nat} {t : Nat} (h : t < args.length) : gmax vars es args (t + 1) = max (gmax vars es args t) (argD vars es (args.getD t 0)) := by
  unfold gmax
  rw [take_args h]; simp
theorem drow_succ {f : Fn} {i : Nat} (h : i < f.nodes.length) : (drow f i).set (f.vars + i) (1 + gmax f.vars (depTo f i) (f.nd i).args (f.nd i).args.length) = drow f (i + 1) := by
  have hl : (depTo f i).length = i := depTo_len (by omega)
  obtain ⟨k, hk⟩ : ∃ k, f.nodes.length - i = k + 1 := ⟨f.nodes.length - i - 1, by omega⟩
  unfold drow
  rw [hk, show f.nodes.length - (i + 1) = k by omega]
  have e : depTo f (i + 1) = depTo f i ++ [1 + gmax f.vars (depTo f i) (f.nd i).args (f.nd i).args.length] := by
    unfold depTo gmax
    rw [evTo_succ h, List.take_length]; rfl
  rw [e, List.set_append_right _ _ (by simp), List.length_replicate, Nat.add_sub_cancel_left]
  congr 1
  conv => lhs; arg 2; rw [← hl]
  exact set_rep _ _ _ _
theorem foldl_max_le (l : List Nat) (a b : Nat) (h : ∀ x ∈ l, x ≤ b) (ha : a ≤ b) : l.foldl max a ≤ b := by
  induction l generalizing a with
  | nil => exact ha
  | cons x l ih =>
    have := h x List.mem_cons_self
    exact ih (max a x) (fun y hy => h y (List.mem_cons_of_mem _ hy)) (by omega)
theorem depTo_le (f : Fn) (i : Nat) (hi : i ≤ f.nodes.length) : ∀ x ∈ depTo f i, x ≤ i := by
  induction i with
  | zero => intro x hx; unfold depTo at hx; rw [evTo_zero] at hx; cases hx
  | succ i ih =>
    have ih := ih (by omega)
    intro x hx
    unfold depTo at hx
    rw [evTo_succ (by omega)] at hx
    rcases List.mem_append.1 hx with h | h
    · have := ih x h; omega
    · rw [List.mem_singleton] at h
      subst h
      have : ((f.nd i).args.map (argE f.vars (fun _ => 0) 0 (evTo (fun _ => 0) 0 cmbD f i))).foldl max 0 ≤ i := foldl_max_le _ _ _ (fun y hy => by
        obtain ⟨a, _, rfl⟩ := List.mem_map.1 hy
        unfold argE
        split
        · exact Nat.zero_le _
        · rw [List.getD_eq_getElem?_getD]
          rcases hg : (evTo (fun _ => 0) 0 cmbD f i)[a - f.vars]? with _ | v
          · simp
          · exact ih v (List.mem_of_getElem? hg)) (by omega)
      show 1 + ((f.nd i).args.map (argE f.vars (fun _ => 0) 0 (evTo (fun _ => 0) 0 cmbD f i))).foldl max 0 ≤ i + 1
      omega
theorem argD_le {f : Fn} {i a : Nat} (hi : i ≤ f.nodes.length) : argD f.vars (depTo f i) a ≤ i := by
  unfold argD argE
  split
  · exact Nat.zero_le _
  · rw [List.getD_eq_getElem?_getD]
    rcases hg : (depTo f i)[a - f.vars]? with _ | v
    · simp
    · exact depTo_le f i hi v (List.mem_of_getElem? hg)
theorem gmax_le {f : Fn} {i t : Nat} {args : List Nat} (hi : i ≤ f.nodes.length) : gmax f.vars (depTo f i) args t ≤ i :=
  foldl_max_le _ _ _ (fun y hy => by
    obtain ⟨a, _, rfl⟩ := List.mem_map.1 hy
    exact argD_le hi) (by omega)
set_option maxHeartbeats 8000000 in
theorem depth_ok (w : World) (f : Fn) (hf : WF f) (A : Option Addr) (n c : Nat) (h : RdN w A n c (rawL f.nodes)) :
    Calls Try.prog 21 #[.agg #[.int .i64 (f.vars : Int), .slice A n c, .int .i64 (f.top : Int)]] w fun e w' => e = .returned (.tuple #[.int .i64 (dep f : Nat), .nilIface]) ∧ On w w' := by
  have hn : f.nodes.length = n := by have := h.len; rwa [raw_len] at this
  have hcap := h.cap
  have hmax := h.max
  have hv := hf.1
  have hn128 := hf.2.1
  have htop := hf.2.2.2
  rw [hn] at hn128 htop
  obtain ⟨q, hq⟩ : ∃ q, w.heap.size = q := ⟨_, rfl⟩
  obtain ⟨w0, hw0⟩ : ∃ w0, w.alloc (.cells #[.int .i64 (f.vars : Int), .slice A n c, .int .i64 (f.top : Int)] 24) = w0 := ⟨_, rfl⟩
  have O0 : Own w0 q 24 #[.int .i64 (f.vars : Int), .slice A n c, .int .i64 (f.top : Int)] := by rw [← hw0, ← hq]; exact Own.new _ _ _
  have P0 : On w w0 := by rw [← hw0]; exact (On.refl w).alloc _
  have hC := check_any w0 (f.vars : Int) (f.top : Int) A n c _ (h.on P0) (by unfold I64; omega) (by unfold I64; omega)
  rw [chk_ok hf, errV_zero, ← hw0] at hC
  have HO := Lib.hid (And.intro O0 (And.intro P0 hw0))
  have HR := Lib.hid h
  have HN := Lib.hid hn
  have HF := Lib.hid hf
  clear h hn hf O0 P0 hw0
  go_enter Try.func21, Try.ntmps21
  go_wp2_with fail
  refine hC.mono ?_
  rintro e w1 ⟨rfl, P1⟩
  rw [HO.out.2.2] at P1
  clear hC
  have O1 := HO.out.1.on P1
  have P01 := HO.out.2.1.trans P1
  have r0 := O1.cell 0
  have r1 := O1.cell 1
  simp at r0 r1
  have hmk := run_mkI (f.vars + n) (by omega) w1
  obtain ⟨g, hg⟩ : ∃ g, w1.heap.size = g := ⟨_, rfl⟩
  obtain ⟨w2, hw2⟩ : ∃ w2, w1.alloc (.cells (VI (ints (List.replicate (f.vars + n) 0))).toArray 3) = w2 := ⟨_, rfl⟩
  have OG : Own w2 g 3 (VI (ints (List.replicate (f.vars + n) 0))).toArray := by rw [← hw2, ← hg]; exact Own.new _ _ _
  have P2 : On w1 w2 := by rw [← hw2]; exact (On.refl w1).alloc _
  have O2 := O1.on P2
  have s0 := O2.cell 0
  have s1 := O2.cell 1
  simp at s0 s1
  rw [hg, hw2, Int.natCast_add] at hmk
  have hgq : q < g := by have := O1.lt; omega
  have H2 := Lib.hid (And.intro OG (And.intro O2 (P01.trans P2)))
  clear OG P2 O2 O1 P01
  go_wp2
  clear r0 r1 s0 s1 hmk hw2
  go_loopw [26] (fun i wr => ∃ k : Nat, k ≤ n ∧ i = .int .i64 (k : Int) ∧ On w wr ∧ Own wr g 3 (VI (ints (drow f k))).toArray ∧ Own wr q 24 #[.int .i64 (f.vars : Int), .slice A n c, .int .i64 (f.top : Int)]) (fun i _ => n - (intOf i).toNat)
  case atStart => exact ⟨0, by omega, rfl, H2.out.2.2, by rw [drow_zero, HN.out]; exact H2.out.1, H2.out.2.1⟩
  case round =>
    obtain ⟨i, hi, rfl, hon, hG, hQ⟩ := hrel
    obtain ⟨wo, hwo⟩ : ∃ wo, wo = wr := ⟨_, rfl⟩
    subst hwo
    by_cases hlt : i < n
    · obtain ⟨ad, rfl, hb, P, m, k, hc0', hc1', hc2', hRA⟩ := HR.out.at_ i hlt
      rw [raw_get] at hc0' hc1' hRA
      have hbk : (ad.add (i * 3)).block < w.heap.size := by rw [block_of_add]; exact hb
      have hc0 := (Below.cell hon hbk).trans hc0'
      have hc1 := (Below.cell hon (p := ⟨(ad.add (i * 3)).block, (ad.add (i * 3)).off + 1, none⟩) hbk).trans hc1'
      have hc2 := (Below.cell hon (p := ⟨(ad.add (i * 3)).block, (ad.add (i * 3)).off + 2, none⟩) hbk).trans hc2'
      have hm : (f.nd i).args.length = m := by have := VI_len hRA; unfold Nn.raw at this; rwa [ints_length] at this
      have hm16 : m ≤ 16 := by rw [← hm]; exact HF.out.len (by rw [HN.out]; exact hlt)
      have harg : ∀ a ∈ (f.nd i).args, a < f.vars + i := fun a ha => HF.out.arg (by rw [HN.out]; exact hlt) ha
      have hvl : (drow f i).length = f.vars + n := by rw [drow_len (by rw [HN.out]; omega), HN.out]
      have hsucc := drow_succ (f := f) (i := i) (by rw [HN.out]; exact hlt)
      have hgm := fun t => gmax_le (f := f) (i := i) (t := t) (args := (f.nd i).args) (by rw [HN.out]; omega)
      have hrow := drow_get f i
      obtain ⟨x, hx⟩ : ∃ x, f.nd i = x := ⟨_, rfl⟩
      rw [hx] at hc0 hc1 hRA hm harg hsucc hgm
      obtain ⟨es, hes⟩ : ∃ es, depTo f i = es := ⟨_, rfl⟩
      obtain ⟨rs, hrs⟩ : ∃ rs, drow f i = rs := ⟨_, rfl⟩
      rw [hes] at hsucc hgm hrow
      rw [hrs] at hG hvl hsucc hrow
      rw [hm] at hsucc
      have hcapA := hRA.cap
      have hmaxA := hRA.max
      have c0 : wo.cell? (ad.add (i * 3)) = some (.int .i64 (x.kind : Int)) := hc0
      have c1 : wo.cell? ⟨(ad.add (i * 3)).block, (ad.add (i * 3)).off + 1, none⟩ = some (.int .i64 (x.k : Int)) := hc1
      have HRA := Lib.hid (show Rd w P m k (VI (ints x.args)) from hRA)
      obtain ⟨p, hp⟩ : ∃ p, wo.heap.size = p := ⟨_, rfl⟩
      obtain ⟨w3, hw3⟩ : ∃ w3, wo.alloc (.cells #[.int .i64 (x.kind : Int), .int .i64 (x.k : Int), .slice P m k] 53) = w3 := ⟨_, rfl⟩
      have ON : Own w3 p 53 #[.int .i64 (x.kind : Int), .int .i64 (x.k : Int), .slice P m k] := by rw [← hw3, ← hp]; exact Own.new _ _ _
      have P3 : On wo w3 := by rw [← hw3]; exact (On.refl wo).alloc _
      have H3 := Lib.hid (And.intro (hG.on P3) (And.intro (hQ.on P3) (hon.trans P3)))
      have n2 := ON.cell 2
      simp at n2
      have HM := Lib.hid hm
      have HX := Lib.hid (And.intro harg (And.intro hsucc (And.intro hvl (And.intro hgm hrow))))
      have hpg : g < p := by have := hG.lt; omega
      clear hc0 hc1 hc0' hc1' hc2' hbk hRA hx hG hQ hm harg hsucc hvl ON P3 hgm hrow
      go_wp2
      clear c0 c1 hc2 hw3 n2
      go_loopw [34, 8] (fun j cn wx => ∃ t : Nat, t ≤ m ∧ j = .int .i64 (t : Int) ∧ cn = .int .i64 (gmax f.vars es x.args t : Nat) ∧ On w wx ∧ Own wx g 3 (VI (ints rs)).toArray ∧ Own wx q 24 #[.int .i64 (f.vars : Int), .slice (some ad) n c, .int .i64 (f.top : Int)]) (fun j _ _ => m - (intOf j).toNat)
      case atStart => exact ⟨0, by omega, rfl, rfl, H3.out.2.2, H3.out.1, H3.out.2.1⟩
      case round =>
        obtain ⟨t, ht, rfl, rfl, hon2, hG2, hQ2⟩ := hrel
        have hg1 := HX.out.2.2.2.1 t
        by_cases hlt2 : t < m
        · obtain ⟨ad2, rfl, hb2, hc⟩ := VI_at (HRA.out.on hon2) hlt2
          have hl2 : t < x.args.length := by rw [HM.out]; exact hlt2
          rw [ints_getD hl2] at hc
          have hcs := gmax_succ (vars := f.vars) (es := es) hl2
          have ha := HX.out.1 _ (getD_memN hl2)
          have hg2 := HX.out.2.2.2.1 (t + 1)
          obtain ⟨a, hae⟩ : ∃ a, x.args.getD t 0 = a := ⟨_, rfl⟩
          rw [hae] at hc hcs ha
          have m0 := own_atI hG2 (i := a) (by rw [HX.out.2.2.1]; omega)
          rw [HX.out.2.2.2.2 a] at m0
          rw [hcs] at hg2
          obtain ⟨gt, hgt⟩ : ∃ gt, gmax f.vars es x.args t = gt := ⟨_, rfl⟩
          obtain ⟨da, hda⟩ : ∃ da, argD f.vars es a = da := ⟨_, rfl⟩
          rw [hda] at hcs m0 hg2
          rw [hgt] at hcs hg1 hg2 ⊢
          have HC := Lib.hid (And.intro hcs (And.intro hG2 hQ2))
          clear hcs hG2 hQ2 hae hl2 hgt hda
          go_wp2
          go_roundw
          case rel => exact ⟨t + 1, by omega, by go_num, by rw [HC.out.1]; go_num, hon2, HC.out.2.1, HC.out.2.2⟩
          case measure => simp [intOf] <;> omega
        · obtain rfl : t = m := by omega
          have r0 := hQ2.cell 0
          simp at r0
          have d0 := own_atI hG2 (i := f.vars + i) (by rw [HX.out.2.2.1]; omega)
          have d1 := hG2.frozen (f.vars + i)
          have hsu := HX.out.2.1
          obtain ⟨gt, hgt⟩ : ∃ gt, gmax f.vars es x.args t = gt := ⟨_, rfl⟩
          rw [hgt] at hsu hg1 ⊢
          have HC := Lib.hid (And.intro hsu (And.intro hG2 hQ2))
          clear hG2 hQ2 hsu hgt
          go_wp2
          go_roundw
          case rel =>
            refine ⟨i + 1, by omega, by go_num, On.setCell hon2 (p := ⟨g, f.vars + i, none⟩) (by show w.heap.size ≤ g; omega) _, ?_, HC.out.2.2.far (by show q ≠ g; omega) _⟩
            exact own_setI HC.out.2.1 (f.vars + i) (by omega) HC.out.1
          case measure => simp [intOf] <;> omega
    · obtain rfl : i = n := by omega
      have r0 := hQ.cell 0
      have r2 := hQ.cell 2
      simp at r0 r2
      have m0 := own_atI hG (i := f.top) (by rw [drow_len (by rw [HN.out]; omega), HN.out]; omega)
      have hd : (drow f i).getD f.top 0 = dep f := by rw [drow_get]; unfold dep argD; rw [HN.out]
      rw [hd] at m0
      clear hQ hG hd
      go_wp2
      go_ret2
      exact ⟨rfl, hon⟩
set_option maxHeartbeats 8000000 in
theorem rdepth_ok (w : World) (f : Fn) (hf : WF f) (A : Option Addr) (n c : Nat) (h : RdN w A n c (rawL f.nodes)) :
    Calls Try.prog 25 #[.agg #[.int .i64 (f.vars : Int), .slice A n c, .int .i64 (f.top : Int)]] w fun e w' => e = .returned (.int .i64 (dep f : Nat)) ∧ On w w' := by
  have hn : f.nodes.length = n := by have := h.len; rwa [raw_len] at this
  have hcap := h.cap
  have hmax := h.max
  have hv := hf.1
  have hn128 := hf.2.1
  have htop := hf.2.2.2
  rw [hn] at hn128 htop
  obtain ⟨q, hq⟩ : ∃ q, w.heap.size = q := ⟨_, rfl⟩
  obtain ⟨w0, hw0⟩ : ∃ w0, w.alloc (.cells #[.int .i64 (f.vars : Int), .slice A n c, .int .i64 (f.top : Int)] 24) = w0 := ⟨_, rfl⟩
  have O0 : Own w0 q 24 #[.int .i64 (f.vars : Int), .slice A n c, .int .i64 (f.top : Int)] := by rw [← hw0, ← hq]; exact Own.new _ _ _
  have P0 : On w w0 := by rw [← hw0]; exact (On.refl w).alloc _
  have HR := Lib.hid h
  have HN := Lib.hid hn
  have HF := Lib.hid hf
  obtain ⟨w1, hw1⟩ : ∃ w1, w1 = w0 := ⟨_, rfl⟩
  subst hw1
  have O1 := O0
  have P01 := P0
  clear h hn hf O0 P0
  have r0 := O1.cell 0
  have r1 := O1.cell 1
  simp at r0 r1
  have hmk := run_mkI (f.vars + n) (by omega) w1
  obtain ⟨g, hg⟩ : ∃ g, w1.heap.size = g := ⟨_, rfl⟩
  obtain ⟨w2, hw2⟩ : ∃ w2, w1.alloc (.cells (VI (ints (List.replicate (f.vars + n) 0))).toArray 3) = w2 := ⟨_, rfl⟩
  have OG : Own w2 g 3 (VI (ints (List.replicate (f.vars + n) 0))).toArray := by rw [← hw2, ← hg]; exact Own.new _ _ _
  have P2 : On w1 w2 := by rw [← hw2]; exact (On.refl w1).alloc _
  have O2 := O1.on P2
  have s0 := O2.cell 0
  have s1 := O2.cell 1
  simp at s0 s1
  rw [hg, hw2, Int.natCast_add] at hmk
  have hgq : q < g := by have := O1.lt; omega
  have H2 := Lib.hid (And.intro OG (And.intro O2 (P01.trans P2)))
  clear OG P2 O2 O1 P01
  go_enter Try.func25, Try.ntmps25
  go_wp2
  clear r0 r1 s0 s1 hmk hw2 hw0
  go_loopw [19] (fun i wr => ∃ k : Nat, k ≤ n ∧ i = .int .i64 (k : Int) ∧ On w wr ∧ Own wr g 3 (VI (ints (drow f k))).toArray ∧ Own wr q 24 #[.int .i64 (f.vars : Int), .slice A n c, .int .i64 (f.top : Int)]) (fun i _ => n - (intOf i).toNat)
  case atStart => exact ⟨0, by omega, rfl, H2.out.2.2, by rw [drow_zero, HN.out]; exact H2.out.1, H2.out.2.1⟩
  case round =>
    obtain ⟨i, hi, rfl, hon, hG, hQ⟩ := hrel
    obtain ⟨wo, hwo⟩ : ∃ wo, wo = wr := ⟨_, rfl⟩
    subst hwo
    by_cases hlt : i < n
    · obtain ⟨ad, rfl, hb, P, m, k, hc0', hc1', hc2', hRA⟩ := HR.out.at_ i hlt
      rw [raw_get] at hc0' hc1' hRA
      have hbk : (ad.add (i * 3)).block < w.heap.size := by rw [block_of_add]; exact hb
      have hc0 := (Below.cell hon hbk).trans hc0'
      have hc1 := (Below.cell hon (p := ⟨(ad.add (i * 3)).block, (ad.add (i * 3)).off + 1, none⟩) hbk).trans hc1'
      have hc2 := (Below.cell hon (p := ⟨(ad.add (i * 3)).block, (ad.add (i * 3)).off + 2, none⟩) hbk).trans hc2'
      have hm : (f.nd i).args.length = m := by have := VI_len hRA; unfold Nn.raw at this; rwa [ints_length] at this
      have hm16 : m ≤ 16 := by rw [← hm]; exact HF.out.len (by rw [HN.out]; exact hlt)
      have harg : ∀ a ∈ (f.nd i).args, a < f.vars + i := fun a ha => HF.out.arg (by rw [HN.out]; exact hlt) ha
      have hvl : (drow f i).length = f.vars + n := by rw [drow_len (by rw [HN.out]; omega), HN.out]
      have hsucc := drow_succ (f := f) (i := i) (by rw [HN.out]; exact hlt)
      have hgm := fun t => gmax_le (f := f) (i := i) (t := t) (args := (f.nd i).args) (by rw [HN.out]; omega)
      have hrow := drow_get f i
      obtain ⟨x, hx⟩ : ∃ x, f.nd i = x := ⟨_, rfl⟩
      rw [hx] at hc0 hc1 hRA hm harg hsucc hgm
      obtain ⟨es, hes⟩ : ∃ es, depTo f i = es := ⟨_, rfl⟩
      obtain ⟨rs, hrs⟩ : ∃ rs, drow f i = rs := ⟨_, rfl⟩
      rw [hes] at hsucc hgm hrow
      rw [hrs] at hG hvl hsucc hrow
      rw [hm] at hsucc
      have hcapA := hRA.cap
      have hmaxA := hRA.max
      have c0 : wo.cell? (ad.add (i * 3)) = some (.int .i64 (x.kind : Int)) := hc0
      have c1 : wo.cell? ⟨(ad.add (i * 3)).block, (ad.add (i * 3)).off + 1, none⟩ = some (.int .i64 (x.k : Int)) := hc1
      have HRA := Lib.hid (show Rd w P m k (VI (ints x.args)) from hRA)
      obtain ⟨p, hp⟩ : ∃ p, wo.heap.size = p := ⟨_, rfl⟩
      obtain ⟨w3, hw3⟩ : ∃ w3, wo.alloc (.cells #[.int .i64 (x.kind : Int), .int .i64 (x.k : Int), .slice P m k] 53) = w3 := ⟨_, rfl⟩
      have ON : Own w3 p 53 #[.int .i64 (x.kind : Int), .int .i64 (x.k : Int), .slice P m k] := by rw [← hw3, ← hp]; exact Own.new _ _ _
      have P3 : On wo w3 := by rw [← hw3]; exact (On.refl wo).alloc _
      have H3 := Lib.hid (And.intro (hG.on P3) (And.intro (hQ.on P3) (hon.trans P3)))
      have n2 := ON.cell 2
      simp at n2
      have HM := Lib.hid hm
      have HX := Lib.hid (And.intro harg (And.intro hsucc (And.intro hvl (And.intro hgm hrow))))
      have hpg : g < p := by have := hG.lt; omega
      clear hc0 hc1 hc0' hc1' hc2' hbk hRA hx hG hQ hm harg hsucc hvl ON P3 hgm hrow
      go_wp2
      clear c0 c1 hc2 hw3 n2
      go_loopw [27, 6] (fun j cn wx => ∃ t : Nat, t ≤ m ∧ j = .int .i64 (t : Int) ∧ cn = .int .i64 (gmax f.vars es x.args t : Nat) ∧ On w wx ∧ Own wx g 3 (VI (ints rs)).toArray ∧ Own wx q 24 #[.int .i64 (f.vars : Int), .slice (some ad) n c, .int .i64 (f.top : Int)]) (fun j _ _ => m - (intOf j).toNat)
      case atStart => exact ⟨0, by omega, rfl, rfl, H3.out.2.2, H3.out.1, H3.out.2.1⟩
      case round =>
        obtain ⟨t, ht, rfl, rfl, hon2, hG2, hQ2⟩ := hrel
        have hg1 := HX.out.2.2.2.1 t
        by_cases hlt2 : t < m
        · obtain ⟨ad2, rfl, hb2, hc⟩ := VI_at (HRA.out.on hon2) hlt2
          have hl2 : t < x.args.length := by rw [HM.out]; exact hlt2
          rw [ints_getD hl2] at hc
          have hcs := gmax_succ (vars := f.vars) (es := es) hl2
          have ha := HX.out.1 _ (getD_memN hl2)
          have hg2 := HX.out.2.2.2.1 (t + 1)
          obtain ⟨a, hae⟩ : ∃ a, x.args.getD t 0 = a := ⟨_, rfl⟩
          rw [hae] at hc hcs ha
          have m0 := own_atI hG2 (i := a) (by rw [HX.out.2.2.1]; omega)
          rw [HX.out.2.2.2.2 a] at m0
          rw [hcs] at hg2
          obtain ⟨gt, hgt⟩ : ∃ gt, gmax f.vars es x.args t = gt := ⟨_, rfl⟩
          obtain ⟨da, hda⟩ : ∃ da, argD f.vars es a = da := ⟨_, rfl⟩
          rw [hda] at hcs m0 hg2
          rw [hgt] at hcs hg1 hg2 ⊢
          have HC := Lib.hid (And.intro hcs (And.intro hG2 hQ2))
          clear hcs hG2 hQ2 hae hl2 hgt hda
          go_wp2
          go_roundw
          case rel => exact ⟨t + 1, by omega, by go_num, by rw [HC.out.1]; go_num, hon2, HC.out.2.1, HC.out.2.2⟩
          case measure => simp [intOf] <;> omega
        · obtain rfl : t = m := by omega
          have r0 := hQ2.cell 0
          simp at r0
          have d0 := own_atI hG2 (i := f.vars + i) (by rw [HX.out.2.2.1]; omega)
          have d1 := hG2.frozen (f.vars + i)
          have hsu := HX.out.2.1
          obtain ⟨gt, hgt⟩ : ∃ gt, gmax f.vars es x.args t = gt := ⟨_, rfl⟩
          rw [hgt] at hsu hg1 ⊢
          have HC := Lib.hid (And.intro hsu (And.intro hG2 hQ2))
          clear hG2 hQ2 hsu hgt
          go_wp2
          go_roundw
          case rel =>
            refine ⟨i + 1, by omega, by go_num, On.setCell hon2 (p := ⟨g, f.vars + i, none⟩) (by show w.heap.size ≤ g; omega) _, ?_, HC.out.2.2.far (by show q ≠ g; omega) _⟩
            exact own_setI HC.out.2.1 (f.vars + i) (by omega) HC.out.1
          case measure => simp [intOf] <;> omega
    · obtain rfl : i = n := by omega
      have r0 := hQ.cell 0
      have r2 := hQ.cell 2
      simp at r0 r2
      have m0 := own_atI hG (i := f.top) (by rw [drow_len (by rw [HN.out]; omega), HN.out]; omega)
      have hd : (drow f i).getD f.top 0 = dep f := by rw [drow_get]; unfold dep argD; rw [HN.out]
      rw [hd] at m0
      clear hQ hG hd
      go_wp2
      go_ret
      exact ⟨rfl, hon⟩
end Go.Proofs.Ytimigaajhhfbhaa.Fm
