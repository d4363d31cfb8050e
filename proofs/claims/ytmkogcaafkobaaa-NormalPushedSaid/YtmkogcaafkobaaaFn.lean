/-
  A trimmed formula: it is accepted, has the same values, support, size and depth, all its nodes are needed, trimmed again it is the same. No statement of the program.
-/
import Derived.Test.YtmkogcaafkobaaaFt
namespace Go.Proofs.Ytmkogcaafkobaaa.Fm
open Go.RowKit Go.Proofs.Ytmkogcaafkobaaa.Sb
set_option linter.unusedVariables false
section
variable {f : Fn}
theorem tr_num_step (f : Fn) (i a : Nat) (ha : a < f.vars + i) : (trTo f (i + 1)).1.getD a 0 = (trTo f i).1.getD a 0 := by
  rw [trTo]
  split
  · simp only
    rw [getD_set, if_neg]
    omega
  · rfl
theorem tr_num (f : Fn) {i j : Nat} (hij : i ≤ j) {a : Nat} (ha : a < f.vars + i) : (trTo f j).1.getD a 0 = (trTo f i).1.getD a 0 := by
  induction j with
  | zero => have : i = 0 := by omega
            subst this; rfl
  | succ j ih =>
    by_cases h : i = j + 1
    · subst h; rfl
    · rw [tr_num_step f j a (by omega)]; exact ih (by omega)
theorem tr_event (f : Fn) (i : Nat) {a : Nat} (ha : a < f.vars) : (trTo f i).1.getD a 0 = a := by
  rw [tr_num f (Nat.zero_le i) (by omega), trTo]
  simp only
  rw [getD_rep, List.getD_eq_getElem?_getD, List.getElem?_range ha]; rfl
theorem tr_out (f : Fn) {i j : Nat} (hij : i ≤ j) : ∃ l, (trTo f j).2 = (trTo f i).2 ++ l := by
  induction j with
  | zero => have : i = 0 := by omega
            subst this; exact ⟨[], by simp⟩
  | succ j ih =>
    by_cases h : i = j + 1
    · subst h; exact ⟨[], by simp⟩
    · obtain ⟨l, hl⟩ := ih (by omega)
      rw [trTo]
      split
      · exact ⟨l ++ [renum (trTo f j).1 (f.nd j)], by simp only; rw [hl, List.append_assoc]⟩
      · exact ⟨l, hl⟩
/-- the new number of node i, if it is needed -/
def rk (f : Fn) (i : Nat) : Nat := (trTo f i).2.length
theorem rk_mono (f : Fn) {i j : Nat} (hij : i ≤ j) : rk f i ≤ rk f j := by
  obtain ⟨l, hl⟩ := tr_out f hij
  unfold rk; rw [hl, List.length_append]; omega
theorem rk_succ {i : Nat} (hm : mk f (f.vars + i) = true) : rk f (i + 1) = rk f i + 1 := by
  unfold rk; rw [trTo, if_pos hm]; simp
theorem rk_lt {i j : Nat} (hm : mk f (f.vars + i) = true) (hij : i < j) : rk f i < rk f j := by
  have h1 := rk_succ hm
  have h2 := rk_mono f (show i + 1 ≤ j by omega)
  omega
theorem trim_len (f : Fn) : (trim f).nodes.length = rk f f.nodes.length := rfl
/-- the new number of an argument -/
def nu (f : Fn) (a : Nat) : Nat := (trTo f f.nodes.length).1.getD a 0
theorem trim_top (f : Fn) : (trim f).top = nu f f.top := rfl
theorem nu_event (f : Fn) {a : Nat} (ha : a < f.vars) : nu f a = a := tr_event f _ ha
theorem nu_node {i : Nat} (hi : i < f.nodes.length) (hm : mk f (f.vars + i) = true) : nu f (f.vars + i) = f.vars + rk f i := by
  unfold nu
  rw [tr_num f (show i + 1 ≤ f.nodes.length by omega) (by omega), trTo, if_pos hm]
  simp only
  rw [getD_set, if_pos ⟨rfl, by rw [(trTo_len f i).1]; omega⟩]; rfl
theorem renum_nu {N : Nat} (h : WFb N f) {i : Nat} (hi : i < f.nodes.length) : renum (trTo f i).1 (f.nd i) = ⟨(f.nd i).kind, (f.nd i).k, (f.nd i).args.map (nu f)⟩ := by
  unfold renum
  congr 1
  refine List.map_congr_left fun a ha => ?_
  have := h.arg hi ha
  exact (tr_num f (show i ≤ f.nodes.length by omega) this).symm
/-- the node that node i has become -/
theorem trim_nd {N : Nat} (h : WFb N f) {i : Nat} (hi : i < f.nodes.length) (hm : mk f (f.vars + i) = true) : (trim f).nd (rk f i) = ⟨(f.nd i).kind, (f.nd i).k, (f.nd i).args.map (nu f)⟩ := by
  obtain ⟨l, hl⟩ := tr_out f (show i + 1 ≤ f.nodes.length by omega)
  have e : (trTo f (i + 1)).2 = (trTo f i).2 ++ [renum (trTo f i).1 (f.nd i)] := by rw [trTo, if_pos hm]
  unfold Fn.nd trim rk
  simp only
  rw [hl, e, List.append_assoc, List.getD_eq_getElem?_getD, List.getElem?_append_right (Nat.le_refl _)]
  simp only [Nat.sub_self, List.cons_append, List.nil_append, List.getElem?_cons_zero, Option.getD_some]
  exact renum_nu h hi
/-- every new node is one that was needed -/
theorem rk_onto (f : Fn) (j : Nat) (r : Nat) (hr : r < rk f j) : ∃ i, i < j ∧ mk f (f.vars + i) = true ∧ r = rk f i := by
  induction j with
  | zero => unfold rk at hr; rw [trTo] at hr; simp at hr
  | succ j ih =>
    by_cases hm : mk f (f.vars + j) = true
    · rw [rk_succ hm] at hr
      by_cases e : r = rk f j
      · exact ⟨j, by omega, hm, e⟩
      · obtain ⟨i, h1, h2, h3⟩ := ih (by omega)
        exact ⟨i, by omega, h2, h3⟩
    · have : rk f (j + 1) = rk f j := by unfold rk; rw [trTo, if_neg hm]
      rw [this] at hr
      obtain ⟨i, h1, h2, h3⟩ := ih hr
      exact ⟨i, by omega, h2, h3⟩
/-- an argument that is needed: its new number -/
theorem nu_lt {N : Nat} (h : WFb N f) {a j : Nat} (hm : mk f a = true) (ha : a < f.vars + j) (hj : j ≤ f.nodes.length) : nu f a < f.vars + rk f j := by
  by_cases hv : a < f.vars
  · rw [nu_event f hv]; omega
  · obtain ⟨i, rfl⟩ : ∃ i, a = f.vars + i := ⟨a - f.vars, by omega⟩
    rw [nu_node (by omega) hm]
    have := rk_lt hm (show i < j by omega)
    omega
theorem nu_ge {a : Nat} (hm : mk f a = true) (ha : ¬ a < f.vars) (hn : a < f.vars + f.nodes.length) : f.vars ≤ nu f a := by
  obtain ⟨i, rfl⟩ : ∃ i, a = f.vars + i := ⟨a - f.vars, by omega⟩
  rw [nu_node (by omega) hm]; omega
theorem trim_wf {N : Nat} (h : WFb N f) : WFb N (trim f) := by
  have hle : rk f f.nodes.length ≤ f.nodes.length := (trTo_len f _).2
  refine ⟨h.1, by rw [trim_len]; have := h.2.1; omega, fun r hr => ?_, by rw [trim_top, trim_len]; exact nu_lt h (mk_top h) h.2.2.2 (Nat.le_refl _)⟩
  rw [trim_len] at hr
  obtain ⟨i, hi, hm, rfl⟩ := rk_onto f _ r hr
  rw [trim_nd h hi hm]
  obtain ⟨a1, a2, a3, a4, a5, a6, a7⟩ := h.2.2.1 i hi
  refine ⟨a1, fun hk => ?_, fun hk => by simpa using a3 hk, fun hk => by simpa using a4 hk, fun b hb => ?_, fun hk => by simpa using a6 hk, a7⟩
  · obtain ⟨b1, b2⟩ := a2 hk
    exact ⟨by simp only; rw [b1]; rfl, b2⟩
  · obtain ⟨a, ha, rfl⟩ := List.mem_map.1 hb
    exact nu_lt h (mk_arg h hi hm ha) (a5 a ha) (by omega)
variable {α : Type} {ev : Nat → α} {d0 : α} {cmb : Nat → Nat → List α → α}
theorem trim_ev {N : Nat} (h : WFb N f) {i : Nat} (hi : i < f.nodes.length) (hm : mk f (f.vars + i) = true) :
    (evTo ev d0 cmb (trim f) (trim f).nodes.length).getD (rk f i) d0 = (evTo ev d0 cmb f f.nodes.length).getD i d0 := by
  induction i using Nat.strongRecOn with
  | ind i ih =>
    have hr : rk f i < (trim f).nodes.length := rk_lt hm hi
    rw [evTo_get hr (Nat.le_refl _), evTo_get hi (Nat.le_refl _), trim_nd h hi hm]
    simp only
    rw [List.map_map]
    congr 1
    refine List.map_congr_left fun a ha => ?_
    have hma := mk_arg h hi hm ha
    have hai := h.arg hi ha
    show argE f.vars ev d0 _ (nu f a) = _
    unfold argE
    by_cases hv : a < f.vars
    · rw [nu_event f hv, if_pos hv, if_pos hv]
    · obtain ⟨i', rfl⟩ : ∃ i', a = f.vars + i' := ⟨a - f.vars, by omega⟩
      have hi' : i' < i := by omega
      rw [nu_node (by omega) hma, if_neg (by omega), if_neg hv, Nat.add_sub_cancel_left, Nat.add_sub_cancel_left]
      rw [evTo_mono (rk_lt hma hi') (show rk f i ≤ (trim f).nodes.length by omega) (show rk f i' < (trim f).nodes.length by have := rk_lt hma hi'; omega) (Nat.le_refl _), evTo_mono hi' (show i ≤ f.nodes.length by omega) (show i' < f.nodes.length by omega) (Nat.le_refl _)]
      exact ih i' hi' (by omega) hma
theorem trim_arg {N : Nat} (h : WFb N f) {a : Nat} (hm : mk f a = true) : argE (trim f).vars ev d0 (evTo ev d0 cmb (trim f) (trim f).nodes.length) (nu f a) = argE f.vars ev d0 (evTo ev d0 cmb f f.nodes.length) a := by
  have hlt := mk_lt h hm
  show argE f.vars ev d0 _ (nu f a) = _
  unfold argE
  by_cases hv : a < f.vars
  · rw [nu_event f hv, if_pos hv, if_pos hv]
  · obtain ⟨i, rfl⟩ : ∃ i, a = f.vars + i := ⟨a - f.vars, by omega⟩
    rw [nu_node (by omega) hm, if_neg (by omega), if_neg hv, Nat.add_sub_cancel_left, Nat.add_sub_cancel_left]
    exact trim_ev h (by omega) hm
theorem trim_val {N : Nat} (h : WFb N f) (s : Nat) : val (trim f) s = val f s := trim_arg h (mk_top h)
theorem trim_dep {N : Nat} (h : WFb N f) : dep (trim f) = dep f := trim_arg h (mk_top h)
/-- what is needed is needed afterwards -/
theorem trim_mk {N : Nat} (h : WFb N f) {x : Nat} (hm : mk f x = true) : mk (trim f) (nu f x) = true := by
  have key : ∀ d x, f.vars + f.nodes.length - x = d → mk f x = true → mk (trim f) (nu f x) = true := by
    intro d
    induction d using Nat.strongRecOn with
    | ind d ih =>
      intro x hd hm
      rcases mk_from h hm with rfl | ⟨i, hi, hmi, hxi⟩
      · exact mk_top (trim_wf h)
      · have hx := h.arg hi hxi
        have h1 := ih (f.vars + f.nodes.length - (f.vars + i)) (by omega) (f.vars + i) rfl hmi
        rw [nu_node hi hmi] at h1
        refine mk_arg (trim_wf h) (i := rk f i) (rk_lt hmi hi) h1 ?_
        rw [trim_nd h hi hmi]
        exact List.mem_map.2 ⟨x, hxi, rfl⟩
  exact key _ x rfl hm
theorem trim_all {N : Nat} (h : WFb N f) {r : Nat} (hr : r < (trim f).nodes.length) : mk (trim f) ((trim f).vars + r) = true := by
  obtain ⟨i, hi, hm, rfl⟩ := rk_onto f _ r hr
  have := trim_mk h hm
  rw [nu_node hi hm] at this
  exact this
theorem trim_event {N : Nat} (h : WFb N f) {a : Nat} (ha : a < f.vars) : mk (trim f) a = mk f a := by
  rw [Bool.eq_iff_iff]
  constructor
  · intro hm
    have back : ∀ b, mk f b = true → nu f b = a → mk f a = true := by
      intro b hb e
      by_cases hv : b < f.vars
      · rw [nu_event f hv] at e; rw [← e]; exact hb
      · have := nu_ge hb hv (mk_lt h hb)
        omega
    rcases mk_from (trim_wf h) hm with e | ⟨r, hr, hmr, hxr⟩
    · exact back f.top (mk_top h) e.symm
    · obtain ⟨i, hi, hmi, rfl⟩ := rk_onto f _ r hr
      rw [trim_nd h hi hmi] at hxr
      obtain ⟨b, hb, e⟩ := List.mem_map.1 hxr
      exact back b (mk_arg h hi hmi hb) e
  · intro hm
    have := trim_mk h hm
    rwa [nu_event f ha] at this
theorem supTo_congr (m m' : List Bool) (j : Nat) (h : ∀ i, i < j → m.getD i false = m'.getD i false) : supTo m j = supTo m' j := by
  induction j with
  | zero => rfl
  | succ j ih => rw [supTo, supTo, ih (fun i hi => h i (by omega)), h j (by omega)]
theorem trim_sup {N : Nat} (h : WFb N f) : sup (trim f) = sup f := supTo_congr _ _ _ fun i hi => trim_event h hi
def lens (l : List Nn) : Nat := (l.map fun x => x.args.length).sum
theorem lens_snoc (l : List Nn) (x : Nn) : lens (l ++ [x]) = lens l + x.args.length := by simp [lens]
theorem siz_tr (f : Fn) (i : Nat) : sizTo (bel f) f.vars f.nodes i = ((trTo f i).2.length, lens (trTo f i).2) := by
  induction i with
  | zero => rfl
  | succ i ih =>
    rw [sizTo, trTo]
    by_cases hm : mk f (f.vars + i) = true
    · have hm' : (bel f).getD (f.vars + i) false = true := hm
      rw [if_pos hm', if_pos hm, ih]
      simp only [List.length_append, List.length_singleton, lens_snoc]
      unfold renum
      simp only [List.length_map]
      rfl
    · have hm' : ¬ (bel f).getD (f.vars + i) false = true := hm
      rw [if_neg hm', if_neg hm, ih]
theorem siz_all (f : Fn) (h : ∀ r, r < f.nodes.length → mk f (f.vars + r) = true) (i : Nat) (hi : i ≤ f.nodes.length) : sizTo (bel f) f.vars f.nodes i = (i, lens (f.nodes.take i)) := by
  induction i with
  | zero => rfl
  | succ i ih =>
    have hm := h i (by omega)
    unfold mk at hm
    rw [sizTo, if_pos hm, ih (by omega), List.take_add_one, nd_get (by omega), Option.toList_some, lens_snoc]
    rfl
theorem trim_siz {N : Nat} (h : WFb N f) : siz (trim f) = siz f ∧ (siz (trim f)).1 = (trim f).nodes.length := by
  have h1 : siz (trim f) = ((trim f).nodes.length, lens (trim f).nodes) := by
    unfold siz
    rw [siz_all (trim f) (fun r hr => trim_all h hr) _ (Nat.le_refl _), List.take_length]
  have h2 : siz f = ((trim f).nodes.length, lens (trim f).nodes) := by
    unfold siz
    rw [siz_tr]; rfl
  exact ⟨by rw [h1, h2], by rw [h1]⟩
theorem renum_id (m k : Nat) (x : Nn) (h : ∀ a ∈ x.args, a < m) : renum (List.range m ++ List.replicate k 0) x = x := by
  obtain ⟨kind, kk, args⟩ := x
  unfold renum
  simp only at h ⊢
  congr 1
  conv => rhs; rw [← List.map_id args]
  refine List.map_congr_left fun a ha => ?_
  rw [getD_rep, List.getD_eq_getElem?_getD, List.getElem?_range (h a ha)]; rfl
theorem tr_all (f : Fn) {N : Nat} (hf : WFb N f) (h : ∀ r, r < f.nodes.length → mk f (f.vars + r) = true) (i : Nat) (hi : i ≤ f.nodes.length) : trTo f i = (List.range (f.vars + i) ++ List.replicate (f.nodes.length - i) 0, f.nodes.take i) := by
  induction i with
  | zero => rfl
  | succ i ih =>
    obtain ⟨k, hk⟩ : ∃ k, f.nodes.length - i = k + 1 := ⟨f.nodes.length - i - 1, by omega⟩
    rw [trTo, if_pos (h i (by omega)), ih (by omega)]
    simp only
    rw [hk, renum_id _ _ _ (fun a ha => hf.arg (show i < f.nodes.length by omega) ha), List.take_add_one, nd_get (show i < f.nodes.length by omega), Option.toList_some, List.length_take, Nat.min_eq_left (by omega), range_set, show f.nodes.length - (i + 1) = k by omega]
    rfl
theorem trim_again {N : Nat} (h : WFb N f) : trim (trim f) = trim f := by
  have hw := trim_wf h
  obtain ⟨t, ht⟩ : ∃ t, trim f = t := ⟨_, rfl⟩
  have hall : ∀ r, r < t.nodes.length → mk t (t.vars + r) = true := by rw [← ht]; exact fun r hr => trim_all h hr
  rw [ht] at hw ⊢
  have e := tr_all t hw hall _ (Nat.le_refl _)
  unfold trim
  rw [e]
  simp only [List.take_length, Nat.sub_self, List.replicate_zero, List.append_nil]
  rw [List.getD_eq_getElem?_getD, List.getElem?_range hw.2.2.2]; rfl
end
end Go.Proofs.Ytmkogcaafkobaaa.Fm
