/-
  Drafts: what is left of arguments when constants are removed.
-/
import Derived.Test.YtmkogcaafkobaaaQGC
import Derived.Test.YtmkogcaafkobaaaQGB
import Derived.Test.YtmkogcaafkobaaaJr
import Derived.Test.YtmkogcaafkobaaaJGC
namespace Go.Proofs.Ytmkogcaafkobaaa.Fm
open Go.RowKit Go.Proofs.Ytmkogcaafkobaaa.Sb Go.Proofs.Ytmkogcaafkobaaa.Rgv
set_option linter.unusedVariables false
set_option linter.unusedSimpArgs false
set_option maxRecDepth 100000
/-- the program's codes of constants -/
def sw (c : Int) : Int := if c = -1 then -2 else if c = -2 then -1 else c
def cod (b : Bool) : Int := if b then -1 else -2
theorem sw_foB (b : Bool) : sw (foB b) = cod b := by cases b <;> rfl
theorem sw_nat (m : Nat) : sw (m : Int) = (m : Int) := by unfold sw; rw [if_neg (by omega), if_neg (by omega)]
/-- codes -/
def Cdd (c : Int) : Prop := c = -1 ∨ c = -2 ∨ 0 ≤ c
theorem Cdd.sw {c : Int} (h : Cdd c) : Cdd (sw c) := by
  unfold Cdd Fm.sw at *
  rcases h with rfl | rfl | h
  · right; left; rfl
  · left; rfl
  · right; right; rw [if_neg (by omega), if_neg (by omega)]; exact h
/-- how many are true, by the program's codes -/
def foU (l : List Int) : Nat := l.count (-1)
theorem foU_snoc (l : List Int) (c : Int) : foU (l ++ [c]) = foU l + (if c = -1 then 1 else 0) := by
  unfold foU
  rw [List.count_append]
  by_cases h : c = -1
  · simp [h]
  · simp [h]
theorem sw_foR (l : List Int) : foR (l.map sw) = foR l := by
  induction l with
  | nil => rfl
  | cons c l ih =>
    unfold foR at ih ⊢
    rw [List.map_cons]
    by_cases h : 0 ≤ c
    · have e : sw c = c := by unfold sw; rw [if_neg (by omega), if_neg (by omega)]
      rw [e, List.filter_cons_of_pos (by simpa using h), List.filter_cons_of_pos (by simpa using h), List.map_cons, List.map_cons, ih]
    · have e : ¬ 0 ≤ sw c := by
        unfold sw
        split
        · omega
        · split <;> omega
      rw [List.filter_cons_of_neg (by simpa using e), List.filter_cons_of_neg (by simpa using h), ih]
theorem sw_one {c : Int} : sw c = -1 ↔ c = -2 := by
  unfold sw
  constructor
  · intro h
    by_cases h1 : c = -1
    · rw [if_pos h1] at h; omega
    · rw [if_neg h1] at h
      by_cases h2 : c = -2
      · exact h2
      · rw [if_neg h2] at h; exact absurd h h1
  · rintro rfl; rfl
theorem sw_foU (l : List Int) : foU (l.map sw) = foT l := by
  induction l with
  | nil => rfl
  | cons c l ih =>
    unfold foU foT at ih ⊢
    rw [List.map_cons, List.count_cons, List.count_cons, ih]
    by_cases h : c = -2
    · have h2 := sw_one.2 h
      rw [h2, h]; rfl
    · have h2 : ¬ sw c = -1 := fun e => h (sw_one.1 e)
      have e1 : (sw c == -1) = false := by simpa using h2
      have e2 : (c == -2) = false := by simpa using h
      rw [e1, e2]
theorem renZ_sw (now : List Int) (l : List Nat) : renZ (now.map sw) l = (renZ now l).map sw := by
  unfold renZ
  rw [List.map_map]
  refine List.map_congr_left fun a _ => ?_
  simp only [Function.comp, List.getD_eq_getElem?_getD, List.getElem?_map]
  cases now[a]? <;> rfl
theorem foR_le9 (l : List Int) : (foR l).length ≤ l.length := by
  unfold foR
  rw [List.length_map]
  exact List.length_filter_le _ _
theorem const_any (w : World) (b : Bool) : Calls Try.prog 50 #[.bool b] w fun e w' => e = .returned (.int .i64 (cod b)) ∧ w' = w := by
  cases b
  · go_enter Try.func50, Try.ntmps50
    go_wp2
    go_ret
    exact ⟨rfl, rfl⟩
  · go_enter Try.func50, Try.ntmps50
    go_wp2
    go_ret
    exact ⟨rfl, rfl⟩
set_option maxHeartbeats 4000000 in
theorem unfix_any (w : World) (base : Nat) (hbase : base ≤ w.heap.size) (A : Option Addr) (n c : Nat) (zs : List Int) (h : Rd w A n c (VI zs)) (hz : ∀ x ∈ zs, Cdd x) (hn : n ≤ 1000) :
    Calls Try.prog 49 #[.slice A n c] w fun e w' => ∃ P c', e = .returned (.tuple #[.slice P (foR zs).length c', .int .i64 (foU zs : Nat)]) ∧ w'.ownsRow base 3 1 (.slice P (foR zs).length c') (foR zs).length (VI (ints (foR zs))) ∧ On w w' := by
  have hl : zs.length = n := VI_len h
  have hcap := h.cap
  have hmax := h.max
  have HL := Lib.hid (And.intro hl (And.intro h hz))
  clear hl h hz
  go_enter Try.func49, Try.ntmps49
  go_wp2
  go_loopw [8, 2, 3] (fun i v tr wr => ∃ t : Nat, t ≤ n ∧ i = .int .i64 (t : Int) ∧ ∃ P c', v = .slice P (foR (zs.take t)).length c' ∧ tr = .int .i64 (foU (zs.take t) : Nat) ∧ wr.ownsRow base 3 1 (.slice P (foR (zs.take t)).length c') (foR (zs.take t)).length (VI (ints (foR (zs.take t)))) ∧ On w wr ∧ ((Value.slice P (foR (zs.take t)).length c').ownBlock = none ∨ ∃ k, (Value.slice P (foR (zs.take t)).length c').ownBlock = some k ∧ w.heap.size ≤ k)) (fun i _ _ _ => n - (intOf i).toNat)
  case atStart => exact ⟨0, by omega, rfl, none, 0, rfl, rfl, row_nil _ _ _, On.refl _, .inl rfl⟩
  case round =>
    obtain ⟨t, ht, rfl, P, c', rfl, rfl, hrow, hon, hob⟩ := hrel
    by_cases hlt : t < n
    · obtain ⟨ad, rfl, hb, hc⟩ := VI_at (HL.out.2.1.on hon) hlt
      have hl2 : t < zs.length := by rw [HL.out.1]; exact hlt
      have htk : zs.take (t + 1) = zs.take t ++ [zs.getD t 0] := by rw [List.take_add_one]; simp [hl2]
      have hge9 : zs.getD t 0 = zs[t] := by simp [hl2]
      have hcd : Cdd (zs.getD t 0) := by rw [hge9]; exact HL.out.2.2 _ (List.getElem_mem hl2)
      clear hge9
      obtain ⟨x, hx⟩ : ∃ x, zs.getD t 0 = x := ⟨_, rfl⟩
      rw [hx] at hc htk hcd
      have h1 := foR_snoc (zs.take t) x
      have h2 := foU_snoc (zs.take t) x
      rw [← htk] at h1 h2
      have hk1 : (foR (zs.take t)).length ≤ 1000 := by have := foR_le9 (zs.take t); rw [List.length_take] at this; omega
      have hk2 : foU (zs.take t) ≤ 1000 := by have : foU (zs.take t) ≤ (zs.take t).length := List.count_le_length; rw [List.length_take] at this; omega
      obtain ⟨R, hR⟩ : ∃ R, foR (zs.take t) = R := ⟨_, rfl⟩
      obtain ⟨u, hu⟩ : ∃ u, foU (zs.take t) = u := ⟨_, rfl⟩
      rw [hR] at h1 hrow hob hk1 ⊢
      rw [hu] at h2 hk2 ⊢
      obtain ⟨kr, hkr⟩ : ∃ kr, R.length = kr := ⟨_, rfl⟩
      rw [hkr] at hrow hob hk1 ⊢
      have hsz := hon.size
      have HV := Lib.hid (And.intro hrow (And.intro hob (And.intro h1 (And.intro h2 hkr))))
      clear hrow hob h1 h2 hR hu hx htk hkr
      rcases hcd with rfl | rfl | hge
      · go_wp2
        go_roundw
        case rel =>
          have e1 := HV.out.2.2.1
          rw [if_neg (by omega), List.append_nil] at e1
          have e2 := HV.out.2.2.2.1
          rw [if_pos rfl] at e2
          refine ⟨t + 1, by omega, by go_num, P, c', ?_, ?_, ?_, hon, ?_⟩
          · rw [e1, HV.out.2.2.2.2]
          · rw [e2]; go_num
          · rw [e1, HV.out.2.2.2.2]; exact HV.out.1
          · rw [e1, HV.out.2.2.2.2]; exact HV.out.2.1
        case measure => simp [intOf] <;> omega
      · go_wp2
        go_roundw
        case rel =>
          have e1 := HV.out.2.2.1
          rw [if_neg (by omega), List.append_nil] at e1
          have e2 := HV.out.2.2.2.1
          rw [if_neg (by omega)] at e2
          refine ⟨t + 1, by omega, by go_num, P, c', ?_, ?_, ?_, hon, ?_⟩
          · rw [e1, HV.out.2.2.2.2]
          · rw [e2]; go_num
          · rw [e1, HV.out.2.2.2.2]; exact HV.out.1
          · rw [e1, HV.out.2.2.2.2]; exact HV.out.2.1
        case measure => simp [intOf] <;> omega
      · have hx1 : ¬ x = -1 := by omega
        have hx2 : ¬ x = -2 := by omega
        go_wp2_with (at_builtin; refine wpList_app rfl (.tmp 13) (.tmp 15) 39 rfl base 3 (.int .i64 0) 8 Try.underlying39 infoi rfl (by decide) (.slice P kr c') _ (VI (ints R)) rfl (row_alloc HV.out.1 _) (some ⟨wr.heap.size, 0, none⟩) 1 1 [.int .i64 x] rfl (rd_one _ _ _) (by simp [Value.oneCell']) (by omega) (by simp; omega) ?_; intro v' w5 hown5 hgrow5 hor5)
        go_roundw
        case rel =>
          have e1 := HV.out.2.2.1
          rw [if_pos hge] at e1
          have e2 := HV.out.2.2.2.1
          rw [if_neg hx1] at e2
          obtain ⟨PT, cT, rfl⟩ := row_form hown5
          have hxn : ((x.toNat : Nat) : Int) = x := by omega
          have e3 : VI (ints (R ++ [x.toNat])) = VI (ints R) ++ [.int .i64 x] := by rw [ints_snoc, hxn]; simp [VI]
          have e4 : (R ++ [x.toNat]).length = kr + 1 := by rw [List.length_append, HV.out.2.2.2.2]; rfl
          refine ⟨t + 1, by omega, by go_num, PT, cT, ?_, ?_, ?_, on_by (hon.alloc _) hgrow5 (fun k hk => ?_), ?_⟩
          · rw [e1, e4]
          · rw [e2]; go_num
          · rw [e1, e4, e3]; exact hown5
          · rcases HV.out.2.1 with e | ⟨k', e, hk'⟩
            · rw [e] at hk; cases hk
            · rw [e] at hk; injection hk with hk; omega
          · rw [e1, e4]
            rcases hor5 with e | e
            · rw [e]; exact HV.out.2.1
            · exact .inr ⟨_, e, by simp; omega⟩
        case measure => simp [intOf] <;> omega
    · obtain rfl : t = n := by omega
      have e : zs.take t = zs := List.take_of_length_le (by rw [HL.out.1]; omega)
      rw [e] at hrow ⊢
      obtain ⟨kr, hkr⟩ : ∃ kr, (foR zs).length = kr := ⟨_, rfl⟩
      obtain ⟨ku, hku⟩ : ∃ ku, foU zs = ku := ⟨_, rfl⟩
      rw [hkr] at hrow ⊢
      rw [hku]
      have HZ := Lib.hid (And.intro hrow (And.intro hkr hku))
      clear hrow hob hkr hku e
      go_wp2
      go_ret2
      exact ⟨P, c', by rw [HZ.out.2.1, HZ.out.2.2]; rfl, by rw [HZ.out.2.1]; exact HZ.out.1, hon⟩
end Go.Proofs.Ytmkogcaafkobaaa.Fm
/-
  Drafts: what a node becomes when constants are removed, pure.
-/
namespace Go.Proofs.Ytmkogcaafkobaaa.Fm
open Go.RowKit Go.Proofs.Ytmkogcaafkobaaa.Sb Go.Proofs.Ytmkogcaafkobaaa.Rgv
set_option linter.unusedVariables false
set_option linter.unusedSimpArgs false
set_option maxRecDepth 100000
/-- a xor of what is left, or its negation -/
def parP (fl : Bool) (r : Nat) (rest : List Nat) : List Nn × Int :=
  if rest.length = 0 then ([], cod fl) else
    if fl = true then ((if 1 < rest.length then [⟨5, 0, rest⟩] else []) ++ [⟨1, 0, [foA1 r rest]⟩], ((r + (if 1 < rest.length then 1 else 0) : Nat) : Int))
    else ((if 1 < rest.length then [⟨5, 0, rest⟩] else []), (foA1 r rest : Int))
/-- an and, an or, a vote of what is left -/
def thrP (kd : Nat) (ki : Int) (r : Nat) (rest : List Nat) : List Nn × Int :=
  if ki ≤ 0 ∨ (rest.length : Int) < ki then ([], cod (decide (ki ≤ 0))) else
    if rest.length = 1 then ([], (rest.getD 0 0 : Nat)) else ([⟨kd, if kd = 4 then ki.toNat else 0, rest⟩], (r : Int))
theorem Dr.nop {wa w : World} {Z : Nat → Prop} {b V : Nat} {xs : List Nn} (h : Dr wa Z w b V xs) : Dr wa Z w b V (xs ++ []) := by rw [List.append_nil]; exact h
/-- what a node becomes, by the program's codes -/
def foldP (x : Nn) (n t : Nat) (r : Nat) (rest : List Nat) : List Nn × Int :=
  if x.kind = 0 then ([], cod (decide (x.k = 1))) else if x.kind = 1 then parP (decide (t = 0)) r rest else if x.kind = 5 then parP (decide (t % 2 = 1)) r rest
  else if x.kind = 2 then thrP 2 ((n : Int) - (t : Int)) r rest else if x.kind = 3 then thrP 3 (1 - (t : Int)) r rest else thrP 4 ((x.k : Int) - (t : Int)) r rest
theorem thr_const {kd : Nat} {ki : Int} {r : Nat} {rest : List Nat} (h : ki ≤ 0 ∨ (rest.length : Int) < ki) : thrP kd ki r rest = ([], cod (decide (ki ≤ 0))) := if_pos h
theorem thr_one {kd : Nat} {ki : Int} {r : Nat} {rest : List Nat} (h : ¬ (ki ≤ 0 ∨ (rest.length : Int) < ki)) (h1 : rest.length = 1) : thrP kd ki r rest = ([], ((rest.getD 0 0 : Nat) : Int)) := (if_neg h).trans (if_pos h1)
theorem thr_more {kd : Nat} {ki : Int} {r : Nat} {rest : List Nat} (h : ¬ (ki ≤ 0 ∨ (rest.length : Int) < ki)) (h1 : ¬ rest.length = 1) : thrP kd ki r rest = ([⟨kd, if kd = 4 then ki.toNat else 0, rest⟩], (r : Int)) := (if_neg h).trans (if_neg h1)
theorem foM1_none {x : Nn} {t : Nat} {r : List Nat} (h : ¬ 1 < r.length) : foM1 x t r = [] := if_neg h
theorem foM1_more {x : Nn} {t : Nat} {r : List Nat} (h : 1 < r.length) : foM1 x t r = [⟨x.kind, if x.kind = 4 then x.k - t else 0, r⟩] := if_pos h
theorem foA1_one {q : Nat} {r : List Nat} (h : ¬ 1 < r.length) : foA1 q r = r.getD 0 0 := if_neg h
theorem foA1_more {q : Nat} {r : List Nat} (h : 1 < r.length) : foA1 q r = q := if_pos h
theorem foN_some {q : Nat} {x : Nn} {l : List Int} {bb : Bool} {P : List Nn × Int} (h : foC x l.length (foR l).length (foT l) = some bb) (hP : P = ([], cod bb)) : (foN q x l).1 = P.1 ∧ sw (foN q x l).2 = P.2 := by
  subst hP
  unfold foN
  rw [h]
  exact ⟨rfl, sw_foB bb⟩
theorem foN_none {q : Nat} {x : Nn} {l : List Int} {P : List Nn × Int} (h : foC x l.length (foR l).length (foT l) = none) (h1 : (foM q x (foT l) (foR l)).1 = P.1) (h2 : ((foM q x (foT l) (foR l)).2 : Int) = P.2) : (foN q x l).1 = P.1 ∧ sw (foN q x l).2 = P.2 := by
  unfold foN
  rw [h]
  exact ⟨h1, (sw_nat _).trans h2⟩
theorem thr_eq {kd : Nat} {ki : Int} {q : Nat} {x : Nn} {l : List Int} (hk : x.kind = kd) (k1 : ¬ x.kind = 1) (k5 : ¬ x.kind = 5) (bb : Bool)
    (hc : (ki ≤ 0 ∨ ((foR l).length : Int) < ki) → foC x l.length (foR l).length (foT l) = some (decide (ki ≤ 0)))
    (hn : ¬ (ki ≤ 0 ∨ ((foR l).length : Int) < ki) → foC x l.length (foR l).length (foT l) = none ∧ 1 ≤ (foR l).length)
    (hk4 : ¬ (ki ≤ 0 ∨ ((foR l).length : Int) < ki) → kd = 4 → ki.toNat = x.k - foT l) : (foN q x l).1 = (thrP kd ki q (foR l)).1 ∧ sw (foN q x l).2 = (thrP kd ki q (foR l)).2 := by
  by_cases h : ki ≤ 0 ∨ ((foR l).length : Int) < ki
  · exact foN_some (hc h) (thr_const h)
  · obtain ⟨h1, h2⟩ := hn h
    have hM : foM q x (foT l) (foR l) = (foM1 x (foT l) (foR l), foA1 q (foR l)) := by unfold foM; rw [if_neg k1, if_neg (fun h => k5 h.1)]
    by_cases hl : (foR l).length = 1
    · have h3 : ¬ 1 < (foR l).length := by omega
      refine foN_none h1 ?_ ?_
      · rw [hM, thr_one h hl, foM1_none h3]
      · rw [hM, thr_one h hl, foA1_one h3]
    · have h3 : 1 < (foR l).length := by omega
      refine foN_none h1 ?_ ?_
      · rw [hM, thr_more h hl, foM1_more h3, hk]
        by_cases h4 : kd = 4
        · rw [if_pos h4, if_pos h4, hk4 h h4]
        · rw [if_neg h4, if_neg h4]
      · rw [hM, thr_more h hl, foA1_more h3]
theorem foldP_eq {m : Nat} {x : Nn} (hok : okN m x) (q : Nat) (l : List Int) (hll : l.length = x.args.length) (hle : foT l + (foR l).length ≤ l.length) : (foN q x l).1 = (foldP x l.length (foT l) q (foR l)).1 ∧ sw (foN q x l).2 = (foldP x l.length (foT l) q (foR l)).2 := by
  obtain ⟨b0, b1, b2, b3, b4, b5, b6⟩ := hok
  unfold foldP
  by_cases k0 : x.kind = 0
  · rw [if_pos k0]
    exact foN_some (by unfold foC; rw [if_pos k0]) rfl
  have b33 := b3 k0
  rw [if_neg k0]
  by_cases k1 : x.kind = 1
  · have b22 := b2 k1
    rw [if_pos k1]
    by_cases h0 : (foR l).length = 0
    · exact foN_some (by unfold foC; rw [if_neg k0, if_pos k1, if_pos h0]) (by unfold parP; rw [if_pos h0])
    · have ht0 : foT l = 0 := by omega
      have h1 : ¬ 1 < (foR l).length := by omega
      have hp : parP (decide (foT l = 0)) q (foR l) = ([⟨1, 0, [(foR l).getD 0 0]⟩], (q : Int)) := by unfold parP; rw [if_neg h0, decide_eq_true ht0, if_neg h1, if_neg h1, foA1_one h1]; rfl
      have hM : foM q x (foT l) (foR l) = ([⟨1, 0, [(foR l).getD 0 0]⟩], q) := by unfold foM; rw [if_pos k1]
      exact foN_none (by unfold foC; rw [if_neg k0, if_pos k1, if_neg h0]) (by rw [hp, hM]) (by rw [hp, hM])
  rw [if_neg k1]
  by_cases k5 : x.kind = 5
  · rw [if_pos k5]
    have c2 : ¬ x.kind = 2 := by omega
    have c3 : ¬ x.kind = 3 := by omega
    have c4 : ¬ x.kind = 4 := by omega
    have hC : foC x l.length (foR l).length (foT l) = if (foR l).length = 0 then some (decide (foT l % 2 = 1)) else none := by unfold foC; rw [if_neg k0, if_neg k1, if_neg c2, if_neg c3, if_neg c4]
    by_cases h0 : (foR l).length = 0
    · exact foN_some (by rw [hC, if_pos h0]) (by unfold parP; rw [if_pos h0])
    · have hm1 : foM1 x (foT l) (foR l) = if 1 < (foR l).length then [⟨5, 0, foR l⟩] else [] := by unfold foM1; rw [k5]; rfl
      by_cases hp : foT l % 2 = 1
      · have hM : foM q x (foT l) (foR l) = (foM1 x (foT l) (foR l) ++ [⟨1, 0, [foA1 q (foR l)]⟩], q + (foM1 x (foT l) (foR l)).length) := by unfold foM; rw [if_neg k1, if_pos ⟨k5, hp⟩]
        by_cases h1 : 1 < (foR l).length
        · have e : parP (decide (foT l % 2 = 1)) q (foR l) = ([⟨5, 0, foR l⟩] ++ [⟨1, 0, [foA1 q (foR l)]⟩], ((q + 1 : Nat) : Int)) := by unfold parP; rw [if_neg h0, decide_eq_true hp, if_pos h1, if_pos h1]; rfl
          rw [if_pos h1] at hm1
          exact foN_none (by rw [hC, if_neg h0]) (by rw [hM, e, hm1]) (by rw [hM, e, hm1]; rfl)
        · have e : parP (decide (foT l % 2 = 1)) q (foR l) = ([⟨1, 0, [foA1 q (foR l)]⟩], (q : Int)) := by unfold parP; rw [if_neg h0, decide_eq_true hp, if_neg h1, if_neg h1]; rfl
          rw [if_neg h1] at hm1
          exact foN_none (by rw [hC, if_neg h0]) (by rw [hM, e, hm1]; rfl) (by rw [hM, e, hm1]; rfl)
      · have hM : foM q x (foT l) (foR l) = (foM1 x (foT l) (foR l), foA1 q (foR l)) := by unfold foM; rw [if_neg k1, if_neg (fun h => hp h.2)]
        have e : parP (decide (foT l % 2 = 1)) q (foR l) = (if 1 < (foR l).length then [⟨5, 0, foR l⟩] else [], (foA1 q (foR l) : Int)) := by unfold parP; rw [if_neg h0, decide_eq_false hp]; rfl
        exact foN_none (by rw [hC, if_neg h0]) (by rw [hM, e, hm1]) (by rw [hM, e])
  rw [if_neg k5]
  by_cases k2 : x.kind = 2
  · rw [if_pos k2]
    have hC : foC x l.length (foR l).length (foT l) = if 0 < l.length - (foR l).length - foT l ∨ (foR l).length = 0 then some (decide (l.length - (foR l).length - foT l = 0)) else none := by unfold foC; rw [if_neg k0, if_neg k1, if_pos k2]
    obtain ⟨r, hr⟩ : ∃ r, (foR l).length = r := ⟨_, rfl⟩
    obtain ⟨t, ht⟩ : ∃ t, foT l = t := ⟨_, rfl⟩
    refine thr_eq k2 k1 k5 true (fun h => ?_) (fun h => ?_) (fun _ h => absurd h (by decide))
    · rw [hr, ht] at hC h hle ⊢
      have h9 : 0 < l.length - r - t ∨ r = 0 := by omega
      rw [hC, if_pos h9]
      exact congrArg some (dec_eq (by omega))
    · rw [hr, ht] at hC h hle ⊢
      have h9 : ¬ (0 < l.length - r - t ∨ r = 0) := by omega
      rw [hC, if_neg h9]
      exact ⟨rfl, by omega⟩
  rw [if_neg k2]
  by_cases k3 : x.kind = 3
  · rw [if_pos k3]
    have hC : foC x l.length (foR l).length (foT l) = if 0 < foT l ∨ (foR l).length = 0 then some (decide (0 < foT l)) else none := by unfold foC; rw [if_neg k0, if_neg k1, if_neg k2, if_pos k3]
    obtain ⟨r, hr⟩ : ∃ r, (foR l).length = r := ⟨_, rfl⟩
    obtain ⟨t, ht⟩ : ∃ t, foT l = t := ⟨_, rfl⟩
    refine thr_eq k3 k1 k5 true (fun h => ?_) (fun h => ?_) (fun _ h => absurd h (by decide))
    · rw [hr, ht] at hC h hle ⊢
      have h9 : 0 < t ∨ r = 0 := by omega
      rw [hC, if_pos h9]
      exact congrArg some (dec_eq (by omega))
    · rw [hr, ht] at hC h hle ⊢
      have h9 : ¬ (0 < t ∨ r = 0) := by omega
      rw [hC, if_neg h9]
      exact ⟨rfl, by omega⟩
  rw [if_neg k3]
  have k4 : x.kind = 4 := by omega
  have b55 := b5 k4
  have hC : foC x l.length (foR l).length (foT l) = if x.k ≤ foT l ∨ (foR l).length < x.k - foT l then some (decide (x.k ≤ foT l)) else none := by unfold foC; rw [if_neg k0, if_neg k1, if_neg k2, if_neg k3, if_pos k4]
  obtain ⟨r, hr⟩ : ∃ r, (foR l).length = r := ⟨_, rfl⟩
  obtain ⟨t, ht⟩ : ∃ t, foT l = t := ⟨_, rfl⟩
  refine thr_eq k4 k1 k5 true (fun h => ?_) (fun h => ?_) (fun h _ => ?_)
  · rw [hr, ht] at hC h hle ⊢
    have h9 : x.k ≤ t ∨ r < x.k - t := by omega
    rw [hC, if_pos h9]
    exact congrArg some (dec_eq (by omega))
  · rw [hr, ht] at hC h hle ⊢
    have h9 : ¬ (x.k ≤ t ∨ r < x.k - t) := by omega
    rw [hC, if_neg h9]
    exact ⟨rfl, by omega⟩
  · rw [ht]; omega
end Go.Proofs.Ytmkogcaafkobaaa.Fm
/-
  Drafts: parity and threshold.
-/
namespace Go.Proofs.Ytmkogcaafkobaaa.Fm
open Go.RowKit Go.Proofs.Ytmkogcaafkobaaa.Sb Go.Proofs.Ytmkogcaafkobaaa.Rgv
set_option linter.unusedVariables false
set_option linter.unusedSimpArgs false
set_option maxRecDepth 100000
set_option maxHeartbeats 4000000 in
theorem dpar_any (wa : World) (Z : Nat → Prop) (w : World) (b V : Nat) (xs : List Nn) (D : Dr wa Z w b V xs) (hV : V ≤ 24) (hl : xs.length ≤ 90000) (r : Nat) (hr : V + xs.length = r) (l : List Nat) (P : Option Addr) (m c : Nat) (F : w.ownsRow wa.heap.size 3 1 (.slice P m c) m (VI (ints l))) (hFZ : ∀ g, (Value.slice P m c).ownBlock = some g → ¬ Z g) (hm16 : m ≤ 16) (fl : Bool) :
    Calls Try.prog 51 #[.pointer (some ⟨b, 0, none⟩), .slice P m c, .bool fl] w fun e w' => e = .returned (.int .i64 (parP fl r l).2) ∧ Dr wa Z w' b V (xs ++ (parP fl r l).1) ∧ Dk b w w' := by
  have hm : l.length = m := by have := VI_len (rd_of_row F); rwa [ints_length] at this
  have hcap := (rd_of_row F).cap
  have hmax := (rd_of_row F).max
  by_cases h0 : m = 0
  · have hp : parP fl r l = ([], cod fl) := by unfold parP; rw [if_pos (by omega)]
    subst h0
    rw [hp]
    have hC := const_any w fl
    have HD := Lib.hid D
    clear D F
    go_enter Try.func51, Try.ntmps51
    go_wp2_with fail
    refine hC.mono ?_
    rintro e w1 ⟨rfl, rfl⟩
    clear hC
    go_wp2
    go_ret
    exact ⟨rfl, (by first | exact HD.out.nop | exact HD.out), Dk.refl _ _⟩
  obtain ⟨g, rfl⟩ := row_some F (by omega)
  obtain ⟨a0, ha0⟩ : ∃ a0, l.getD 0 0 = a0 := ⟨_, rfl⟩
  have hc0 := row_cellG F (show 0 < m by omega) ha0
  by_cases h1 : 1 < m
  · have hA : foA1 r l = r := by unfold foA1; rw [if_pos (by omega)]
    have hC := daddR wa Z w b V xs D hV (by omega) r hr 5 0 5 0 rfl rfl l _ m c F hFZ
    have h1i : (1 : Int) < (m : Int) := by omega
    have h0i : ¬ (m : Int) = 0 := by omega
    cases fl with
    | false =>
      have hp : parP false r l = ([⟨5, 0, l⟩], (r : Int)) := by unfold parP; rw [if_neg (by omega), hA, hm, if_pos h1]; rfl
      rw [hp]
      clear D F
      go_enter Try.func51, Try.ntmps51
      go_wp2_with fail
      refine hC.mono ?_
      rintro e w1 ⟨rfl, D1, K1⟩
      clear hC
      go_wp2
      go_ret
      exact ⟨rfl, D1, K1⟩
    | true =>
      obtain ⟨r1, hr1⟩ : ∃ r1, r + 1 = r1 := ⟨_, rfl⟩
      have hp : parP true r l = ([⟨5, 0, l⟩] ++ [⟨1, 0, [r]⟩], (r1 : Int)) := by unfold parP; rw [if_neg (by omega), hA, hm, if_pos h1, if_pos h1, hr1]; rfl
      rw [hp]
      clear D F
      go_enter Try.func51, Try.ntmps51
      go_wp2_with fail
      refine hC.mono ?_
      rintro e w1 ⟨rfl, D1, K1⟩
      clear hC
      have hl1 : (xs ++ [(⟨5, 0, l⟩ : Nn)]).length = xs.length + 1 := by rw [List.length_append]; rfl
      obtain ⟨w3, hw3⟩ := lit1_eq w1 (r : Int)
      have hC := dadd1 wa Z w1 w3 b V _ D1 hV (by omega) r1 (by omega) 1 0 1 0 rfl rfl r hw3
      clear D1
      go_wp2_with fail
      refine hC.mono ?_
      rintro e w4 ⟨rfl, D4, K4⟩
      clear hC hw3
      go_wp2
      go_ret
      rw [List.append_assoc] at D4
      exact ⟨rfl, D4, K1.trans K4⟩
  · have hA : foA1 r l = a0 := by unfold foA1; rw [if_neg (by omega), ha0]
    have h1i : ¬ (1 : Int) < (m : Int) := by omega
    have h0i : ¬ (m : Int) = 0 := by omega
    cases fl with
    | false =>
      have hp : parP false r l = ([], (a0 : Int)) := by unfold parP; rw [if_neg (by omega), hA, hm, if_neg h1]; rfl
      rw [hp]
      have HD := Lib.hid D
      clear D F
      go_enter Try.func51, Try.ntmps51
      go_wp2
      go_ret
      exact ⟨rfl, (by first | exact HD.out.nop | exact HD.out), Dk.refl _ _⟩
    | true =>
      have hp : parP true r l = ([⟨1, 0, [a0]⟩], (r : Int)) := by unfold parP; rw [if_neg (by omega), hA, hm, if_neg h1, if_neg h1]; rfl
      rw [hp]
      obtain ⟨w3, hw3⟩ := lit1_eq w (a0 : Int)
      have hC := dadd1 wa Z w w3 b V _ D hV (by omega) r hr 1 0 1 0 rfl rfl a0 hw3
      clear D F
      go_enter Try.func51, Try.ntmps51
      go_wp2_with fail
      refine hC.mono ?_
      rintro e w4 ⟨rfl, D4, K4⟩
      clear hC hw3
      go_wp2
      go_ret
      exact ⟨rfl, D4, K4⟩
set_option maxHeartbeats 4000000 in
theorem dthr_any (wa : World) (Z : Nat → Prop) (w : World) (b V : Nat) (xs : List Nn) (D : Dr wa Z w b V xs) (hV : V ≤ 24) (hl : xs.length ≤ 90000) (r : Nat) (hr : V + xs.length = r) (l : List Nat) (P : Option Addr) (m c : Nat) (F : w.ownsRow wa.heap.size 3 1 (.slice P m c) m (VI (ints l))) (hFZ : ∀ g, (Value.slice P m c).ownBlock = some g → ¬ Z g) (hm16 : m ≤ 16) (kd : Nat) (hkd : kd ≤ 5) (ki : Int) (hki : -100 ≤ ki ∧ ki ≤ 100) :
    Calls Try.prog 52 #[.pointer (some ⟨b, 0, none⟩), .int .i64 (kd : Int), .int .i64 ki, .slice P m c] w fun e w' => e = .returned (.int .i64 (thrP kd ki r l).2) ∧ Dr wa Z w' b V (xs ++ (thrP kd ki r l).1) ∧ Dk b w w' := by
  have hm : l.length = m := by have := VI_len (rd_of_row F); rwa [ints_length] at this
  have hcap := (rd_of_row F).cap
  have hmax := (rd_of_row F).max
  by_cases h0 : ki ≤ 0 ∨ (m : Int) < ki
  · have hp : thrP kd ki r l = ([], cod (decide (ki ≤ 0))) := by unfold thrP; rw [hm, if_pos h0]
    rw [hp]
    have HD := Lib.hid D
    by_cases hk : ki ≤ 0
    · have hC := const_any w true
      rw [decide_eq_true hk]
      clear D F h0
      go_enter Try.func52, Try.ntmps52
      go_wp2_with fail
      refine hC.mono ?_
      rintro e w1 ⟨rfl, rfl⟩
      clear hC
      go_wp2
      go_ret
      exact ⟨rfl, (by first | exact HD.out.nop | exact HD.out), Dk.refl _ _⟩
    · have hC := const_any w false
      have hk2 : (m : Int) < ki := by omega
      rw [decide_eq_false hk]
      clear D F h0
      go_enter Try.func52, Try.ntmps52
      go_wp2_with fail
      refine hC.mono ?_
      rintro e w1 ⟨rfl, rfl⟩
      clear hC
      go_wp2
      go_ret
      exact ⟨rfl, (by first | exact HD.out.nop | exact HD.out), Dk.refl _ _⟩
  have hk1 : ¬ ki ≤ 0 := fun h => h0 (.inl h)
  have hk2 : ¬ (m : Int) < ki := fun h => h0 (.inr h)
  by_cases h1 : m = 1
  · subst h1
    obtain ⟨g, rfl⟩ := row_some F (by omega)
    obtain ⟨a0, ha0⟩ : ∃ a0, l.getD 0 0 = a0 := ⟨_, rfl⟩
    have hc0 := row_cellG F (show 0 < 1 by omega) ha0
    have hp : thrP kd ki r l = ([], (a0 : Int)) := by unfold thrP; rw [hm, if_neg h0, if_pos rfl, ha0]
    rw [hp]
    have HD := Lib.hid D
    clear D F h0
    go_enter Try.func52, Try.ntmps52
    go_wp2
    go_ret
    exact ⟨rfl, (by first | exact HD.out.nop | exact HD.out), Dk.refl _ _⟩
  have h1i : ¬ (m : Int) = 1 := by omega
  by_cases h4 : kd = 4
  · subst h4
    obtain ⟨kk, hkk⟩ : ∃ kk : Nat, ki.toNat = kk := ⟨_, rfl⟩
    have hki2 : ki = (kk : Int) := by omega
    have hp : thrP 4 ki r l = ([⟨4, kk, l⟩], (r : Int)) := by unfold thrP; rw [hm, if_neg h0, if_neg h1, if_pos rfl, hkk]
    rw [hp]
    have hC := daddR wa Z w b V xs D hV (by omega) r hr 4 kk 4 ki rfl hki2 l P m c F hFZ
    clear D F h0 hki2 hkk
    simp only [show ((4 : Nat) : Int) = 4 from rfl]
    go_enter Try.func52, Try.ntmps52
    go_wp2_with fail
    refine hC.mono ?_
    rintro e w1 ⟨rfl, D1, K1⟩
    clear hC
    go_wp2
    go_ret
    exact ⟨rfl, D1, K1⟩
  · have hp : thrP kd ki r l = ([⟨kd, 0, l⟩], (r : Int)) := by unfold thrP; rw [hm, if_neg h0, if_neg h1, if_neg h4]
    rw [hp]
    have hC := daddR wa Z w b V xs D hV (by omega) r hr kd 0 kd 0 rfl rfl l P m c F hFZ
    have h4i : ¬ (kd : Int) = 4 := by omega
    clear D F h0
    go_enter Try.func52, Try.ntmps52
    go_wp2_with fail
    refine hC.mono ?_
    rintro e w1 ⟨rfl, D1, K1⟩
    clear hC
    go_wp2
    go_ret
    exact ⟨rfl, D1, K1⟩
end Go.Proofs.Ytmkogcaafkobaaa.Fm
/-
  Drafts: what a node becomes when constants are removed.
-/
namespace Go.Proofs.Ytmkogcaafkobaaa.Fm
open Go.RowKit Go.Proofs.Ytmkogcaafkobaaa.Sb Go.Proofs.Ytmkogcaafkobaaa.Rgv
set_option linter.unusedVariables false
set_option linter.unusedSimpArgs false
set_option maxRecDepth 100000
set_option maxHeartbeats 8000000 in
theorem dfold_any (wa : World) (Z : Nat → Prop) (w : World) (b V : Nat) (xs : List Nn) (D : Dr wa Z w b V xs) (hV : V ≤ 24) (hl : xs.length ≤ 90000) (r : Nat) (hr : V + xs.length = r) (x : Nn) (hkd : x.kind ≤ 5) (hk0 : x.kind = 0 → x.k ≤ 1) (hkk : x.k ≤ 16) (Q : Value) (zs : List Int) (hzs : ∀ z ∈ zs, Cdd z) (P : Option Addr) (m c : Nat) (F : w.ownsRow wa.heap.size 3 1 (.slice P m c) m (VI zs)) (hm16 : m ≤ 16) :
    Calls Try.prog 37 #[.pointer (some ⟨b, 0, none⟩), .agg #[.int .i64 (x.kind : Int), .int .i64 (x.k : Int), Q], .slice P m c] w fun e w' => e = .returned (.int .i64 (foldP x m (foU zs) r (foR zs)).2) ∧ Dr wa Z w' b V (xs ++ (foldP x m (foU zs) r (foR zs)).1) ∧ Dk b w w' := by
  have hm : zs.length = m := VI_len (rd_of_row F)
  have hcap := (rd_of_row F).cap
  have hmax := (rd_of_row F).max
  obtain ⟨kd, k, ar⟩ := x
  simp only at hkd hk0 hkk ⊢
  obtain ⟨q, hq⟩ : ∃ q, w.heap.size = q := ⟨_, rfl⟩
  have hrl : (foR zs).length ≤ m := by have := foR_le9 zs; omega
  have hul : foU zs ≤ m := by have : foU zs ≤ zs.length := List.count_le_length; omega
  have main : ∀ w1 : World, w.alloc (.cells #[.int .i64 (kd : Int), .int .i64 (k : Int), Q] 41) = w1 → Calls Try.prog 49 #[.slice P m c] w1 fun e w' => ∃ P' c', e = .returned (.tuple #[.slice P' (foR zs).length c', .int .i64 (foU zs : Nat)]) ∧ w'.ownsRow wa.heap.size 3 1 (.slice P' (foR zs).length c') (foR zs).length (VI (ints (foR zs))) ∧ (∀ g, (Value.slice P' (foR zs).length c').ownBlock = some g → ¬ Z g) ∧ Dr wa Z w' b V xs ∧ Own w' q 41 #[.int .i64 (kd : Int), .int .i64 (k : Int), Q] ∧ Dk b w w' ∧ On w1 w' := by
    intro w1 h1
    have P1 : On w w1 := by rw [← h1]; exact (On.refl w).alloc _
    have O1 : Own w1 q 41 #[.int .i64 (kd : Int), .int .i64 (k : Int), Q] := by rw [← h1, ← hq]; exact Own.new _ _ _
    refine (unfix_any w1 w1.heap.size (Nat.le_refl _) P m c zs (rd_of_row (owns_on F P1)) hzs (by omega)).mono ?_
    rintro e w2 ⟨P', c', e1, e2, e3⟩
    have D1 := D.to P1
    exact ⟨P', c', e1, row_low e2 D1.on.size, D1.fresh e2, D1.to e3, O1.on e3, Dk.of_on D.lt (P1.trans e3), e3⟩
  clear D F hzs hm
  obtain ⟨R, hR⟩ : ∃ R, foR zs = R := ⟨_, rfl⟩
  obtain ⟨t, ht⟩ : ∃ t, foU zs = t := ⟨_, rfl⟩
  obtain ⟨rl, hrl2⟩ : ∃ rl, R.length = rl := ⟨_, rfl⟩
  rw [hR, hrl2] at main
  rw [ht] at main hul ⊢
  rw [hR] at hrl ⊢
  rw [hrl2] at hrl
  clear hR ht
  have hkc : kd = 0 ∨ kd = 1 ∨ kd = 2 ∨ kd = 3 ∨ kd = 4 ∨ kd = 5 := by omega
  rcases hkc with rfl | rfl | rfl | rfl | rfl | rfl
  · have hkk2 : k = 0 ∨ k = 1 := by have := hk0 rfl; omega
    rcases hkk2 with rfl | rfl
    · obtain ⟨w1, hw1⟩ : ∃ w1, w.alloc (.cells #[.int .i64 ((0 : Nat) : Int), .int .i64 (((0 : Nat) : Int) : Int), Q] 41) = w1 := ⟨_, rfl⟩
      have hU := main w1 hw1
      simp only [show ((0 : Nat) : Int) = 0 from rfl, show ((1 : Nat) : Int) = 1 from rfl, show ((2 : Nat) : Int) = 2 from rfl, show ((3 : Nat) : Int) = 3 from rfl, show ((4 : Nat) : Int) = 4 from rfl, show ((5 : Nat) : Int) = 5 from rfl] at hw1 hU ⊢
      clear main
      go_enter Try.func37, Try.ntmps37
      go_wp2_with fail
      refine hU.mono ?_
      rintro e w2 ⟨P', c', rfl, hrow, hnz, D2, O2, K2, _⟩
      clear hU hw1
      obtain ⟨n0, n1, n2⟩ := own3 O2
      have hcapR := (rd_of_row hrow).cap
      have hmaxR := (rd_of_row hrow).max
      have hC := const_any w2 false
      have HK := Lib.hid (And.intro K2 D2)
      clear hrow D2 O2 K2
      go_wp2_with fail
      refine hC.mono ?_
      rintro e w3 ⟨rfl, rfl⟩
      clear hC
      go_wp2
      go_ret
      exact ⟨rfl, (by first | exact HK.out.2.nop | exact HK.out.2), HK.out.1⟩
    · obtain ⟨w1, hw1⟩ : ∃ w1, w.alloc (.cells #[.int .i64 ((0 : Nat) : Int), .int .i64 (((1 : Nat) : Int) : Int), Q] 41) = w1 := ⟨_, rfl⟩
      have hU := main w1 hw1
      simp only [show ((0 : Nat) : Int) = 0 from rfl, show ((1 : Nat) : Int) = 1 from rfl, show ((2 : Nat) : Int) = 2 from rfl, show ((3 : Nat) : Int) = 3 from rfl, show ((4 : Nat) : Int) = 4 from rfl, show ((5 : Nat) : Int) = 5 from rfl] at hw1 hU ⊢
      clear main
      go_enter Try.func37, Try.ntmps37
      go_wp2_with fail
      refine hU.mono ?_
      rintro e w2 ⟨P', c', rfl, hrow, hnz, D2, O2, K2, _⟩
      clear hU hw1
      obtain ⟨n0, n1, n2⟩ := own3 O2
      have hcapR := (rd_of_row hrow).cap
      have hmaxR := (rd_of_row hrow).max
      have hC := const_any w2 true
      have HK := Lib.hid (And.intro K2 D2)
      clear hrow D2 O2 K2
      go_wp2_with fail
      refine hC.mono ?_
      rintro e w3 ⟨rfl, rfl⟩
      clear hC
      go_wp2
      go_ret
      exact ⟨rfl, (by first | exact HK.out.2.nop | exact HK.out.2), HK.out.1⟩
  · by_cases hz : t = 0
    · have hz2 : (t : Int) = 0 := by omega
      obtain ⟨w1, hw1⟩ : ∃ w1, w.alloc (.cells #[.int .i64 ((1 : Nat) : Int), .int .i64 (k : Int), Q] 41) = w1 := ⟨_, rfl⟩
      have hU := main w1 hw1
      simp only [show ((0 : Nat) : Int) = 0 from rfl, show ((1 : Nat) : Int) = 1 from rfl, show ((2 : Nat) : Int) = 2 from rfl, show ((3 : Nat) : Int) = 3 from rfl, show ((4 : Nat) : Int) = 4 from rfl, show ((5 : Nat) : Int) = 5 from rfl] at hw1 hU ⊢
      clear main
      go_enter Try.func37, Try.ntmps37
      go_wp2_with fail
      refine hU.mono ?_
      rintro e w2 ⟨P', c', rfl, hrow, hnz, D2, O2, K2, _⟩
      clear hU hw1
      obtain ⟨n0, n1, n2⟩ := own3 O2
      have hcapR := (rd_of_row hrow).cap
      have hmaxR := (rd_of_row hrow).max
      have hC := dpar_any wa Z w2 b V xs D2 hV hl r hr R P' rl c' hrow hnz (by omega) true
      have HK := Lib.hid K2
      clear hrow D2 O2 K2
      go_wp2_with fail
      (try rw [hbq])
      refine hC.mono ?_
      rintro e w3 ⟨rfl, D3, K3⟩
      clear hC
      go_wp2
      go_ret
      have hf : foldP ⟨1, k, ar⟩ m t r R = parP true r R := by simp [foldP, hz]
      rw [hf]
      exact ⟨rfl, D3, HK.out.trans K3⟩
    · have hz2 : ¬ (t : Int) = 0 := by omega
      have hbq : ((t : Int) == 0) = false := beq_eq_false_iff_ne.2 hz2
      obtain ⟨w1, hw1⟩ : ∃ w1, w.alloc (.cells #[.int .i64 ((1 : Nat) : Int), .int .i64 (k : Int), Q] 41) = w1 := ⟨_, rfl⟩
      have hU := main w1 hw1
      simp only [show ((0 : Nat) : Int) = 0 from rfl, show ((1 : Nat) : Int) = 1 from rfl, show ((2 : Nat) : Int) = 2 from rfl, show ((3 : Nat) : Int) = 3 from rfl, show ((4 : Nat) : Int) = 4 from rfl, show ((5 : Nat) : Int) = 5 from rfl] at hw1 hU ⊢
      clear main
      go_enter Try.func37, Try.ntmps37
      go_wp2_with fail
      refine hU.mono ?_
      rintro e w2 ⟨P', c', rfl, hrow, hnz, D2, O2, K2, _⟩
      clear hU hw1
      obtain ⟨n0, n1, n2⟩ := own3 O2
      have hcapR := (rd_of_row hrow).cap
      have hmaxR := (rd_of_row hrow).max
      have hC := dpar_any wa Z w2 b V xs D2 hV hl r hr R P' rl c' hrow hnz (by omega) false
      have HK := Lib.hid K2
      clear hrow D2 O2 K2
      go_wp2_with fail
      (try rw [hbq])
      refine hC.mono ?_
      rintro e w3 ⟨rfl, D3, K3⟩
      clear hC
      go_wp2
      go_ret
      have hf : foldP ⟨1, k, ar⟩ m t r R = parP false r R := by simp [foldP, hz]
      rw [hf]
      exact ⟨rfl, D3, HK.out.trans K3⟩
  · obtain ⟨w1, hw1⟩ : ∃ w1, w.alloc (.cells #[.int .i64 ((2 : Nat) : Int), .int .i64 (k : Int), Q] 41) = w1 := ⟨_, rfl⟩
    have hU := main w1 hw1
    simp only [show ((0 : Nat) : Int) = 0 from rfl, show ((1 : Nat) : Int) = 1 from rfl, show ((2 : Nat) : Int) = 2 from rfl, show ((3 : Nat) : Int) = 3 from rfl, show ((4 : Nat) : Int) = 4 from rfl, show ((5 : Nat) : Int) = 5 from rfl] at hw1 hU ⊢
    clear main
    go_enter Try.func37, Try.ntmps37
    go_wp2_with fail
    refine hU.mono ?_
    rintro e w2 ⟨P', c', rfl, hrow, hnz, D2, O2, K2, _⟩
    clear hU hw1
    obtain ⟨n0, n1, n2⟩ := own3 O2
    have hcapR := (rd_of_row hrow).cap
    have hmaxR := (rd_of_row hrow).max
    have hC := dthr_any wa Z w2 b V xs D2 hV hl r hr R P' rl c' hrow hnz (by omega) 2 (by decide) ((m : Int) - (t : Int)) (by omega)
    have HK := Lib.hid K2
    clear hrow D2 O2 K2
    go_wp2_with fail
    (try rw [hbq])
    refine hC.mono ?_
    rintro e w3 ⟨rfl, D3, K3⟩
    clear hC
    go_wp2
    go_ret
    have hf : foldP ⟨2, k, ar⟩ m t r R = thrP 2 ((m : Int) - (t : Int)) r R := rfl
    rw [hf]
    exact ⟨rfl, D3, HK.out.trans K3⟩
  · obtain ⟨w1, hw1⟩ : ∃ w1, w.alloc (.cells #[.int .i64 ((3 : Nat) : Int), .int .i64 (k : Int), Q] 41) = w1 := ⟨_, rfl⟩
    have hU := main w1 hw1
    simp only [show ((0 : Nat) : Int) = 0 from rfl, show ((1 : Nat) : Int) = 1 from rfl, show ((2 : Nat) : Int) = 2 from rfl, show ((3 : Nat) : Int) = 3 from rfl, show ((4 : Nat) : Int) = 4 from rfl, show ((5 : Nat) : Int) = 5 from rfl] at hw1 hU ⊢
    clear main
    go_enter Try.func37, Try.ntmps37
    go_wp2_with fail
    refine hU.mono ?_
    rintro e w2 ⟨P', c', rfl, hrow, hnz, D2, O2, K2, _⟩
    clear hU hw1
    obtain ⟨n0, n1, n2⟩ := own3 O2
    have hcapR := (rd_of_row hrow).cap
    have hmaxR := (rd_of_row hrow).max
    have hC := dthr_any wa Z w2 b V xs D2 hV hl r hr R P' rl c' hrow hnz (by omega) 3 (by decide) (1 - (t : Int)) (by omega)
    have HK := Lib.hid K2
    clear hrow D2 O2 K2
    go_wp2_with fail
    (try rw [hbq])
    refine hC.mono ?_
    rintro e w3 ⟨rfl, D3, K3⟩
    clear hC
    go_wp2
    go_ret
    have hf : foldP ⟨3, k, ar⟩ m t r R = thrP 3 (1 - (t : Int)) r R := rfl
    rw [hf]
    exact ⟨rfl, D3, HK.out.trans K3⟩
  · obtain ⟨w1, hw1⟩ : ∃ w1, w.alloc (.cells #[.int .i64 ((4 : Nat) : Int), .int .i64 (k : Int), Q] 41) = w1 := ⟨_, rfl⟩
    have hU := main w1 hw1
    simp only [show ((0 : Nat) : Int) = 0 from rfl, show ((1 : Nat) : Int) = 1 from rfl, show ((2 : Nat) : Int) = 2 from rfl, show ((3 : Nat) : Int) = 3 from rfl, show ((4 : Nat) : Int) = 4 from rfl, show ((5 : Nat) : Int) = 5 from rfl] at hw1 hU ⊢
    clear main
    go_enter Try.func37, Try.ntmps37
    go_wp2_with fail
    refine hU.mono ?_
    rintro e w2 ⟨P', c', rfl, hrow, hnz, D2, O2, K2, _⟩
    clear hU hw1
    obtain ⟨n0, n1, n2⟩ := own3 O2
    have hcapR := (rd_of_row hrow).cap
    have hmaxR := (rd_of_row hrow).max
    have hC := dthr_any wa Z w2 b V xs D2 hV hl r hr R P' rl c' hrow hnz (by omega) 4 (by decide) ((k : Int) - (t : Int)) (by omega)
    have HK := Lib.hid K2
    clear hrow D2 O2 K2
    go_wp2_with fail
    (try rw [hbq])
    refine hC.mono ?_
    rintro e w3 ⟨rfl, D3, K3⟩
    clear hC
    go_wp2
    go_ret
    have hf : foldP ⟨4, k, ar⟩ m t r R = thrP 4 ((k : Int) - (t : Int)) r R := rfl
    rw [hf]
    exact ⟨rfl, D3, HK.out.trans K3⟩
  · by_cases hz : t % 2 = 1
    · have hz2 : (t : Int) % 2 = 1 := by omega
      obtain ⟨w1, hw1⟩ : ∃ w1, w.alloc (.cells #[.int .i64 ((5 : Nat) : Int), .int .i64 (k : Int), Q] 41) = w1 := ⟨_, rfl⟩
      have hU := main w1 hw1
      simp only [show ((0 : Nat) : Int) = 0 from rfl, show ((1 : Nat) : Int) = 1 from rfl, show ((2 : Nat) : Int) = 2 from rfl, show ((3 : Nat) : Int) = 3 from rfl, show ((4 : Nat) : Int) = 4 from rfl, show ((5 : Nat) : Int) = 5 from rfl] at hw1 hU ⊢
      clear main
      go_enter Try.func37, Try.ntmps37
      go_wp2_with fail
      refine hU.mono ?_
      rintro e w2 ⟨P', c', rfl, hrow, hnz, D2, O2, K2, _⟩
      clear hU hw1
      obtain ⟨n0, n1, n2⟩ := own3 O2
      have hcapR := (rd_of_row hrow).cap
      have hmaxR := (rd_of_row hrow).max
      have hC := dpar_any wa Z w2 b V xs D2 hV hl r hr R P' rl c' hrow hnz (by omega) true
      have HK := Lib.hid K2
      clear hrow D2 O2 K2
      go_wp2_with fail
      (try rw [hbq])
      refine hC.mono ?_
      rintro e w3 ⟨rfl, D3, K3⟩
      clear hC
      go_wp2
      go_ret
      have hf : foldP ⟨5, k, ar⟩ m t r R = parP true r R := by simp [foldP, hz]
      rw [hf]
      exact ⟨rfl, D3, HK.out.trans K3⟩
    · have hz2 : (t : Int) % 2 = 0 := by omega
      obtain ⟨w1, hw1⟩ : ∃ w1, w.alloc (.cells #[.int .i64 ((5 : Nat) : Int), .int .i64 (k : Int), Q] 41) = w1 := ⟨_, rfl⟩
      have hU := main w1 hw1
      simp only [show ((0 : Nat) : Int) = 0 from rfl, show ((1 : Nat) : Int) = 1 from rfl, show ((2 : Nat) : Int) = 2 from rfl, show ((3 : Nat) : Int) = 3 from rfl, show ((4 : Nat) : Int) = 4 from rfl, show ((5 : Nat) : Int) = 5 from rfl] at hw1 hU ⊢
      clear main
      go_enter Try.func37, Try.ntmps37
      go_wp2_with fail
      refine hU.mono ?_
      rintro e w2 ⟨P', c', rfl, hrow, hnz, D2, O2, K2, _⟩
      clear hU hw1
      obtain ⟨n0, n1, n2⟩ := own3 O2
      have hcapR := (rd_of_row hrow).cap
      have hmaxR := (rd_of_row hrow).max
      have hC := dpar_any wa Z w2 b V xs D2 hV hl r hr R P' rl c' hrow hnz (by omega) false
      have HK := Lib.hid K2
      clear hrow D2 O2 K2
      go_wp2_with fail
      (try rw [hbq])
      refine hC.mono ?_
      rintro e w3 ⟨rfl, D3, K3⟩
      clear hC
      go_wp2
      go_ret
      have hf : foldP ⟨5, k, ar⟩ m t r R = parP false r R := by simp [foldP, hz]
      rw [hf]
      exact ⟨rfl, D3, HK.out.trans K3⟩
end Go.Proofs.Ytmkogcaafkobaaa.Fm
/-
  A constant alone is what is left of nodes above which it stands, pure.
-/
namespace Go.Proofs.Ytmkogcaafkobaaa.Fm
open Go.RowKit Go.Proofs.Ytmkogcaafkobaaa.Sb Go.Proofs.Ytmkogcaafkobaaa.Rgv
set_option linter.unusedVariables false
set_option linter.unusedSimpArgs false
set_option maxRecDepth 100000
theorem fo_le (l : List Int) : foT l + (foR l).length ≤ l.length := by
  induction l with
  | nil => simp [foT, foR]
  | cons c l ih =>
    unfold foT foR at ih ⊢
    rw [List.count_cons, List.length_cons]
    by_cases hc : 0 ≤ c
    · have hne : (c == -2) = false := by simp; omega
      rw [List.filter_cons_of_pos (by simpa using hc), hne]
      simp at ih ⊢; omega
    · rw [List.filter_cons_of_neg (by simpa using hc)]
      simp at ih ⊢
      split <;> omega
section
variable {V k : Nat} {o : List Nn}
theorem tc_nd : Fn.nd ⟨V, o ++ [⟨0, k, []⟩], V + o.length⟩ o.length = ⟨0, k, []⟩ := getD_snoc_r _ _ _
theorem tc_bel : ∀ d, d ≤ o.length + 1 → belD ⟨V, o ++ [⟨0, k, []⟩], V + o.length⟩ d = belD ⟨V, o ++ [⟨0, k, []⟩], V + o.length⟩ 0 := by
  intro d
  induction d with
  | zero => intro _; rfl
  | succ d ih =>
    intro hd
    have h := ih (by omega)
    have hs : belD ⟨V, o ++ [⟨0, k, []⟩], V + o.length⟩ (d + 1) = if (belD ⟨V, o ++ [⟨0, k, []⟩], V + o.length⟩ d).getD (V + ((o ++ [(⟨0, k, []⟩ : Nn)]).length - 1 - d)) false then mkA (belD ⟨V, o ++ [⟨0, k, []⟩], V + o.length⟩ d) (Fn.nd ⟨V, o ++ [⟨0, k, []⟩], V + o.length⟩ ((o ++ [(⟨0, k, []⟩ : Nn)]).length - 1 - d)).args else belD ⟨V, o ++ [⟨0, k, []⟩], V + o.length⟩ d := rfl
    rw [hs, h]
    have hl : (o ++ [(⟨0, k, []⟩ : Nn)]).length - 1 - d = o.length - d := by rw [List.length_append, List.length_singleton]; omega
    rw [hl]
    by_cases hz : d = 0
    · subst hz
      rw [Nat.sub_zero, tc_nd]
      split
      · rfl
      · rfl
    · rw [if_neg]
      intro hc
      have h0 : belD ⟨V, o ++ [⟨0, k, []⟩], V + o.length⟩ 0 = (List.replicate (V + (o ++ [(⟨0, k, []⟩ : Nn)]).length) false).set (V + o.length) true := rfl
      rw [h0, getD_set, if_neg (by omega)] at hc
      have := getD_rep (α := Bool) [] false (V + (o ++ [(⟨0, k, []⟩ : Nn)]).length) (V + (o.length - d))
      simp only [List.nil_append] at this
      rw [this] at hc
      simp at hc
theorem tc_mk (i : Nat) (hi : i ≤ o.length) : mk ⟨V, o ++ [⟨0, k, []⟩], V + o.length⟩ (V + i) = decide (i = o.length) := by
  unfold mk bel
  have hl : (⟨V, o ++ [⟨0, k, []⟩], V + o.length⟩ : Fn).nodes.length = o.length + 1 := by show (o ++ [_]).length = _; rw [List.length_append]; rfl
  rw [hl, tc_bel _ (Nat.le_refl _)]
  have h0 : belD ⟨V, o ++ [⟨0, k, []⟩], V + o.length⟩ 0 = (List.replicate (V + (o ++ [(⟨0, k, []⟩ : Nn)]).length) false).set (V + o.length) true := rfl
  rw [h0, getD_set, List.length_replicate, List.length_append, List.length_singleton]
  by_cases h : i = o.length
  · rw [if_pos ⟨by omega, by omega⟩, decide_eq_true h]
  · rw [if_neg (by omega), decide_eq_false h]
    have := getD_rep (α := Bool) [] false (V + (o.length + 1)) (V + i)
    simp only [List.nil_append] at this
    rw [this]; simp
theorem tc_tr : ∀ i, i ≤ o.length → trTo ⟨V, o ++ [⟨0, k, []⟩], V + o.length⟩ i = (List.range V ++ List.replicate (o.length + 1) 0, []) := by
  intro i
  induction i with
  | zero =>
    intro _
    have hl : (⟨V, o ++ [⟨0, k, []⟩], V + o.length⟩ : Fn).nodes.length = o.length + 1 := by show (o ++ [_]).length = _; rw [List.length_append]; rfl
    unfold trTo; rw [hl]
  | succ i ih =>
    intro hi
    have hs : trTo ⟨V, o ++ [⟨0, k, []⟩], V + o.length⟩ (i + 1) = if mk ⟨V, o ++ [⟨0, k, []⟩], V + o.length⟩ (V + i) = true then ((trTo ⟨V, o ++ [⟨0, k, []⟩], V + o.length⟩ i).1.set (V + i) (V + (trTo ⟨V, o ++ [⟨0, k, []⟩], V + o.length⟩ i).2.length), (trTo ⟨V, o ++ [⟨0, k, []⟩], V + o.length⟩ i).2 ++ [renum (trTo ⟨V, o ++ [⟨0, k, []⟩], V + o.length⟩ i).1 (Fn.nd ⟨V, o ++ [⟨0, k, []⟩], V + o.length⟩ i)]) else trTo ⟨V, o ++ [⟨0, k, []⟩], V + o.length⟩ i := rfl
    rw [hs, tc_mk i (by omega), decide_eq_false (by omega), if_neg (by decide)]
    exact ih (by omega)
theorem trim_const : trim ⟨V, o ++ [⟨0, k, []⟩], V + o.length⟩ = ⟨V, [⟨0, k, []⟩], V⟩ := by
  have hl : (⟨V, o ++ [⟨0, k, []⟩], V + o.length⟩ : Fn).nodes.length = o.length + 1 := by show (o ++ [_]).length = _; rw [List.length_append]; rfl
  have hs : trTo ⟨V, o ++ [⟨0, k, []⟩], V + o.length⟩ (o.length + 1) = ((List.range V ++ List.replicate (o.length + 1) 0).set (V + o.length) V, [⟨0, k, []⟩]) := by
    have hs : trTo ⟨V, o ++ [⟨0, k, []⟩], V + o.length⟩ (o.length + 1) = if mk ⟨V, o ++ [⟨0, k, []⟩], V + o.length⟩ (V + o.length) = true then ((trTo ⟨V, o ++ [⟨0, k, []⟩], V + o.length⟩ o.length).1.set (V + o.length) (V + (trTo ⟨V, o ++ [⟨0, k, []⟩], V + o.length⟩ o.length).2.length), (trTo ⟨V, o ++ [⟨0, k, []⟩], V + o.length⟩ o.length).2 ++ [renum (trTo ⟨V, o ++ [⟨0, k, []⟩], V + o.length⟩ o.length).1 (Fn.nd ⟨V, o ++ [⟨0, k, []⟩], V + o.length⟩ o.length)]) else trTo ⟨V, o ++ [⟨0, k, []⟩], V + o.length⟩ o.length := rfl
    rw [hs, tc_mk _ (Nat.le_refl _), decide_eq_true rfl, if_pos rfl, tc_tr _ (Nat.le_refl _), tc_nd]; rfl
  unfold trim
  rw [hl, hs]
  show (⟨V, [⟨0, k, []⟩], ((List.range V ++ List.replicate (o.length + 1) 0).set (V + o.length) V).getD (V + o.length) 0⟩ : Fn) = _
  rw [getD_set, if_pos ⟨rfl, by simp⟩]
end
end Go.Proofs.Ytmkogcaafkobaaa.Fm
/-
  Fold of the program.
-/
namespace Go.Proofs.Ytmkogcaafkobaaa.Fm
open Go.RowKit Go.Proofs.Ytmkogcaafkobaaa.Sb Go.Proofs.Ytmkogcaafkobaaa.Rgv
set_option linter.unusedVariables false
set_option linter.unusedSimpArgs false
set_option maxRecDepth 100000
def DF (wa : World) (Y : Nat → Prop) (W0 : World) (b : Nat) (V : Nat) (o : List Nn) (o2 : List Nn) (res : Int) (zn : List Int) (PS : Option Addr) (ns : Nat) (cS : Nat) (kd : Nat) (kq : Nat) (ar : List Nat) (PA : Option Addr) (m : Nat) (cA : Nat) (p : Nat) (i : Nat) (f : Tmp → Value) (w : World) : Prop :=
  match i with
  | 0 => f 29 = Value.slice PS ns cS
  | 1 => f 30 = .agg #[.int .i64 (kd : Int), .int .i64 (kq : Int), .slice PA m cA]
  | 2 => f 31 = .pointer (some ⟨p, 2, none⟩)
  | 3 => f 32 = .slice PA m cA
  | 4 => f 33 = Value.slice PS ns cS
  | 5 => ∃ W1 : World, (∃ P c, f 34 = .slice P m c ∧ W1.ownsRow wa.heap.size 3 1 (.slice P m c) m (VI (renZ zn ar)) ∧ ∀ g, (Value.slice P m c).ownBlock = some g → ¬ ((Value.slice PS ns cS).ownBlock = some g ∨ Y g)) ∧ On W1 w
  | 6 => ∃ W1 : World, (f 35 = .int .i64 res ∧ Dr wa (fun g => (Value.slice PS ns cS).ownBlock = some g ∨ Y g) W1 b V o2 ∧ W1.ownsRow wa.heap.size 3 1 (Value.slice PS ns cS) ns (VI zn) ∧ KP W0 W1 b wa (Value.slice PS ns cS)) ∧ On W1 w
  | 7 => ∃ W1 : World, (∃ e : Nat, f 36 = .slice (some ⟨e, 0, none⟩) 1 1 ∧ Own W1 e 3 #[.int .i64 res]) ∧ On W1 w
  | 8 => ∃ W1 : World, (∃ PT cT, f 37 = .slice PT (ns + 1) cT ∧ Dr wa (fun g => (Value.slice PT (ns + 1) cT).ownBlock = some g ∨ Y g) W1 b V o2 ∧ W1.ownsRow wa.heap.size 3 1 (.slice PT (ns + 1) cT) (ns + 1) (VI (zn ++ [res])) ∧ KP W0 W1 b wa (Value.slice PS ns cS) ∧ NB W0 (Value.slice PS ns cS) (.slice PT (ns + 1) cT)) ∧ On W1 w
  | 9 => ∃ W1 : World, (∃ PT cT, f 6 = .slice PT (ns + 1) cT ∧ Dr wa (fun g => (Value.slice PT (ns + 1) cT).ownBlock = some g ∨ Y g) W1 b V o2 ∧ W1.ownsRow wa.heap.size 3 1 (.slice PT (ns + 1) cT) (ns + 1) (VI (zn ++ [res])) ∧ KP W0 W1 b wa (Value.slice PS ns cS) ∧ NB W0 (Value.slice PS ns cS) (.slice PT (ns + 1) cT)) ∧ On W1 w
  | 10 => ∃ W1 : World, (Dr wa (fun g => (Value.slice PS ns cS).ownBlock = some g ∨ Y g) W1 b V o ∧ Own W1 p 41 #[.int .i64 (kd : Int), .int .i64 (kq : Int), .slice PA m cA] ∧ W1.ownsRow wa.heap.size 3 1 (Value.slice PS ns cS) ns (VI zn) ∧ KP W0 W1 b wa (Value.slice PS ns cS)) ∧ On W1 w
  | _ => True
def DFEx (i : Nat) : Nat := if i = 5 then 6 else if i = 6 then 8 else if i = 7 then 8 else if i = 10 then 6 else 100
def DFK (wa : World) (Y : Nat → Prop) (W0 : World) (b : Nat) (V : Nat) (o : List Nn) (o2 : List Nn) (res : Int) (zn : List Int) (PS : Option Addr) (ns : Nat) (cS : Nat) (kd : Nat) (kq : Nat) (ar : List Nat) (PA : Option Addr) (m : Nat) (cA : Nat) (p : Nat) (i : Nat) (w w' : World) : Prop := if i = 6 ∨ i = 8 then (True → True) else On w w'
theorem DFK.on (wa : World) (Y : Nat → Prop) (W0 : World) (b : Nat) (V : Nat) (o : List Nn) (o2 : List Nn) (res : Int) (zn : List Int) (PS : Option Addr) (ns : Nat) (cS : Nat) (kd : Nat) (kq : Nat) (ar : List Nat) (PA : Option Addr) (m : Nat) (cA : Nat) (p : Nat) {i : Nat} {w w' : World} (h : ¬ (i = 6 ∨ i = 8)) (k9 : On w w') : DFK wa Y W0 b V o o2 res zn PS ns cS kd kq ar PA m cA p i w w' := by unfold DFK; rw [if_neg h]; exact k9
theorem DFK.sp (wa : World) (Y : Nat → Prop) (W0 : World) (b : Nat) (V : Nat) (o : List Nn) (o2 : List Nn) (res : Int) (zn : List Int) (PS : Option Addr) (ns : Nat) (cS : Nat) (kd : Nat) (kq : Nat) (ar : List Nat) (PA : Option Addr) (m : Nat) (cA : Nat) (p : Nat) {i : Nat} {w w' : World} (h : i = 6 ∨ i = 8) (k9 : True → True) : DFK wa Y W0 b V o o2 res zn PS ns cS kd kq ar PA m cA p i w w' := by unfold DFK; rw [if_pos h]; exact k9
theorem DF.cases {j : Nat} (h : j < 11) : j = 0 ∨ j = 1 ∨ j = 2 ∨ j = 3 ∨ j = 4 ∨ j = 5 ∨ j = 6 ∨ j = 7 ∨ j = 8 ∨ j = 9 ∨ j = 10 := by omega
theorem DF.on (wa : World) (Y : Nat → Prop) (W0 : World) (b : Nat) (V : Nat) (o : List Nn) (o2 : List Nn) (res : Int) (zn : List Int) (PS : Option Addr) (ns : Nat) (cS : Nat) (kd : Nat) (kq : Nat) (ar : List Nat) (PA : Option Addr) (m : Nat) (cA : Nat) (p : Nat) {j : Nat} (hj : j < 11) {f : Tmp → Value} {w w' : World} (k9 : On w w') (h : DF wa Y W0 b V o o2 res zn PS ns cS kd kq ar PA m cA p j f w) : DF wa Y W0 b V o o2 res zn PS ns cS kd kq ar PA m cA p j f w' := by
  rcases DF.cases hj with rfl | rfl | rfl | rfl | rfl | rfl | rfl | rfl | rfl | rfl | rfl
  · exact h
  · exact h
  · exact h
  · exact h
  · exact h
  · obtain ⟨W1, h1, h2⟩ := (show ∃ W1 : World, (∃ P c, f 34 = .slice P m c ∧ W1.ownsRow wa.heap.size 3 1 (.slice P m c) m (VI (renZ zn ar)) ∧ ∀ g, (Value.slice P m c).ownBlock = some g → ¬ ((Value.slice PS ns cS).ownBlock = some g ∨ Y g)) ∧ On W1 w from h)
    exact ⟨W1, h1, h2.trans k9⟩
  · obtain ⟨W1, h1, h2⟩ := (show ∃ W1 : World, (f 35 = .int .i64 res ∧ Dr wa (fun g => (Value.slice PS ns cS).ownBlock = some g ∨ Y g) W1 b V o2 ∧ W1.ownsRow wa.heap.size 3 1 (Value.slice PS ns cS) ns (VI zn) ∧ KP W0 W1 b wa (Value.slice PS ns cS)) ∧ On W1 w from h)
    exact ⟨W1, h1, h2.trans k9⟩
  · obtain ⟨W1, h1, h2⟩ := (show ∃ W1 : World, (∃ e : Nat, f 36 = .slice (some ⟨e, 0, none⟩) 1 1 ∧ Own W1 e 3 #[.int .i64 res]) ∧ On W1 w from h)
    exact ⟨W1, h1, h2.trans k9⟩
  · obtain ⟨W1, h1, h2⟩ := (show ∃ W1 : World, (∃ PT cT, f 37 = .slice PT (ns + 1) cT ∧ Dr wa (fun g => (Value.slice PT (ns + 1) cT).ownBlock = some g ∨ Y g) W1 b V o2 ∧ W1.ownsRow wa.heap.size 3 1 (.slice PT (ns + 1) cT) (ns + 1) (VI (zn ++ [res])) ∧ KP W0 W1 b wa (Value.slice PS ns cS) ∧ NB W0 (Value.slice PS ns cS) (.slice PT (ns + 1) cT)) ∧ On W1 w from h)
    exact ⟨W1, h1, h2.trans k9⟩
  · obtain ⟨W1, h1, h2⟩ := (show ∃ W1 : World, (∃ PT cT, f 6 = .slice PT (ns + 1) cT ∧ Dr wa (fun g => (Value.slice PT (ns + 1) cT).ownBlock = some g ∨ Y g) W1 b V o2 ∧ W1.ownsRow wa.heap.size 3 1 (.slice PT (ns + 1) cT) (ns + 1) (VI (zn ++ [res])) ∧ KP W0 W1 b wa (Value.slice PS ns cS) ∧ NB W0 (Value.slice PS ns cS) (.slice PT (ns + 1) cT)) ∧ On W1 w from h)
    exact ⟨W1, h1, h2.trans k9⟩
  · obtain ⟨W1, h1, h2⟩ := (show ∃ W1 : World, (Dr wa (fun g => (Value.slice PS ns cS).ownBlock = some g ∨ Y g) W1 b V o ∧ Own W1 p 41 #[.int .i64 (kd : Int), .int .i64 (kq : Int), .slice PA m cA] ∧ W1.ownsRow wa.heap.size 3 1 (Value.slice PS ns cS) ns (VI zn) ∧ KP W0 W1 b wa (Value.slice PS ns cS)) ∧ On W1 w from h)
    exact ⟨W1, h1, h2.trans k9⟩
theorem DF.dep (wa : World) (Y : Nat → Prop) (W0 : World) (b : Nat) (V : Nat) (o : List Nn) (o2 : List Nn) (res : Int) (zn : List Int) (PS : Option Addr) (ns : Nat) (cS : Nat) (kd : Nat) (kq : Nat) (ar : List Nat) (PA : Option Addr) (m : Nat) (cA : Nat) (p : Nat) {j : Nat} (hj : j < 11) {f f' : Tmp → Value} {w : World} (hd : ∀ d, d ∈ (match j with | 0 => [29] | 1 => [30] | 2 => [31] | 3 => [32] | 4 => [33] | 5 => [34] | 6 => [35] | 7 => [36] | 8 => [37] | 9 => [6] | 10 => [] | _ => []) → f d = f' d) (h : DF wa Y W0 b V o o2 res zn PS ns cS kd kq ar PA m cA p j f w) : DF wa Y W0 b V o o2 res zn PS ns cS kd kq ar PA m cA p j f' w := by
  rcases DF.cases hj with rfl | rfl | rfl | rfl | rfl | rfl | rfl | rfl | rfl | rfl | rfl
  · have h' : f 29 = Value.slice PS ns cS := h
    simp only [hd 29 (by simp)] at h'
    exact h'
  · have h' : f 30 = .agg #[.int .i64 (kd : Int), .int .i64 (kq : Int), .slice PA m cA] := h
    simp only [hd 30 (by simp)] at h'
    exact h'
  · have h' : f 31 = .pointer (some ⟨p, 2, none⟩) := h
    simp only [hd 31 (by simp)] at h'
    exact h'
  · have h' : f 32 = .slice PA m cA := h
    simp only [hd 32 (by simp)] at h'
    exact h'
  · have h' : f 33 = Value.slice PS ns cS := h
    simp only [hd 33 (by simp)] at h'
    exact h'
  · have h' : ∃ W1 : World, (∃ P c, f 34 = .slice P m c ∧ W1.ownsRow wa.heap.size 3 1 (.slice P m c) m (VI (renZ zn ar)) ∧ ∀ g, (Value.slice P m c).ownBlock = some g → ¬ ((Value.slice PS ns cS).ownBlock = some g ∨ Y g)) ∧ On W1 w := h
    simp only [hd 34 (by simp)] at h'
    exact h'
  · have h' : ∃ W1 : World, (f 35 = .int .i64 res ∧ Dr wa (fun g => (Value.slice PS ns cS).ownBlock = some g ∨ Y g) W1 b V o2 ∧ W1.ownsRow wa.heap.size 3 1 (Value.slice PS ns cS) ns (VI zn) ∧ KP W0 W1 b wa (Value.slice PS ns cS)) ∧ On W1 w := h
    simp only [hd 35 (by simp)] at h'
    exact h'
  · have h' : ∃ W1 : World, (∃ e : Nat, f 36 = .slice (some ⟨e, 0, none⟩) 1 1 ∧ Own W1 e 3 #[.int .i64 res]) ∧ On W1 w := h
    simp only [hd 36 (by simp)] at h'
    exact h'
  · have h' : ∃ W1 : World, (∃ PT cT, f 37 = .slice PT (ns + 1) cT ∧ Dr wa (fun g => (Value.slice PT (ns + 1) cT).ownBlock = some g ∨ Y g) W1 b V o2 ∧ W1.ownsRow wa.heap.size 3 1 (.slice PT (ns + 1) cT) (ns + 1) (VI (zn ++ [res])) ∧ KP W0 W1 b wa (Value.slice PS ns cS) ∧ NB W0 (Value.slice PS ns cS) (.slice PT (ns + 1) cT)) ∧ On W1 w := h
    simp only [hd 37 (by simp)] at h'
    exact h'
  · have h' : ∃ W1 : World, (∃ PT cT, f 6 = .slice PT (ns + 1) cT ∧ Dr wa (fun g => (Value.slice PT (ns + 1) cT).ownBlock = some g ∨ Y g) W1 b V o2 ∧ W1.ownsRow wa.heap.size 3 1 (.slice PT (ns + 1) cT) (ns + 1) (VI (zn ++ [res])) ∧ KP W0 W1 b wa (Value.slice PS ns cS) ∧ NB W0 (Value.slice PS ns cS) (.slice PT (ns + 1) cT)) ∧ On W1 w := h
    simp only [hd 6 (by simp)] at h'
    exact h'
  · have h' : ∃ W1 : World, (Dr wa (fun g => (Value.slice PS ns cS).ownBlock = some g ∨ Y g) W1 b V o ∧ Own W1 p 41 #[.int .i64 (kd : Int), .int .i64 (kq : Int), .slice PA m cA] ∧ W1.ownsRow wa.heap.size 3 1 (Value.slice PS ns cS) ns (VI zn) ∧ KP W0 W1 b wa (Value.slice PS ns cS)) ∧ On W1 w := h
    exact h'
set_option maxHeartbeats 4000000 in
theorem nfold_bad (w : World) (vars top : Int) (A : Option Addr) (n c : Nat) (xs : List Nd) (h : RdN w A n c xs) (hv : I64 vars) (ht : I64 top) (hbad : chk vars xs top ≠ 0) :
    Calls Try.prog 17 #[.agg #[.int .i64 vars, .slice A n c, .int .i64 top]] w fun e w' => e = .returned (.tuple #[.agg #[.int .i64 0, .slice none 0 0, .int .i64 0], errV (chk vars xs top)]) ∧ On w w' := by
  obtain ⟨q, hq⟩ : ∃ q, w.heap.size = q := ⟨_, rfl⟩
  obtain ⟨w0, hw0⟩ : ∃ w0, (w.alloc (.cells #[.int .i64 vars, .slice A n c, .int .i64 top] 24)).alloc (.cells #[.int .i64 0, .slice none 0 0, .int .i64 0] 24) = w0 := ⟨_, rfl⟩
  have O0 : Own w0 q 24 #[.int .i64 vars, .slice A n c, .int .i64 top] := by rw [← hw0, ← hq]; exact (Own.new _ _ _).alloc _
  have C0 : Own w0 (q + 1) 24 #[.int .i64 0, .slice none 0 0, .int .i64 0] := by
    rw [← hw0, ← hq]
    have := Own.new (w.alloc (.cells #[.int .i64 vars, .slice A n c, .int .i64 top] 24)) 24 #[.int .i64 0, .slice none 0 0, .int .i64 0]
    simpa using this
  have P0 : On w w0 := by rw [← hw0]; exact ((On.refl w).alloc _).alloc _
  obtain ⟨r0, r1, r2⟩ := own3 O0
  have hC := check_any w0 vars top A n c xs (h.on P0) hv ht
  obtain ⟨er, her⟩ : ∃ er, chk vars xs top = er := ⟨_, rfl⟩
  rw [her] at hC hbad ⊢
  rw [errV_pos er hbad] at hC ⊢
  have HO := Lib.hid (And.intro C0 P0)
  clear O0 C0 P0 h hv ht her
  go_enter Try.func17, Try.ntmps17
  go_wp2_with fail
  refine hC.mono ?_
  rintro e w1 ⟨rfl, P1⟩
  clear hC r0 r1 r2 hw0
  have C1 := HO.out.1.on P1
  have P1' := HO.out.2.trans P1
  obtain ⟨e0, e1, e2⟩ := own3 C1
  have g0 := C1.frozen 0
  have g1 := C1.frozen 1
  have g2 := C1.frozen 2
  have OF := ((C1.set_ 0 (.int .i64 0)).set_ 1 (.slice none 0 0)).set_ 2 (.int .i64 0)
  obtain ⟨x0, x1, x2⟩ := own3 (show Own _ (q + 1) 24 #[.int .i64 0, .slice none 0 0, .int .i64 0] from OF)
  have P9 := On.setCell (On.setCell (On.setCell P1' (p := ⟨q + 1, 0, none⟩) (by show w.heap.size ≤ q + 1; omega) (.int .i64 0)) (p := ⟨q + 1, 1, none⟩) (by show w.heap.size ≤ q + 1; omega) (.slice none 0 0)) (p := ⟨q + 1, 2, none⟩) (by show w.heap.size ≤ q + 1; omega) (.int .i64 0)
  have HZ := Lib.hid P9
  clear OF P9 C1 P1'
  go_wp2
  exact bodyPost_ret (v := .tuple #[.agg #[.int .i64 0, .slice none 0 0, .int .i64 0], .iface 43 (.int .i64 (er : Int))]) (by simp [results, Try.results17, go_sem, x0, x1, x2]) rfl ⟨rfl, HZ.out⟩
set_option maxHeartbeats 16000000 in
theorem nfold_ok (w : World) (f : Fn) (hf : WF f) (A : Option Addr) (n c : Nat) (h : RdN w A n c (rawL f.nodes)) :
    Calls Try.prog 17 #[.agg #[.int .i64 (f.vars : Int), .slice A n c, .int .i64 (f.top : Int)]] w fun e w' => MadeP (fold f) e w' ∧ On w w' := by
  have hn : f.nodes.length = n := by have := h.len; rwa [raw_len] at this
  have hcap := h.cap
  have hmax := h.max
  have hv := hf.1
  have hn128 : f.nodes.length ≤ 128 := hf.2.1
  have htop := hf.2.2.2
  rw [hn] at hn128 htop
  obtain ⟨q, hq⟩ : ∃ q, w.heap.size = q := ⟨_, rfl⟩
  obtain ⟨w0, hw0⟩ : ∃ w0, (w.alloc (.cells #[.int .i64 (f.vars : Int), .slice A n c, .int .i64 (f.top : Int)] 24)).alloc (.cells #[.int .i64 0, .slice none 0 0, .int .i64 0] 24) = w0 := ⟨_, rfl⟩
  have O0 : Own w0 q 24 #[.int .i64 (f.vars : Int), .slice A n c, .int .i64 (f.top : Int)] := by rw [← hw0, ← hq]; exact (Own.new _ _ _).alloc _
  have C0 : Own w0 (q + 1) 24 #[.int .i64 0, .slice none 0 0, .int .i64 0] := by
    rw [← hw0, ← hq]
    have := Own.new (w.alloc (.cells #[.int .i64 (f.vars : Int), .slice A n c, .int .i64 (f.top : Int)] 24)) 24 #[.int .i64 0, .slice none 0 0, .int .i64 0]
    simpa using this
  have P0 : On w w0 := by rw [← hw0]; exact ((On.refl w).alloc _).alloc _
  obtain ⟨r0, r1, r2⟩ := own3 O0
  have hC := check_any w0 (f.vars : Int) (f.top : Int) A n c _ (h.on P0) (by unfold I64; omega) (by unfold I64; omega)
  rw [chk_ok hf, errV_zero] at hC
  have HO := Lib.hid (And.intro O0 (And.intro C0 (And.intro P0 h)))
  have HF := Lib.hid (And.intro hf hn)
  obtain ⟨V, hVV⟩ : ∃ V, f.vars = V := ⟨_, rfl⟩
  obtain ⟨tp, htp⟩ : ∃ tp, f.top = tp := ⟨_, rfl⟩
  rw [hVV] at hv htop hC r0 HO hw0 ⊢
  rw [htp] at htop hC r2 HO hw0 ⊢
  clear O0 C0 P0 h hf hn
  go_enter Try.func17, Try.ntmps17
  go_wp2_with fail
  refine hC.mono ?_
  rintro e w5 ⟨rfl, P5⟩
  clear hC r0 r1 r2 hw0
  have O5 := HO.out.1.on P5
  obtain ⟨q0, q1, q2⟩ := own3 O5
  obtain ⟨b, hb⟩ : ∃ b, w5.heap.size = b := ⟨_, rfl⟩
  obtain ⟨wd1, hd1⟩ : ∃ wd1, w5.alloc (.cells #[.int .i64 0, .slice none 0 0] 56) = wd1 := ⟨_, rfl⟩
  have Bd1 : Own wd1 b 56 #[.int .i64 0, .slice none 0 0] := by rw [← hd1, ← hb]; exact Own.new _ _ _
  have Pd1 : On w5 wd1 := by rw [← hd1]; exact (On.refl w5).alloc _
  obtain ⟨wd, hd2⟩ : ∃ wd, (wd1.setCell ⟨b, 0, none⟩ (.int .i64 (V : Int))).setCell ⟨b, 1, none⟩ (.slice none 0 0) = wd := ⟨_, rfl⟩
  have Bd2 : Own wd b 56 #[.int .i64 (V : Int), .slice none 0 0] := by rw [← hd2]; exact (Bd1.set_ 0 _).set_ 1 _
  have Pd2 : On w5 wd := by rw [← hd2]; exact On.setCell (On.setCell Pd1 (p := ⟨b, 0, none⟩) (by show w5.heap.size ≤ b; omega) _) (p := ⟨b, 1, none⟩) (by show w5.heap.size ≤ b; omega) _
  obtain ⟨y0, y1⟩ := own2 Bd1
  have z0 := Bd1.frozen 0
  have z1 := Bd1.frozen 1
  have D0 : Dr w5 (fun _ => False) wd b V [] := ⟨Pd2, by omega, fun _ h => h.elim, _, Bd2, OutZ.nil _ _ _⟩
  clear Bd1 Pd1 Bd2
  have O6 := O5.on Pd2
  obtain ⟨t0, t1, t2⟩ := own3 O6
  have hC := events_any wd V hv
  have H5 := Lib.hid (And.intro P5 (And.intro O5 (And.intro D0 O6)))
  clear O5 O6 D0 Pd2 P5
  go_wp2_with fail
  refine hC.mono ?_
  rintro e wl ⟨gs, rfl, hgs, hG, Pl⟩
  clear hC y0 y1 z0 z1 hd1 hd2 q0 q1 q2 t0 t1 t2
  have Dl0 := H5.out.2.2.1.by_ (row := none) (Z' := fun g => (Value.slice (some ⟨gs, 0, none⟩) V V).ownBlock = some g ∨ False) (gb_on Pl none) (fun _ e => by cases e) (fun g1 e => by
    rcases e with e | e
    · injection e with e; subst e; exact .inr ⟨hgs, hG.lt⟩
    · exact e.elim)
  have hd := H5.out.2.2.1.on.size
  have Sl := owns_blk (base := w5.heap.size) hG (by omega) (n := V) (by rw [VI_length, ints_length, List.length_range]) (by omega)
  have ed0 : foTo f 0 = ([], ints (List.range V)) := by unfold foTo; rw [hVV]
  have ed1 : (ints (List.range V)).map sw = ints (List.range V) := by unfold ints; rw [List.map_map]; exact List.map_congr_left fun a _ => sw_nat a
  have Ol := H5.out.2.1.on Dl0.on
  obtain ⟨q0, q1, q2⟩ := own3 Ol
  have HS := Lib.hid (And.intro Dl0 (And.intro Sl (And.intro ed0 ed1)))
  clear Dl0 Sl hG Ol ed0 ed1
  go_wp2
  clear q0 q1 q2
  go_loopw [25, 6] (fun i sv wr => ∃ k : Nat, k ≤ n ∧ i = .int .i64 (k : Int) ∧ ∃ PS cS, sv = .slice PS (V + k) cS ∧ Dr w5 (fun g => (Value.slice PS (V + k) cS).ownBlock = some g ∨ False) wr b V (foTo f k).1 ∧ wr.ownsRow w5.heap.size 3 1 (.slice PS (V + k) cS) (V + k) (VI ((foTo f k).2.map sw))) (fun i _ _ => n - (intOf i).toNat)
  case atStart => exact ⟨0, by omega, rfl, some ⟨gs, 0, none⟩, V, rfl, by rw [HS.out.2.2.1]; exact HS.out.1, by rw [HS.out.2.2.1]; simp only; rw [HS.out.2.2.2]; exact HS.out.2.1⟩
  case round =>
    obtain ⟨i, hi, rfl, PS, cS, rfl, D0', S0'⟩ := hrel
    obtain ⟨wo, hwo⟩ : ∃ wo, wo = wr := ⟨_, rfl⟩
    subst hwo
    have htr := foTo_tr HF.out.1 i (by rw [HF.out.2]; exact hi)
    by_cases hlt : i < n
    · have P51 := H5.out.1.trans D0'.on
      have Pw1 := HO.out.2.2.1.trans P51
      obtain ⟨ad, rfl, hb9, PA, m, cA, hc0', hc1', hc2', hRA⟩ := HO.out.2.2.2.at_ i hlt
      rw [raw_get] at hc0' hc1' hRA
      have hbk : (ad.add (i * 3)).block < w.heap.size := by rw [block_of_add]; exact hb9
      have hc0 := (Below.cell Pw1 hbk).trans hc0'
      have hc1 := (Below.cell Pw1 (p := ⟨(ad.add (i * 3)).block, (ad.add (i * 3)).off + 1, none⟩) hbk).trans hc1'
      have hc2 := (Below.cell Pw1 (p := ⟨(ad.add (i * 3)).block, (ad.add (i * 3)).off + 2, none⟩) hbk).trans hc2'
      have hm : (f.nd i).args.length = m := by have := VI_len hRA; unfold Nn.raw at this; rwa [ints_length] at this
      have hok := HF.out.1.2.2.1 i (by rw [HF.out.2]; exact hlt)
      rw [hVV] at hok
      have hm16 : m ≤ 16 := by rw [← hm]; exact okN_len hok
      have harg : ∀ a ∈ (f.nd i).args, a < V + i := hok.2.2.2.2.1
      obtain ⟨⟨kd, kq, ar⟩, hx⟩ : ∃ x, f.nd i = x := ⟨_, rfl⟩
      rw [hx] at hc0 hc1 hRA hm harg hok
      simp only at hm harg
      have hA' : Rd w PA m cA (VI (ints ar)) := hRA
      replace hc0 := (show _ = some (Value.int .i64 (kd : Int)) from hc0)
      replace hc1 := (show _ = some (Value.int .i64 (kq : Int)) from hc1)
      obtain ⟨⟨o, now⟩, hdu⟩ : ∃ z, foTo f i = z := ⟨_, rfl⟩
      have hs : foTo f (i + 1) = foS V (foTo f i) (f.nd i) := by rw [← hVV]; rfl
      have hol := foTo_len f i
      rw [hdu, hx] at hs
      rw [hdu] at D0' S0' hol htr
      simp only at hs D0' S0' hol htr
      obtain ⟨zn, hzn⟩ : ∃ zn, now.map sw = zn := ⟨_, rfl⟩
      rw [hzn] at S0'
      obtain ⟨r, hr⟩ : ∃ r, V + o.length = r := ⟨_, rfl⟩
      obtain ⟨l, hl⟩ : ∃ l, renZ now ar = l := ⟨_, rfl⟩
      have hzl : renZ zn ar = l.map sw := by rw [← hzn, renZ_sw, hl]
      have hll : l.length = ar.length := by rw [← hl]; simp [renZ]
      obtain ⟨hfp1, hfp2⟩ := foldP_eq hok r l hll (fo_le l)
      have hcd : ∀ z ∈ renZ zn ar, Cdd z := by
        intro z hz
        rw [hzl, ← hl] at hz
        obtain ⟨y, hy, rfl⟩ := List.mem_map.1 hz
        unfold renZ at hy
        obtain ⟨a, ha, rfl⟩ := List.mem_map.1 hy
        refine Cdd.sw ?_
        rcases htr.cod a (by rw [hVV]; exact harg a ha) with e | e | ⟨j, e, _⟩
        · exact .inl e
        · exact .inr (.inl e)
        · exact .inr (.inr (by rw [e]; omega))
      have hk16 : kq ≤ 16 := by
        obtain ⟨_, b1, _, b3, _, b5, b6⟩ := hok
        have b1' : kd = 0 → ar = [] ∧ kq ≤ 1 := b1
        have b3' : kd ≠ 0 → 1 ≤ ar.length ∧ ar.length ≤ 16 := b3
        have b5' : kd = 4 → 1 ≤ kq ∧ kq ≤ ar.length := b5
        have b6' : kd ≠ 0 → kd ≠ 4 → kq = 0 := b6
        by_cases e0 : kd = 0
        · have := (b1' e0).2; omega
        · by_cases e4 : kd = 4
          · have := (b5' e4).2; have := (b3' e0).2; omega
          · have := b6' e0 e4; omega
      obtain ⟨o2, ho2⟩ : ∃ o2, o ++ (foN r ⟨kd, kq, ar⟩ l).1 = o2 := ⟨_, rfl⟩
      obtain ⟨res, hres⟩ : ∃ res : Int, sw (foN r ⟨kd, kq, ar⟩ l).2 = res := ⟨_, rfl⟩
      obtain ⟨ns, hns⟩ : ∃ ns, V + i = ns := ⟨_, rfl⟩
      rw [hns] at D0' S0' harg ⊢
      have hcall : ∀ (W : World) (D : Dr w5 (fun g => (Value.slice PS ns cS).ownBlock = some g ∨ False) W b V o) (P : Option Addr) (c : Nat) (F : W.ownsRow w5.heap.size 3 1 (.slice P m c) m (VI (renZ zn ar))) (hFZ : ∀ g, (Value.slice P m c).ownBlock = some g → ¬ ((Value.slice PS ns cS).ownBlock = some g ∨ False)), Calls Try.prog 37 #[.pointer (some ⟨b, 0, none⟩), .agg #[.int .i64 (kd : Int), .int .i64 (kq : Int), .slice PA m cA], .slice P m c] W fun e w' => e = .returned (.int .i64 res) ∧ Dr w5 (fun g => (Value.slice PS ns cS).ownBlock = some g ∨ False) w' b V o2 ∧ Dk b W w' := by
        intro W D P c F hFZ
        have hC := dfold_any w5 _ W b V o D hv (by omega) r hr ⟨kd, kq, ar⟩ hok.1 (fun e => (hok.2.1 e).2) hk16 (.slice PA m cA) _ hcd P m c F hm16
        rw [hzl, sw_foR, sw_foU] at hC
        rw [show l.length = m from hll.trans hm] at hfp1 hfp2
        rw [← hfp1, ← hfp2, hres, ho2] at hC
        exact hC
      have hcall := Lib.hid hcall
      have HX := Lib.hid (And.intro hs (And.intro hr (And.intro hl (And.intro ho2 (And.intro hres hzn)))))
      have HA := Lib.hid (And.intro hA' (And.intro hm harg))
      obtain ⟨p, hp⟩ : ∃ p, wo.heap.size = p := ⟨_, rfl⟩
      obtain ⟨wb, hwb⟩ : ∃ wb, wo.alloc (.cells #[.int .i64 0, .int .i64 0, .slice none 0 0] 41) = wb := ⟨_, rfl⟩
      have Nb : Own wb p 41 #[.int .i64 0, .int .i64 0, .slice none 0 0] := by rw [← hwb, ← hp]; exact Own.new _ _ _
      have Pb : On wo wb := by rw [← hwb]; exact (On.refl wo).alloc _
      obtain ⟨wc, hwc⟩ : ∃ wc, ((wb.setCell ⟨p, 0, none⟩ (.int .i64 (kd : Int))).setCell ⟨p, 1, none⟩ (.int .i64 (kq : Int))).setCell ⟨p, 2, none⟩ (.slice PA m cA) = wc := ⟨_, rfl⟩
      have Nc : Own wc p 41 #[.int .i64 (kd : Int), .int .i64 (kq : Int), .slice PA m cA] := by rw [← hwc]; exact ((Nb.set_ 0 _).set_ 1 _).set_ 2 _
      have Pc : On wo wc := by rw [← hwc]; exact On.setCell (On.setCell (On.setCell Pb (p := ⟨p, 0, none⟩) (by show wo.heap.size ≤ p; omega) _) (p := ⟨p, 1, none⟩) (by show wo.heap.size ≤ p; omega) _) (p := ⟨p, 2, none⟩) (by show wo.heap.size ≤ p; omega) _
      obtain ⟨x0, x1, x2⟩ := own3 Nb
      have f0 := Nb.frozen 0
      have f1 := Nb.frozen 1
      have f2 := Nb.frozen 2
      clear Nb Pb
      have D0 := D0'.to Pc
      have S0 := owns_on S0' Pc
      have N0 := Nc
      clear hs hr hl ho2 hres hzn hzl hA' hRA hm harg hok hc0' hc1' hc2' hx hdu D0' S0' Nc Pc htr hfp1 hfp2 hcd hll
      have H0 := Lib.hid (And.intro D0 (And.intro N0 S0))
      clear D0 N0 S0
      go_upto_region 9 with fail
      (try rw [hwc])
      obtain ⟨w9s, hw9s⟩ : ∃ w9s, wc = w9s := ⟨_, rfl⟩
      have D0 := H0.out.1
      have N0 := H0.out.2.1
      have S0 := H0.out.2.2
      rw [hw9s] at D0 N0 S0 ⊢
      have hA : ∀ W, On w5 W → Rd W PA m cA (VI (ints ar)) := fun W k => HA.out.1.on (HO.out.2.2.1.trans (H5.out.1.trans k))
      have harM : ∀ a ∈ ar, a < ns := HA.out.2.2
      clear hc0 hc1 hc2 x0 x1 x2 f0 f1 f2 hwb hwc
      refine wp_region_w (by kernel_rfl) 11 (DF w5 (fun _ => False) w9s b V o o2 res zn PS ns cS kd kq ar PA m cA p) DFEx (DFK w5 (fun _ => False) w9s b V o o2 res zn PS ns cS kd kq ar PA m cA p) [none, none, none, none, none, none, some 6, none, none, none, none, none, none, none, none, none, none, none, none, none, none, none, none, none, none, none, none, none, none, some 29, some 30, some 31, some 32, some 33, some 34, some 35, some 36, some 37, none, none, none, none, none, none, none, none, none, none, none, none, none, none, none, none, none] (by kernel_rfl) (by kernel_rfl) (by kernel_rfl) rfl ?rgDepDF ?rgKeepDF (by decide) ?rgInitDF ?rgOpsDF ?rgDoneDF
      case rgDepDF =>
        intro j9 f1 f2 W hj hd h
        refine DF.dep w5 (fun _ => False) w9s b V o o2 res zn PS ns cS kd kq ar PA m cA p hj ?_ h
        rcases DF.cases hj with rfl | rfl | rfl | rfl | rfl | rfl | rfl | rfl | rfl | rfl | rfl <;> first | (intro d hm; simp at hm; done) | (intro d hm; simp at hm; (try rcases hm with rfl | rfl) <;> (try subst hm) <;> exact hd _ (by kernel_rfl))
      case rgKeepDF =>
        intro i9 j9 f1 W W' hi hj hij hex hw1 hw2 hk h
        unfold DFK at hk
        by_cases h6 : i9 = 6
        · subst h6
          rw [if_pos (by decide)] at hk
          rcases DF.cases hj with rfl | rfl | rfl | rfl | rfl | rfl | rfl | rfl | rfl | rfl | rfl
          · exact h
          · exact h
          · exact h
          · exact h
          · exact h
          · exact absurd rfl hex
          · exact absurd rfl hij
          · exact absurd (hw1.symm.trans (show _ = true by kernel_rfl)) (by decide)
          · exact absurd (hw1.symm.trans (show _ = true by kernel_rfl)) (by decide)
          · exact absurd (hw1.symm.trans (show _ = true by kernel_rfl)) (by decide)
          · exact absurd rfl hex
        by_cases h8 : i9 = 8
        · subst h8
          rw [if_pos (by decide)] at hk
          rcases DF.cases hj with rfl | rfl | rfl | rfl | rfl | rfl | rfl | rfl | rfl | rfl | rfl
          · exact h
          · exact h
          · exact h
          · exact h
          · exact h
          · exact absurd (hw2.symm.trans (show _ = true by kernel_rfl)) (by decide)
          · exact absurd rfl hex
          · exact absurd rfl hex
          · exact absurd rfl hij
          · exact absurd (hw1.symm.trans (show _ = true by kernel_rfl)) (by decide)
          · exact absurd (hw2.symm.trans (show _ = true by kernel_rfl)) (by decide)
        rw [if_neg (by omega)] at hk
        exact DF.on w5 (fun _ => False) w9s b V o o2 res zn PS ns cS kd kq ar PA m cA p hj hk h
      case rgInitDF =>
        intro j9 h1 h2
        have h1' : 10 ≤ j9 := h1
        have h2' : j9 < 11 := h2
        obtain rfl : j9 = 10 := by omega
        · exact ⟨_, ⟨D0, N0, S0, KP.refl _ _ _ _⟩, (On.refl _).drew⟩
      case rgOpsDF =>
        refine ⟨?_, ?_, ?_, ?_, ?_, ?_, ?_, ?_, ?_, ?_, trivial⟩
        · refine fun a W hp => ob_yes rfl (does_value (w' := W) (v := a.eval (.tmp 6)) rfl (DFK.on w5 (fun _ => False) w9s b V o o2 res zn PS ns cS kd kq ar PA m cA p (by decide) (On.refl W)) ((val_eq (by rw [hp.tsize]; exact (show (29 : Nat) < 55 by decide))).trans (show a.eval (.tmp 6) = Value.slice PS ns cS from hp.same 6 (by kernel_rfl))))
        · refine fun a W hp => ob_yes rfl (does_value (w' := W) (v := .agg #[.int .i64 (kd : Int), .int .i64 (kq : Int), .slice PA m cA]) (do_value ?_) (DFK.on w5 (fun _ => False) w9s b V o o2 res zn PS ns cS kd kq ar PA m cA p (by decide) (On.refl W)) (val_eq (by rw [hp.tsize]; exact (show (30 : Nat) < 55 by decide))))
          obtain ⟨W1, ⟨D1, N1, S1, Q1⟩, k1⟩ : ∃ W1 : World, (Dr w5 (fun g => (Value.slice PS ns cS).ownBlock = some g ∨ False) W1 b V o ∧ Own W1 p 41 #[.int .i64 (kd : Int), .int .i64 (kq : Int), .slice PA m cA] ∧ W1.ownsRow w5.heap.size 3 1 (Value.slice PS ns cS) ns (VI zn) ∧ KP w9s W1 b w5 (Value.slice PS ns cS)) ∧ On W1 W := hp.fact 10 (by decide) (.inl (by decide)) (.inr (.inr (by kernel_rfl)))
          obtain ⟨q0, q1, q2⟩ := own3 (N1.on k1)
          clear D1 N1 S1
          (try simp only [List.map_toArray, List.map_cons, List.map_nil])
          rw [show a.eval (.tmp 8) = .pointer (some ⟨p, 0, none⟩) from hp.same 8 (by kernel_rfl)]
          go_simp
          all_goals (rw [IntKind.wrap_i64]; omega)
        · refine fun a W hp => ob_yes rfl (does_value (w' := W) (v := .pointer (some ⟨p, 2, none⟩)) (do_value ?_) (DFK.on w5 (fun _ => False) w9s b V o o2 res zn PS ns cS kd kq ar PA m cA p (by decide) (On.refl W)) (val_eq (by rw [hp.tsize]; exact (show (31 : Nat) < 55 by decide))))
          (try simp only [List.map_toArray, List.map_cons, List.map_nil])
          rw [show a.eval (.tmp 8) = .pointer (some ⟨p, 0, none⟩) from hp.same 8 (by kernel_rfl)]
          go_simp
          all_goals (rw [IntKind.wrap_i64]; omega)
        · refine fun a W hp => ob_yes rfl (does_value (w' := W) (v := .slice PA m cA) (do_value ?_) (DFK.on w5 (fun _ => False) w9s b V o o2 res zn PS ns cS kd kq ar PA m cA p (by decide) (On.refl W)) (val_eq (by rw [hp.tsize]; exact (show (32 : Nat) < 55 by decide))))
          obtain ⟨W1, ⟨D1, N1, S1, Q1⟩, k1⟩ : ∃ W1 : World, (Dr w5 (fun g => (Value.slice PS ns cS).ownBlock = some g ∨ False) W1 b V o ∧ Own W1 p 41 #[.int .i64 (kd : Int), .int .i64 (kq : Int), .slice PA m cA] ∧ W1.ownsRow w5.heap.size 3 1 (Value.slice PS ns cS) ns (VI zn) ∧ KP w9s W1 b w5 (Value.slice PS ns cS)) ∧ On W1 W := hp.fact 10 (by decide) (.inl (by decide)) (.inr (.inr (by kernel_rfl)))
          obtain ⟨q0, q1, q2⟩ := own3 (N1.on k1)
          clear D1 N1 S1
          (try simp only [List.map_toArray, List.map_cons, List.map_nil])
          rw [show a.eval (.tmp 31) = .pointer (some ⟨p, 2, none⟩) from hp.fact 2 (by decide) (.inr (by kernel_rfl)) (.inl (by decide))]
          go_simp
          all_goals (rw [IntKind.wrap_i64]; omega)
        · refine fun a W hp => ob_yes rfl (does_value (w' := W) (v := a.eval (.tmp 6)) rfl (DFK.on w5 (fun _ => False) w9s b V o o2 res zn PS ns cS kd kq ar PA m cA p (by decide) (On.refl W)) ((val_eq (by rw [hp.tsize]; exact (show (33 : Nat) < 55 by decide))).trans (show a.eval (.tmp 6) = Value.slice PS ns cS from hp.same 6 (by kernel_rfl))))
        · refine fun a W hp => ob_yes rfl ?_
          obtain ⟨W1, ⟨D1, N1, S1, Q1⟩, k1⟩ : ∃ W1 : World, (Dr w5 (fun g => (Value.slice PS ns cS).ownBlock = some g ∨ False) W1 b V o ∧ Own W1 p 41 #[.int .i64 (kd : Int), .int .i64 (kq : Int), .slice PA m cA] ∧ W1.ownsRow w5.heap.size 3 1 (Value.slice PS ns cS) ns (VI zn) ∧ KP w9s W1 b w5 (Value.slice PS ns cS)) ∧ On W1 W := hp.fact 10 (by decide) (.inl (by decide)) (.inr (.inr (by kernel_rfl)))
          have D := D1.to k1
          have S := owns_on S1 k1
          have e32 := (show a.eval (.tmp 32) = .slice PA m cA from hp.fact 3 (by decide) (.inr (by kernel_rfl)) (.inl (by decide)))
          have e33 := (show a.eval (.tmp 33) = Value.slice PS ns cS from hp.fact 4 (by decide) (.inr (by kernel_rfl)) (.inl (by decide)))
          simp only [Act.eval, Array.getD_eq_getD_getElem?] at e32 e33
          unfold Does
          go_simp
          (try rw [e32, e33])
          refine (repl_any W W.heap.size (Nat.le_refl _) PA m cA ar (hA W D.on) _ ns cS zn (rd_of_row S) harM (by omega)).mono ?_
          rintro e w9 ⟨P9, c9, rfl, hrow, hP9⟩
          refine ⟨⟨_, rfl⟩, DFK.on w5 (fun _ => False) w9s b V o o2 res zn PS ns cS kd kq ar PA m cA p (by decide) (hP9), ?_⟩
          exact ⟨w9, ⟨P9, c9, val_eq (by rw [hp.tsize]; exact (show (34 : Nat) < 55 by decide)), row_low hrow D.on.size, D.fresh hrow⟩, On.refl _⟩
        · refine fun a W hp => ob_yes rfl ?_
          obtain ⟨W1, ⟨D1, N1, S1, Q1⟩, k1⟩ : ∃ W1 : World, (Dr w5 (fun g => (Value.slice PS ns cS).ownBlock = some g ∨ False) W1 b V o ∧ Own W1 p 41 #[.int .i64 (kd : Int), .int .i64 (kq : Int), .slice PA m cA] ∧ W1.ownsRow w5.heap.size 3 1 (Value.slice PS ns cS) ns (VI zn) ∧ KP w9s W1 b w5 (Value.slice PS ns cS)) ∧ On W1 W := hp.fact 10 (by decide) (.inl (by decide)) (.inr (.inl rfl))
          have D := D1.to k1
          have S := owns_on S1 k1
          obtain ⟨W2, ⟨P9, c9, g33, hrow, hnz⟩, k2⟩ : ∃ W2 : World, (∃ P c, slv a 34 = .slice P m c ∧ W2.ownsRow w5.heap.size 3 1 (.slice P m c) m (VI (renZ zn ar)) ∧ ∀ g, (Value.slice P m c).ownBlock = some g → ¬ ((Value.slice PS ns cS).ownBlock = some g ∨ False)) ∧ On W2 W := hp.fact 5 (by decide) (.inr (by kernel_rfl)) (.inr (.inl rfl))
          have erp : a.eval (.tmp 34) = .slice P9 m c9 := g33
          have e5 := (show a.eval (.tmp 5) = .pointer (some ⟨b, 0, none⟩) from hp.same 5 (by kernel_rfl))
          have e30 := (show a.eval (.tmp 30) = .agg #[.int .i64 (kd : Int), .int .i64 (kq : Int), .slice PA m cA] from hp.fact 1 (by decide) (.inr (by kernel_rfl)) (.inl (by decide)))
          simp only [Act.eval, Array.getD_eq_getD_getElem?] at e5 e30 erp
          unfold Does
          go_simp
          (try rw [e5, e30, erp])
          refine (hcall.out W D P9 c9 (owns_on hrow k2) hnz).mono ?_
          rintro e w9 ⟨rfl, D9, K9⟩
          refine ⟨⟨_, rfl⟩, DFK.sp w5 (fun _ => False) w9s b V o o2 res zn PS ns cS kd kq ar PA m cA p (by decide) (id), ?_⟩
          exact ⟨w9, ⟨val_eq (by rw [hp.tsize]; exact (show (35 : Nat) < 55 by decide)), D9, D.ints K9 S, (Q1.to D1.lt k1).dk D K9⟩, On.refl _⟩
        · refine fun a W hp => ?_
          obtain ⟨W1, ⟨gc, D1, S1, Q1⟩, k1⟩ : ∃ W1 : World, (slv a 35 = .int .i64 res ∧ Dr w5 (fun g => (Value.slice PS ns cS).ownBlock = some g ∨ False) W1 b V o2 ∧ W1.ownsRow w5.heap.size 3 1 (Value.slice PS ns cS) ns (VI zn) ∧ KP w9s W1 b w5 (Value.slice PS ns cS)) ∧ On W1 W := hp.fact 6 (by decide) (.inr (by kernel_rfl)) (.inr (.inr (by kernel_rfl)))
          refine ob_yes rfl (does_value (w' := W.alloc (.cells #[.int .i64 res] 3)) (v := .slice (some ⟨W.heap.size, 0, none⟩) 1 1) (do_value ?_) (DFK.on w5 (fun _ => False) w9s b V o o2 res zn PS ns cS kd kq ar PA m cA p (by decide) ((On.refl W).alloc _)) ⟨_, ⟨W.heap.size, val_eq (by rw [hp.tsize]; exact (show (36 : Nat) < 55 by decide)), Own.new _ _ _⟩, On.refl _⟩)
          (try simp only [List.map_toArray, List.map_cons, List.map_nil])
          rw [show a.eval (.tmp 35) = _ from gc]
          go_simp
        · refine fun a W hp => ?_
          obtain ⟨W1, ⟨gc, D1, S1, Q1⟩, k1⟩ : ∃ W1 : World, (slv a 35 = .int .i64 res ∧ Dr w5 (fun g => (Value.slice PS ns cS).ownBlock = some g ∨ False) W1 b V o2 ∧ W1.ownsRow w5.heap.size 3 1 (Value.slice PS ns cS) ns (VI zn) ∧ KP w9s W1 b w5 (Value.slice PS ns cS)) ∧ On W1 W := hp.fact 6 (by decide) (.inr (by kernel_rfl)) (.inr (.inl rfl))
          obtain ⟨W2, ⟨e9, ge, hE⟩, k2⟩ : ∃ W2 : World, (∃ e : Nat, slv a 36 = .slice (some ⟨e, 0, none⟩) 1 1 ∧ Own W2 e 3 #[.int .i64 res]) ∧ On W2 W := hp.fact 7 (by decide) (.inr (by kernel_rfl)) (.inr (.inl rfl))
          have D := D1.to k1
          have S := owns_on S1 k1
          have gs : a.eval (.tmp 29) = Value.slice PS ns cS := hp.fact 0 (by decide) (.inr (by kernel_rfl)) (.inl (by decide))
          have hRd : Rd W (some ⟨e9, 0, none⟩) 1 1 [.int .i64 res] := by
            have := rd_of_row (owns_blk (base := 0) (l := [.int .i64 res]) (hE.on k2) (by omega) (n := 1) rfl (by omega))
            exact this
          obtain ⟨v', w9, hrun, hrow, hgb, hob⟩ := run_app (P := Try.prog) W w5.heap.size 39 39 3 (.int .i64 0) 8 Try.underlying39 infoi rfl (by decide) (Value.slice PS ns cS) ns (VI zn) S (some ⟨e9, 0, none⟩) 1 1 [.int .i64 res] hRd (by simp [Value.oneCell']) (by omega) D.on.size
          have hL : VI zn ++ [Value.int .i64 res] = VI (zn ++ [res]) := by simp [VI]
          rw [hL] at hrow
          obtain ⟨PT, cT, rfl⟩ := row_form hrow
          refine ob_yes rfl (doesv_app (.tmp 29) (.tmp 36) 39 39 rfl _ _ gs ge _ w9 hrun ⟨DFK.sp w5 (fun _ => False) w9s b V o o2 res zn PS ns cS kd kq ar PA m cA p (by decide) id, w9, ⟨PT, cT, val_eq (by rw [hp.tsize]; exact (show (37 : Nat) < 55 by decide)), ?_, hrow, (Q1.to D1.lt k1).app D S hgb, fun g1 e => ?_⟩, On.refl _⟩)
          rotate_left
          · rcases hob with e2 | e2
            · exact .inl (e2.symm.trans e)
            · rw [e2] at e; injection e with e; subst e
              exact .inr (Q1.to D1.lt k1).1
          refine D.app S hgb (fun g1 e => .inl e) (fun g1 e => ?_)
          rcases e with e | e
          · rcases hob with e2 | e2
            · exact .inl (.inl (e2.symm.trans e))
            · rw [e2] at e; injection e with e; subst e
              exact .inr ⟨Nat.le_refl _, (row_blk hrow e2).2.1⟩
          · exact .inl (.inr e)
        · refine fun a W hp => ?_
          obtain ⟨W1, ⟨PT, cT, gt, h1, h2, h3⟩, k1⟩ : ∃ W1 : World, (∃ PT cT, slv a 37 = .slice PT (ns + 1) cT ∧ Dr w5 (fun g => (Value.slice PT (ns + 1) cT).ownBlock = some g ∨ False) W1 b V o2 ∧ W1.ownsRow w5.heap.size 3 1 (.slice PT (ns + 1) cT) (ns + 1) (VI (zn ++ [res])) ∧ KP w9s W1 b w5 (Value.slice PS ns cS) ∧ NB w9s (Value.slice PS ns cS) (.slice PT (ns + 1) cT)) ∧ On W1 W := hp.fact 8 (by decide) (.inr (by kernel_rfl)) (.inl (by decide))
          exact ob_yes rfl (does_value (w' := W) (v := slv a 37) rfl (DFK.on w5 (fun _ => False) w9s b V o o2 res zn PS ns cS kd kq ar PA m cA p (by decide) (On.refl W)) ⟨W1, ⟨PT, cT, (val_eq (by rw [hp.tsize]; exact (show (6 : Nat) < 55 by decide))).trans gt, h1, h2, h3⟩, k1⟩)
      case rgDoneDF =>
        intro fv w9 hf
        obtain ⟨W1, ⟨PT, cT, gt, hD, hrow, hK, hNB⟩, k1⟩ : ∃ W1 : World, (∃ PT cT, fv 6 = .slice PT (ns + 1) cT ∧ Dr w5 (fun g => (Value.slice PT (ns + 1) cT).ownBlock = some g ∨ False) W1 b V o2 ∧ W1.ownsRow w5.heap.size 3 1 (.slice PT (ns + 1) cT) (ns + 1) (VI (zn ++ [res])) ∧ KP w9s W1 b w5 (Value.slice PS ns cS) ∧ NB w9s (Value.slice PS ns cS) (.slice PT (ns + 1) cT)) ∧ On W1 w9 := hf 9 (by decide) (by decide)
        clear hf
        simp only [fillL, gt]
        have D9 := hD.to k1
        have S9 := owns_on hrow k1
        have K9 := hK.to hD.lt k1
        clear hrow hD k1 gt hK
        have HD9 := Lib.hid (And.intro D9 S9)
        clear D9 S9 K9 D0 N0 S0 hA harM
        go_wp2
        go_roundw
        case rel =>
          have e : foTo f (i + 1) = (o2, now ++ [(foN r ⟨kd, kq, ar⟩ l).2]) := by rw [HX.out.1]; unfold foS; simp only; rw [HX.out.2.1, HX.out.2.2.1, HX.out.2.2.2.1]
          refine ⟨i + 1, by omega, by go_num, PT, cT, by rw [← hns]; rfl, by rw [e, ← Nat.add_assoc, hns]; exact HD9.out.1, ?_⟩
          rw [e, ← Nat.add_assoc, hns]
          have e2 : zn ++ [res] = (now ++ [(foN r ⟨kd, kq, ar⟩ l).2]).map sw := by rw [List.map_append, HX.out.2.2.2.2.2, List.map_cons, List.map_nil, HX.out.2.2.2.2.1]
          simp only
          rw [← e2]; exact HD9.out.2
        case measure => simp [intOf] <;> omega
    · obtain rfl : i = n := by omega
      have htm : tp < V + i := htop
      have hol := foTo_len f i
      obtain ⟨gS, rfl⟩ := row_some S0' (by omega)
      have htc : topC f = (foTo f i).2.getD tp 0 := by unfold topC; rw [HF.out.2, htp]
      have hcz := row_cellZ S0' htm (v := sw (topC f)) (by rw [htc]; simp only [List.getD_eq_getElem?_getD, List.getElem?_map]; cases (foTo f i).2[tp]? <;> rfl)
      have hcs := topC_cases HF.out.1
      have O9 := H5.out.2.1.on D0'.on
      obtain ⟨q0, q1, q2⟩ := own3 O9
      have C9 := HO.out.2.1.on (H5.out.1.trans D0'.on)
      have hcap5 := (rd_of_row S0').cap
      have hmax5 := (rd_of_row S0').max
      have Pwo := HO.out.2.2.1.trans (H5.out.1.trans D0'.on)
      have hqs : w.heap.size ≤ q + 1 := by omega
      have hqb := C9.lt
      have hokl := htr.ok
      rw [hVV] at hokl
      obtain ⟨o, ho⟩ : ∃ o, (foTo f i).1 = o := ⟨_, rfl⟩
      rw [ho] at D0' hokl hol
      have hsz9 := D0'.on.size
      have hfo : fold f = if topC f = -2 then constF V true else if topC f = -1 then constF V false else trim (foldF f (topC f).toNat) := by unfold fold; rw [hVV]
      have hfF : ∀ c, foldF f c = ⟨V, o, c⟩ := fun c => by unfold foldF; rw [HF.out.2, hVV, ho]
      have hwF : ∀ c : Nat, topC f = (c : Int) → WFb (2 * f.nodes.length) ⟨V, o, c⟩ := fun c h => by rw [← hfF]; exact foldF_wf HF.out.1 h
      obtain ⟨tc, htce⟩ : ∃ tc, topC f = tc := ⟨_, rfl⟩
      rw [htce] at hcz hcs hfo hwF
      have HW := Lib.hid (And.intro C9 (And.intro Pwo (And.intro hfo (And.intro hfF (And.intro hwF hokl)))))
      clear S0' C9 Pwo O9 hfo hfF hwF htc htce htr hokl ho
      rcases hcs with rfl | rfl | ⟨cc, rfl⟩
      · have hfe : fold f = ⟨V, [⟨0, 0, []⟩], V⟩ := by rw [HW.out.2.2.1, if_neg (by decide), if_pos rfl]; rfl
        obtain ⟨r, hr⟩ : ∃ r, V + o.length = r := ⟨_, rfl⟩
        have hwf : WFb 300 ⟨V, o ++ [⟨0, 0, []⟩], r⟩ := (HW.out.2.2.2.2.2.snoc (okN_const (by omega))).wf hv (by rw [List.length_append, List.length_singleton]; omega) (by rw [List.length_append, List.length_singleton, ← hr]; omega)
        have htrc := trim_const (V := V) (k := 0) (o := o)
        rw [hr] at htrc
        simp only [show sw (-1) = -2 from rfl] at hcz
        have hC := dadd0 w5 _ wo b V o D0' hv (by omega) r hr 0 0 0 0 rfl rfl
        clear D0'
        go_wp2_with fail
        refine hC.mono ?_
        rintro e w7 ⟨rfl, D7, K7⟩
        clear hC hcz q0 q1 q2
        have hsz7 := D7.on.size
        have C7 := HO.out.2.1.on (H5.out.1.trans D7.on)
        have P7 := HO.out.2.2.1.trans (H5.out.1.trans D7.on)
        have hC := dtrim_any (N := 300) (by decide) w5 _ w7 b V _ D7 r hwf
        rw [htrc, ← hfe] at hC
        have HY := Lib.hid (And.intro C7 P7)
        clear D7 K7 C7 P7 hwf htrc hfe hr
        go_wp2_with fail
        refine hC.mono ?_
        rintro e w8 ⟨hMP, P8'⟩
        clear hC
        have hqb7 : q + 1 < w7.heap.size := HY.out.1.lt
        have C8 := HY.out.1.on P8'
        have P8 := HY.out.2.trans P8'
        obtain ⟨e0, e1, e2⟩ := own3 C8
        have g0 := C8.frozen 0
        have g1 := C8.frozen 1
        have g2 := C8.frozen 2
        rcases hMP with ⟨hle, A', c', rfl, hRR⟩ | ⟨hgt2, rfl⟩
        · obtain ⟨tv, htv⟩ : ∃ z, (fold f).vars = z := ⟨_, rfl⟩
          obtain ⟨tt, htt⟩ : ∃ z, (fold f).top = z := ⟨_, rfl⟩
          obtain ⟨tn, htn⟩ : ∃ z, (fold f).nodes.length = z := ⟨_, rfl⟩
          have HT := Lib.hid (And.intro htv (And.intro htt htn))
          rw [htv, htt, htn]
          rw [htn] at hRR hle
          clear htv htt htn
          have OF := ((C8.set_ 0 (.int .i64 (tv : Int))).set_ 1 (.slice A' tn c')).set_ 2 (.int .i64 (tt : Int))
          obtain ⟨x0, x1, x2⟩ := own3 (show Own _ (q + 1) 24 #[.int .i64 (tv : Int), .slice A' tn c', .int .i64 (tt : Int)] from OF)
          have P9 := On.setCell (On.setCell (On.setCell P8 (p := ⟨q + 1, 0, none⟩) hqs (.int .i64 (tv : Int))) (p := ⟨q + 1, 1, none⟩) hqs (.slice A' tn c')) (p := ⟨q + 1, 2, none⟩) hqs (.int .i64 (tt : Int))
          have R9 := ((hRR.far (p := ⟨q + 1, 0, none⟩) hqb7 (.int .i64 (tv : Int))).far (p := ⟨q + 1, 1, none⟩) hqb7 (.slice A' tn c')).far (p := ⟨q + 1, 2, none⟩) hqb7 (.int .i64 (tt : Int))
          have HZ := Lib.hid (And.intro hle (And.intro P9 R9))
          clear OF P9 hle C8 R9 hRR P8
          go_wp2
          refine bodyPost_ret (v := .tuple #[.agg #[.int .i64 (tv : Int), .slice A' tn c', .int .i64 (tt : Int)], .nilIface]) (by simp [results, Try.results17, go_sem, x0, x1, x2]) rfl ⟨.inl ?_, HZ.out.2.1⟩
          rw [HT.out.1, HT.out.2.1, HT.out.2.2]
          exact ⟨HZ.out.1, A', c', rfl, HZ.out.2.2.rd.2⟩
        · have OF := ((C8.set_ 0 (.int .i64 0)).set_ 1 (.slice none 0 0)).set_ 2 (.int .i64 0)
          obtain ⟨x0, x1, x2⟩ := own3 (show Own _ (q + 1) 24 #[.int .i64 0, .slice none 0 0, .int .i64 0] from OF)
          have P9 := On.setCell (On.setCell (On.setCell P8 (p := ⟨q + 1, 0, none⟩) hqs (.int .i64 0)) (p := ⟨q + 1, 1, none⟩) hqs (.slice none 0 0)) (p := ⟨q + 1, 2, none⟩) hqs (.int .i64 0)
          have HZ := Lib.hid (And.intro hgt2 P9)
          clear OF P9 hgt2 C8 P8
          rw [errV_pos 4 (by decide)]
          go_wp2
          refine bodyPost_ret (v := .tuple #[.agg #[.int .i64 0, .slice none 0 0, .int .i64 0], errV 4]) (by rw [errV_pos 4 (by decide)]; simp [results, Try.results17, go_sem, x0, x1, x2]) rfl ⟨.inr ⟨HZ.out.1, rfl⟩, HZ.out.2⟩
      · have hfe : fold f = ⟨V, [⟨0, 1, []⟩], V⟩ := by rw [HW.out.2.2.1, if_pos rfl]; rfl
        obtain ⟨r, hr⟩ : ∃ r, V + o.length = r := ⟨_, rfl⟩
        have hwf : WFb 300 ⟨V, o ++ [⟨0, 1, []⟩], r⟩ := (HW.out.2.2.2.2.2.snoc (okN_const (by omega))).wf hv (by rw [List.length_append, List.length_singleton]; omega) (by rw [List.length_append, List.length_singleton, ← hr]; omega)
        have htrc := trim_const (V := V) (k := 1) (o := o)
        rw [hr] at htrc
        simp only [show sw (-2) = -1 from rfl] at hcz
        have hC := dadd0 w5 _ wo b V o D0' hv (by omega) r hr 0 1 0 1 rfl rfl
        clear D0'
        go_wp2_with fail
        refine hC.mono ?_
        rintro e w7 ⟨rfl, D7, K7⟩
        clear hC hcz q0 q1 q2
        have hsz7 := D7.on.size
        have C7 := HO.out.2.1.on (H5.out.1.trans D7.on)
        have P7 := HO.out.2.2.1.trans (H5.out.1.trans D7.on)
        have hC := dtrim_any (N := 300) (by decide) w5 _ w7 b V _ D7 r hwf
        rw [htrc, ← hfe] at hC
        have HY := Lib.hid (And.intro C7 P7)
        clear D7 K7 C7 P7 hwf htrc hfe hr
        go_wp2_with fail
        refine hC.mono ?_
        rintro e w8 ⟨hMP, P8'⟩
        clear hC
        have hqb7 : q + 1 < w7.heap.size := HY.out.1.lt
        have C8 := HY.out.1.on P8'
        have P8 := HY.out.2.trans P8'
        obtain ⟨e0, e1, e2⟩ := own3 C8
        have g0 := C8.frozen 0
        have g1 := C8.frozen 1
        have g2 := C8.frozen 2
        rcases hMP with ⟨hle, A', c', rfl, hRR⟩ | ⟨hgt2, rfl⟩
        · obtain ⟨tv, htv⟩ : ∃ z, (fold f).vars = z := ⟨_, rfl⟩
          obtain ⟨tt, htt⟩ : ∃ z, (fold f).top = z := ⟨_, rfl⟩
          obtain ⟨tn, htn⟩ : ∃ z, (fold f).nodes.length = z := ⟨_, rfl⟩
          have HT := Lib.hid (And.intro htv (And.intro htt htn))
          rw [htv, htt, htn]
          rw [htn] at hRR hle
          clear htv htt htn
          have OF := ((C8.set_ 0 (.int .i64 (tv : Int))).set_ 1 (.slice A' tn c')).set_ 2 (.int .i64 (tt : Int))
          obtain ⟨x0, x1, x2⟩ := own3 (show Own _ (q + 1) 24 #[.int .i64 (tv : Int), .slice A' tn c', .int .i64 (tt : Int)] from OF)
          have P9 := On.setCell (On.setCell (On.setCell P8 (p := ⟨q + 1, 0, none⟩) hqs (.int .i64 (tv : Int))) (p := ⟨q + 1, 1, none⟩) hqs (.slice A' tn c')) (p := ⟨q + 1, 2, none⟩) hqs (.int .i64 (tt : Int))
          have R9 := ((hRR.far (p := ⟨q + 1, 0, none⟩) hqb7 (.int .i64 (tv : Int))).far (p := ⟨q + 1, 1, none⟩) hqb7 (.slice A' tn c')).far (p := ⟨q + 1, 2, none⟩) hqb7 (.int .i64 (tt : Int))
          have HZ := Lib.hid (And.intro hle (And.intro P9 R9))
          clear OF P9 hle C8 R9 hRR P8
          go_wp2
          refine bodyPost_ret (v := .tuple #[.agg #[.int .i64 (tv : Int), .slice A' tn c', .int .i64 (tt : Int)], .nilIface]) (by simp [results, Try.results17, go_sem, x0, x1, x2]) rfl ⟨.inl ?_, HZ.out.2.1⟩
          rw [HT.out.1, HT.out.2.1, HT.out.2.2]
          exact ⟨HZ.out.1, A', c', rfl, HZ.out.2.2.rd.2⟩
        · have OF := ((C8.set_ 0 (.int .i64 0)).set_ 1 (.slice none 0 0)).set_ 2 (.int .i64 0)
          obtain ⟨x0, x1, x2⟩ := own3 (show Own _ (q + 1) 24 #[.int .i64 0, .slice none 0 0, .int .i64 0] from OF)
          have P9 := On.setCell (On.setCell (On.setCell P8 (p := ⟨q + 1, 0, none⟩) hqs (.int .i64 0)) (p := ⟨q + 1, 1, none⟩) hqs (.slice none 0 0)) (p := ⟨q + 1, 2, none⟩) hqs (.int .i64 0)
          have HZ := Lib.hid (And.intro hgt2 P9)
          clear OF P9 hgt2 C8 P8
          rw [errV_pos 4 (by decide)]
          go_wp2
          refine bodyPost_ret (v := .tuple #[.agg #[.int .i64 0, .slice none 0 0, .int .i64 0], errV 4]) (by rw [errV_pos 4 (by decide)]; simp [results, Try.results17, go_sem, x0, x1, x2]) rfl ⟨.inr ⟨HZ.out.1, rfl⟩, HZ.out.2⟩
      · have hfe : fold f = trim ⟨V, o, cc⟩ := by rw [HW.out.2.2.1, if_neg (by omega), if_neg (by omega), HW.out.2.2.2.1, Int.toNat_natCast]
        rw [sw_nat] at hcz
        have hn1 : ¬ (cc : Int) = -1 := by omega
        have hn2 : ¬ (cc : Int) = -2 := by omega
        have hwf := HW.out.2.2.2.2.1 cc rfl
        have hC := dtrim_any (N := 2 * f.nodes.length) (by rw [HF.out.2]; omega) w5 _ wo b V _ D0' cc hwf
        rw [← hfe] at hC
        clear D0' hwf hfe
        go_wp2_with fail
        refine hC.mono ?_
        rintro e w8 ⟨hMP, P8'⟩
        clear hC hcz q0 q1 q2
        have C8 := HW.out.1.on P8'
        have P8 := HW.out.2.1.trans P8'
        obtain ⟨e0, e1, e2⟩ := own3 C8
        have g0 := C8.frozen 0
        have g1 := C8.frozen 1
        have g2 := C8.frozen 2
        rcases hMP with ⟨hle, A', c', rfl, hRR⟩ | ⟨hgt2, rfl⟩
        · obtain ⟨tv, htv⟩ : ∃ z, (fold f).vars = z := ⟨_, rfl⟩
          obtain ⟨tt, htt⟩ : ∃ z, (fold f).top = z := ⟨_, rfl⟩
          obtain ⟨tn, htn⟩ : ∃ z, (fold f).nodes.length = z := ⟨_, rfl⟩
          have HT := Lib.hid (And.intro htv (And.intro htt htn))
          rw [htv, htt, htn]
          rw [htn] at hRR hle
          clear htv htt htn
          have OF := ((C8.set_ 0 (.int .i64 (tv : Int))).set_ 1 (.slice A' tn c')).set_ 2 (.int .i64 (tt : Int))
          obtain ⟨x0, x1, x2⟩ := own3 (show Own _ (q + 1) 24 #[.int .i64 (tv : Int), .slice A' tn c', .int .i64 (tt : Int)] from OF)
          have P9 := On.setCell (On.setCell (On.setCell P8 (p := ⟨q + 1, 0, none⟩) hqs (.int .i64 (tv : Int))) (p := ⟨q + 1, 1, none⟩) hqs (.slice A' tn c')) (p := ⟨q + 1, 2, none⟩) hqs (.int .i64 (tt : Int))
          have R9 := ((hRR.far (p := ⟨q + 1, 0, none⟩) hqb (.int .i64 (tv : Int))).far (p := ⟨q + 1, 1, none⟩) hqb (.slice A' tn c')).far (p := ⟨q + 1, 2, none⟩) hqb (.int .i64 (tt : Int))
          have HZ := Lib.hid (And.intro hle (And.intro P9 R9))
          clear OF P9 hle C8 R9 hRR P8
          go_wp2
          refine bodyPost_ret (v := .tuple #[.agg #[.int .i64 (tv : Int), .slice A' tn c', .int .i64 (tt : Int)], .nilIface]) (by simp [results, Try.results17, go_sem, x0, x1, x2]) rfl ⟨.inl ?_, HZ.out.2.1⟩
          rw [HT.out.1, HT.out.2.1, HT.out.2.2]
          exact ⟨HZ.out.1, A', c', rfl, HZ.out.2.2.rd.2⟩
        · have OF := ((C8.set_ 0 (.int .i64 0)).set_ 1 (.slice none 0 0)).set_ 2 (.int .i64 0)
          obtain ⟨x0, x1, x2⟩ := own3 (show Own _ (q + 1) 24 #[.int .i64 0, .slice none 0 0, .int .i64 0] from OF)
          have P9 := On.setCell (On.setCell (On.setCell P8 (p := ⟨q + 1, 0, none⟩) hqs (.int .i64 0)) (p := ⟨q + 1, 1, none⟩) hqs (.slice none 0 0)) (p := ⟨q + 1, 2, none⟩) hqs (.int .i64 0)
          have HZ := Lib.hid (And.intro hgt2 P9)
          clear OF P9 hgt2 C8 P8
          rw [errV_pos 4 (by decide)]
          go_wp2
          refine bodyPost_ret (v := .tuple #[.agg #[.int .i64 0, .slice none 0 0, .int .i64 0], errV 4]) (by rw [errV_pos 4 (by decide)]; simp [results, Try.results17, go_sem, x0, x1, x2]) rfl ⟨.inr ⟨HZ.out.1, rfl⟩, HZ.out.2⟩
end Go.Proofs.Ytmkogcaafkobaaa.Fm
