/-
  Rows of nodes as lists of cells: append of many nodes to a row; what is needed where a region that draws its order does so.
-/
import Derived.Test.YtmkogcaafkobaaaFm
import Derived.Test.YtmkogcaafkobaaaFq
import Derived.Test.YtmkogcaafkobaaaRi
namespace Go.Proofs.Ytmkogcaafkobaaa.Fm
open Go.RowKit Go.Proofs.Ytmkogcaafkobaaa.Sb Go.Proofs.Ytmkogcaafkobaaa.Rg
set_option linter.unusedVariables false
set_option maxRecDepth 100000
/-- the cells of the nodes xs, whose arguments read in w -/
def NIn (w : World) (cells : List Value) (xs : List Nd) : Prop :=
  cells.length = xs.length * 3 ∧ ∀ k, k < xs.length → ∃ (P : Option Addr) (m c : Nat), cells[k * 3]? = some (.int .i64 (xs.getD k Nd.z).kind) ∧ cells[k * 3 + 1]? = some (.int .i64 (xs.getD k Nd.z).k) ∧ cells[k * 3 + 2]? = some (.slice P m c) ∧ Rd w P m c (VI (xs.getD k Nd.z).args)
theorem NIn.nil_ (w : World) : NIn w [] [] := ⟨rfl, fun k h => by simp at h⟩
theorem NIn.on {w w' : World} {cells : List Value} {xs : List Nd} (h : NIn w cells xs) (k : On w w') : NIn w' cells xs :=
  ⟨h.1, fun j hj => by obtain ⟨P, m, c, h1, h2, h3, h4⟩ := h.2 j hj; exact ⟨P, m, c, h1, h2, h3, h4.on k⟩⟩
theorem NIn.one {w : World} {x : Nd} {P : Option Addr} {m c : Nat} (h : Rd w P m c (VI x.args)) : NIn w [.int .i64 x.kind, .int .i64 x.k, .slice P m c] [x] :=
  ⟨rfl, fun k hk => by
    obtain rfl : k = 0 := by simp at hk; exact hk
    exact ⟨P, m, c, rfl, rfl, rfl, h⟩⟩
theorem NIn.app {w : World} {c1 c2 : List Value} {xs ys : List Nd} (h : NIn w c1 xs) (h' : NIn w c2 ys) : NIn w (c1 ++ c2) (xs ++ ys) := by
  refine ⟨by rw [List.length_append, List.length_append, h.1, h'.1, Nat.add_mul], fun k hk => ?_⟩
  have hl := h.1
  by_cases hlt : k < xs.length
  · obtain ⟨P, m, c, q1, q2, q3, q4⟩ := h.2 k hlt
    have e : (xs ++ ys).getD k Nd.z = xs.getD k Nd.z := by rw [List.getD_eq_getElem?_getD, List.getElem?_append_left hlt, List.getD_eq_getElem?_getD]
    rw [e]
    exact ⟨P, m, c, by rw [List.getElem?_append_left (by omega)]; exact q1, by rw [List.getElem?_append_left (by omega)]; exact q2, by rw [List.getElem?_append_left (by omega)]; exact q3, q4⟩
  · rw [List.length_append] at hk
    obtain ⟨P, m, c, q1, q2, q3, q4⟩ := h'.2 (k - xs.length) (by omega)
    have e : (xs ++ ys).getD k Nd.z = ys.getD (k - xs.length) Nd.z := by rw [List.getD_eq_getElem?_getD, List.getElem?_append_right (by omega), List.getD_eq_getElem?_getD]
    rw [e]
    have e3 : (k - xs.length) * 3 = k * 3 - c1.length := by rw [hl, Nat.sub_mul]
    rw [e3] at q1 q2 q3
    exact ⟨P, m, c, by rw [List.getElem?_append_right (by omega)]; exact q1, by rw [List.getElem?_append_right (by omega), show k * 3 + 1 - c1.length = k * 3 - c1.length + 1 by omega]; exact q2, by rw [List.getElem?_append_right (by omega), show k * 3 + 2 - c1.length = k * 3 - c1.length + 2 by omega]; exact q3, q4⟩
theorem pick_lt9 {α : Type} (d : α) {l : Nat} {p : Nat → α → Prop} (h : ∀ i, i < l → ∃ x, p i x) : ∃ F : Nat → α, ∀ i, i < l → p i (F i) := by
  classical
  exact ⟨fun i => if hi : i < l then Classical.choose (h i hi) else d, fun i hi => by simp only [dif_pos hi]; exact Classical.choose_spec (h i hi)⟩
/-- a slice of nodes, as cells -/
theorem nin_of {w : World} {A : Option Addr} {n c : Nat} {xs : List Nd} (h : RdN w A n c xs) (ad : Addr) (hA : 0 < n → A = some ad) :
    ∃ cells, NIn w cells xs ∧ (∀ j u, cells[j]? = some u → w.cell? (ad.add j) = some u) ∧ ∀ u ∈ cells, u.oneCell' = true := by
  have hl := h.len
  have hx : ∀ j, j < n → ∃ t : Option Addr × Nat × Nat, w.cell? (ad.add (j * 3)) = some (.int .i64 (xs.getD j Nd.z).kind) ∧ w.cell? (ad.add (j * 3 + 1)) = some (.int .i64 (xs.getD j Nd.z).k) ∧ w.cell? (ad.add (j * 3 + 2)) = some (.slice t.1 t.2.1 t.2.2) ∧ Rd w t.1 t.2.1 t.2.2 (VI (xs.getD j Nd.z).args) := by
    intro j hj
    obtain ⟨ad', e, hb, P, m, k, h1, h2, h3, h4⟩ := h.at_ j hj
    have : ad' = ad := by have := hA (by omega); rw [e] at this; injection this
    subst this
    refine ⟨(P, m, k), h1, ?_, ?_, h4⟩
    · rw [← add_of_add]; exact h2
    · rw [← add_of_add]; exact h3
  obtain ⟨F, hF⟩ := pick_lt9 (none, 0, 0) hx
  have hdiv : ∀ j r, r < 3 → (j * 3 + r) / 3 = j ∧ (j * 3 + r) % 3 = r := fun j r hr => by omega
  refine ⟨(List.range (n * 3)).map fun i => if i % 3 = 0 then .int .i64 (xs.getD (i / 3) Nd.z).kind else if i % 3 = 1 then .int .i64 (xs.getD (i / 3) Nd.z).k else .slice (F (i / 3)).1 (F (i / 3)).2.1 (F (i / 3)).2.2, ⟨by rw [List.length_map, List.length_range, hl], fun k hk => ?_⟩, fun j u hu => ?_, fun u hu => ?_⟩
  · have hk' : k < n := by omega
    obtain ⟨h1, h2, h3, h4⟩ := hF k hk'
    have g : ∀ r, r < 3 → (List.range (n * 3))[k * 3 + r]? = some (k * 3 + r) := fun r hr => List.getElem?_range (by omega)
    have d0 := hdiv k 0 (by omega)
    have d1 := hdiv k 1 (by omega)
    have d2 := hdiv k 2 (by omega)
    have g0 := g 0 (by omega)
    simp only [Nat.add_zero] at d0 g0
    refine ⟨(F k).1, (F k).2.1, (F k).2.2, ?_, ?_, ?_, h4⟩
    · rw [List.getElem?_map, g0]; simp [d0.1, d0.2]
    · rw [List.getElem?_map, g 1 (by omega)]; simp [d1.1, d1.2]
    · rw [List.getElem?_map, g 2 (by omega)]; simp [d2.1, d2.2]
  · rw [List.getElem?_map] at hu
    have hj : j < n * 3 := by
      rcases Nat.lt_or_ge j (n * 3) with hh | hh
      · exact hh
      · rw [List.getElem?_eq_none (by rw [List.length_range]; exact hh)] at hu; cases hu
    rw [List.getElem?_range hj] at hu
    simp only [Option.map_some, Option.some.injEq] at hu
    obtain ⟨h1, h2, h3, h4⟩ := hF (j / 3) (by omega)
    have hm : j % 3 = 0 ∨ j % 3 = 1 ∨ j % 3 = 2 := by omega
    rw [← hu]
    rcases hm with hm | hm | hm
    · rw [if_pos hm, ← h1]; congr 2; omega
    · rw [if_neg (by omega), if_pos hm, ← h2]; congr 2; omega
    · rw [if_neg (by omega), if_neg (by omega), ← h3]; congr 2; omega
  · obtain ⟨i, _, rfl⟩ := List.mem_map.1 hu
    split
    · rfl
    · split <;> rfl
/-- a row of the call's own whose cells are those of nodes -/
theorem rdn_of {w : World} {base : Nat} {e : TypeId} {v : Value} {n : Nat} {cells : List Value} {xs : List Nd} (h : w.ownsRow base e 3 v n cells) (hN : NIn w cells xs) (hl : xs.length = n) : ∃ A c, v = .slice A n c ∧ RdN w A n c xs := by
  rcases h.2 with ⟨hv, h0⟩ | ⟨g, cap, cur, hv, hb, hh, hcap, hmax, hsz, htake⟩
  · subst h0
    obtain rfl : xs = [] := List.length_eq_zero_iff.1 hl
    exact ⟨none, 0, hv, RdN.nil_ w⟩
  · refine ⟨_, _, hv, hl, hcap, by unfold maxLen at hmax; exact hmax, fun e => (by cases e), fun hn => ⟨_, rfl, (Array.getElem?_eq_some_iff.1 hh).1, fun j hj => ?_⟩⟩
    obtain ⟨P, m, c, q1, q2, q3, q4⟩ := hN.2 j (by omega)
    have hc : ∀ i u, cells[i]? = some u → w.cell? ⟨g, i, none⟩ = some u := fun i u hi => by
      rw [cell_of_row w _ _ cur e (0, 0) hh]
      rw [← htake, List.getElem?_take] at hi
      split at hi
      · simpa using hi
      · cases hi
    rw [add_plain, Nat.zero_add]
    exact ⟨P, m, c, hc _ _ q1, hc _ _ q2, hc _ _ q3, q4⟩
/-! ## append of elements of any size, as cells -/
/-- the slice's m elements of so many cells each are the cells news -/
def Src (w : World) (size : Nat) (A : Option Addr) (m c : Nat) (news : List Value) : Prop :=
  news.length = m * size ∧ (A = none → c = 0 ∧ m = 0) ∧ ∀ ad, A = some ad → ∀ j u, news[j]? = some u → w.cell? (ad.add j) = some u
theorem src_of {w : World} {A : Option Addr} {n c : Nat} {xs : List Nd} (h : RdN w A n c xs) : ∃ cells, NIn w cells xs ∧ Src w 3 A n c cells ∧ ∀ u ∈ cells, u.oneCell' = true := by
  rcases A with _ | ad
  · have hc : c = 0 := h.2.2.2.1 rfl
    have hn : n = 0 := by have := h.cap; omega
    subst hn
    obtain rfl : xs = [] := List.length_eq_zero_iff.1 h.len
    exact ⟨[], NIn.nil_ w, ⟨rfl, fun _ => ⟨hc, rfl⟩, fun ad e => by cases e⟩, fun u hu => by cases hu⟩
  · obtain ⟨cells, h1, h2, h3⟩ := nin_of h ad (fun _ => rfl)
    refine ⟨cells, h1, ⟨by rw [h1.1, h.len], ?_, ?_⟩, h3⟩
    · intro e; cases e
    · intro ad' e; injection e with e; subst e; exact h2
theorem Src.on {w w' : World} {size : Nat} {A : Option Addr} {m c : Nat} {news : List Value} (h : Src w size A m c news) (hb : ∀ ad, A = some ad → news ≠ [] → ad.block < w.heap.size) (k : On w w') : Src w' size A m c news :=
  ⟨h.1, h.2.1, fun ad e j u hu => by
    have hne : news ≠ [] := fun e' => by rw [e'] at hu; simp at hu
    exact (Below.cell k (p := ad.add j) (by rw [block_of_add]; exact hb ad e hne)).trans (h.2.2 ad e j u hu)⟩
section
variable {P : Program}
theorem run_appC (w : World) (base : Nat) (t ty e : TypeId) (z : Value) (size bytes : Nat) (ht : P.underlying t = some (.slice e)) (hinfo : (P.info? e).map (fun i => (i.zero, i.size, i.bytes)) = some (some z, size, bytes)) (hzs : z.cells.size = size) (hsz : 0 < size) (hb8 : bytes ≤ 1000)
    (v : Value) (n : Nat) (xs : List Value) (hown : w.ownsRow base e size v n xs)
    (A : Option Addr) (m c : Nat) (news : List Value) (hr : Src w size A m c news) (h1 : ∀ u ∈ news, u.oneCell' = true)
    (hsm : n + m ≤ 1000000000) (hbase : base ≤ w.heap.size) :
    ∃ v' w', (Builtin.append_ #[t, t] ty #[v, .slice A m c]).run P w = .ok v' w' ∧ w'.ownsRow base e size v' (n + m) (xs ++ news) ∧ w.grownBy w' v.ownBlock ∧ (v'.ownBlock = v.ownBlock ∨ v'.ownBlock = some w.heap.size) := by
  obtain ⟨i, hi, hz, hs, hby⟩ := info_parts' hinfo
  rcases A with _ | ad
  · obtain ⟨hc0, hm0⟩ := hr.2.1 rfl
    subst hc0; subst hm0
    obtain rfl := List.eq_nil_of_length_eq_zero (hr.1.trans (Nat.zero_mul _))
    subst hs
    refine ⟨v, w, run_append_owned_none (P := P) (w := w) base t ty e i i.size ht hi v n _ hown, by simpa using hown, World.grownBy.refl w _, .inl rfl⟩
  · obtain ⟨v', w', hrun, h2, h3, _, h5⟩ := run_append_own_at (P := P) w base t ty e i z size bytes ht hi hz hs hby hzs hsz v n _ hown ad m c news hr.1 (hr.2.2 ad rfl) h1
      (by unfold maxLen; omega) (by have : (n + m) * bytes ≤ (n + m) * 1000 := Nat.mul_le_mul_left _ hb8; omega) hbase
    exact ⟨v', w', hrun, h2, h3, h5⟩
theorem step_appC {w : World} {ops : Array Oper} {o : Oper} {a : Act} {K : Act → World → Prop} {Q : Exit → Act → World → Prop} {E : Prop} (hgd : o.guard = none) (s x : Operand) (t : TypeId)
    (ho : o.op = .call { callee := .builtin .append, args := #[s, x], argTypes := #[t, t] })
    (base : Nat) (e : TypeId) (z : Value) (size bytes : Nat) (ht : P.underlying t = some (.slice e)) (hinfo : (P.info? e).map (fun i => (i.zero, i.size, i.bytes)) = some (some z, size, bytes)) (hzs : z.cells.size = size) (hsz : 0 < size) (hb8 : bytes ≤ 1000)
    (v : Value) (n : Nat) (xs : List Value) (hs : a.eval s = v) (hown : w.ownsRow base e size v n xs)
    (A : Option Addr) (m c : Nat) (news : List Value) (hx : a.eval x = .slice A m c) (hr : Src w size A m c news) (h1 : ∀ u ∈ news, u.oneCell' = true)
    (hsm : n + m ≤ 1000000000) (hbase : base ≤ w.heap.size)
    (h : ∀ v' w', w'.ownsRow base e size v' (n + m) (xs ++ news) → w.grownBy w' v.ownBlock → (v'.ownBlock = v.ownBlock ∨ v'.ownBlock = some w.heap.size) → K (a.put o.dst v') w') :
    if Region.wanted o (yielded ops a.tmps) = true then Oper.wp P o a w K Q else E := by
  have hw : Region.wanted o (yielded ops a.tmps) = true := by simp [Region.wanted, hgd]
  rw [if_pos hw]
  obtain ⟨v', w', hrun, h2, h3, h4⟩ := run_appC (P := P) w base t o.type e z size bytes ht hinfo hzs hsz hb8 v n xs hown A m c news hr h1 hsm hbase
  unfold Oper.wp
  simp [execOp, ho, resolve, invoke, builtin, hs, hx, hrun, Result.andThen]
  exact h _ _ h2 h3 h4
end
/-- the empty row of nodes that a literal makes -/
theorem row_lit0 (w : World) (e : TypeId) (size : Nat) : (w.alloc (.cells #[] e)).ownsRow w.heap.size e size (.slice (some ⟨w.heap.size, 0, none⟩) 0 0) 0 [] :=
  ⟨by simp, .inr ⟨w.heap.size, 0, #[], rfl, Nat.le_refl _, heap_alloc_new w _, Nat.zero_le _, by unfold maxLen; omega, by simp, by simp⟩⟩
theorem owns_on {w w' : World} {base s : Nat} {e : TypeId} {v : Value} {n : Nat} {xs : List Value} (h : w.ownsRow base e s v n xs) (k : On w w') : w'.ownsRow base e s v n xs := by
  refine ⟨h.1, ?_⟩
  rcases h.2 with h2 | ⟨g, cap, cur, hv, hb, hh, h3⟩
  · exact .inl h2
  · exact .inr ⟨g, cap, cur, hv, hb, (k.block g (Array.getElem?_eq_some_iff.1 hh).1).trans hh, h3⟩
theorem owns_kn {w w' : World} {p : Array Value → TypeId → Prop} {base s : Nat} {e : TypeId} {v : Value} {n : Nat} {xs : List Value} (h : w.ownsRow base e s v n xs) (k : Kn p w w') (hp : ∀ cur, ¬ p cur e) : w'.ownsRow base e s v n xs := by
  refine ⟨h.1, ?_⟩
  rcases h.2 with h2 | ⟨g, cap, cur, hv, hb, hh, h3⟩
  · exact .inl h2
  · exact .inr ⟨g, cap, cur, hv, hb, k.own hh (hp cur), h3⟩
/-- a row of the call's own that grows: what turns is a block of its type -/
theorem kn_row {w w' : World} {p : Array Value → TypeId → Prop} {base s : Nat} {e : TypeId} {v : Value} {n : Nat} {xs : List Value} (h : w.ownsRow base e s v n xs) (k : w.grownBy w' v.ownBlock) (hp : ∀ cur, p cur e) : Kn p w w' := by
  rcases h.2 with ⟨rfl, _⟩ | ⟨g, cap, cur, rfl, hb, hh, h3⟩
  · exact ⟨k.size, fun b hb => .inl (k.block b hb (by simp [Value.ownBlock]))⟩
  · exact Kn.only (show Only g w w' from k) hh (hp cur)
theorem owns_onb {a b c : World} {e : TypeId} {s : Nat} {v : Value} {n base : Nat} {xs : List Value} (h : On a b) (hr : b.ownsRow base e s v n xs) (hb : a.heap.size ≤ base) (k : b.grownBy c v.ownBlock) : On a c := by
  refine Below.grown h k h.size (fun g e => ?_)
  rcases hr.2 with ⟨rfl, _⟩ | ⟨g', cap, cur, rfl, hb', _⟩
  · simp [Value.ownBlock] at e
  · simp [Value.ownBlock] at e; omega
theorem does_app {P : Program} {Q : Exit → Act → World → Prop} {W0 : World} {F : Nat → (Tmp → Value) → World → Prop} {K : Nat → World → World → Prop} {i : Nat} {o : Oper} {a : Act} {w : World} (s x : Operand) (t : TypeId)
    (ho : o.op = .call { callee := .builtin .append, args := #[s, x], argTypes := #[t, t] })
    (base : Nat) (e : TypeId) (z : Value) (size bytes : Nat) (ht : P.underlying t = some (.slice e)) (hinfo : (P.info? e).map (fun i => (i.zero, i.size, i.bytes)) = some (some z, size, bytes)) (hzs : z.cells.size = size) (hsz : 0 < size) (hb8 : bytes ≤ 1000)
    (v : Value) (n : Nat) (xs : List Value) (hs : a.eval s = v) (hown : w.ownsRow base e size v n xs)
    (A : Option Addr) (m c : Nat) (news : List Value) (hx : a.eval x = .slice A m c) (hr : Src w size A m c news) (h1 : ∀ u ∈ news, u.oneCell' = true)
    (hsm : n + m ≤ 1000000000) (hbase : base ≤ w.heap.size)
    (h : ∀ v' w', w'.ownsRow base e size v' (n + m) (xs ++ news) → w.grownBy w' v.ownBlock → On W0 w' ∧ K i w w' ∧ F i (slv (a.put o.dst v')) w') : Does P Q W0 F K i o a w := by
  obtain ⟨v', w', hrun, h2, h3, h4⟩ := run_appC (P := P) w base t o.type e z size bytes ht hinfo hzs hsz hb8 v n xs hown A m c news hr h1 hsm hbase
  obtain ⟨q1, q2, q3⟩ := h v' w' h2 h3
  refine does_value (v := v') (w' := w') ?_ q1 q2 q3
  simp [execOp, ho, resolve, invoke, builtin, hs, hx, hrun, Result.andThen]
/-- a literal of two nodes -/
theorem src_two (w : World) (g : Nat) (cells : List Value) (hl : cells.length = 6) (h : Own w g 41 cells.toArray) : Src w 3 (some ⟨g, 0, none⟩) 2 2 cells := by
  refine ⟨by rw [hl], fun e => (by cases e), fun ad e j u hj => ?_⟩
  injection e with e
  subst e
  rw [add_plain, h.cell, Nat.zero_add]
  simpa using hj
/-- a literal of one node -/
theorem src_one (w : World) (g : Nat) (cells : List Value) (hl : cells.length = 3) (h : Own w g 41 cells.toArray) : Src w 3 (some ⟨g, 0, none⟩) 1 1 cells := by
  refine ⟨by rw [hl], fun e => (by cases e), fun ad e j u hj => ?_⟩
  injection e with e
  subst e
  rw [add_plain, h.cell, Nat.zero_add]
  simpa using hj
/-- the elements of a list stay in whatever world goes on -/
theorem src_on {w : World} {A : Option Addr} {n c : Nat} {xs : List Nd} {cells : List Value} (R : RdN w A n c xs) (h : Src w 3 A n c cells) {W : World} (k : On w W) : Src W 3 A n c cells := h.on (fun ad e hne => by
  have h0 : 0 < n := by
    rcases Nat.eq_zero_or_pos n with h1 | h1
    · exfalso
      apply hne
      apply List.eq_nil_of_length_eq_zero
      rw [h.1, h1, Nat.zero_mul]
    · exact h1
  obtain ⟨ad', e', hb, _⟩ := R.at_ 0 h0
  rw [e] at e'
  injection e' with e'
  rw [e']; exact hb) k
end Go.Proofs.Ytmkogcaafkobaaa.Fm
