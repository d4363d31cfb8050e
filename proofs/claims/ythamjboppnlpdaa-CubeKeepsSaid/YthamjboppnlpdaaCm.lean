/-
  Cubes in memory: a slice that reads as a list of cubes, rows of cubes that a call makes, append. No statement of the program.
-/
import Derived.Test.YthamjboppnlpdaaSo
import Derived.Test.YthamjboppnlpdaaCp
import Derived.BigRegion
namespace Go.Proofs.Ythamjboppnlpdaa.Cu
open Go.RowKit Go.Proofs.Ythamjboppnlpdaa.Sb
set_option linter.unusedVariables false
set_option maxRecDepth 100000
/-- a cube of any ints -/
abbrev Cz := Int × Int
def czV (c : Cz) : Value := .agg #[.int .i64 c.1, .int .i64 c.2]
def CV (xs : List Cz) : List Value := xs.flatMap fun c => [.int .i64 c.1, .int .i64 c.2]
theorem CV_nil : CV [] = [] := rfl
theorem CV_cons (c : Cz) (xs : List Cz) : CV (c :: xs) = .int .i64 c.1 :: .int .i64 c.2 :: CV xs := rfl
theorem CV_app (xs ys : List Cz) : CV (xs ++ ys) = CV xs ++ CV ys := by unfold CV; rw [List.flatMap_append]
theorem CV_len (xs : List Cz) : (CV xs).length = xs.length * 2 := by
  induction xs with
  | nil => rfl
  | cons c xs ih => rw [CV_cons, List.length_cons, List.length_cons, List.length_cons, ih]; omega
theorem CV_get : ∀ (xs : List Cz) (j : Nat), j < xs.length → (CV xs)[j * 2]? = some (.int .i64 (xs.getD j (0, 0)).1) ∧ (CV xs)[j * 2 + 1]? = some (.int .i64 (xs.getD j (0, 0)).2) := by
  intro xs
  induction xs with
  | nil => intro j h; simp at h
  | cons c xs ih =>
    intro j h
    rw [CV_cons]
    cases j with
    | zero => exact ⟨rfl, rfl⟩
    | succ j =>
      have h1 := ih j (by simpa using h)
      have e1 : (j + 1) * 2 = j * 2 + 1 + 1 := by omega
      rw [e1]
      simp only [List.getElem?_cons_succ, List.getD_cons_succ]
      exact h1
theorem CV_cell (xs : List Cz) : ∀ u ∈ CV xs, u.oneCell' = true := by
  intro u hu
  unfold CV at hu
  obtain ⟨c, _, h⟩ := List.mem_flatMap.1 hu
  simp only [List.mem_cons, List.not_mem_nil, or_false] at h
  rcases h with rfl | rfl <;> rfl
/-- the slice reads as the cubes xs -/
def RdC (w : World) (A : Option Addr) (n c : Nat) (xs : List Cz) : Prop :=
  xs.length = n ∧ n ≤ c ∧ c ≤ 9223372036854775807 ∧ (A = none → c = 0) ∧ (0 < n → ∃ ad, A = some ad ∧ ad.block < w.heap.size ∧ ∀ j u, (CV xs)[j]? = some u → w.cell? (ad.add j) = some u)
section
variable {w w' : World} {n c : Nat} {A : Option Addr} {xs : List Cz}
theorem RdC.len (h : RdC w A n c xs) : xs.length = n := h.1
theorem RdC.cap (h : RdC w A n c xs) : n ≤ c := h.2.1
theorem RdC.max (h : RdC w A n c xs) : c ≤ 9223372036854775807 := h.2.2.1
theorem RdC.nil_ (w : World) : RdC w none 0 0 [] := ⟨rfl, by omega, by omega, fun _ => rfl, fun h => absurd h (by omega)⟩
theorem RdC.keep (h : RdC w A n c xs) (hs : w.heap.size ≤ w'.heap.size) (hk : ∀ p : Addr, p.block < w.heap.size → w'.cell? p = w.cell? p) : RdC w' A n c xs :=
  ⟨h.1, h.2.1, h.2.2.1, h.2.2.2.1, fun hn => by
    obtain ⟨ad, e, hb, hc⟩ := h.2.2.2.2 hn
    exact ⟨ad, e, by omega, fun j u hj => (hk _ (by rw [block_of_add]; exact hb)).trans (hc j u hj)⟩⟩
theorem RdC.on (h : RdC w A n c xs) (hb : On w w') : RdC w' A n c xs := h.keep hb.size fun _ hp => Below.cell hb hp
theorem add_one (ad : Addr) (k : Nat) : ad.add (k + 1) = ⟨(ad.add k).block, (ad.add k).off + 1, none⟩ := by
  rw [← add_of_add]
  unfold Addr.add
  by_cases h : k = 0 <;> simp [h]
theorem RdC.at_ (h : RdC w A n c xs) {j : Nat} (hj : j < n) : ∃ ad, A = some ad ∧ ad.block < w.heap.size ∧ w.cell? (ad.add (j * 2)) = some (.int .i64 (xs.getD j (0, 0)).1) ∧ w.cell? ⟨(ad.add (j * 2)).block, (ad.add (j * 2)).off + 1, none⟩ = some (.int .i64 (xs.getD j (0, 0)).2) := by
  obtain ⟨ad, e, hb, hc⟩ := h.2.2.2.2 (by omega)
  obtain ⟨h1, h2⟩ := CV_get xs j (by rw [h.1]; exact hj)
  refine ⟨ad, e, hb, hc _ _ h1, ?_⟩
  have := hc _ _ h2
  rwa [add_one] at this
theorem RdC.take (h : RdC w A n c xs) {k : Nat} (hk : k ≤ n) : RdC w A k c (xs.take k) := by
  refine ⟨by rw [List.length_take, h.1]; omega, by have := h.2.1; omega, h.2.2.1, h.2.2.2.1, fun hn => ?_⟩
  obtain ⟨ad, e, hb, hc⟩ := h.2.2.2.2 (by omega)
  refine ⟨ad, e, hb, fun j u hj => hc j u ?_⟩
  have e1 : CV xs = CV (xs.take k) ++ CV (xs.drop k) := by rw [← CV_app, List.take_append_drop]
  have hl : j < (CV (xs.take k)).length := (List.getElem?_eq_some_iff.1 hj).1
  rw [e1, List.getElem?_append_left hl]
  exact hj
end
/-! ## append of elements of any size, as cells -/
/-- the slice's m elements of so many cells each are the cells news -/
def Src (w : World) (size : Nat) (A : Option Addr) (m c : Nat) (news : List Value) : Prop :=
  news.length = m * size ∧ (A = none → c = 0 ∧ m = 0) ∧ ∀ ad, A = some ad → ∀ j u, news[j]? = some u → w.cell? (ad.add j) = some u
theorem RdC.src {w : World} {n c : Nat} {A : Option Addr} {xs : List Cz} (h : RdC w A n c xs) : Src w 2 A n c (CV xs) := by
  refine ⟨by rw [CV_len, h.1], fun e => ?_, fun ad e j u hj => ?_⟩
  · have := h.2.2.2.1 e
    have := h.cap
    omega
  · have hn : 0 < n := by
      have h1 := (List.getElem?_eq_some_iff.1 hj).1
      rw [CV_len, h.1] at h1
      omega
    obtain ⟨ad', e', _, hc⟩ := h.2.2.2.2 hn
    rw [e] at e'
    injection e' with e'
    subst e'
    exact hc j u hj
section
variable {P : Program}
theorem run_appC (w : World) (base : Nat) (t ty e : TypeId) (z : Value) (size bytes : Nat) (ht : P.underlying t = some (.slice e)) (hinfo : (P.info? e).map (fun i => (i.zero, i.size, i.bytes)) = some (some z, size, bytes)) (hzs : z.cells.size = size) (hsz : 0 < size) (hb8 : bytes ≤ 1000)
    (v : Value) (n : Nat) (xs : List Value) (hown : w.ownsRow base e size v n xs)
    (A : Option Addr) (m c : Nat) (news : List Value) (hr : Src w size A m c news) (h1 : ∀ u ∈ news, u.oneCell' = true)
    (hsm : n + m ≤ 1000000000) (hbase : base ≤ w.heap.size) :
    ∃ v' w', (Builtin.append_ #[t, t] ty #[v, .slice A m c]).run P w = .ok v' w' ∧ w'.ownsRow base e size v' (n + m) (xs ++ news) ∧ w.grownBy w' v.ownBlock ∧ (v'.ownBlock = v.ownBlock ∨ v'.ownBlock = some w.heap.size) := by
  obtain ⟨i, hi, hz, hs, hby⟩ := info_parts' hinfo
  rcases A with _ | ad
  · obtain ⟨hc0, hm0⟩ := hr.2.1 rfl
    subst hc0; subst hm0
    obtain rfl := List.eq_nil_of_length_eq_zero (hr.1.trans (Nat.zero_mul _))
    subst hs
    refine ⟨v, w, run_append_owned_none (P := P) (w := w) base t ty e i i.size ht hi v n _ hown, by simpa using hown, World.grownBy.refl w _, .inl rfl⟩
  · obtain ⟨v', w', hrun, h2, h3, _, h5⟩ := run_append_own_at (P := P) w base t ty e i z size bytes ht hi hz hs hby hzs hsz v n _ hown ad m c news hr.1 (hr.2.2 ad rfl) h1
      (by unfold maxLen; omega) (by have : (n + m) * bytes ≤ (n + m) * 1000 := Nat.mul_le_mul_left _ hb8; omega) hbase
    exact ⟨v', w', hrun, h2, h3, h5⟩
theorem wpList_appC {w : World} {ops : Array Oper} {rest : List Oper} {o : Oper} {a : Act} {Q : Exit → Act → World → Prop} (hgd : Region.wanted o (yielded ops a.tmps) = true) (s x : Operand) (t : TypeId)
    (ho : o.op = .call { callee := .builtin .append, args := #[s, x], argTypes := #[t, t] })
    (base : Nat) (e : TypeId) (z : Value) (size bytes : Nat) (ht : P.underlying t = some (.slice e)) (hinfo : (P.info? e).map (fun i => (i.zero, i.size, i.bytes)) = some (some z, size, bytes)) (hzs : z.cells.size = size) (hsz : 0 < size) (hb8 : bytes ≤ 1000)
    (v : Value) (n : Nat) (xs : List Value) (hs : a.eval s = v) (hown : w.ownsRow base e size v n xs)
    (A : Option Addr) (m c : Nat) (news : List Value) (hx : a.eval x = .slice A m c) (hr : Src w size A m c news) (h1 : ∀ u ∈ news, u.oneCell' = true)
    (hsm : n + m ≤ 1000000000) (hbase : base ≤ w.heap.size)
    (h : ∀ v' w', w'.ownsRow base e size v' (n + m) (xs ++ news) → w.grownBy w' v.ownBlock → (v'.ownBlock = v.ownBlock ∨ v'.ownBlock = some w.heap.size) → wpList P ops Q rest (a.put o.dst v') w') : wpList P ops Q (o :: rest) a w := by
  refine wpList_step fun K hK => ?_
  rw [if_pos hgd]
  obtain ⟨v', w', hrun, h2, h3, h4⟩ := run_appC (P := P) w base t o.type e z size bytes ht hinfo hzs hsz hb8 v n xs hown A m c news hr h1 hsm hbase
  unfold Oper.wp
  simp [execOp, ho, resolve, invoke, builtin, hs, hx, hrun, Result.andThen]
  exact hK _ _ (h v' w' h2 h3 h4)
theorem step_appC {w : World} {ops : Array Oper} {o : Oper} {a : Act} {K : Act → World → Prop} {Q : Exit → Act → World → Prop} {E : Prop} (hgd : o.guard = none) (s x : Operand) (t : TypeId)
    (ho : o.op = .call { callee := .builtin .append, args := #[s, x], argTypes := #[t, t] })
    (base : Nat) (e : TypeId) (z : Value) (size bytes : Nat) (ht : P.underlying t = some (.slice e)) (hinfo : (P.info? e).map (fun i => (i.zero, i.size, i.bytes)) = some (some z, size, bytes)) (hzs : z.cells.size = size) (hsz : 0 < size) (hb8 : bytes ≤ 1000)
    (v : Value) (n : Nat) (xs : List Value) (hs : a.eval s = v) (hown : w.ownsRow base e size v n xs)
    (A : Option Addr) (m c : Nat) (news : List Value) (hx : a.eval x = .slice A m c) (hr : Src w size A m c news) (h1 : ∀ u ∈ news, u.oneCell' = true)
    (hsm : n + m ≤ 1000000000) (hbase : base ≤ w.heap.size)
    (h : ∀ v' w', w'.ownsRow base e size v' (n + m) (xs ++ news) → w.grownBy w' v.ownBlock → (v'.ownBlock = v.ownBlock ∨ v'.ownBlock = some w.heap.size) → K (a.put o.dst v') w') :
    if Region.wanted o (yielded ops a.tmps) = true then Oper.wp P o a w K Q else E := by
  have hw : Region.wanted o (yielded ops a.tmps) = true := by simp [Region.wanted, hgd]
  rw [if_pos hw]
  obtain ⟨v', w', hrun, h2, h3, h4⟩ := run_appC (P := P) w base t o.type e z size bytes ht hinfo hzs hsz hb8 v n xs hown A m c news hr h1 hsm hbase
  unfold Oper.wp
  simp [execOp, ho, resolve, invoke, builtin, hs, hx, hrun, Result.andThen]
  exact h _ _ h2 h3 h4
end
/-- the empty row that a literal makes -/
theorem row_lit0 (w : World) (e : TypeId) (size : Nat) : (w.alloc (.cells #[] e)).ownsRow w.heap.size e size (.slice (some ⟨w.heap.size, 0, none⟩) 0 0) 0 [] :=
  ⟨by simp, .inr ⟨w.heap.size, 0, #[], rfl, Nat.le_refl _, heap_alloc_new w _, Nat.zero_le _, by unfold maxLen; omega, by simp, by simp⟩⟩
theorem owns_on {w w' : World} {base s : Nat} {e : TypeId} {v : Value} {n : Nat} {xs : List Value} (h : w.ownsRow base e s v n xs) (k : On w w') : w'.ownsRow base e s v n xs := by
  refine ⟨h.1, ?_⟩
  rcases h.2 with h2 | ⟨g, cap, cur, hv, hb, hh, h3⟩
  · exact .inl h2
  · exact .inr ⟨g, cap, cur, hv, hb, (k.block g (Array.getElem?_eq_some_iff.1 hh).1).trans hh, h3⟩
theorem owns_low {w : World} {base base' s : Nat} {e : TypeId} {v : Value} {n : Nat} {xs : List Value} (h : w.ownsRow base e s v n xs) (hb : base' ≤ base) : w.ownsRow base' e s v n xs := by
  refine ⟨h.1, ?_⟩
  rcases h.2 with h2 | ⟨g, cap, cur, hv, hg, h3⟩
  · exact .inl h2
  · exact .inr ⟨g, cap, cur, hv, by omega, h3⟩
theorem owns_onb {a b c : World} {e : TypeId} {s : Nat} {v : Value} {n base : Nat} {xs : List Value} (h : On a b) (hr : b.ownsRow base e s v n xs) (hb : a.heap.size ≤ base) (k : b.grownBy c v.ownBlock) : On a c := by
  refine Below.grown h k h.size (fun g e => ?_)
  rcases hr.2 with ⟨rfl, _⟩ | ⟨g', cap, cur, rfl, hb', _⟩
  · simp [Value.ownBlock] at e
  · simp [Value.ownBlock] at e; omega
/-- a row of cubes of the call's own -/
def OwnC (w : World) (base : Nat) (v : Value) (xs : List Cz) : Prop := w.ownsRow base 23 2 v xs.length (CV xs)
theorem OwnC.nil (w : World) (base : Nat) : OwnC w base (.slice none 0 0) [] := ⟨rfl, .inl ⟨rfl, rfl⟩⟩
theorem OwnC.on {w w' : World} {base : Nat} {v : Value} {xs : List Cz} (h : OwnC w base v xs) (k : On w w') : OwnC w' base v xs := owns_on h k
theorem OwnC.low {w : World} {base base' : Nat} {v : Value} {xs : List Cz} (h : OwnC w base v xs) (hb : base' ≤ base) : OwnC w base' v xs := owns_low h hb
theorem rdc_of_row {w : World} {base : Nat} {e : TypeId} {A : Option Addr} {c n : Nat} {xs : List Cz} (h : w.ownsRow base e 2 (.slice A n c) n (CV xs)) (hl : xs.length = n) : RdC w A n c xs := by
  rcases h.2 with ⟨hv, h0⟩ | ⟨g, cap, cur, hv, hb, hh, hcap, hmax, hsz, htake⟩
  · injection hv with h1 h2 h3
    subst h1; subst h3; subst h0
    exact ⟨hl, by omega, by omega, fun _ => rfl, fun h => absurd h (by omega)⟩
  · injection hv with h1 h2 h3
    subst h1; subst h3
    refine ⟨hl, hcap, by unfold maxLen at hmax; exact hmax, fun e => (by cases e), fun hn => ⟨_, rfl, (Array.getElem?_eq_some_iff.1 hh).1, fun j u hj => ?_⟩⟩
    rw [add_plain, cell_of_row w _ _ cur e (0, 0) hh, Nat.zero_add]
    rw [← htake, List.getElem?_take] at hj
    split at hj
    · simpa using hj
    · cases hj
theorem OwnC.form {w : World} {base : Nat} {v : Value} {xs : List Cz} (h : OwnC w base v xs) : ∃ A c, v = .slice A xs.length c ∧ RdC w A xs.length c xs := by
  obtain ⟨A, c, rfl⟩ : ∃ A c, v = .slice A xs.length c := by
    rcases h.2 with ⟨rfl, h0⟩ | ⟨g, cap, cur, rfl, _⟩
    · exact ⟨none, 0, by rw [h0]⟩
    · exact ⟨_, _, rfl⟩
  exact ⟨A, c, rfl, rdc_of_row h rfl⟩
theorem cubeInfo : (Try.prog.info? 23).map (fun i => (i.zero, i.size, i.bytes)) = some (some (.agg #[.int .i64 0, .int .i64 0]), 2, 16) := by kernel_rfl
theorem own2 {w : World} {p : Nat} {t : TypeId} {a b : Value} (h : Own w p t #[a, b]) : w.cell? ⟨p, 0, none⟩ = some a ∧ w.cell? ⟨p, 1, none⟩ = some b := by
  refine ⟨?_, ?_⟩
  · rw [h.cell]; rfl
  · rw [h.cell]; rfl
/-- one cube in a block of its own -/
theorem src_one {w : World} {g : Nat} {t : TypeId} {y n : Int} (h : Own w g t #[.int .i64 y, .int .i64 n]) : Src w 2 (some ⟨g, 0, none⟩) 1 1 (CV [(y, n)]) := by
  refine ⟨rfl, fun e => (by cases e), fun ad e j u hj => ?_⟩
  injection e with e
  subst e
  rw [add_plain, Nat.zero_add, h.cell]
  match j, hj with
  | 0, hj => simpa [CV] using hj
  | 1, hj => simpa [CV] using hj
theorem rdc_one {w : World} {g : Nat} {t : TypeId} {y n : Int} (h : Own w g t #[.int .i64 y, .int .i64 n]) : RdC w (some ⟨g, 0, none⟩) 1 1 [(y, n)] :=
  ⟨rfl, by omega, by omega, fun e => (by cases e), fun _ => ⟨_, rfl, h.lt, fun j u hj => (src_one h).2.2 _ rfl j u hj⟩⟩
end Go.Proofs.Ythamjboppnlpdaa.Cu
