/-
  A block of the call's own: words that a function writes. No statement of the program.
-/
import Derived.Test.YtkpeliokhmigoaaMem
import Derived.Maps.AppendAt
import Derived.Laws.AppendOwnNone
import Derived.Deep.OwnRows
import Derived.OwnWalk
import Derived.RegionTactic
import Derived.Deep.QuietTactic
import Derived.BigQuiet
import Derived.WalkSpells
namespace Go.Proofs.Ytkpeliokhmigoaa
open Go.RowKit
set_option linter.unusedVariables false
namespace Num

theorem add_plain (g o j : Nat) : (⟨g, o, none⟩ : Addr).add j = ⟨g, o + j, none⟩ := by
  unfold Addr.add; by_cases h : j = 0 <;> simp [h]

/-- block g is just the cells cur, none of them frozen -/
def Own (w : World) (g : Nat) (t : TypeId) (cur : Array Value) : Prop := w.heap[g]? = some (.cells cur t (0, 0))
/-- from place o on the cells are the words xs -/
def Has (cur : Array Value) (o : Nat) (xs : List Nat) : Prop := Ok xs ∧ ∀ j, j < xs.length → cur[o + j]? = some (.int .u32 (gw xs j : Int))
/-- the world w' goes on from w; of what was there only block g has turned -/
def Only (g : Nat) (w w' : World) : Prop := w.grownBy w' (some g)
/-- between place o and o + n only -/
def Same (cur cur' : Array Value) (o n : Nat) : Prop := cur'.size = cur.size ∧ ∀ k, k < o ∨ o + n ≤ k → cur'[k]? = cur[k]?

section
variable {w w' w'' : World} {g : Nat} {t : TypeId} {cur cur' : Array Value}
theorem Own.lt (h : Own w g t cur) : g < w.heap.size := by
  rcases Nat.lt_or_ge g w.heap.size with hlt | hge
  · exact hlt
  · unfold Own at h; rw [Array.getElem?_eq_none hge] at h; cases h
theorem Own.cell (h : Own w g t cur) (i : Nat) : w.cell? ⟨g, i, none⟩ = cur[i]? := cell_of_row w g i cur t (0, 0) h
theorem Own.frozen (h : Own w g t cur) (i : Nat) : w.frozen? ⟨g, i, none⟩ = false := by
  unfold Own at h
  simp [World.frozen?, h]
theorem Own.new (w : World) (t : TypeId) (cur : Array Value) : Own (w.alloc (.cells cur t)) w.heap.size t cur := heap_alloc_new w _
theorem Own.drew (h : Own w g t cur) : Own w.drew g t cur := h
theorem Own.drewN (h : Own w g t cur) (n : Nat) : Own (w.drewN n) g t cur := h
theorem Own.alloc (h : Own w g t cur) (o : Obj) : Own (w.alloc o) g t cur := (Below.heap_alloc w o g h.lt).trans h
theorem Own.set_ (h : Own w g t cur) (i : Nat) (u : Value) : Own (w.setCell ⟨g, i, none⟩ u) g t (cur.setIfInBounds i u) := by
  unfold Own at h ⊢
  simp [World.setCell, Array.getElem?_modify, h]
theorem Own.far (h : Own w g t cur) {p : Addr} (hp : g ≠ p.block) (u : Value) : Own (w.setCell p u) g t cur := (Below.heap_setCell w p u g hp).trans h
theorem Own.on (h : Own w g t cur) (hb : On w w') : Own w' g t cur := (hb.block g h.lt).trans h
theorem Own.only {g' : Nat} (h : Own w g t cur) (hb : Only g' w w') (hg : g ≠ g') : Own w' g t cur := (hb.block g h.lt (by simp; omega)).trans h
theorem Only.refl (g : Nat) (w : World) : Only g w w := World.grownBy.refl w _
theorem Only.trans {a b c : World} (h : Only g a b) (k : Only g b c) : Only g a c := World.grownBy.trans h k
theorem Only.size {a b : World} (h : Only g a b) : a.heap.size ≤ b.heap.size := World.grownBy.size h
theorem Only.drew {a b : World} (h : Only g a b) : Only g a b.drew := ⟨h.os, h.tape, h.output, h.size, h.block⟩
theorem Only.drewN {a b : World} (h : Only g a b) (n : Nat) : Only g a (b.drewN n) := ⟨h.os, h.tape, h.output, h.size, h.block⟩
theorem Only.on {a b : World} (h : On a b) : Only g a b := ⟨h.os, h.tape, h.output, h.size, fun i hi _ => h.block i hi⟩
theorem Only.then {a b c : World} (h : Only g a b) (k : On b c) : Only g a c := h.trans (Only.on k)
theorem Only.alloc {a b : World} (h : Only g a b) (o : Obj) : Only g a (b.alloc o) := h.then ((On.refl b).alloc o)
theorem Only.set_ {a b : World} (h : Only g a b) (i : Nat) (u : Value) : Only g a (b.setCell ⟨g, i, none⟩ u) :=
  h.trans ⟨rfl, rfl, rfl, by simp [World.setCell], fun k _ hne => Below.heap_setCell _ _ _ _ (by intro e; subst e; exact hne rfl)⟩
/-- what only touches a block that is newer than a goes on from a -/
theorem On.only {a b c : World} (h : On a b) (k : Only g b c) (hg : a.heap.size ≤ g) : On a c := Below.grown h k h.size (fun k e => by cases e; exact hg)
theorem Rd.only {A : Option Addr} {n c : Nat} {xs : List Nat} (h : Rd w A n c xs) (hb : Only g w w') (hg : ∀ ad, A = some ad → ad.block ≠ g) : Rd w' A n c xs := by
  refine ⟨h.1, h.2.1, h.2.2.1, h.2.2.2.1, h.none_, fun hn => ?_⟩
  obtain ⟨ad, e, hl, hc⟩ := h.2.2.2.2.2 hn
  refine ⟨ad, e, Nat.lt_of_lt_of_le hl hb.size, fun j hj => ?_⟩
  have hne := hg ad e
  exact (World.cell?_of_block (hb.block _ (by rw [block_of_add]; exact hl) (by rw [block_of_add]; simp; exact hne))).trans (hc j hj)

theorem Has.ok {o : Nat} {xs : List Nat} (h : Has cur o xs) : Ok xs := h.1
theorem Has.get {o : Nat} {xs : List Nat} (h : Has cur o xs) (j : Nat) (hj : j < xs.length) : cur[o + j]? = some (.int .u32 (gw xs j : Int)) := h.2 j hj
theorem Has.bound {o : Nat} {xs : List Nat} (h : Has cur o xs) (hx : 0 < xs.length) : o + xs.length ≤ cur.size := by
  have := h.2 (xs.length - 1) (by omega)
  have := (Array.getElem?_eq_some_iff.1 this).1
  omega
theorem gw_set (xs : List Nat) (j k x : Nat) (hj : j < xs.length) : gw (xs.set j x) k = if j = k then x else gw xs k := by
  unfold gw
  rw [List.getD_eq_getElem?_getD, List.getD_eq_getElem?_getD, List.getElem?_set]
  by_cases h : j = k
  · subst h; simp [hj]
  · simp [h]
theorem Has.set_ {o j x : Nat} {xs : List Nat} (h : Has cur o xs) (hj : j < xs.length) (hx : x < 4294967296) : Has (cur.setIfInBounds (o + j) (.int .u32 (x : Int))) o (xs.set j x) := by
  refine ⟨h.1.set j x hx, fun k hk => ?_⟩
  rw [List.length_set] at hk
  have hb := h.bound (by omega)
  rw [gw_set xs j k x hj, Array.getElem?_setIfInBounds]
  by_cases hjk : j = k
  · subst hjk; rw [if_pos rfl, if_pos (by omega), if_pos rfl]
  · rw [if_neg (by omega), if_neg hjk]; exact h.2 k hk
theorem Same.refl (cur : Array Value) (o n : Nat) : Same cur cur o n := ⟨rfl, fun _ _ => rfl⟩
theorem Same.set_ {cur'' : Array Value} {o n j : Nat} (h : Same cur cur'' o n) (hj : j < n) (u : Value) : Same cur (cur''.setIfInBounds (o + j) u) o n := by
  refine ⟨by simp [h.1], fun k hk => ?_⟩
  rw [Array.getElem?_setIfInBounds, if_neg (by omega)]
  exact h.2 k hk
theorem Same.trans {a b c : Array Value} {o n : Nat} (h : Same a b o n) (k : Same b c o n) : Same a c o n := ⟨k.1.trans h.1, fun i hi => (k.2 i hi).trans (h.2 i hi)⟩
theorem Same.wide {a b : Array Value} {o n o' n' : Nat} (h : Same a b o n) (h1 : o' ≤ o) (h2 : o + n ≤ o' + n') : Same a b o' n' := ⟨h.1, fun i hi => h.2 i (by omega)⟩
theorem Has.part {o i n : Nat} {xs : List Nat} (h : Has cur o xs) (hi : i + n ≤ xs.length) : Has cur (o + i) ((xs.drop i).take n) := by
  refine ⟨(h.1.drop i).take n, fun j hj => ?_⟩
  have hl : ((xs.drop i).take n).length = n := by rw [List.length_take, List.length_drop]; omega
  rw [hl] at hj
  rw [getD_take hj, getD_drop, Nat.add_assoc]
  exact h.2 (i + j) (by omega)
theorem Has.keep {o n i : Nat} {xs : List Nat} (h : Has cur i xs) (k : Same cur cur' o n) (hd : i + xs.length ≤ o ∨ o + n ≤ i) : Has cur' i xs :=
  ⟨h.1, fun j hj => (k.2 _ (by omega)).trans (h.2 j hj)⟩
theorem Has.append {o : Nat} {xs ys : List Nat} (h : Has cur o xs) (k : Has cur (o + xs.length) ys) : Has cur o (xs ++ ys) := by
  refine ⟨h.1.append k.1, fun j hj => ?_⟩
  rw [List.length_append] at hj
  unfold gw
  rw [List.getD_eq_getElem?_getD, List.getElem?_append]
  by_cases hjx : j < xs.length
  · rw [if_pos hjx]; rw [h.2 j hjx]; unfold gw; rw [List.getD_eq_getElem?_getD]
  · rw [if_neg hjx]
    have := k.2 (j - xs.length) (by omega)
    rw [show o + xs.length + (j - xs.length) = o + j from by omega] at this
    rw [this]; unfold gw; rw [List.getD_eq_getElem?_getD]
/-- a part has been written: the whole -/
theorem Has.join {o i n : Nat} {xs ys : List Nat} (h : Has cur o xs) (hi : i + n ≤ xs.length) (hy : ys.length = n) (k : Has cur' (o + i) ys) (hs : Same cur cur' (o + i) n) : Has cur' o (xs.take i ++ ys ++ xs.drop (i + n)) := by
  have hl : (xs.take i).length = i := by rw [List.length_take]; omega
  have h1 : Has cur' o (xs.take i) := by
    have := (h.part (i := 0) (n := i) (by omega)).keep hs (by simp [hl])
    simpa using this
  have h2 : Has cur' (o + (i + n)) (xs.drop (i + n)) := by
    have := (h.part (i := i + n) (n := xs.length - (i + n)) (by omega)).keep hs (by omega)
    rwa [List.take_of_length_le (by simp)] at this
  refine (h1.append (by rw [hl]; exact k)).append ?_
  rw [List.length_append, hl, hy]
  exact h2
theorem Rd.own {o n c : Nat} {xs : List Nat} (h : Own w g t cur) (k : Has cur o xs) (hn : xs.length = n) (hc : n ≤ c) (hm : c ≤ 9223372036854775807) : Rd w (some ⟨g, o, none⟩) n c xs := by
  refine ⟨hn, hc, hm, k.1, fun e => (by cases e), fun _ => ⟨_, rfl, h.lt, fun j hj => ?_⟩⟩
  rw [add_plain, h.cell]
  exact k.2 j (by omega)
end

/-- a list without the zeros at its end -/
theorem nm_trim {w : World} {A : Option Addr} {n c : Nat} {xs : List Nat} (h : Rd w A n c xs) {L : Nat} (hL : tl xs ≤ L) : Nm w A (tl xs) c (val xs) L :=
  ⟨xs.take (tl xs), h.take (by rw [← h.len]; exact tl_le xs), clean_take xs, val_take_tl xs, hL⟩
theorem has_one (x : Nat) (hx : x < 4294967296) : Has #[.int .u32 (x : Int)] 0 [x] := ⟨Ok.one hx, fun j hj => by
  match j, hj with
  | 0, _ => rfl⟩
theorem has_two (x y : Nat) (hx : x < 4294967296) (hy : y < 4294967296) : Has #[.int .u32 (x : Int), .int .u32 (y : Int)] 0 [x, y] := ⟨Ok.cons hx (Ok.one hy), fun j hj => by
  match j, hj with
  | 0, _ => rfl
  | 1, _ => rfl⟩
theorem rd_one (w : World) (t : TypeId) (x : Nat) (hx : x < 4294967296) : Rd (w.alloc (.cells #[.int .u32 (x : Int)] t)) (some ⟨w.heap.size, 0, none⟩) 1 1 [x] :=
  Rd.own (Own.new w t _) (has_one x hx) rfl (Nat.le_refl _) (by omega)
theorem rd_two (w : World) (t : TypeId) (x y : Nat) (hx : x < 4294967296) (hy : y < 4294967296) : Rd (w.alloc (.cells #[.int .u32 (x : Int), .int .u32 (y : Int)] t)) (some ⟨w.heap.size, 0, none⟩) 2 2 [x, y] :=
  Rd.own (Own.new w t _) (has_two x y hx hy) rfl (Nat.le_refl _) (by omega)

theorem gw_replicate (n k : Nat) : gw (List.replicate n 0) k = 0 := by
  unfold gw; rw [List.getD_eq_getElem?_getD, List.getElem?_replicate]; split <;> rfl
/-- a block that make has made -/
theorem has_made (n : Nat) : Has (madeCells #[.int .u32 0] n) 0 (List.replicate n 0) := ⟨fun u hu => by rw [List.mem_replicate] at hu; omega, fun j hj => by
  rw [List.length_replicate] at hj
  rw [gw_replicate, Nat.zero_add]
  simp [madeCells, hj, Nat.mod_one]⟩
/-- words as values -/
def VW (k : IntKind) (xs : List Nat) : List Value := xs.map fun (u : Nat) => .int k (u : Int)
theorem VW_length (k : IntKind) (xs : List Nat) : (VW k xs).length = xs.length := by simp [VW]
theorem VW_get {k : IntKind} {xs : List Nat} {j : Nat} {u : Value} (h : (VW k xs)[j]? = some u) : j < xs.length ∧ u = .int k (gw xs j : Int) := by
  unfold VW at h
  rw [List.getElem?_map] at h
  rcases Nat.lt_or_ge j xs.length with hj | hj
  · rw [List.getElem?_eq_getElem hj] at h
    simp at h
    exact ⟨hj, by rw [← h]; simp [gw, List.getD_eq_getElem?_getD, hj]⟩
  · rw [List.getElem?_eq_none hj] at h; cases h
theorem VW_append (k : IntKind) (xs ys : List Nat) : VW k (xs ++ ys) = VW k xs ++ VW k ys := by simp [VW]

/-- what an owned row gives: its block -/
theorem own_of_row {w : World} {base : Nat} {e : TypeId} {v : Value} {n : Nat} {xs : List Nat} (ho : Ok xs) (h : w.ownsRow base e 1 v n (VW .u32 xs)) (hn : 0 < n) :
    ∃ g cap cur, v = .slice (some ⟨g, 0, none⟩) n cap ∧ base ≤ g ∧ Own w g e cur ∧ Has cur 0 xs ∧ n ≤ cap ∧ cap ≤ 9223372036854775807 := by
  have hl : xs.length = n := by have := h.1; rw [VW_length] at this; omega
  rcases h.2 with ⟨_, h0⟩ | ⟨g, cap, cur, rfl, hb, hh, hcap, hmax, hsz, htake⟩
  · omega
  · refine ⟨g, cap, cur, rfl, hb, hh, ⟨ho, fun j hj => ?_⟩, hcap, by unfold maxLen at hmax; exact hmax⟩
    have h1 : (VW .u32 xs)[j]? = some (.int .u32 (gw xs j : Int)) := by
      unfold VW; rw [List.getElem?_map, List.getElem?_eq_getElem hj]; simp [gw, List.getD_eq_getElem?_getD, hj]
    rw [← htake, List.getElem?_take] at h1
    split at h1
    · simpa using h1
    · cases h1

theorem rd_of_row {w : World} {base : Nat} {e : TypeId} {A : Option Addr} {c n : Nat} {xs : List Nat} (ho : Ok xs) (h : w.ownsRow base e 1 (.slice A n c) n (VW .u32 xs)) : Rd w A n c xs := by
  have hl : xs.length = n := by have := h.1; rw [VW_length] at this; omega
  rcases h.2 with ⟨hv, h0⟩ | ⟨g, cap, cur, hv, hb, hh, hcap, hmax, hsz, htake⟩
  · injection hv with h1 h2 h3
    subst h1; subst h3; subst h0
    exact ⟨hl, by omega, by omega, ho, fun _ => rfl, fun h => absurd h (by omega)⟩
  · injection hv with h1 h2 h3
    subst h1; subst h3
    refine ⟨hl, hcap, by unfold maxLen at hmax; exact hmax, ho, fun e => (by cases e), fun hn => ⟨_, rfl, (Array.getElem?_eq_some_iff.1 hh).1, fun j hj => ?_⟩⟩
    obtain ⟨g', cap', cur', hv', _, ho', hhas, _⟩ := own_of_row ho h hn
    injection hv' with h1
    injection h1 with h1
    injection h1 with h1
    subst h1
    rw [add_plain, Own.cell ho']
    exact hhas.2 j (by omega)

theorem row_form {w : World} {base : Nat} {e : TypeId} {v : Value} {n : Nat} {xs : List Value} (h : w.ownsRow base e 1 v n xs) : ∃ A c, v = .slice A n c := by
  rcases h.2 with ⟨rfl, rfl⟩ | ⟨g, cap, cur, rfl, _⟩
  · exact ⟨_, _, rfl⟩
  · exact ⟨_, _, rfl⟩

theorem info_parts' {P : Program} {e : TypeId} {z : Value} {s b : Nat} (h : (P.info? e).map (fun i => (i.zero, i.size, i.bytes)) = some (some z, s, b)) : ∃ i, P.info? e = some i ∧ i.zero = some z ∧ i.size = s ∧ i.bytes = b := by
  obtain ⟨i, hi, hz⟩ := Option.map_eq_some_iff.1 h
  simp only [Prod.mk.injEq] at hz
  exact ⟨i, hi, hz.1, hz.2.1, hz.2.2⟩

section
variable {P : Program}
/-- append of words that read as a list, from wherever, to a row of the call's own -/
theorem run_app (w : World) (base : Nat) (t ty e : TypeId) (z : Value) (bytes : Nat) (ht : P.underlying t = some (.slice e)) (hinfo : (P.info? e).map (fun i => (i.zero, i.size, i.bytes)) = some (some z, 1, bytes)) (hzs : z.cells.size = 1) (hb8 : bytes ≤ 8)
    (k : IntKind) (v : Value) (n : Nat) (xs : List Nat) (hown : w.ownsRow base e 1 v n (VW k xs))
    (A : Option Addr) (m c : Nat) (news : List Nat) (hl : news.length = m) (hA : A = none → m = 0 ∧ c = 0) (hn : ∀ ad, A = some ad → ∀ j, j < m → w.cell? (ad.add j) = some (.int k (gw news j : Int)))
    (hsm : n + m ≤ 1000000000) (hbase : base ≤ w.heap.size) :
    ∃ v' w', (Builtin.append_ #[t, t] ty #[v, .slice A m c]).run P w = .ok v' w' ∧ w'.ownsRow base e 1 v' (n + m) (VW k (xs ++ news)) ∧ w.grownBy w' v.ownBlock ∧ (v'.ownBlock = v.ownBlock ∨ v'.ownBlock = some w.heap.size) := by
  obtain ⟨i, hi, hz, hs, hby⟩ := info_parts' hinfo
  rcases A with _ | ad
  · obtain ⟨rfl, rfl⟩ := hA rfl
    obtain rfl := List.eq_nil_of_length_eq_zero hl
    refine ⟨v, w, run_append_owned_none (P := P) (w := w) base t ty e i 1 ht hi v n _ hown, by simpa using hown, World.grownBy.refl w _, .inl rfl⟩
  · obtain ⟨v', w', hrun, h2, h3, _, h5⟩ := run_append_own_at (P := P) w base t ty e i z 1 bytes ht hi hz hs hby hzs (by decide) v n _ hown ad m c (VW k news) (by rw [VW_length]; omega)
      (fun j u hu => by obtain ⟨hj, rfl⟩ := VW_get hu; exact hn ad rfl j (by omega))
      (fun u hu => by obtain ⟨x, _, rfl⟩ := List.mem_map.1 hu; rfl) (by unfold maxLen; omega) (by have : (n + m) * bytes ≤ (n + m) * 8 := Nat.mul_le_mul_left _ hb8; omega) hbase
    exact ⟨v', w', hrun, by rw [VW_append]; exact h2, h3, h5⟩
theorem wpList_app {w : World} {ops : Array Oper} {rest : List Oper} {o : Oper} {a : Act} {Q : Exit → Act → World → Prop} (hgd : o.guard = none) (s x : Operand) (t : TypeId)
    (ho : o.op = .call { callee := .builtin .append, args := #[s, x], argTypes := #[t, t] })
    (base : Nat) (e : TypeId) (z : Value) (bytes : Nat) (ht : P.underlying t = some (.slice e)) (hinfo : (P.info? e).map (fun i => (i.zero, i.size, i.bytes)) = some (some z, 1, bytes)) (hzs : z.cells.size = 1) (hb8 : bytes ≤ 8)
    (k : IntKind) (v : Value) (n : Nat) (xs : List Nat) (hs : a.eval s = v) (hown : w.ownsRow base e 1 v n (VW k xs))
    (A : Option Addr) (m c : Nat) (news : List Nat) (hx : a.eval x = .slice A m c) (hl : news.length = m) (hA : A = none → m = 0 ∧ c = 0) (hn : ∀ ad, A = some ad → ∀ j, j < m → w.cell? (ad.add j) = some (.int k (gw news j : Int)))
    (hsm : n + m ≤ 1000000000) (hbase : base ≤ w.heap.size)
    (h : ∀ v' w', w'.ownsRow base e 1 v' (n + m) (VW k (xs ++ news)) → w.grownBy w' v.ownBlock → (v'.ownBlock = v.ownBlock ∨ v'.ownBlock = some w.heap.size) → wpList P ops Q rest (a.put o.dst v') w') : wpList P ops Q (o :: rest) a w := by
  refine wpList_plain hgd fun K hK => ?_
  obtain ⟨v', w', hrun, h2, h3, h4⟩ := run_app (P := P) w base t o.type e z bytes ht hinfo hzs hb8 k v n xs hown A m c news hl hA hn hsm hbase
  unfold Oper.wp
  simp [execOp, ho, resolve, invoke, builtin, hs, hx, hrun, Result.andThen]
  exact hK _ _ (h v' w' h2 h3 h4)
end
theorem info32 : (Try.prog.info? 53).map (fun i => (i.zero, i.size, i.bytes)) = some (some (.int .u32 0), 1, 4) := by kernel_rfl
theorem info8 : (Try.prog.info? 5).map (fun i => (i.zero, i.size, i.bytes)) = some (some (.int .u8 0), 1, 1) := by kernel_rfl
/-- make([]uint32, n) -/
theorem run_mk (n : Nat) (h : n ≤ 1000000000) (w : World) :
    (Instr.makeSlice 22 (.int .i64 (n : Int)) (.int .i64 (n : Int))).run Try.prog w = .ok (.slice (some ⟨w.heap.size, 0, none⟩) n n) (w.alloc (.cells (madeCells #[.int .u32 0] n) 53)) :=
  run_make_row' 22 53 (.int .u32 0) 4 Try.underlying22 info32 rfl .i64 .i64 n (by omega) (by omega) w
end Num
end Go.Proofs.Ytkpeliokhmigoaa
