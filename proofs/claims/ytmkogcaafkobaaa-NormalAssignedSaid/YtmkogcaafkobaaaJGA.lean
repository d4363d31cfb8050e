/-
  The specification's add: a node more, whatever the order of its appends.
-/
import Derived.Test.YtmkogcaafkobaaaJr
import Derived.Test.YtmkogcaafkobaaaRk
import Derived.Test.YtmkogcaafkobaaaRw
import Derived.Test.YtmkogcaafkobaaaFu
import Derived.Deep.DeepCutAuto
namespace Go.Proofs.Ytmkogcaafkobaaa.Fm
open Go.RowKit Go.Proofs.Ytmkogcaafkobaaa.Sb Go.Proofs.Ytmkogcaafkobaaa.Rgw
set_option linter.unusedVariables false
set_option maxRecDepth 100000
theorem OutN.kn {w w' : World} {p : Array Value → TypeId → Prop} {base : Nat} {v : Value} {xs : List Nn} (h : OutN w base v xs) (k : Rg.Kn p w w') (hn : ∀ cur, ¬ p cur 41) (hi : ∀ cur, ¬ p cur 3) : OutN w' base v xs := by
  obtain ⟨cur, h1, h2⟩ := h
  refine ⟨cur, h1.same fun b hb => ?_, fun i hi2 => ?_⟩
  · obtain ⟨a1, a2, a3⟩ := h1.lt b hb
    exact (k.own a3 (hn _)).trans a3.symm
  · obtain ⟨P, m, c, a1, a2, a3, a4⟩ := h2 i hi2
    exact ⟨P, m, c, a1, a2, a3, owns_kn a4 k hi⟩
theorem gb_on {a b : World} (h : On a b) (row : Option Nat) : a.grownBy b row := ⟨h.os, h.tape, h.output, h.size, fun i hi _ => h.block i hi⟩
theorem gb_past {a b c : World} {row row2 : Option Nat} (h : a.grownBy b row) (k : b.grownBy c row2) (hr : ∀ g, row2 = some g → a.heap.size ≤ g) : a.grownBy c row :=
  ⟨k.os.trans h.os, k.tape.trans h.tape, k.output.trans h.output, Nat.le_trans h.size k.size, fun i hi hne => (k.block i (Nat.lt_of_lt_of_le hi h.size) (fun e => by have := hr i e.symm; omega)).trans (h.block i hi hne)⟩
/-- append to a row in a region that draws its order -/
theorem doesw_app {P : Program} {Q : Exit → Act → World → Prop} {F : Nat → (Tmp → Value) → World → Prop} {K : Nat → World → World → Prop} {i : Nat} {o : Oper} {a : Act} {w : World} (s x : Operand) (t : TypeId)
    (ho : o.op = .call { callee := .builtin .append, args := #[s, x], argTypes := #[t, t] })
    (v y : Value) (hs : a.eval s = v) (hx : a.eval x = y) (v' : Value) (w' : World) (hrun : (Builtin.append_ #[t, t] o.type #[v, y]).run P w = .ok v' w')
    (h : K i w w' ∧ F i (slv (a.put o.dst v')) w') : Does P Q F K i o a w := by
  refine does_value (v := v') (w' := w') ?_ h.1 h.2
  simp [execOp, ho, resolve, invoke, builtin, hs, hx, hrun, Result.andThen]
section
variable (WC W0 : World) (q : Nat) (vars top : Int) (A : Option Addr) (n c : Nat) (base : Nat) (xs : List Nn) (x : Nn) (P : Option Addr) (m d : Nat)
/-- what the operations of the region leave -/
def DA (i : Nat) (f : Tmp → Value) (w : World) : Prop :=
  match i with
  | 0 => f 10 = .pointer (some ⟨q, 1, none⟩)
  | 1 => f 11 = .slice A n c
  | 2 => f 12 = .int .i64 (x.kind : Int)
  | 3 => f 13 = .int .i64 (x.k : Int)
  | 4 => ∃ a : Nat, f 14 = .slice (some ⟨a, 0, none⟩) 0 0 ∧ W0.heap.size ≤ a ∧ Own w a 3 #[]
  | 5 => f 15 = .slice P m d
  | 6 => w.ownsRow W0.heap.size 3 1 (f 16) m (VI (ints x.args))
  | 7 => f 17 = .agg #[.int .i64 (x.kind : Int), .int .i64 (x.k : Int), f 16]
  | 8 => ∃ e : Nat, f 18 = .slice (some ⟨e, 0, none⟩) 1 1 ∧ Own w e 41 #[.int .i64 (x.kind : Int), .int .i64 (x.k : Int), f 16] ∧ w.ownsRow W0.heap.size 3 1 (f 16) m (VI (ints x.args))
  | 9 => OutN w base (f 19) (xs ++ [x]) ∧ ((f 19).ownBlock = (Value.slice A n c).ownBlock ∨ ∃ b, (f 19).ownBlock = some b ∧ W0.heap.size ≤ b)
  | 10 => f 20 = .pointer (some ⟨q, 1, none⟩)
  | 11 => Own w q 24 #[.int .i64 vars, f 19, .int .i64 top] ∧ OutN w base (f 19) (xs ++ [x]) ∧ ((f 19).ownBlock = (Value.slice A n c).ownBlock ∨ ∃ b, (f 19).ownBlock = some b ∧ W0.heap.size ≤ b)
  | 12 => On W0 w
  | 13 => Own w q 24 #[.int .i64 vars, .slice A n c, .int .i64 top]
  | 14 => Own w (q + 1) 24 #[.int .i64 0, .slice none 0 0, .int .i64 0]
  | 15 => WC.grownBy w (Value.slice A n c).ownBlock
  | _ => True
def DAEx (i : Nat) : Nat := if i = 4 then 6 else if i = 6 then 8 else if i = 8 then 9 else if i = 9 then 11 else if i = 12 then 9 else if i = 13 then 11 else 100
def DAK (i : Nat) (w w' : World) : Prop :=
  if i = 6 then Rg.Kn (fun cur _ => cur = #[]) w w' ∧ (On W0 w → On W0 w') ∧ (WC.grownBy w (Value.slice A n c).ownBlock → WC.grownBy w' (Value.slice A n c).ownBlock)
  else if i = 9 then w.grownBy w' (Value.slice A n c).ownBlock
  else if i = 11 then Rg.Kn (fun _ t => t = 24) w w' ∧ (∀ g t cur, g ≠ q → Own w g t cur → Own w' g t cur) ∧ (WC.grownBy w (Value.slice A n c).ownBlock → WC.grownBy w' (Value.slice A n c).ownBlock)
  else On w w'
theorem DAK.of_on {i : Nat} {w w' : World} (h6 : i ≠ 6) (h9 : i ≠ 9) (h11 : i ≠ 11) (k : On w w') : DAK WC W0 q A n c i w w' := by
  unfold DAK; rw [if_neg h6, if_neg h9, if_neg h11]; exact k
theorem DA.cases {j : Nat} (h : j < 16) : j = 0 ∨ j = 1 ∨ j = 2 ∨ j = 3 ∨ j = 4 ∨ j = 5 ∨ j = 6 ∨ j = 7 ∨ j = 8 ∨ j = 9 ∨ j = 10 ∨ j = 11 ∨ j = 12 ∨ j = 13 ∨ j = 14 ∨ j = 15 := by omega
theorem DA.on {j : Nat} (hj : j < 16) {f : Tmp → Value} {w w' : World} (k : On w w') (h : DA WC W0 q vars top A n c base xs x P m d j f w) : DA WC W0 q vars top A n c base xs x P m d j f w' := by
  rcases DA.cases hj with rfl | rfl | rfl | rfl | rfl | rfl | rfl | rfl | rfl | rfl | rfl | rfl | rfl | rfl | rfl | rfl
  · exact h
  · exact h
  · exact h
  · exact h
  · obtain ⟨a, h0, h1, h2⟩ := h; exact ⟨a, h0, h1, h2.on k⟩
  · exact h
  · exact owns_on (show w.ownsRow _ _ _ _ _ _ from h) k
  · exact h
  · obtain ⟨e, h0, h1, h2⟩ := h; exact ⟨e, h0, h1.on k, owns_on h2 k⟩
  · obtain ⟨h0, h1⟩ := h; exact ⟨h0.on k, h1⟩
  · exact h
  · obtain ⟨h0, h1, h2⟩ := h; exact ⟨h0.on k, h1.on k, h2⟩
  · exact On.trans (show On W0 w from h) k
  · exact Own.on (show Own w _ _ _ from h) k
  · exact Own.on (show Own w _ _ _ from h) k
  · exact World.grownBy.trans (show WC.grownBy w _ from h) (gb_on k _)
theorem DA.dep {j : Nat} (hj : j < 16) {f f' : Tmp → Value} {w : World} (hd : ∀ s, s ∈ (match j with | 0 => [10] | 1 => [11] | 2 => [12] | 3 => [13] | 4 => [14] | 5 => [15] | 6 => [16] | 7 => [17, 16] | 8 => [18, 16] | 9 => [19] | 10 => [20] | 11 => [19] | _ => []) → f s = f' s) (h : DA WC W0 q vars top A n c base xs x P m d j f w) : DA WC W0 q vars top A n c base xs x P m d j f' w := by
  rcases DA.cases hj with rfl | rfl | rfl | rfl | rfl | rfl | rfl | rfl | rfl | rfl | rfl | rfl | rfl | rfl | rfl | rfl
  · exact (hd 10 (by simp)).symm.trans h
  · exact (hd 11 (by simp)).symm.trans h
  · exact (hd 12 (by simp)).symm.trans h
  · exact (hd 13 (by simp)).symm.trans h
  · obtain ⟨a, h0, h1, h2⟩ := h; exact ⟨a, (hd 14 (by simp)).symm.trans h0, h1, h2⟩
  · exact (hd 15 (by simp)).symm.trans h
  · have h' : w.ownsRow W0.heap.size 3 1 (f 16) m (VI (ints x.args)) := h
    rw [hd 16 (by simp)] at h'; exact h'
  · have h' : f 17 = .agg #[.int .i64 (x.kind : Int), .int .i64 (x.k : Int), f 16] := h
    rw [hd 16 (by simp), hd 17 (by simp)] at h'; exact h'
  · obtain ⟨e, h0, h1, h2⟩ := h
    rw [hd 16 (by simp)] at h1 h2
    exact ⟨e, (hd 18 (by simp)).symm.trans h0, h1, h2⟩
  · obtain ⟨h0, h1⟩ := h
    rw [hd 19 (by simp)] at h0 h1
    exact ⟨h0, h1⟩
  · exact (hd 20 (by simp)).symm.trans h
  · obtain ⟨h0, h1, h2⟩ := h
    rw [hd 19 (by simp)] at h0 h1 h2
    exact ⟨h0, h1, h2⟩
  · exact h
  · exact h
  · exact h
  · exact h
end
set_option maxHeartbeats 16000000 in
theorem radd_new (w : World) (vars top : Int) (A : Option Addr) (n c base : Nat) (xs : List Nn) (h : OutN w base (.slice A n c) xs) (x : Nn) (P : Option Addr) (m d : Nat) (hR : Rd w P m d (VI (ints x.args))) (hm : m ≤ 1000) (hn : n ≤ 100000) (hbase : base ≤ w.heap.size) (hv : 0 ≤ vars ∧ vars ≤ 1000) :
    Calls Try.prog 30 #[.agg #[.int .i64 vars, .slice A n c, .int .i64 top], .int .i64 (x.kind : Int), .int .i64 (x.k : Int), .slice P m d] w fun e w' => ∃ A' c', e = .returned (.tuple #[.agg #[.int .i64 vars, .slice A' (n + 1) c', .int .i64 top], .int .i64 (vars + (n : Int))]) ∧ OutN w' base (.slice A' (n + 1) c') (xs ++ [x]) ∧ w.grownBy w' (Value.slice A n c).ownBlock ∧ ((Value.slice A' (n + 1) c').ownBlock = (Value.slice A n c).ownBlock ∨ ∃ b, (Value.slice A' (n + 1) c').ownBlock = some b ∧ w.heap.size ≤ b) := by
  have hnx : n = xs.length := h.rd.1
  obtain ⟨q, hq⟩ : ∃ q, w.heap.size = q := ⟨_, rfl⟩
  obtain ⟨w0, hw0⟩ : ∃ w0, (w.alloc (.cells #[.int .i64 vars, .slice A n c, .int .i64 top] 24)).alloc (.cells #[.int .i64 0, .slice none 0 0, .int .i64 0] 24) = w0 := ⟨_, rfl⟩
  have O0 : Own w0 q 24 #[.int .i64 vars, .slice A n c, .int .i64 top] := by rw [← hw0, ← hq]; exact (Own.new _ _ _).alloc _
  have C0 : Own w0 (q + 1) 24 #[.int .i64 0, .slice none 0 0, .int .i64 0] := by
    rw [← hw0, ← hq]
    have := Own.new (w.alloc (.cells #[.int .i64 vars, .slice A n c, .int .i64 top] 24)) 24 #[.int .i64 0, .slice none 0 0, .int .i64 0]
    simpa using this
  have P0 : On w w0 := by rw [← hw0]; exact ((On.refl w).alloc _).alloc _
  have hvb : ∀ b, (Value.slice A n c).ownBlock = some b → b < q := fun b hb => by have := (h.blk b hb).2.1; omega
  have HP := Lib.hid P0
  have HO := Lib.hid (And.intro O0 C0)
  have HN := Lib.hid hnx
  have HW := Lib.hid hw0
  have hnx2 : xs.length ≤ 100000 := by omega
  clear hnx P0 O0 C0 hw0
  go_enter Try.func30, Try.ntmps30
  go_upto_region 1 with fail
  rw [HW.out]
  refine wp_region_w (by kernel_rfl) 16 (DA w w0 q vars top A n c base xs x P m d) DAEx (DAK w w0 q A n c) [none, none, none, none, none, none, none, none, none, none, some 10, some 11, some 12, some 13, some 14, some 15, some 16, some 17, some 18, some 19, some 20, none, none, none, none, none, none, none, none] (by kernel_rfl) (by kernel_rfl) (by kernel_rfl) rfl ?rgDep ?rgKeep (by decide) ?rgInit ?rgOps9 ?rgDone9
  case rgDep =>
    intro j f1 f2 W hj hd h
    refine DA.dep _ _ _ _ _ _ _ _ _ _ _ _ _ _ hj ?_ h
    rcases DA.cases hj with rfl | rfl | rfl | rfl | rfl | rfl | rfl | rfl | rfl | rfl | rfl | rfl | rfl | rfl | rfl | rfl <;> first | (intro d hm; simp at hm; done) | (intro d hm; simp at hm; (try rcases hm with rfl | rfl) <;> (try subst hm) <;> exact hd _ (by kernel_rfl))
  case rgKeep =>
    intro i j f1 W W' hi hj hij hex hw1 hw2 hk h
    unfold DAK at hk
    by_cases h6 : i = 6
    · subst h6
      rw [if_pos rfl] at hk
      rcases DA.cases hj with rfl | rfl | rfl | rfl | rfl | rfl | rfl | rfl | rfl | rfl | rfl | rfl | rfl | rfl | rfl | rfl
      · exact h
      · exact h
      · exact h
      · exact h
      · exact absurd rfl hex
      · exact h
      · exact absurd rfl hij
      · exact absurd (hw1.symm.trans (show _ = true by kernel_rfl)) (by decide)
      · exact absurd (hw1.symm.trans (show _ = true by kernel_rfl)) (by decide)
      · exact absurd (hw1.symm.trans (show _ = true by kernel_rfl)) (by decide)
      · exact absurd (hw1.symm.trans (show _ = true by kernel_rfl)) (by decide)
      · exact absurd (hw1.symm.trans (show _ = true by kernel_rfl)) (by decide)
      · exact hk.2.1 h
      · exact Rg.Kn.own hk.1 (show Own W _ _ _ from h) (fun e => by simp at e)
      · exact Rg.Kn.own hk.1 (show Own W _ _ _ from h) (fun e => by simp at e)
      · exact hk.2.2 h
    by_cases h9 : i = 9
    · subst h9
      rw [if_neg (by decide), if_pos rfl] at hk
      rcases DA.cases hj with rfl | rfl | rfl | rfl | rfl | rfl | rfl | rfl | rfl | rfl | rfl | rfl | rfl | rfl | rfl | rfl
      · exact h
      · exact h
      · exact h
      · exact h
      · exact absurd (hw2.symm.trans (show _ = true by kernel_rfl)) (by decide)
      · exact h
      · exact absurd (hw2.symm.trans (show _ = true by kernel_rfl)) (by decide)
      · exact h
      · exact absurd rfl hex
      · exact absurd rfl hij
      · exact absurd (hw1.symm.trans (show _ = true by kernel_rfl)) (by decide)
      · exact absurd (hw1.symm.trans (show _ = true by kernel_rfl)) (by decide)
      · exact absurd rfl hex
      · exact own_by (show Own W _ _ _ from h) hk (fun b hb => by have := hvb b hb; omega)
      · exact own_by (show Own W _ _ _ from h) hk (fun b hb => by have := hvb b hb; omega)
      · exact World.grownBy.trans (show w.grownBy W _ from h) hk
    by_cases h11 : i = 11
    · subst h11
      rw [if_neg (by decide), if_neg (by decide), if_pos rfl] at hk
      rcases DA.cases hj with rfl | rfl | rfl | rfl | rfl | rfl | rfl | rfl | rfl | rfl | rfl | rfl | rfl | rfl | rfl | rfl
      · exact h
      · exact h
      · exact h
      · exact h
      · exact absurd (hw2.symm.trans (show _ = true by kernel_rfl)) (by decide)
      · exact h
      · exact absurd (hw2.symm.trans (show _ = true by kernel_rfl)) (by decide)
      · exact h
      · exact absurd (hw2.symm.trans (show _ = true by kernel_rfl)) (by decide)
      · exact absurd rfl hex
      · exact h
      · exact absurd rfl hij
      · exact absurd (hw2.symm.trans (show _ = true by kernel_rfl)) (by decide)
      · exact absurd rfl hex
      · exact hk.2.1 _ _ _ (by omega) h
      · exact hk.2.2 h
    rw [if_neg h6, if_neg h9, if_neg h11] at hk
    exact DA.on _ _ _ _ _ _ _ _ _ _ _ _ _ _ hj hk h
  case rgInit =>
    intro j h1 h2
    have h1' : 12 ≤ j := h1
    obtain rfl | rfl | rfl | rfl : j = 12 ∨ j = 13 ∨ j = 14 ∨ j = 15 := by omega
    · exact (On.refl w0).drew
    · exact HO.out.1.drew
    · exact HO.out.2.drew
    · exact gb_on HP.out.drew _
  case rgOps9 =>
    refine ⟨?_, ?_, ?_, ?_, ?_, ?_, ?_, ?_, ?_, ?_, ?_, ?_, trivial⟩
    · refine fun a W hp => ob_yes rfl (does_value (w' := W) (v := .pointer (some ⟨q, 1, none⟩)) (do_value ?_) (DAK.of_on _ _ _ _ _ _ (by decide) (by decide) (by decide) (On.refl W)) (val_eq (by rw [hp.tsize]; exact (show (10 : Nat) < 29 by decide))))
      rw [show a.eval (.tmp 4) = .pointer (some ⟨q, 0, none⟩) from hp.same 4 (by kernel_rfl)]
      go_simp
    · refine fun a W hp => ob_yes rfl (does_value (w' := W) (v := .slice A n c) (do_value ?_) (DAK.of_on _ _ _ _ _ _ (by decide) (by decide) (by decide) (On.refl W)) (val_eq (by rw [hp.tsize]; exact (show (11 : Nat) < 29 by decide))))
      have hB : Own W q 24 #[.int .i64 vars, .slice A n c, .int .i64 top] := hp.fact 13 (by decide) (.inl (by decide)) (.inr (.inr (by kernel_rfl)))
      obtain ⟨c0, c1, c2⟩ := own3 hB
      rw [show a.eval (.tmp 10) = _ from hp.fact 0 (by decide) (.inr (by kernel_rfl)) (.inl (by decide))]
      go_simp
    · exact fun a W hp => ob_yes rfl (does_value (w' := W) (v := slv a 1) rfl (DAK.of_on _ _ _ _ _ _ (by decide) (by decide) (by decide) (On.refl W)) ((val_eq (by rw [hp.tsize]; exact (show (12 : Nat) < 29 by decide))).trans (hp.same 1 (by kernel_rfl))))
    · exact fun a W hp => ob_yes rfl (does_value (w' := W) (v := slv a 2) rfl (DAK.of_on _ _ _ _ _ _ (by decide) (by decide) (by decide) (On.refl W)) ((val_eq (by rw [hp.tsize]; exact (show (13 : Nat) < 29 by decide))).trans (hp.same 2 (by kernel_rfl))))
    · refine fun a W hp => ?_
      have hOn : On w0 W := hp.fact 12 (by decide) (.inl (by decide)) (.inr (.inr (by kernel_rfl)))
      exact ob_yes rfl (does_value (w' := W.alloc (.cells #[] 3)) (v := .slice (some ⟨W.heap.size, 0, none⟩) 0 0) (do_value (by go_simp)) (DAK.of_on _ _ _ _ _ _ (by decide) (by decide) (by decide) ((On.refl W).alloc _)) ⟨W.heap.size, val_eq (by rw [hp.tsize]; exact (show (14 : Nat) < 29 by decide)), hOn.size, Own.new _ _ _⟩)
    · exact fun a W hp => ob_yes rfl (does_value (w' := W) (v := slv a 3) rfl (DAK.of_on _ _ _ _ _ _ (by decide) (by decide) (by decide) (On.refl W)) ((val_eq (by rw [hp.tsize]; exact (show (15 : Nat) < 29 by decide))).trans (hp.same 3 (by kernel_rfl))))
    · refine fun a W hp => ?_
      have hOn : On w0 W := hp.fact 12 (by decide) (.inl (by decide)) (.inr (.inr (by kernel_rfl)))
      obtain ⟨g0, hg1, hg2, hg3⟩ : ∃ g0 : Nat, slv a 14 = .slice (some ⟨g0, 0, none⟩) 0 0 ∧ w0.heap.size ≤ g0 ∧ Own W g0 3 #[] := hp.fact 4 (by decide) (.inr (by kernel_rfl)) (.inr (.inl rfl))
      have hx : slv a 15 = .slice P m d := hp.fact 5 (by decide) (.inr (by kernel_rfl)) (.inl (by decide))
      have hrow : W.ownsRow w0.heap.size 3 1 (.slice (some ⟨g0, 0, none⟩) 0 0) 0 [] := ⟨rfl, .inr ⟨g0, 0, #[], rfl, hg2, hg3, Nat.le_refl _, by unfold maxLen; omega, rfl, rfl⟩⟩
      obtain ⟨v', w', hrun, hown, hgrow, _⟩ := run_app (P := Try.prog) W w0.heap.size 39 39 3 (.int .i64 0) 8 Try.underlying39 infoi rfl (by decide) _ 0 [] hrow P m d (VI (ints x.args)) (hR.on (HP.out.trans hOn)) (VI_one _) (by omega) hOn.size
      refine ob_yes rfl (doesw_app (.tmp 14) (.tmp 15) 39 rfl _ _ hg1 hx v' w' hrun ⟨?_, ?_⟩)
      · exact ⟨Rg.Kn.only (show Only g0 W w' from hgrow) hg3 rfl, fun k => on_row k hrow (Nat.le_refl _) hgrow, fun k => gb_past k hgrow (fun g e => by (have h2 : g0 = g := by (simpa [Value.ownBlock] using e)); (have := HP.out.size); omega)⟩
      · show w'.ownsRow w0.heap.size 3 1 (slv (a.put (some 16) v') 16) m (VI (ints x.args))
        rw [val_eq (by rw [hp.tsize]; exact (show (16 : Nat) < 29 by decide))]
        simpa using hown
    · refine fun a W hp => ?_
      have h16 : W.ownsRow w0.heap.size 3 1 (slv a 16) m (VI (ints x.args)) := hp.fact 6 (by decide) (.inr (by kernel_rfl)) (.inr (.inr (by kernel_rfl)))
      obtain ⟨B, k, hB⟩ := row_form h16
      refine ob_yes rfl (does_value (w' := W) (v := .agg #[.int .i64 (x.kind : Int), .int .i64 (x.k : Int), .slice B m k]) (do_value ?_) (DAK.of_on _ _ _ _ _ _ (by decide) (by decide) (by decide) (On.refl W)) ?_)
      · simp only [List.map_toArray, List.map_cons, List.map_nil]
        rw [show a.eval (.tmp 12) = _ from hp.fact 2 (by decide) (.inr (by kernel_rfl)) (.inl (by decide)), show a.eval (.tmp 13) = _ from hp.fact 3 (by decide) (.inr (by kernel_rfl)) (.inl (by decide)), show a.eval (.tmp 16) = _ from hB]
        go_simp
      · show slv (a.put (some 17) _) 17 = .agg #[.int .i64 (x.kind : Int), .int .i64 (x.k : Int), slv (a.put (some 17) _) 16]
        rw [val_eq (by rw [hp.tsize]; exact (show (17 : Nat) < 29 by decide)), val_ne (by decide), hB]
    · refine fun a W hp => ?_
      have h16 : W.ownsRow w0.heap.size 3 1 (slv a 16) m (VI (ints x.args)) := hp.fact 6 (by decide) (.inr (by kernel_rfl)) (.inr (.inl rfl))
      have h17 : slv a 17 = .agg #[.int .i64 (x.kind : Int), .int .i64 (x.k : Int), slv a 16] := hp.fact 7 (by decide) (.inr (by kernel_rfl)) (.inl (by decide))
      obtain ⟨B, k, hB⟩ := row_form h16
      rw [hB] at h16 h17
      refine ob_yes rfl (does_value (w' := W.alloc (.cells #[.int .i64 (x.kind : Int), .int .i64 (x.k : Int), .slice B m k] 41)) (v := .slice (some ⟨W.heap.size, 0, none⟩) 1 1) (do_value ?_) (DAK.of_on _ _ _ _ _ _ (by decide) (by decide) (by decide) ((On.refl W).alloc _)) ?_)
      · simp only [List.map_toArray, List.map_cons, List.map_nil]
        rw [show a.eval (.tmp 17) = _ from h17]
        go_simp
      · refine ⟨W.heap.size, val_eq (by rw [hp.tsize]; exact (show (18 : Nat) < 29 by decide)), ?_, ?_⟩
        · rw [val_ne (by decide), hB]; exact Own.new _ _ _
        · rw [val_ne (by decide), hB]; exact row_alloc h16 _
    · refine fun a W hp => ?_
      have hOn : On w0 W := hp.fact 12 (by decide) (.inl (by decide)) (.inr (.inl rfl))
      have h11 : slv a 11 = .slice A n c := hp.fact 1 (by decide) (.inr (by kernel_rfl)) (.inl (by decide))
      obtain ⟨e, he1, he2, he3⟩ : ∃ e : Nat, slv a 18 = .slice (some ⟨e, 0, none⟩) 1 1 ∧ Own W e 41 #[.int .i64 (x.kind : Int), .int .i64 (x.k : Int), slv a 16] ∧ W.ownsRow w0.heap.size 3 1 (slv a 16) m (VI (ints x.args)) := hp.fact 8 (by decide) (.inr (by kernel_rfl)) (.inr (.inl rfl))
      obtain ⟨B, k, hB⟩ := row_form he3
      rw [hB] at he2 he3
      obtain ⟨c0, c1, c2⟩ := own3 he2
      have hb1 : base ≤ w0.heap.size := Nat.le_trans hbase HP.out.size
      have hb2 : base ≤ W.heap.size := Nat.le_trans hb1 hOn.size
      obtain ⟨v', w', hrun, hout, hgrow, hnb⟩ := app_nd W 22 base (.slice A n c) xs (h.on (HP.out.trans hOn)) e 1 x B m k c0 c1 c2 (row_low he3 hb1) (by omega) hb2
      refine ob_yes rfl (doesw_app (.tmp 11) (.tmp 18) 22 rfl _ _ h11 he1 v' w' hrun ⟨hgrow, ?_⟩)
      show OutN w' base (slv (a.put (some 19) v') 19) (xs ++ [x]) ∧ ((slv (a.put (some 19) v') 19).ownBlock = (Value.slice A n c).ownBlock ∨ ∃ b, (slv (a.put (some 19) v') 19).ownBlock = some b ∧ w0.heap.size ≤ b)
      rw [val_eq (by rw [hp.tsize]; exact (show (19 : Nat) < 29 by decide))]
      exact ⟨hout, hnb.imp id fun e => ⟨_, e, hOn.size⟩⟩
    · refine fun a W hp => ob_yes rfl (does_value (w' := W) (v := .pointer (some ⟨q, 1, none⟩)) (do_value ?_) (DAK.of_on _ _ _ _ _ _ (by decide) (by decide) (by decide) (On.refl W)) (val_eq (by rw [hp.tsize]; exact (show (20 : Nat) < 29 by decide))))
      rw [show a.eval (.tmp 4) = .pointer (some ⟨q, 0, none⟩) from hp.same 4 (by kernel_rfl)]
      go_simp
    · refine fun a W hp => ?_
      obtain ⟨h19, hnb⟩ : OutN W base (slv a 19) (xs ++ [x]) ∧ ((slv a 19).ownBlock = (Value.slice A n c).ownBlock ∨ ∃ b, (slv a 19).ownBlock = some b ∧ w0.heap.size ≤ b) := hp.fact 9 (by decide) (.inr (by kernel_rfl)) (.inr (.inl rfl))
      have hB : Own W q 24 #[.int .i64 vars, .slice A n c, .int .i64 top] := hp.fact 13 (by decide) (.inl (by decide)) (.inr (.inl rfl))
      obtain ⟨A', c', hv', _, _⟩ := h19.form
      rw [hv'] at h19 hnb
      obtain ⟨c0, c1, c2⟩ := own3 hB
      have f1 := hB.frozen 1
      have ho : Only q W (W.setCell ⟨q, 1, none⟩ (.slice A' (xs ++ [x]).length c')) := (Only.refl q W).set_ 1 _
      have hk : Rg.Kn (fun _ t => t = 24) W (W.setCell ⟨q, 1, none⟩ (.slice A' (xs ++ [x]).length c')) := Rg.Kn.only ho hB rfl
      refine ob_yes rfl (does_skip (w' := W.setCell ⟨q, 1, none⟩ (.slice A' (xs ++ [x]).length c')) (do_unit ?_) ?_ ⟨?_, ?_, ?_⟩)
      · rw [show a.eval (.tmp 20) = _ from hp.fact 10 (by decide) (.inr (by kernel_rfl)) (.inl (by decide)), show a.eval (.tmp 19) = _ from hv']
        go_simp
      · exact ⟨hk, fun g t cur hg ho2 => ho2.far (by show g ≠ q; exact hg) _, fun k => gb_past k ho (fun g e => by injection e with e; omega)⟩
      · rw [val_ne (by decide), hv']
        exact hB.set_ 1 _
      · rw [val_ne (by decide), hv']
        exact h19.kn hk (fun _ => by decide) (fun _ => by decide)
      · rw [val_ne (by decide), hv']; exact hnb
  case rgDone9 =>
    intro fv w5 hf
    obtain ⟨hB, hout, hnb⟩ : Own w5 q 24 #[.int .i64 vars, fv 19, .int .i64 top] ∧ OutN w5 base (fv 19) (xs ++ [x]) ∧ ((fv 19).ownBlock = (Value.slice A n c).ownBlock ∨ ∃ b, (fv 19).ownBlock = some b ∧ w0.heap.size ≤ b) := hf 11 (by decide) (by decide)
    have hC : Own w5 (q + 1) 24 #[.int .i64 0, .slice none 0 0, .int .i64 0] := hf 14 (by decide) (by decide)
    have hG : w.grownBy w5 (Value.slice A n c).ownBlock := hf 15 (by decide) (by decide)
    clear hf
    obtain ⟨A', c', hv', hc1, hc2⟩ := hout.form
    rw [hv'] at hout hB hnb
    have hl : (xs ++ [x]).length = n + 1 := by rw [List.length_append, HN.out]; rfl
    rw [hl] at hout hB hc1 hnb
    have HNB := Lib.hid (hnb.imp id fun ⟨b, e1, e2⟩ => ⟨b, e1, Nat.le_trans HP.out.size e2⟩ : (Value.slice A' (n + 1) c').ownBlock = (Value.slice A n c).ownBlock ∨ ∃ b, (Value.slice A' (n + 1) c').ownBlock = some b ∧ w.heap.size ≤ b)
    clear hnb
    have HF := Lib.hid (And.intro hout (And.intro hG (And.intro hB hC)))
    obtain ⟨b0, b1, b2⟩ := own3 hB
    obtain ⟨d0, d1, d2⟩ := own3 hC
    have e0 := hC.frozen 0
    have e1 := hC.frozen 1
    have e2 := hC.frozen 2
    simp only [fillL]
    clear hout hG hB hC hv' hl
    go_upto_region 2 with fail
    go_region
    all_goals go_wp2
    have hC8 := ((HF.out.2.2.2.set_ 0 (.int .i64 vars)).set_ 1 (.slice A' (n + 1) c')).set_ 2 (.int .i64 top)
    obtain ⟨x0, x1, x2⟩ := own3 (show Own _ (q + 1) 24 #[.int .i64 vars, .slice A' (n + 1) c', .int .i64 top] from hC8)
    have hk8 : Rg.Kn (fun _ t => t = 24) w5 (((w5.setCell ⟨q + 1, 0, none⟩ (.int .i64 vars)).setCell ⟨q + 1, 1, none⟩ (.slice A' (n + 1) c')).setCell ⟨q + 1, 2, none⟩ (.int .i64 top)) := Rg.Kn.only ((((Only.refl (q + 1) w5).set_ 0 _).set_ 1 _).set_ 2 _) HF.out.2.2.2 rfl
    refine bodyPost_ret (v := .tuple #[.agg #[.int .i64 vars, .slice A' (n + 1) c', .int .i64 top], .int .i64 (vars + (n : Int))]) ?_ rfl ⟨A', c', rfl, ?_, ?_, HNB.out⟩
    · simp [results, Try.results30, go_sem, x0, x1, x2]
      omega
    · exact (HF.out.1.kn hk8 (fun _ => by decide) (fun _ => by decide)).on (On.refl _).drew
    · exact gb_past (gb_past HF.out.2.1 ((((Only.refl (q + 1) w5).set_ 0 _).set_ 1 _).set_ 2 _) (fun g e => by injection e with e; omega)) (gb_on (On.refl _).drew (some w.heap.size)) (fun g e => by injection e with e; omega)
theorem radd_any (w : World) (vars top : Int) (A : Option Addr) (n c base : Nat) (xs : List Nn) (h : OutN w base (.slice A n c) xs) (x : Nn) (P : Option Addr) (m d : Nat) (hR : Rd w P m d (VI (ints x.args))) (hm : m ≤ 1000) (hn : n ≤ 100000) (hbase : base ≤ w.heap.size) (hv : 0 ≤ vars ∧ vars ≤ 1000) :
    Calls Try.prog 30 #[.agg #[.int .i64 vars, .slice A n c, .int .i64 top], .int .i64 (x.kind : Int), .int .i64 (x.k : Int), .slice P m d] w fun e w' => ∃ A' c', e = .returned (.tuple #[.agg #[.int .i64 vars, .slice A' (n + 1) c', .int .i64 top], .int .i64 (vars + (n : Int))]) ∧ OutN w' base (.slice A' (n + 1) c') (xs ++ [x]) ∧ w.grownBy w' (Value.slice A n c).ownBlock := by
  refine (radd_new w vars top A n c base xs h x P m d hR hm hn hbase hv).mono ?_
  rintro e w1 ⟨A', c', e1, e2, e3, _⟩
  exact ⟨A', c', e1, e2, e3⟩
end Go.Proofs.Ytmkogcaafkobaaa.Fm
/-
  Formulas that are built node by node, in memory; sized of the specification.
-/
namespace Go.Proofs.Ytmkogcaafkobaaa.Fm
open Go.RowKit Go.Proofs.Ytmkogcaafkobaaa.Sb
set_option linter.unusedVariables false
set_option maxRecDepth 100000
theorem own_atZ {w : World} {g : Nat} {xs : List Int} (h : Own w g 3 (VI xs).toArray) {i : Nat} (hi : i < xs.length) : w.cell? ⟨g, i, none⟩ = some (.int .i64 (xs.getD i 0)) := by
  rw [h.cell]
  simp [VI, hi]
theorem own_setZ {w : World} {g : Nat} {xs : List Int} (h : Own w g 3 (VI xs).toArray) (i : Nat) (z : Int) : Own (w.setCell ⟨g, i, none⟩ (.int .i64 z)) g 3 (VI (xs.set i z)).toArray := by
  have := h.set_ i (.int .i64 z)
  have e : (VI xs).toArray.setIfInBounds i (.int .i64 z) = (VI (xs.set i z)).toArray := by simp [VI, List.map_set]
  rw [e] at this
  exact this
/-- a list of numbers that is filled from the left -/
def pad (l : List Int) (N : Nat) : List Int := l ++ List.replicate (N - l.length) 0
theorem pad_len {l : List Int} {N : Nat} (h : l.length ≤ N) : (pad l N).length = N := by
  unfold pad; rw [List.length_append, List.length_replicate]; omega
theorem pad_get {l : List Int} {N i : Nat} (h : i < l.length) : (pad l N).getD i 0 = l.getD i 0 := getD_app _ _ _ h
theorem pad_set {l : List Int} {N : Nat} (h : l.length < N) (z : Int) : (pad l N).set l.length z = pad (l ++ [z]) N := by
  unfold pad
  obtain ⟨k, hk⟩ : ∃ k, N - l.length = k + 1 := ⟨N - l.length - 1, by omega⟩
  rw [hk, set_rep, List.length_append, List.length_singleton, show N - (l.length + 1) = k by omega]
theorem pad_nil (N : Nat) : pad [] N = List.replicate N 0 := by simp [pad]
theorem ints_rep (N : Nat) : ints (List.replicate N 0) = List.replicate N 0 := by simp [ints]
theorem pad_full {l : List Int} : pad l l.length = l := by simp [pad]
theorem ints_snoc (l : List Nat) (x : Nat) : ints (l ++ [x]) = ints l ++ [(x : Int)] := by simp [ints]
theorem ints_range_succ (t : Nat) : ints (List.range (t + 1)) = ints (List.range t) ++ [(t : Int)] := by rw [List.range_succ, ints_snoc]
/-- a formula under way: its box in block b, the numbers in block g, the nodes o so far -/
structure Bld (wa w : World) (base g b : Nat) (V : Int) (now : List Int) (o : List Nn) (v : Value) : Prop where
  on : On wa w
  now : Own w g 3 (VI now).toArray
  box : Own w b 24 #[.int .i64 V, v, .int .i64 0]
  out : OutN w base v o
  hb : b < base
  hg : g < base
  hab : wa.heap.size ≤ b
  hag : wa.heap.size ≤ g
  hne : b ≠ g
theorem Bld.to {wa w w' : World} {base g b : Nat} {V : Int} {now : List Int} {o : List Nn} {v : Value} (h : Bld wa w base g b V now o v) (k : On w w') : Bld wa w' base g b V now o v :=
  ⟨h.on.trans k, h.now.on k, h.box.on k, h.out.on k, h.hb, h.hg, h.hab, h.hag, h.hne⟩
theorem Bld.blk {wa w : World} {base g b : Nat} {V : Int} {now : List Int} {o : List Nn} {v : Value} (h : Bld wa w base g b V now o v) : ∀ k, v.ownBlock = some k → base ≤ k ∧ k < w.heap.size := fun k hk => ⟨(h.out.blk k hk).1, (h.out.blk k hk).2.1⟩
/-- behind a call that has made the row longer -/
structure Grown (wa w : World) (base g b : Nat) (V : Int) (now : List Int) (o : List Nn) (v v0 : Value) : Prop where
  on : On wa w
  now : Own w g 3 (VI now).toArray
  box : Own w b 24 #[.int .i64 V, v0, .int .i64 0]
  out : OutN w base v o
  hb : b < base
  hg : g < base
  hab : wa.heap.size ≤ b
  hag : wa.heap.size ≤ g
  hne : b ≠ g
theorem Bld.grow {wa w w' : World} {base g b : Nat} {V : Int} {now : List Int} {o o' : List Nn} {v v' : Value} (h : Bld wa w base g b V now o v) (k : w.grownBy w' v.ownBlock) (h' : OutN w' base v' o') : Grown wa w' base g b V now o' v' v := by
  have hk := h.blk
  have h1 := h.hb
  have h2 := h.hg
  have h3 := h.hab
  exact ⟨on_by h.on k (fun b hb => by have := hk b hb; omega), own_by h.now k (fun b hb => by have := hk b hb; omega), own_by h.box k (fun b hb => by have := hk b hb; omega), h', h.hb, h.hg, h.hab, h.hag, h.hne⟩
theorem Grown.cells {wa w : World} {base g b : Nat} {V : Int} {now : List Int} {o : List Nn} {v v0 : Value} (h : Grown wa w base g b V now o v v0) :
    w.cell? ⟨b, 0, none⟩ = some (.int .i64 V) ∧ w.cell? ⟨b, 1, none⟩ = some v0 ∧ w.cell? ⟨b, 2, none⟩ = some (.int .i64 0) ∧ w.frozen? ⟨b, 0, none⟩ = false ∧ w.frozen? ⟨b, 1, none⟩ = false ∧ w.frozen? ⟨b, 2, none⟩ = false :=
  ⟨(own3 h.box).1, (own3 h.box).2.1, (own3 h.box).2.2, h.box.frozen 0, h.box.frozen 1, h.box.frozen 2⟩
/-- the box has the longer row too -/
theorem Grown.stored {wa w : World} {base g b : Nat} {V : Int} {now : List Int} {o : List Nn} {v v0 : Value} (h : Grown wa w base g b V now o v v0) : Bld wa (((w.setCell ⟨b, 0, none⟩ (.int .i64 V)).setCell ⟨b, 1, none⟩ v).setCell ⟨b, 2, none⟩ (.int .i64 0)) base g b V now o v := by
  have hb := h.hb
  refine ⟨On.setCell (On.setCell (On.setCell h.on (p := ⟨b, 0, none⟩) h.hab _) (p := ⟨b, 1, none⟩) h.hab _) (p := ⟨b, 2, none⟩) h.hab _, ?_, ((h.box.set_ 0 _).set_ 1 _).set_ 2 _, ((h.out.far (p := ⟨b, 0, none⟩) hb _).far (p := ⟨b, 1, none⟩) hb _).far (p := ⟨b, 2, none⟩) hb _, h.hb, h.hg, h.hab, h.hag, h.hne⟩
  exact ((h.now.far (p := ⟨b, 0, none⟩) (Ne.symm h.hne) _).far (p := ⟨b, 1, none⟩) (Ne.symm h.hne) _).far (p := ⟨b, 2, none⟩) (Ne.symm h.hne) _
theorem Bld.set_now {wa w : World} {base g b : Nat} {V : Int} {now : List Int} {o : List Nn} {v : Value} (h : Bld wa w base g b V now o v) (i : Nat) (z : Int) : Bld wa (w.setCell ⟨g, i, none⟩ (.int .i64 z)) base g b V (now.set i z) o v :=
  ⟨On.setCell h.on (p := ⟨g, i, none⟩) h.hag _, own_setZ h.now i z, h.box.far (p := ⟨g, i, none⟩) h.hne _, h.out.far (p := ⟨g, i, none⟩) h.hg _, h.hb, h.hg, h.hab, h.hag, h.hne⟩
theorem OutN.low {w : World} {base base' : Nat} {v : Value} {xs : List Nn} (h : OutN w base v xs) (hb : base' ≤ base) : OutN w base' v xs := by
  obtain ⟨cur, h1, h2⟩ := h
  refine ⟨cur, ?_, fun i hi => ?_⟩
  · rcases h1 with h | ⟨g, cap, a, b, r⟩
    · exact .inl h
    · exact .inr ⟨g, cap, a, by omega, r⟩
  · obtain ⟨P, m, c, a1, a2, a3, a4⟩ := h2 i hi
    exact ⟨P, m, c, a1, a2, a3, row_low a4 hb⟩
/-- what a call returns that makes the formula g in new memory, or finds it too large (the specification) -/
def MadeR (b : Nat) (g : Fn) (e : Ending) (w' : World) : Prop :=
  (g.nodes.length ≤ 128 ∧ ∃ A' c', e = .returned (.tuple #[.agg #[.int .i64 (g.vars : Int), .slice A' g.nodes.length c', .int .i64 (g.top : Int)], .int .i64 0]) ∧ OutN w' b (.slice A' g.nodes.length c') g.nodes) ∨
  (128 < g.nodes.length ∧ e = .returned (.tuple #[.agg #[.int .i64 0, .slice none 0 0, .int .i64 0], .int .i64 4]))
set_option maxHeartbeats 4000000 in
theorem rsized_any (w : World) (vars top : Int) (A : Option Addr) (n c : Nat) (hcap : n ≤ c) (hmax : c ≤ 9223372036854775807) :
    Calls Try.prog 31 #[.agg #[.int .i64 vars, .slice A n c, .int .i64 top]] w fun e w' => ((n ≤ 128 ∧ e = .returned (.tuple #[.agg #[.int .i64 vars, .slice A n c, .int .i64 top], .int .i64 0])) ∨ (128 < n ∧ e = .returned (.tuple #[.agg #[.int .i64 0, .slice none 0 0, .int .i64 0], .int .i64 4]))) ∧ On w w' := by
  obtain ⟨q, hq⟩ : ∃ q, w.heap.size = q := ⟨_, rfl⟩
  obtain ⟨w0, hw0⟩ : ∃ w0, (w.alloc (.cells #[.int .i64 vars, .slice A n c, .int .i64 top] 24)).alloc (.cells #[.int .i64 0, .slice none 0 0, .int .i64 0] 24) = w0 := ⟨_, rfl⟩
  have O0 : Own w0 q 24 #[.int .i64 vars, .slice A n c, .int .i64 top] := by rw [← hw0, ← hq]; exact (Own.new _ _ _).alloc _
  have C0 : Own w0 (q + 1) 24 #[.int .i64 0, .slice none 0 0, .int .i64 0] := by
    rw [← hw0, ← hq]
    have := Own.new (w.alloc (.cells #[.int .i64 vars, .slice A n c, .int .i64 top] 24)) 24 #[.int .i64 0, .slice none 0 0, .int .i64 0]
    simpa using this
  have P0 : On w w0 := by rw [← hw0]; exact ((On.refl w).alloc _).alloc _
  obtain ⟨b0, b1, b2⟩ := own3 O0
  obtain ⟨d0, d1, d2⟩ := own3 C0
  have e0 := C0.frozen 0
  have e1 := C0.frozen 1
  have e2 := C0.frozen 2
  have HO := Lib.hid (And.intro C0 P0)
  have HW := Lib.hid hw0
  by_cases hl : 128 < n
  · clear O0 C0 P0 hw0
    go_enter Try.func31, Try.ntmps31
    go_upto_region 1 with fail
    rw [HW.out]
    go_wp2
    have OF := ((HO.out.1.set_ 0 (.int .i64 0)).set_ 1 (.slice none 0 0)).set_ 2 (.int .i64 0)
    obtain ⟨x0, x1, x2⟩ := own3 (show Own _ (q + 1) 24 #[.int .i64 0, .slice none 0 0, .int .i64 0] from OF)
    have P8 : On w (((w0.setCell ⟨q + 1, 0, none⟩ (.int .i64 0)).setCell ⟨q + 1, 1, none⟩ (.slice none 0 0)).setCell ⟨q + 1, 2, none⟩ (.int .i64 0)) := On.setCell (On.setCell (On.setCell HO.out.2 (p := ⟨q + 1, 0, none⟩) (by show w.heap.size ≤ q + 1; omega) _) (p := ⟨q + 1, 1, none⟩) (by show w.heap.size ≤ q + 1; omega) _) (p := ⟨q + 1, 2, none⟩) (by show w.heap.size ≤ q + 1; omega) _
    refine bodyPost_ret (v := .tuple #[.agg #[.int .i64 0, .slice none 0 0, .int .i64 0], .int .i64 4]) (by simp [results, Try.results31, go_sem, x0, x1, x2]) rfl ⟨.inr ⟨hl, rfl⟩, P8⟩
  · clear O0 C0 P0 hw0
    go_enter Try.func31, Try.ntmps31
    go_upto_region 1 with fail
    rw [HW.out]
    go_wp2
    have OF := ((HO.out.1.set_ 0 (.int .i64 vars)).set_ 1 (.slice A n c)).set_ 2 (.int .i64 top)
    obtain ⟨x0, x1, x2⟩ := own3 (show Own _ (q + 1) 24 #[.int .i64 vars, .slice A n c, .int .i64 top] from OF)
    have P8 : On w (((w0.setCell ⟨q + 1, 0, none⟩ (.int .i64 vars)).setCell ⟨q + 1, 1, none⟩ (.slice A n c)).setCell ⟨q + 1, 2, none⟩ (.int .i64 top)) := On.setCell (On.setCell (On.setCell HO.out.2 (p := ⟨q + 1, 0, none⟩) (by show w.heap.size ≤ q + 1; omega) _) (p := ⟨q + 1, 1, none⟩) (by show w.heap.size ≤ q + 1; omega) _) (p := ⟨q + 1, 2, none⟩) (by show w.heap.size ≤ q + 1; omega) _
    refine bodyPost_ret (v := .tuple #[.agg #[.int .i64 vars, .slice A n c, .int .i64 top], .int .i64 0]) (by simp [results, Try.results31, go_sem, x0, x1, x2]) rfl ⟨.inl ⟨by omega, rfl⟩, P8⟩
end Go.Proofs.Ytmkogcaafkobaaa.Fm
