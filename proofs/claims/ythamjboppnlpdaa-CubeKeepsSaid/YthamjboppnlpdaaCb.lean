/-
  Package cube: Check, check, checkList; the specification's Mask, Check, CheckList; the number of an error.
-/
import Derived.Test.YthamjboppnlpdaaCa
namespace Go.Proofs.Ythamjboppnlpdaa.Cu
open Go.RowKit Go.Proofs.Ythamjboppnlpdaa.Sb
set_option linter.unusedVariables false
set_option maxRecDepth 100000
def maskZ (x : Int) : Bool := decide (0 ≤ x ∧ x < 16777216)
/-- the number of a cube's error -/
def chkC (c : Cz) : Nat := if maskZ c.1 = true ∧ maskZ c.2 = true then (if c.1.toNat &&& c.2.toNat = 0 then 0 else 6) else 3
def zc (a : Cb) : Cz := ((a.1 : Int), (a.2 : Int))
def zl (l : List Cb) : List Cz := l.map zc
def chkL : List Cz → Nat
  | [] => 0
  | c :: l => if chkC c = 0 then chkL l else chkC c
theorem maskZ_nat {x : Int} (h : maskZ x = true) : ∃ n : Nat, x = (n : Int) ∧ n < 16777216 := by
  unfold maskZ at h
  rw [decide_eq_true_eq] at h
  exact ⟨x.toNat, by omega, by omega⟩
theorem maskZ_of {n : Nat} (h : n < 16777216) : maskZ (n : Int) = true := by unfold maskZ; rw [decide_eq_true_eq]; omega
theorem chkC_ok {a : Cb} (h : OkC a) : chkC (zc a) = 0 := by
  unfold chkC zc
  rw [if_pos ⟨maskZ_of h.1, maskZ_of h.2.1⟩]
  simp only [Int.toNat_natCast]
  rw [if_pos h.2.2]
theorem chkC_zero {c : Cz} (h : chkC c = 0) : ∃ a : Cb, c = zc a ∧ OkC a := by
  unfold chkC at h
  by_cases k : maskZ c.1 = true ∧ maskZ c.2 = true
  · rw [if_pos k] at h
    obtain ⟨y, h1, l1⟩ := maskZ_nat k.1
    obtain ⟨n, h2, l2⟩ := maskZ_nat k.2
    obtain ⟨c1, c2⟩ := c
    simp only at h1 h2
    subst h1; subst h2
    simp only [Int.toNat_natCast] at h
    refine ⟨(y, n), rfl, l1, l2, ?_⟩
    by_cases e : y &&& n = 0
    · exact e
    · rw [if_neg e] at h; omega
  · rw [if_neg k] at h; omega
theorem chkC_le (c : Cz) : chkC c = 0 ∨ chkC c = 3 ∨ chkC c = 6 := by
  unfold chkC
  repeat' split
  all_goals omega
theorem chkL_ok {l : List Cb} (h : ∀ c ∈ l, OkC c) : chkL (zl l) = 0 := by
  induction l with
  | nil => rfl
  | cons c l ih =>
    show (if chkC (zc c) = 0 then chkL (zl l) else _) = 0
    rw [if_pos (chkC_ok (h c List.mem_cons_self))]
    exact ih fun x hx => h x (List.mem_cons_of_mem _ hx)
theorem chkL_zero : ∀ {xs : List Cz}, chkL xs = 0 → ∃ l : List Cb, xs = zl l ∧ ∀ c ∈ l, OkC c
  | [], _ => ⟨[], rfl, fun c h => by cases h⟩
  | c :: xs, h => by
    have h' : (if chkC c = 0 then chkL xs else chkC c) = 0 := h
    by_cases k : chkC c = 0
    · rw [if_pos k] at h'
      obtain ⟨a, rfl, ha⟩ := chkC_zero k
      obtain ⟨l, rfl, hl⟩ := chkL_zero h'
      exact ⟨a :: l, rfl, fun x hx => by rcases List.mem_cons.1 hx with rfl | hx; exact ha; exact hl x hx⟩
    · rw [if_neg k] at h'
      exact absurd h' k
theorem chkL_le : ∀ xs : List Cz, chkL xs = 0 ∨ chkL xs = 3 ∨ chkL xs = 6
  | [] => .inl rfl
  | c :: xs => by
    show (if chkC c = 0 then chkL xs else chkC c) = 0 ∨ (if chkC c = 0 then chkL xs else chkC c) = 3 ∨ (if chkC c = 0 then chkL xs else chkC c) = 6
    split
    · exact chkL_le xs
    · exact chkC_le c
theorem chkL_drop {xs : List Cz} {j : Nat} (h : j < xs.length) : chkL (xs.drop j) = if chkC (xs.getD j (0, 0)) = 0 then chkL (xs.drop (j + 1)) else chkC (xs.getD j (0, 0)) := by
  rw [List.drop_eq_getElem_cons h]
  have e : xs.getD j (0, 0) = xs[j] := by rw [List.getD_eq_getElem?_getD, List.getElem?_eq_getElem h]; rfl
  rw [e]
  rfl
theorem zl_len (l : List Cb) : (zl l).length = l.length := by unfold zl; rw [List.length_map]
theorem zl_get (l : List Cb) (j : Nat) : (zl l).getD j (0, 0) = zc (l.getD j (0, 0)) := by
  unfold zl
  rw [List.getD_eq_getElem?_getD, List.getD_eq_getElem?_getD, List.getElem?_map]
  cases l[j]? <;> rfl
theorem getD_mem {α : Type} {l : List α} {j : Nat} {d : α} (h : j < l.length) : l.getD j d ∈ l := by
  rw [List.getD_eq_getElem?_getD, List.getElem?_eq_getElem h]
  exact List.getElem_mem h
set_option maxHeartbeats 4000000 in
theorem check1_any (w : World) (c : Cz) :
    Calls Try.prog 15 #[czV c] w fun e w' => e = .returned (errV (chkC c)) ∧ On w w' := by
  obtain ⟨q, hq⟩ : ∃ q, w.heap.size = q := ⟨_, rfl⟩
  obtain ⟨w0, hw0⟩ : ∃ w0, w.alloc (.cells #[.int .i64 c.1, .int .i64 c.2] 23) = w0 := ⟨_, rfl⟩
  obtain ⟨O0, P0⟩ := box1 hq hw0
  obtain ⟨r0, r1⟩ := own2 O0
  have HP := Lib.hid P0
  have hV := fun s W => valid_any W s
  clear P0 O0
  unfold chkC czV
  obtain ⟨c1, c2⟩ := c
  simp only at hw0 r0 r1 ⊢
  by_cases h1 : maskZ c1 = true
  · by_cases h2 : maskZ c2 = true
    · rw [if_pos ⟨h1, h2⟩]
      have v1 := fun W => hV c1 W
      have v2 := fun W => hV c2 W
      rw [show decide (0 ≤ c1 ∧ c1 < 16777216) = true from h1] at v1
      rw [show decide (0 ≤ c2 ∧ c2 < 16777216) = true from h2] at v2
      obtain ⟨y, rfl, l1⟩ := maskZ_nat h1
      obtain ⟨n, rfl, l2⟩ := maskZ_nat h2
      have hA := and_nat y n l1 l2
      simp only [Int.toNat_natCast]
      by_cases hz : y &&& n = 0
      · rw [if_pos hz]
        rw [hz] at hA
        clear hz hV h1 h2 l1 l2
        go_enter Try.func15, Try.ntmps15
        subst hq
        go_wp2_with (first | (refine (v1 _).mono ?_; rintro e w' ⟨rfl, rfl⟩) | (refine (v2 _).mono ?_; rintro e w' ⟨rfl, rfl⟩))
        go_ret
        exact ⟨rfl, HP.out⟩
      · rw [if_neg hz]
        obtain ⟨m, hm⟩ : ∃ m, y &&& n = m := ⟨_, rfl⟩
        rw [hm] at hA hz
        clear hm hV h1 h2 l1 l2
        go_enter Try.func15, Try.ntmps15
        subst hq
        go_wp2_with (first | (refine (v1 _).mono ?_; rintro e w' ⟨rfl, rfl⟩) | (refine (v2 _).mono ?_; rintro e w' ⟨rfl, rfl⟩))
        go_ret
        exact ⟨rfl, HP.out⟩
    · rw [if_neg (fun k => h2 k.2)]
      have v1 := fun W => hV c1 W
      have v2 := fun W => hV c2 W
      rw [show decide (0 ≤ c1 ∧ c1 < 16777216) = true from h1] at v1
      rw [show decide (0 ≤ c2 ∧ c2 < 16777216) = false from by unfold maskZ at h2; simpa using h2] at v2
      clear hV h1 h2
      go_enter Try.func15, Try.ntmps15
      subst hq
      go_wp2_with (first | (refine (v1 _).mono ?_; rintro e w' ⟨rfl, rfl⟩) | (refine (v2 _).mono ?_; rintro e w' ⟨rfl, rfl⟩))
      go_ret
      exact ⟨rfl, HP.out⟩
  · rw [if_neg (fun k => h1 k.1)]
    have v1 := fun W => hV c1 W
    rw [show decide (0 ≤ c1 ∧ c1 < 16777216) = false from by unfold maskZ at h1; simpa using h1] at v1
    clear hV h1
    go_enter Try.func15, Try.ntmps15
    subst hq
    go_wp2_with (refine (v1 _).mono ?_; rintro e w' ⟨rfl, rfl⟩)
    go_ret
    exact ⟨rfl, HP.out⟩
set_option maxHeartbeats 4000000 in
theorem rmask_any (w : World) (s : Int) :
    Calls Try.prog 16 #[.int .i64 s] w fun e w' => e = .returned (.bool (maskZ s)) ∧ w = w' := by
  have hd : maskZ s = (decide (0 ≤ s) && decide (s ≤ 16777215)) := by
    unfold maskZ
    by_cases h1 : 0 ≤ s <;> by_cases h2 : s ≤ 16777215 <;> simp [h1, h2] <;> omega
  rw [hd]
  by_cases h : 0 ≤ s
  · go_enter Try.func16, Try.ntmps16
    go_wp2
    go_ret
    exact ⟨ret_b (by simp [h]), rfl⟩
  · go_enter Try.func16, Try.ntmps16
    go_wp2
    go_ret
    exact ⟨ret_b (by rw [decide_eq_false (show ¬ 0 ≤ s by omega)]; rfl), rfl⟩
set_option maxHeartbeats 4000000 in
theorem rcheck_any (w : World) (c : Cz) :
    Calls Try.prog 12 #[czV c] w fun e w' => e = .returned (.int .i64 (chkC c : Nat)) ∧ On w w' := by
  obtain ⟨q, hq⟩ : ∃ q, w.heap.size = q := ⟨_, rfl⟩
  obtain ⟨w0, hw0⟩ : ∃ w0, w.alloc (.cells #[.int .i64 c.1, .int .i64 c.2] 23) = w0 := ⟨_, rfl⟩
  obtain ⟨O0, P0⟩ := box1 hq hw0
  obtain ⟨r0, r1⟩ := own2 O0
  have HP := Lib.hid P0
  have hV := fun s W => rmask_any W s
  clear P0 O0
  unfold chkC czV
  obtain ⟨c1, c2⟩ := c
  simp only at hw0 r0 r1 ⊢
  by_cases h1 : maskZ c1 = true
  · by_cases h2 : maskZ c2 = true
    · rw [if_pos ⟨h1, h2⟩]
      have v1 := fun W => hV c1 W
      have v2 := fun W => hV c2 W
      rw [h1] at v1
      rw [h2] at v2
      obtain ⟨y, rfl, l1⟩ := maskZ_nat h1
      obtain ⟨n, rfl, l2⟩ := maskZ_nat h2
      have hA := and_nat y n l1 l2
      simp only [Int.toNat_natCast]
      by_cases hz : y &&& n = 0
      · rw [if_pos hz]
        rw [hz] at hA
        clear hz hV h1 h2 l1 l2
        go_enter Try.func12, Try.ntmps12
        subst hq
        go_wp2_with (first | (refine (v1 _).mono ?_; rintro e w' ⟨rfl, rfl⟩) | (refine (v2 _).mono ?_; rintro e w' ⟨rfl, rfl⟩))
        go_ret
        exact ⟨rfl, HP.out⟩
      · rw [if_neg hz]
        obtain ⟨m, hm⟩ : ∃ m, y &&& n = m := ⟨_, rfl⟩
        rw [hm] at hA hz
        clear hm hV h1 h2 l1 l2
        go_enter Try.func12, Try.ntmps12
        subst hq
        go_wp2_with (first | (refine (v1 _).mono ?_; rintro e w' ⟨rfl, rfl⟩) | (refine (v2 _).mono ?_; rintro e w' ⟨rfl, rfl⟩))
        go_ret
        exact ⟨rfl, HP.out⟩
    · rw [if_neg (fun k => h2 k.2)]
      have v1 := fun W => hV c1 W
      have v2 := fun W => hV c2 W
      rw [h1] at v1
      rw [show maskZ c2 = false by simpa using h2] at v2
      clear hV h1 h2
      go_enter Try.func12, Try.ntmps12
      subst hq
      go_wp2_with (first | (refine (v1 _).mono ?_; rintro e w' ⟨rfl, rfl⟩) | (refine (v2 _).mono ?_; rintro e w' ⟨rfl, rfl⟩))
      go_ret
      exact ⟨rfl, HP.out⟩
  · rw [if_neg (fun k => h1 k.1)]
    have v1 := fun W => hV c1 W
    rw [show maskZ c1 = false by simpa using h1] at v1
    clear hV h1
    go_enter Try.func12, Try.ntmps12
    subst hq
    go_wp2_with (refine (v1 _).mono ?_; rintro e w' ⟨rfl, rfl⟩)
    go_ret
    exact ⟨rfl, HP.out⟩
theorem num_any (w : World) (c : Nat) :
    Calls Try.prog 14 #[errV c] w fun e w' => e = .returned (.int .i64 (c : Int)) ∧ w = w' := by
  by_cases h : c = 0
  · subst h
    rw [errV_zero]
    go_enter Try.func14, Try.ntmps14
    go_wp2
    go_ret
    exact ⟨rfl, rfl⟩
  · rw [errV_pos c h]
    have hta : ∀ W, (Instr.typeAssert (.iface 62 (.int .i64 (c : Int))) 27 62 true).run Try.prog W = .ok (.tuple #[.int .i64 (c : Int), .bool true]) W := fun _ => by kernel_rfl
    go_enter Try.func14, Try.ntmps14
    go_wp2
    go_ret
    exact ⟨rfl, rfl⟩
set_option maxHeartbeats 4000000 in
theorem both_any (w : World) (a b : Cz) :
    Calls Try.prog 22 #[czV a, czV b] w fun e w' => e = .returned (.int .i64 (chkL [a, b] : Nat)) ∧ On w w' := by
  obtain ⟨q, hq⟩ : ∃ q, w.heap.size = q := ⟨_, rfl⟩
  obtain ⟨w0, hw0⟩ : ∃ w0, (w.alloc (.cells #[.int .i64 a.1, .int .i64 a.2] 23)).alloc (.cells #[.int .i64 b.1, .int .i64 b.2] 23) = w0 := ⟨_, rfl⟩
  obtain ⟨O0, E0, P0⟩ := box2 hq hw0
  obtain ⟨r0, r1⟩ := own2 O0
  have hA := rcheck_any w0 a
  have hB := fun W => rcheck_any W b
  have HP := Lib.hid (And.intro P0 E0)
  have e : chkL [a, b] = if chkC a = 0 then chkC b else chkC a := by
    show (if chkC a = 0 then (if chkC b = 0 then 0 else chkC b) else chkC a) = _
    by_cases k : chkC b = 0
    · rw [if_pos k, k]
    · rw [if_neg k]
  rw [e]
  clear P0 O0 E0 e
  unfold czV at *
  obtain ⟨a1, a2⟩ := a
  obtain ⟨b1, b2⟩ := b
  obtain ⟨x, hx⟩ : ∃ x, chkC (a1, a2) = x := ⟨_, rfl⟩
  obtain ⟨y, hy⟩ : ∃ y, chkC (b1, b2) = y := ⟨_, rfl⟩
  rw [hx] at hA ⊢
  rw [hy] at hB ⊢
  simp only at hA hB hw0 r0 r1 ⊢
  clear hx hy
  by_cases hz : x = 0
  · rw [if_pos hz]
    subst hz
    go_enter Try.func22, Try.ntmps22
    subst hq
    go_wp2_with fail
    refine hA.mono ?_
    rintro e w1 ⟨rfl, P1⟩
    have hB1 := hB w1
    obtain ⟨s0, s1⟩ := own2 (HP.out.2.on P1)
    clear hA hB r0 r1
    go_wp2_with fail
    refine hB1.mono ?_
    rintro e w2 ⟨rfl, P2⟩
    go_wp2
    go_ret
    exact ⟨rfl, (HP.out.1.trans P1).trans P2⟩
  · rw [if_neg hz]
    go_enter Try.func22, Try.ntmps22
    subst hq
    go_wp2_with fail
    refine hA.mono ?_
    rintro e w1 ⟨rfl, P1⟩
    clear hA hB r0 r1
    go_wp2
    go_ret
    exact ⟨rfl, HP.out.1.trans P1⟩
set_option maxHeartbeats 4000000 in
theorem check_any (w : World) (A : Option Addr) (n c : Nat) (xs : List Cz) (h : RdC w A n c xs) :
    Calls Try.prog 44 #[.slice A n c] w fun e w' => e = .returned (errV (chkL xs)) ∧ On w w' := by
  have hn := h.len
  have hcap := h.cap
  have hmax := h.max
  obtain ⟨er, her⟩ : ∃ er, chkL xs = er := ⟨_, rfl⟩
  rw [her]
  have HR := Lib.hid (And.intro h (And.intro hn her))
  clear h hn her
  go_enter Try.func44, Try.ntmps44
  go_wp2
  go_loopw [8] (fun i wr => ∃ j : Nat, j ≤ n ∧ i = .int .i64 (j : Int) ∧ chkL (xs.drop j) = er ∧ On w wr) (fun i _ => n - (intOf i).toNat)
  case atStart => exact ⟨0, by omega, rfl, by rw [List.drop_zero]; exact HR.out.2.2, On.refl _⟩
  case round =>
    obtain ⟨j, hj, rfl, hgood, hon⟩ := hrel
    by_cases hlt : j < n
    · have hd := chkL_drop (xs := xs) (j := j) (by rw [HR.out.2.1]; exact hlt)
      obtain ⟨ad, rfl, hb, hc0, hc1⟩ := (HR.out.1.on hon).at_ hlt
      rw [hgood] at hd
      obtain ⟨⟨x1, x2⟩, hx⟩ : ∃ x, xs.getD j (0, 0) = x := ⟨_, rfl⟩
      rw [hx] at hc0 hc1 hd
      simp only at hc0 hc1
      obtain ⟨w1, hw1⟩ : ∃ w1, wr.alloc (.cells #[.int .i64 x1, .int .i64 x2] 23) = w1 := ⟨_, rfl⟩
      obtain ⟨O1, P1⟩ := box1 rfl hw1
      obtain ⟨r0, r1⟩ := own2 O1
      have hC := check1_any w1 (x1, x2)
      unfold czV at hC
      simp only at hC
      have Pw1 := hon.trans P1
      clear hgood hx O1 P1
      by_cases he : chkC (x1, x2) = 0
      · rw [if_pos he] at hd
        rw [he, errV_zero] at hC
        have HD := Lib.hid (And.intro hd.symm Pw1)
        clear he hd Pw1
        go_wp2_with fail
        refine hC.mono ?_
        rintro e w4 ⟨rfl, P4⟩
        clear hC
        go_wp2
        go_roundw
        case rel => exact ⟨j + 1, by omega, by go_num, HD.out.1, HD.out.2.trans P4⟩
        case measure => simp [intOf] <;> omega
      · rw [if_neg he] at hd
        rw [errV_pos _ he, ← hd] at hC
        rw [← hd] at he
        have hE := errV_pos _ he
        have HD := Lib.hid (And.intro hE Pw1)
        clear he hd Pw1 hE
        go_wp2_with fail
        refine hC.mono ?_
        rintro e w4 ⟨rfl, P4⟩
        clear hC
        go_wp2
        go_ret
        exact ⟨by rw [HD.out.1]; rfl, HD.out.2.trans P4⟩
    · obtain rfl : j = n := by omega
      have e : xs.drop j = [] := List.drop_of_length_le (by rw [HR.out.2.1]; omega)
      rw [e] at hgood
      have hg : er = 0 := hgood.symm
      subst hg
      clear hgood e
      go_wp2
      go_ret
      exact ⟨rfl, hon⟩
end Go.Proofs.Ythamjboppnlpdaa.Cu
