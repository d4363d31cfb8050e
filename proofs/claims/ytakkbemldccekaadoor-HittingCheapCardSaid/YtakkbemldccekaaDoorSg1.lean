/-
  The specification's Sort.
-/
import Derived.Test.YtakkbemldccekaaDoorSn2
import Derived.Test.YtakkbemldccekaaDoorSf1
import Derived.Deep.RegionHeld3
import Derived.Deep.QuietTactic
namespace Go.Proofs.YtakkbemldccekaaDoor.Sb
open Go.RowKit
set_option linter.unusedVariables false
set_option maxRecDepth 100000
theorem sortU_short (k : List Nat) (h : k.length < 2) : sortU k = k := by
  match k, h with
  | [], _ => rfl
  | [x], _ => rfl
theorem sortU_halves (k a b : List Nat) (m : Nat) (ha : a = sortU (k.take m)) (hb : b = sortU (k.drop m)) (x : Nat) : x ∈ k ↔ x ∈ a ∨ x ∈ b := by
  rw [ha, hb, sortU_mem, sortU_mem, ← List.mem_append, List.take_append_drop]
theorem rd_take {w : World} {A : Option Addr} {n c : Nat} {k : List Nat} (h : Rd w A n c (VI (ints k))) {m : Nat} (hm : m ≤ n) : Rd w A m c (VI (ints (k.take m))) := by
  have := h.take hm
  have e : (VI (ints k)).take m = VI (ints (k.take m)) := by simp [VI, ints]
  rwa [e] at this
theorem rd_drop {w : World} {A : Option Addr} {n c : Nat} {k : List Nat} (h : Rd w A n c (VI (ints k))) {m : Nat} (hm : m ≤ n) : Rd w (cutA A c m) (n - m) (c - m) (VI (ints (k.drop m))) := by
  have := h.cut hm
  have e : (VI (ints k)).drop m = VI (ints (k.drop m)) := by simp [VI, ints]
  rwa [e] at this
theorem run_from (w : World) (A : Option Addr) (n c k : Nat) (h1 : k ≤ n) (h2 : n ≤ c) (h3 : c ≤ 9223372036854775807) :
    (Instr.slice 22 (.slice A n c) (some (.int .i64 (k : Int))) none none).run Tryd.prog w = .ok (.slice (cutA A c k) (n - k) (c - k)) w := by
  unfold cutA
  go_simp
theorem run_upto (w : World) (A : Option Addr) (n c k : Nat) (h1 : k ≤ n) (h2 : n ≤ c) (h3 : c ≤ 9223372036854775807) :
    (Instr.slice 22 (.slice A n c) none (some (.int .i64 (k : Int))) none).run Tryd.prog w = .ok (.slice A k c) w := by
  have h4 : k ≤ c := by omega
  go_simp
/-- what the merge keeps -/
def MI (k acc ra rb : List Nat) : Prop := Asc (acc ++ ra) ∧ Asc (acc ++ rb) ∧ (∀ x, x ∈ k ↔ x ∈ acc ∨ x ∈ ra ∨ x ∈ rb) ∧ acc.length + ra.length + rb.length ≤ 2000000
theorem asc_mid {acc ra rb : List Nat} {x y : Nat} (h1 : Asc (acc ++ x :: ra)) (h2 : Asc (acc ++ y :: rb)) (h : cmpS x y < 0) : Asc (acc ++ [x] ++ y :: rb) := by
  unfold Asc at *
  rw [List.pairwise_append] at h1 h2 ⊢
  rw [List.pairwise_append]
  refine ⟨⟨h1.1, List.pairwise_singleton _ _, fun a ha b hb => h1.2.2 a ha b (by rw [List.mem_singleton] at hb; subst hb; exact List.mem_cons_self ..)⟩, h2.2.1, fun a ha b hb => ?_⟩
  rcases List.mem_append.1 ha with ha | ha
  · exact h2.2.2 a ha b hb
  · rw [List.mem_singleton] at ha
    subst ha
    rcases List.mem_cons.1 hb with rfl | hb
    · exact h
    · exact cmpS_trans _ _ _ h ((List.pairwise_cons.1 h2.2.1).1 b hb)
theorem asc_same {acc ra : List Nat} {x : Nat} (h : Asc (acc ++ x :: ra)) : Asc (acc ++ [x] ++ ra) := by rwa [List.append_assoc]
theorem MI.left {k acc ra rb : List Nat} {x y : Nat} (h : MI k acc (x :: ra) (y :: rb)) (hc : cmpS x y < 0) : MI k (acc ++ [x]) ra (y :: rb) := by
  refine ⟨asc_same h.1, asc_mid h.1 h.2.1 hc, fun z => ?_, ?_⟩
  · rw [h.2.2.1]
    simp only [List.mem_append, List.mem_cons, List.not_mem_nil, or_false]
    grind
  · have := h.2.2.2
    simp only [List.length_append, List.length_cons, List.length_nil] at *
    omega
theorem MI.right {k acc ra rb : List Nat} {x y : Nat} (h : MI k acc (x :: ra) (y :: rb)) (hc : 0 < cmpS x y) : MI k (acc ++ [y]) (x :: ra) rb := by
  have hc2 : cmpS y x < 0 := by rw [cmpS_neg]; omega
  refine ⟨asc_mid h.2.1 h.1 hc2, asc_same h.2.1, fun z => ?_, ?_⟩
  · rw [h.2.2.1]
    simp only [List.mem_append, List.mem_cons, List.not_mem_nil, or_false]
    grind
  · have := h.2.2.2
    simp only [List.length_append, List.length_cons, List.length_nil] at *
    omega
theorem MI.both {k acc ra rb : List Nat} {x y : Nat} (h : MI k acc (x :: ra) (y :: rb)) (hc : cmpS x y = 0) : MI k (acc ++ [x]) ra rb := by
  obtain rfl := (cmpS_eq x y).1 hc
  refine ⟨asc_same h.1, asc_same h.2.1, fun z => ?_, ?_⟩
  · rw [h.2.2.1]
    simp only [List.mem_append, List.mem_cons, List.not_mem_nil, or_false]
    grind
  · have := h.2.2.2
    simp only [List.length_append, List.length_cons, List.length_nil] at *
    omega
theorem MI.end1 {k acc rb : List Nat} (h : MI k acc [] rb) : acc ++ rb = sortU k := sortU_uniq h.2.1 fun z => by rw [h.2.2.1]; simp
theorem MI.end2 {k acc ra : List Nat} (h : MI k acc ra []) : acc ++ ra = sortU k := sortU_uniq h.1 fun z => by rw [h.2.2.1]; simp
theorem row_drewN {w : World} {base : Nat} {e : TypeId} {v : Value} {n : Nat} {xs : List Value} (h : w.ownsRow base e 1 v n xs) (k : Nat) : (w.drewN k).ownsRow base e 1 v n xs := h
/-- the length of a slice value -/
def lenV : Value → Nat
  | .slice _ n _ => n
  | _ => 0
theorem ints_cons (x : Nat) (l : List Nat) : VI (ints (x :: l)) = .int .i64 (x : Int) :: VI (ints l) := rfl
theorem rd_tail {w : World} {A : Option Addr} {n c : Nat} {x : Nat} {l : List Nat} (h : Rd w A n c (VI (ints (x :: l)))) : 0 < n ∧ Rd w (cutA A c 1) (n - 1) (c - 1) (VI (ints l)) := by
  have hn := h.len
  rw [ints_len, List.length_cons] at hn
  exact ⟨by omega, rd_drop (m := 1) h (by omega)⟩
theorem rd_head {w : World} {A : Option Addr} {n c : Nat} {x : Nat} {l : List Nat} (h : Rd w A n c (VI (ints (x :: l)))) : ∃ ad, A = some ad ∧ w.cell? ad = some (.int .i64 (x : Int)) := by
  obtain ⟨ad, e, _, hc⟩ := h.at_ 0 (.int .i64 (x : Int)) rfl
  rw [add_nil] at hc
  exact ⟨ad, e, hc⟩
theorem rd_nil_len {w : World} {A : Option Addr} {n c : Nat} (h : Rd w A n c (VI (ints []))) : n = 0 := by have := h.len; rw [ints_len] at this; simpa using this.symm
set_option maxHeartbeats 4000000 in
theorem rsort_any : ∀ (N : Nat) (w : World) (A : Option Addr) (n c : Nat) (k : List Nat), n ≤ N → Rd w A n c (VI (ints k)) → Ok k → n ≤ 1000000 →
    Calls Tryd.prog 64 #[.slice A n c] w fun e w' => ∃ A' n' c', e = .returned (.slice A' n' c') ∧ Rd w' A' n' c' (VI (ints (sortU k))) ∧ On w w' := by
  intro N
  induction N with
  | zero =>
    intro w A n c k hN h hk hsm
    obtain rfl : n = 0 := by omega
    have hn : k.length = 0 := by have := h.len; rw [ints_len] at this; exact this
    obtain rfl := List.eq_nil_of_length_eq_zero hn
    have H := Lib.hid h
    clear h hn
    go_enter Tryd.func64, Tryd.ntmps64
    go_wp2_with (at_builtin; refine wpList_app rfl (.tmp 10) (.tmp 11) 22 rfl w.heap.size 3 (.int .i64 0) 8 Tryd.underlying22 infoi rfl (by decide) (.slice (some ⟨w.heap.size, 0, none⟩) 0 0) 0 [] rfl (row_made w 3 #[] 0 rfl (by omega)) A 0 c (VI (ints [])) rfl (H.out.alloc _) (VI_one _) (by omega) (by simp) ?_; intro v' w5 hown5 hgrow5 _)
    obtain ⟨A5, c5, rfl⟩ := row_form hown5
    go_ret
    rw [List.nil_append] at hown5
    exact ⟨_, _, _, rfl, rd_of_row hown5, on_row ((On.refl w).alloc _) (row_made w 3 #[] 0 rfl (by omega)) (Nat.le_refl _) hgrow5⟩
  | succ N ih =>
    intro w A n c k hN h hk hsm
    have hn : k.length = n := by have := h.len; rw [ints_len] at this; exact this
    by_cases hs : n < 2
    · have hs2 : (n : Int) < 2 := by omega
      rw [sortU_short k (by omega)]
      have H := Lib.hid h
      clear h hn ih
      go_enter Tryd.func64, Tryd.ntmps64
      go_wp2_with (at_builtin; refine wpList_app rfl (.tmp 10) (.tmp 11) 22 rfl w.heap.size 3 (.int .i64 0) 8 Tryd.underlying22 infoi rfl (by decide) (.slice (some ⟨w.heap.size, 0, none⟩) 0 0) 0 [] rfl (row_made w 3 #[] 0 rfl (by omega)) A n c (VI (ints k)) rfl (H.out.alloc _) (VI_one _) (by omega) (by simp) ?_; intro v' w5 hown5 hgrow5 _)
      obtain ⟨A5, c5, rfl⟩ := row_form hown5
      go_ret
      rw [Nat.zero_add, List.nil_append] at hown5
      exact ⟨_, _, _, by rw [Nat.zero_add]; rfl, rd_of_row hown5, on_row ((On.refl w).alloc _) (row_made w 3 #[] 0 rfl (by omega)) (Nat.le_refl _) hgrow5⟩
    · have hm1 : n / 2 ≤ n := by omega
      have R1 := rd_take h hm1
      have R2 := rd_drop h hm1
      have hcap := h.cap
      have hmax := h.max
      obtain ⟨m, hm⟩ : ∃ m, n / 2 = m := ⟨_, rfl⟩
      rw [hm] at R1 R2 hm1
      have ho1 : Ok (k.take m) := fun x hx => hk x (List.mem_of_mem_take hx)
      have ho2 : Ok (k.drop m) := fun x hx => hk x (List.mem_of_mem_drop hx)
      have hd : ((n : Int)).tdiv 2 = (m : Int) := by rw [← hm]; rfl
      have hs2 : ¬ (n : Int) < 2 := by omega
      have q0 : (0 : Int) ≤ (m : Int) := by omega
      have q1 : (m : Int) ≤ (c : Int) := by omega
      have q2 : (m : Int) ≤ (n : Int) := by omega
      have q3 : IntKind.i64.wrap (m : Int) = (m : Int) := by rw [IntKind.wrap_i64]; omega
      have g1 : m ≤ N := by omega
      have g2 : n - m ≤ N := by omega
      have g3 : m ≤ 1000000 := by omega
      have g4 : n - m ≤ 1000000 := by omega
      have sl1 := fun W => run_upto W A n c m hm1 hcap hmax
      have sl2 := fun W => run_from W A n c m hm1 hcap hmax
      have hall := sortU_halves k (sortU (k.take m)) (sortU (k.drop m)) m rfl rfl
      obtain ⟨ka, hka⟩ : ∃ ka, k.take m = ka := ⟨_, rfl⟩
      obtain ⟨kb, hkb⟩ : ∃ kb, k.drop m = kb := ⟨_, rfl⟩
      rw [hka] at R1 ho1 hall
      rw [hkb] at R2 ho2 hall
      obtain ⟨B, hB⟩ : ∃ B, cutA A c m = B := ⟨_, rfl⟩
      simp only [hB] at R2 sl2
      have lka : ka.length ≤ 1000000 := by rw [← hka, List.length_take]; omega
      have lkb : kb.length ≤ 1000000 := by rw [← hkb, List.length_drop]; omega
      have HALL := Lib.hid hall
      clear hm hka hkb hB hall h hn hN
      go_enter Tryd.func64, Tryd.ntmps64
      go_wp2
      go_region_held3 (fun W => On w W) (first | exact (On.refl w).drew | assumption | exact On.trans (by assumption) P5 | exact On.trans (by assumption) P6)
        (first
          | (go_at_call 64; with_reducible refine (ih _ A m c ka g1 (R1.on ?_) ho1 g3).mono ?_; assumption; rintro e w' ⟨A5, n5, c5, rfl, R5, P5⟩)
          | (go_at_call 64; with_reducible refine (ih _ B (n - m) (c - m) kb g2 (R2.on ?_) ho2 g4).mono ?_; assumption; rintro e w' ⟨A6, n6, c6, rfl, R6, P6⟩))
      rename_i hHe
      have R5' := R5.on P6
      have hMI : MI k [] (sortU ka) (sortU kb) := ⟨by rw [List.nil_append]; exact sortU_asc ka, by rw [List.nil_append]; exact sortU_asc kb, fun x => by rw [HALL.out]; simp, by have a1 := sortU_len ka; have a2 := sortU_len kb; simp only [List.length_nil]; omega⟩
      have oka := sortU_ok ho1
      have okb := sortU_ok ho2
      obtain ⟨w2, hw2⟩ : ∃ w2, w2 = w' := ⟨_, rfl⟩
      subst hw2
      obtain ⟨sa, hsa⟩ : ∃ sa, sortU ka = sa := ⟨_, rfl⟩
      obtain ⟨sb, hsb⟩ : ∃ sb, sortU kb = sb := ⟨_, rfl⟩
      rw [hsa] at R5' hMI oka
      rw [hsb] at R6 hMI okb
      have HMI := Lib.hid hMI
      have HR5 := Lib.hid R5'
      have HR6 := Lib.hid R6
      have HON := Lib.hid hHe
      clear hMI R5' R6 R5 P5 P6 hHe HALL hsa hsb R1 R2 sl1 sl2 hd q0 q1 q2 q3 g1 g2 g3 g4 lka lkb ih ho1 ho2 hm1
      go_wp2
      go_loopw [3, 4, 5] (fun va vb v wr => ∃ (ra rb acc : List Nat) (A1 : Option Addr) (n1 c1 : Nat) (B1 : Option Addr) (m1 d1 : Nat), va = .slice A1 n1 c1 ∧ vb = .slice B1 m1 d1 ∧ Rd w2 A1 n1 c1 (VI (ints ra)) ∧ Rd w2 B1 m1 d1 (VI (ints rb)) ∧ Ok ra ∧ Ok rb ∧ MI k acc ra rb ∧ wr.ownsRow w2.heap.size 3 1 v acc.length (VI (ints acc)) ∧ On w2 wr) (fun va vb _ _ => lenV va + lenV vb)
      case atStart => exact ⟨sa, sb, [], _, _, _, _, _, _, rfl, rfl, HR5.out, HR6.out, oka, okb, HMI.out, row_nil _ _ _, On.refl _⟩
      case round =>
        obtain ⟨ra, rb, acc, A1, n1, c1, B1, m1, d1, rfl, rfl, Ra, Rb, oka, okb, hmi, hrow, hon⟩ := hrel
        obtain ⟨A4, c4, rfl⟩ := row_form hrow
        have HROW := Lib.hid hrow
        have HM := Lib.hid hmi
        clear hrow hmi HR5 HR6 HMI
        rcases ra with _ | ⟨x, ra⟩
        · have hz := rd_nil_len Ra
          subst hz
          have hfin : acc ++ [] ++ rb = sortU k := by rw [List.append_nil]; exact HM.out.end1
          have hlen : acc.length + 0 + m1 ≤ 2000000 := by
            have a1 := HM.out.2.2.2
            have a2 := Rb.len
            rw [ints_len] at a2
            simp only [List.length_nil] at a1
            omega
          have HFIN := Lib.hid hfin
          have HLEN := Lib.hid hlen
          have HRA := Lib.hid Ra
          have HRB := Lib.hid Rb
          clear Ra Rb hfin hlen HM
          go_wp2_with (first
            | (at_builtin; refine wpList_app rfl (.tmp 60) (.tmp 61) 22 rfl w2.heap.size 3 (.int .i64 0) 8 Tryd.underlying22 infoi rfl (by decide) (.slice A4 acc.length c4) _ (VI (ints acc)) rfl HROW.out A1 0 c1 (VI (ints [])) rfl (HRA.out.on hon) (VI_one _) (by have := HLEN.out; omega) hon.size ?_; intro v5 w5 hown5 hgrow5 _)
            | (at_builtin; refine wpList_app rfl (.tmp 63) (.tmp 64) 22 rfl w2.heap.size 3 (.int .i64 0) 8 Tryd.underlying22 infoi rfl (by decide) v5 _ (VI (ints acc) ++ VI (ints [])) rfl hown5 B1 m1 d1 (VI (ints rb)) rfl (HRB.out.on (on_row hon HROW.out (Nat.le_refl _) hgrow5)) (VI_one _) (by have := HLEN.out; omega) (on_row hon HROW.out (Nat.le_refl _) hgrow5).size ?_; intro v6 w6 hown6 hgrow6 _))
          go_ret
          obtain ⟨A6, c6, rfl⟩ := row_form hown6
          have P5 := on_row hon HROW.out (Nat.le_refl _) hgrow5
          have P6 := on_row P5 hown5 (Nat.le_refl _) hgrow6
          refine ⟨_, _, _, rfl, ?_, HON.out.trans P6⟩
          have hr := rd_of_row hown6
          have e : VI (ints acc) ++ VI (ints []) ++ VI (ints rb) = VI (ints (sortU k)) := by rw [← HFIN.out]; simp [VI, ints]
          rw [← e]
          exact hr
        · rcases rb with _ | ⟨y, rb⟩
          · have hz := rd_nil_len Rb
            subst hz
            have hn1 := (rd_tail Ra).1
            have hn1i : (0 : Int) < (n1 : Int) := by omega
            have hfin : acc ++ (x :: ra) ++ [] = sortU k := by rw [List.append_nil]; exact HM.out.end2
            have hlen : acc.length + n1 + 0 ≤ 2000000 := by
              have a1 := HM.out.2.2.2
              have a2 := Ra.len
              rw [ints_len] at a2
              simp only [List.length_nil] at a1
              omega
            have HFIN := Lib.hid hfin
            have HLEN := Lib.hid hlen
            have HRA := Lib.hid Ra
            have HRB := Lib.hid Rb
            clear Ra Rb hfin hlen HM
            go_wp2_with (first
              | (at_builtin; refine wpList_app rfl (.tmp 60) (.tmp 61) 22 rfl w2.heap.size 3 (.int .i64 0) 8 Tryd.underlying22 infoi rfl (by decide) (.slice A4 acc.length c4) _ (VI (ints acc)) rfl HROW.out A1 n1 c1 (VI (ints (x :: ra))) rfl (HRA.out.on hon) (VI_one _) (by have := HLEN.out; omega) hon.size ?_; intro v5 w5 hown5 hgrow5 _)
              | (at_builtin; refine wpList_app rfl (.tmp 63) (.tmp 64) 22 rfl w2.heap.size 3 (.int .i64 0) 8 Tryd.underlying22 infoi rfl (by decide) v5 _ (VI (ints acc) ++ VI (ints (x :: ra))) rfl hown5 B1 0 d1 (VI (ints [])) rfl (HRB.out.on (on_row hon HROW.out (Nat.le_refl _) hgrow5)) (VI_one _) (by have := HLEN.out; omega) (on_row hon HROW.out (Nat.le_refl _) hgrow5).size ?_; intro v6 w6 hown6 hgrow6 _))
            go_ret
            obtain ⟨A6, c6, rfl⟩ := row_form hown6
            have P5 := on_row hon HROW.out (Nat.le_refl _) hgrow5
            have P6 := on_row P5 hown5 (Nat.le_refl _) hgrow6
            refine ⟨_, _, _, rfl, ?_, HON.out.trans P6⟩
            have hr := rd_of_row hown6
            have e : VI (ints acc) ++ VI (ints (x :: ra)) ++ VI (ints []) = VI (ints (sortU k)) := by rw [← HFIN.out]; simp [VI, ints]
            rw [← e]
            exact hr
          · obtain ⟨hn1, Ta⟩ := rd_tail Ra
            obtain ⟨hm1, Tb⟩ := rd_tail Rb
            obtain ⟨ad, ea, ca⟩ := rd_head (Ra.on hon)
            obtain ⟨ad2, eb, cb⟩ := rd_head (Rb.on hon)
            subst ea
            subst eb
            have hx := oka x (List.mem_cons_self ..)
            have hy := okb y (List.mem_cons_self ..)
            have oka' : Ok ra := fun z hz => oka z (List.mem_cons_of_mem _ hz)
            have okb' : Ok rb := fun z hz => okb z (List.mem_cons_of_mem _ hz)
            have hK : ∀ W, Calls Tryd.prog 80 #[.int .i64 (x : Int), .int .i64 (y : Int)] W fun e w' => e = .returned (.int .i64 (cmpS x y)) ∧ w' = W := fun W => (rcompare_any W (x : Int) (y : Int)).mono fun e w' h => by rw [cut_nat x hx, cut_nat y hy] at h; exact ⟨h.1, h.2.symm⟩
            have s1 : ∀ W, (Instr.slice 22 (.slice (some ad) n1 c1) (some (.int .i64 1)) none none).run Tryd.prog W = .ok (.slice (cutA (some ad) c1 1) (n1 - 1) (c1 - 1)) W := fun W => run_from W (some ad) n1 c1 1 hn1 Ra.cap Ra.max
            have s2 : ∀ W, (Instr.slice 22 (.slice (some ad2) m1 d1) (some (.int .i64 1)) none none).run Tryd.prog W = .ok (.slice (cutA (some ad2) d1 1) (m1 - 1) (d1 - 1)) W := fun W => run_from W (some ad2) m1 d1 1 hm1 Rb.cap Rb.max
            have hn1i : (0 : Int) < (n1 : Int) := by omega
            have hm1i : (0 : Int) < (m1 : Int) := by omega
            have hn1j : (1 : Int) ≤ (n1 : Int) := by omega
            have hm1j : (1 : Int) ≤ (m1 : Int) := by omega
            have hlen : acc.length + 1 ≤ 2000000 := by
              have a1 := HM.out.2.2.2
              simp only [List.length_cons] at a1
              omega
            have HLEN := Lib.hid hlen
            have hsz := hon.size
            have HTA := Lib.hid Ta
            have HTB := Lib.hid Tb
            have HRA := Lib.hid Ra
            have HRB := Lib.hid Rb
            clear Ta Tb Ra Rb hlen hx hy
            rcases cmpS_range x y with hc | hc | hc
            · have hm2 := HM.out.left (by omega)
              have HM2 := Lib.hid hm2
              rw [hc] at hK
              clear hc hm2
              go_wp2
              go_quiet ((go_at_call 80; go_must (exact Calls.quiet_of_same (hK _))))
              go_wp2_with (at_builtin; refine wpList_app rfl (.tmp 42) (.tmp 46) 22 rfl w2.heap.size 3 (.int .i64 0) 8 Tryd.underlying22 infoi rfl (by decide) (.slice A4 acc.length c4) _ (VI (ints acc)) rfl (row_alloc (row_drewN HROW.out _) _) (some ⟨wr.heap.size, 0, none⟩) 1 1 [.int .i64 (x : Int)] rfl (rd_one _ _ _) (by simp [Value.oneCell']) (by have := HLEN.out; omega) (by simp; omega) ?_; intro v5 w5 hown5 hgrow5 _)
              refine ⟨⟨ra, y :: rb, acc ++ [x], _, _, _, _, _, _, rfl, rfl, HTA.out, HRB.out, oka', okb, HM2.out, ?_, ?_⟩, ?_⟩
              · rw [List.length_append, List.length_singleton, VI_snoc]; exact hown5
              · exact on_row ((hon.drewN _).alloc _) (row_alloc (row_drewN HROW.out _) _) (Nat.le_refl _) hgrow5
              · simp [lenV]; omega
            · have hm2 := HM.out.both hc
              have HM2 := Lib.hid hm2
              rw [hc] at hK
              clear hc hm2
              go_wp2
              go_quiet ((go_at_call 80; go_must (exact Calls.quiet_of_same (hK _))))
              go_wp2_with (at_builtin; refine wpList_app rfl (.tmp 42) (.tmp 46) 22 rfl w2.heap.size 3 (.int .i64 0) 8 Tryd.underlying22 infoi rfl (by decide) (.slice A4 acc.length c4) _ (VI (ints acc)) rfl (row_alloc (row_drewN HROW.out _) _) (some ⟨wr.heap.size, 0, none⟩) 1 1 [.int .i64 (x : Int)] rfl (rd_one _ _ _) (by simp [Value.oneCell']) (by have := HLEN.out; omega) (by simp; omega) ?_; intro v5 w5 hown5 hgrow5 _)
              refine ⟨⟨ra, rb, acc ++ [x], _, _, _, _, _, _, rfl, rfl, HTA.out, HTB.out, oka', okb', HM2.out, ?_, ?_⟩, ?_⟩
              · rw [List.length_append, List.length_singleton, VI_snoc]; exact hown5
              · exact on_row ((hon.drewN _).alloc _) (row_alloc (row_drewN HROW.out _) _) (Nat.le_refl _) hgrow5
              · simp [lenV]; omega
            · have hm2 := HM.out.right (by omega)
              have HM2 := Lib.hid hm2
              rw [hc] at hK
              clear hc hm2
              go_wp2
              go_quiet ((go_at_call 80; go_must (exact Calls.quiet_of_same (hK _))))
              go_wp2_with (at_builtin; refine wpList_app rfl (.tmp 50) (.tmp 54) 22 rfl w2.heap.size 3 (.int .i64 0) 8 Tryd.underlying22 infoi rfl (by decide) (.slice A4 acc.length c4) _ (VI (ints acc)) rfl (row_alloc (row_drewN HROW.out _) _) (some ⟨wr.heap.size, 0, none⟩) 1 1 [.int .i64 (y : Int)] rfl (rd_one _ _ _) (by simp [Value.oneCell']) (by have := HLEN.out; omega) (by simp; omega) ?_; intro v5 w5 hown5 hgrow5 _)
              refine ⟨⟨x :: ra, rb, acc ++ [y], _, _, _, _, _, _, rfl, rfl, HRA.out, HTB.out, oka, okb', HM2.out, ?_, ?_⟩, ?_⟩
              · rw [List.length_append, List.length_singleton, VI_snoc]; exact hown5
              · exact on_row ((hon.drewN _).alloc _) (row_alloc (row_drewN HROW.out _) _) (Nat.le_refl _) hgrow5
              · simp [lenV]; omega
end Go.Proofs.YtakkbemldccekaaDoor.Sb
