/-
  TernaryVotes.
-/
import Derived.Test.YtcnelmklfdfilaaKb
import Derived.Test.YtcnelmklfdfilaaKd
namespace Go.Proofs.Ytcnelmklfdfilaa.Fm
open Go.RowKit Go.Proofs.Ytcnelmklfdfilaa.Sb
set_option linter.unusedVariables false
set_option maxRecDepth 100000
theorem ints_range_succ (k : Nat) : VI (ints (List.range (k + 1))) = VI (ints (List.range k)) ++ [.int .i64 (k : Int)] := by rw [List.range_succ]; simp [VI, ints]
theorem oneR_wf {n kind k : Nat} (h1 : 1 ≤ n) (h2 : n ≤ 16) (hk : (kind = 2 ∧ k = 0) ∨ (kind = 3 ∧ k = 0) ∨ (kind = 4 ∧ 1 ≤ k ∧ k ≤ n)) : WF (oneF (List.range n) kind k) := by
  refine ⟨by show (List.range n).length ≤ 24; rw [List.length_range]; omega, by show 1 ≤ 128; omega, ?_, by show (List.range n).length < (List.range n).length + 1; omega⟩
  intro i hi
  obtain rfl : i = 0 := by have : i < 1 := hi; omega
  refine ⟨by show kind ≤ 5; omega, fun h => ?_, fun h => ?_, fun _ => ?_, fun a ha => ?_, fun h => ?_, fun h h' => ?_⟩
  · have : kind = 0 := h; omega
  · have : kind = 1 := h; omega
  · show 1 ≤ (List.range n).length ∧ (List.range n).length ≤ 16; rw [List.length_range]; omega
  · have := List.mem_range.1 (show a ∈ List.range n from ha); show a < (List.range n).length + 0; rw [List.length_range]; omega
  · show 1 ≤ k ∧ k ≤ (List.range n).length; rw [List.length_range]; have : kind = 4 := h; omega
  · show k = 0; have : kind ≠ 4 := h'; omega
set_option maxHeartbeats 16000000 in
theorem ltvotes_any (w : World) (z : Nat) (hz : z < 256) (x1 x2 : Int) :
    Calls Try.prog 8 #[.int .u8 (z : Int), .int .i64 x1, .int .i64 x2] w fun e w' => e = .returned (.bool true) ∧ On w w' := by
  have hAw := fun W => awake9_any W
  obtain ⟨m, hm⟩ : ∃ m, z % 8 = m := ⟨_, rfl⟩
  have hm8 : m < 8 := by omega
  have hzm : (z : Int) % 8 = (m : Int) := by omega
  go_enter Try.func8, Try.ntmps8
  go_wp2_with fail
  refine (hAw _).mono ?_
  rintro e w1 ⟨rfl, P1⟩
  clear hAw hm
  go_wp2_with fail
  obtain ⟨n, hn⟩ : ∃ n, 1 + m = n := ⟨_, rfl⟩
  have en : (1 : Int) + (m : Int) = (n : Int) := by omega
  rw [en]
  have hn1 : 1 ≤ n := by omega
  have hn8 : n ≤ 8 := by omega
  clear en hzm
  go_loopw [8, 28] (fun v i wr => ∃ t : Nat, t ≤ n ∧ i = .int .i64 (t : Int) ∧ wr.ownsRow w1.heap.size 3 1 v t (VI (ints (List.range t))) ∧ On w1 wr) (fun _ i _ => n - (intOf i).toNat)
  case atStart => exact ⟨0, by omega, rfl, row_nil _ _ _, On.refl _⟩
  case round =>
    obtain ⟨t, ht, rfl, hrow, hon⟩ := hrel
    obtain ⟨A4, c4, rfl⟩ := row_form hrow
    have HROW := Lib.hid hrow
    clear hrow
    by_cases hlt : t < n
    · have hsz := hon.size
      go_wp2_with (at_builtin; refine wpList_app rfl (.tmp 31) (.tmp 33) 33 rfl w1.heap.size 3 (.int .i64 0) 8 Try.underlying33 infoi rfl (by decide) (.slice A4 t c4) _ (VI (ints (List.range t))) rfl (row_alloc HROW.out _) (some ⟨wr.heap.size, 0, none⟩) 1 1 [.int .i64 (t : Int)] rfl (rd_one _ _ _) (by simp [Value.oneCell']) (by omega) (by simp; omega) ?_; intro v' w5 hown5 hgrow5 _)
      go_roundw
      case rel =>
        refine ⟨t + 1, by omega, by go_num, ?_, on_row (hon.alloc _) (row_alloc HROW.out _) (Nat.le_refl _) hgrow5⟩
        rw [ints_range_succ]; exact hown5
      case measure => simp [intOf] <;> omega
    · obtain rfl : t = n := by omega
      -- tail
      have hA := rd_of_row HROW.out
      have hV := fun (kd kk : Nat) (h1 : (kd = 2 ∧ kk = 0) ∨ (kd = 3 ∧ kk = 0) ∨ (kd = 4 ∧ 1 ≤ kk ∧ kk ≤ t)) (W : World) (B : Option Addr) (d : Nat) (R : RdN W B 1 d (rawL (oneF (List.range t) kd kk).nodes)) (y nn : Nat) (hy : y < 2 ^ t) (hnn : nn < 2 ^ t) (hd : Dis y nn) => tvalue_ok W (oneF (List.range t) kd kk) (oneR_wf hn1 (by omega) h1) B 1 d R y nn (by rw [show (oneF (List.range t) kd kk).vars = t from List.length_range]; exact hy) (by rw [show (oneF (List.range t) kd kk).vars = t from List.length_range]; exact hnn) hd
      have hcb := fun (W : World) (B : Option Addr) (d : Nat) => cube_any W (oneF (List.range t) 2 0) (oneR_wf hn1 (by omega) (Or.inl ⟨rfl, rfl⟩)) B 1 d x1 x2
      have hck := fun (W : World) (B : Option Addr) (d : Nat) (R : RdN W B 1 d (rawL (oneF (List.range t) 2 0).nodes)) => rcheck_any W ((oneF (List.range t) 2 0).vars : Int) ((oneF (List.range t) 2 0).top : Int) B 1 d _ R (by rw [show (oneF (List.range t) 2 0).vars = t from List.length_range]; unfold I64; omega) (by rw [show (oneF (List.range t) 2 0).top = t from List.length_range]; unfold I64; omega)
      have hcz := chk_ok (oneR_wf (n := t) (kind := 2) (k := 0) hn1 (by omega) (Or.inl ⟨rfl, rfl⟩))
      have e1 : ∀ kd kk, ((oneF (List.range t) kd kk).vars : Int) = (t : Int) := fun kd kk => by rw [show (oneF (List.range t) kd kk).vars = t from List.length_range]
      have e2 : ∀ kd kk, ((oneF (List.range t) kd kk).top : Int) = (t : Int) := fun kd kk => by rw [show (oneF (List.range t) kd kk).top = t from List.length_range]
      have e3 : (oneF (List.range t) 2 0).vars = t := List.length_range
      simp only [hcz] at hck
      simp only [e1, e2] at hV hcb hck
      simp only [e3] at hcb
      have hy := cuY_lt t x1
      have hnn := cuN_lt t x1 x2
      have hd := cu_dis t x1 x2
      obtain ⟨y, hye⟩ : ∃ y, cuY t x1 = y := ⟨_, rfl⟩
      obtain ⟨nn, hnne⟩ : ∃ nn, cuN t x1 x2 = nn := ⟨_, rfl⟩
      rw [hye] at hcb hd hy
      rw [hnne] at hcb hd hnn
      have hx3 : ∀ x ∈ (List.range t).map (evC y nn), x ≤ 2 := fun x hx => by
        obtain ⟨a, _, rfl⟩ := List.mem_map.1 hx
        unfold evC; split
        · omega
        · split <;> omega
      have hl : ((List.range t).map (evC y nn)).length = t := by rw [List.length_map, List.length_range]
      have hq := fun kd kk => oneF_val (List.range t) kd kk y nn (fun a ha => by rw [List.length_range]; exact List.mem_range.1 ha)
      have ha := vote_and _ hx3 (by rw [hl]; exact hn1)
      have ho := vote_or _ hx3 (by rw [hl]; exact hn1)
      rw [hl] at ha
      rw [← hq, ← hq] at ha ho
      have hV2 := fun W B d R => hV 2 0 (Or.inl ⟨rfl, rfl⟩) W B d R y nn hy hnn hd
      have hV4 := fun W B d R => hV 4 t (Or.inr (Or.inr ⟨rfl, hn1, Nat.le_refl _⟩)) W B d R y nn hy hnn hd
      have hV3 := fun W B d R => hV 3 0 (Or.inr (Or.inl ⟨rfl, rfl⟩)) W B d R y nn hy hnn hd
      have hV5 := fun W B d R => hV 4 1 (Or.inr (Or.inr ⟨rfl, Nat.le_refl _, hn1⟩)) W B d R y nn hy hnn hd
      rw [← ha] at hV4
      rw [← ho] at hV5
      obtain ⟨va, hva⟩ : ∃ va, tval (oneF (List.range t) 2 0) y nn = va := ⟨_, rfl⟩
      obtain ⟨vo, hvo⟩ : ∃ vo, tval (oneF (List.range t) 3 0) y nn = vo := ⟨_, rfl⟩
      rw [hva] at hV2 hV4
      rw [hvo] at hV3 hV5
      obtain ⟨al, hal⟩ : ∃ al, (((2 ^ t : Nat) : Int) - 1) = al := ⟨_, rfl⟩
      rw [hal] at hcb
      have hO := fun W (k : On wr W) (kd kk : Nat) => one_any W A4 t c4 (List.range t) (hA.on k) kd kk
      have Pw := P1.trans hon
      have hcap := hA.cap
      have hmax := hA.max
      clear hV e1 e2 e3 hye hnne hy hnn hd hx3 hl hq ha ho hva hvo hal hcz hA HROW hon P1 hm8 hz hlt
      have H1 := hO wr (On.refl _) 2 0
      go_wp2_with fail
      refine H1.mono ?_
      rintro e w2 ⟨B, d, rfl, R2, P2⟩
      clear H1
      go_upto_region 11 with fail
      have P3 := (On.refl w2).alloc (.cells #[.int .i64 (t : Int), .slice B 1 d, .int .i64 (t : Int)] 24)
      have F3 := Own.new w2 24 #[.int .i64 (t : Int), .slice B 1 d, .int .i64 (t : Int)]
      obtain ⟨w3, hw3⟩ : ∃ w3, w2.alloc (.cells #[.int .i64 (t : Int), .slice B 1 d, .int .i64 (t : Int)] 24) = w3 := ⟨_, rfl⟩
      rw [hw3] at P3 F3 ⊢
      have R3 := R2.on P3
      have P03 := P2.trans P3
      clear hw3 P3 R2 P2
      obtain ⟨b, hb⟩ : ∃ b, w2.heap.size = b := ⟨_, rfl⟩
      rw [hb] at F3 ⊢
      clear hb
      have H1 := hcb w3 B d
      obtain ⟨s0, s1, s2⟩ := own3 F3
      go_wp2_with fail
      refine H1.mono ?_
      rintro e w4 ⟨rfl, P4⟩
      have F4 := F3.on P4
      have R4 := R3.on P4
      have P04 := P03.trans P4
      clear H1 hcb s0 s1 s2 F3 R3 P03 P4
      have C0 : Own (w4.alloc (.cells #[.int .i64 0, .int .i64 0] 26)) w4.heap.size 26 #[.int .i64 0, .int .i64 0] := Own.new _ _ _
      obtain ⟨k0, k1⟩ := own2 C0
      have f0 := C0.frozen 0
      have f1 := C0.frozen 1
      go_upto_region 12 with fail
      clear k0 k1 f0 f1 C0
      have P5 := (On.refl w4).alloc (.cells #[.int .i64 (y : Int), .int .i64 (nn : Int)] 26)
      have C5 := Own.new w4 26 #[.int .i64 (y : Int), .int .i64 (nn : Int)]
      obtain ⟨w5, hw5⟩ : ∃ w5, w4.alloc (.cells #[.int .i64 (y : Int), .int .i64 (nn : Int)] 26) = w5 := ⟨_, rfl⟩
      rw [hw5] at P5 C5 ⊢
      have F5 := F4.on P5
      have R5 := R4.on P5
      have P05 := P04.trans P5
      clear hw5 P5 F4 R4 P04
      obtain ⟨g, hge⟩ : ∃ g, w4.heap.size = g := ⟨_, rfl⟩
      rw [hge] at C5 ⊢
      clear hge
      have H1 := hV2 w5 B d R5
      obtain ⟨s0, s1, s2⟩ := own3 F5
      obtain ⟨k0, k1⟩ := own2 C5
      go_wp2_with fail
      refine H1.mono ?_
      rintro e w6 ⟨rfl, P6⟩
      have F6 := F5.on P6
      have R6 := R5.on P6
      have C6 := C5.on P6
      have P06 := P05.trans P6
      clear H1 hV2 s0 s1 s2 k0 k1 P6 F5 R5 C5 P05
      have h4 : ∀ W, On w6 W → Calls Try.prog 26 #[.slice A4 t c4, .int .i64 4, .int .i64 (t : Int)] W (fun e w' => ∃ B d, e = .returned (.agg #[.int .i64 (t : Int), .slice B 1 d, .int .i64 (t : Int)]) ∧ RdN w' B 1 d (rawL (oneF (List.range t) 4 t).nodes) ∧ On W w') := fun W k => hO W (P06.trans k) 4 t
      have h3 : ∀ W, On w6 W → Calls Try.prog 26 #[.slice A4 t c4, .int .i64 3, .int .i64 0] W (fun e w' => ∃ B d, e = .returned (.agg #[.int .i64 (t : Int), .slice B 1 d, .int .i64 (t : Int)]) ∧ RdN w' B 1 d (rawL (oneF (List.range t) 3 0).nodes) ∧ On W w') := fun W k => hO W (P06.trans k) 3 0
      have h5 : ∀ W, On w6 W → Calls Try.prog 26 #[.slice A4 t c4, .int .i64 4, .int .i64 1] W (fun e w' => ∃ B d, e = .returned (.agg #[.int .i64 (t : Int), .slice B 1 d, .int .i64 (t : Int)]) ∧ RdN w' B 1 d (rawL (oneF (List.range t) 4 1).nodes) ∧ On W w') := fun W k => hO W (P06.trans k) 4 1
      have hS0 : ∀ W, On w6 W → On w6 W ∧ W.cell? ⟨b, 0, none⟩ = some (.int .i64 (t : Int)) ∧ W.cell? ⟨b, 1, none⟩ = some (.slice B 1 d) ∧ W.cell? ⟨b, 2, none⟩ = some (.int .i64 (t : Int)) ∧ W.cell? ⟨g, 0, none⟩ = some (.int .i64 (y : Int)) ∧ W.cell? ⟨g, 1, none⟩ = some (.int .i64 (nn : Int)) := fun W k => ⟨k, (own3 (F6.on k)).1, (own3 (F6.on k)).2.1, (own3 (F6.on k)).2.2, own2 (C6.on k)⟩
      have hK := fun W (k : On w6 W) => hck W B d (R6.on k)
      have HS := Lib.hid hS0
      have HK := Lib.hid (And.intro h4 (And.intro hV4 (And.intro h3 (And.intro hV3 (And.intro h5 (And.intro hV5 (And.intro hK (Pw.trans P06))))))))
      have hS6 := hS0 w6 (On.refl _)
      clear h4 h3 h5 hV3 hV4 hV5 hS0 hck hK F6 C6 R6 P06 Pw hO
      go_wp2
      go_region_held3 (fun W => On w6 W ∧ W.cell? ⟨b, 0, none⟩ = some (.int .i64 (t : Int)) ∧ W.cell? ⟨b, 1, none⟩ = some (.slice B 1 d) ∧ W.cell? ⟨b, 2, none⟩ = some (.int .i64 (t : Int)) ∧ W.cell? ⟨g, 0, none⟩ = some (.int .i64 (y : Int)) ∧ W.cell? ⟨g, 1, none⟩ = some (.int .i64 (nn : Int)))
        (first | exact HS.out _ (On.refl _).drew | exact HS.out _ (On.refl _) | assumption | (go_split_ands; exact HS.out _ (On.trans (by assumption) PA)))
        (first
          | (go_at_call 26; go_split_ands; (with_reducible refine (HK.out.1 _ ?_).mono ?_); assumption; rintro e wA ⟨B9, d9, rfl, T9, PA⟩)
          | (go_at_call 11; (with_reducible refine (HK.out.2.1 _ B9 d9 ?_).mono ?_); (first | exact T9 | exact T9.on (On.refl _).drew | exact T9.on PA); rintro e wA ⟨rfl, PA⟩))
      obtain ⟨w7, hwe⟩ : ∃ w7, w7 = wA := ⟨_, rfl⟩
      subst hwe
      rename_i hHe
      have hOn7 := hHe.1
      clear hHe PA T9
      have hS7 := HS.out _ hOn7
      go_wp2
      go_region_held3 (fun W => On w6 W ∧ W.cell? ⟨b, 0, none⟩ = some (.int .i64 (t : Int)) ∧ W.cell? ⟨b, 1, none⟩ = some (.slice B 1 d) ∧ W.cell? ⟨b, 2, none⟩ = some (.int .i64 (t : Int)) ∧ W.cell? ⟨g, 0, none⟩ = some (.int .i64 (y : Int)) ∧ W.cell? ⟨g, 1, none⟩ = some (.int .i64 (nn : Int)))
        (first | exact HS.out _ (On.drew hOn7) | exact HS.out _ hOn7 | assumption | (go_split_ands; exact HS.out _ (On.trans (by assumption) PA)))
        (first
          | (go_at_call 26; go_split_ands; (with_reducible refine (HK.out.2.2.1 _ ?_).mono ?_); assumption; rintro e wA ⟨B9, d9, rfl, T9, PA⟩)
          | (go_at_call 11; (with_reducible refine (HK.out.2.2.2.1 _ B9 d9 ?_).mono ?_); (first | exact T9 | exact T9.on (On.refl _).drew | exact T9.on PA); rintro e wA ⟨rfl, PA⟩))
      obtain ⟨w8, hwe⟩ : ∃ w8, w8 = wA := ⟨_, rfl⟩
      subst hwe
      rename_i hHe
      have hOn8 := hHe.1
      clear hHe PA T9
      have hS8 := HS.out _ hOn8
      go_wp2
      go_region_held3 (fun W => On w6 W ∧ W.cell? ⟨b, 0, none⟩ = some (.int .i64 (t : Int)) ∧ W.cell? ⟨b, 1, none⟩ = some (.slice B 1 d) ∧ W.cell? ⟨b, 2, none⟩ = some (.int .i64 (t : Int)) ∧ W.cell? ⟨g, 0, none⟩ = some (.int .i64 (y : Int)) ∧ W.cell? ⟨g, 1, none⟩ = some (.int .i64 (nn : Int)))
        (first | exact HS.out _ (On.drew hOn8) | exact HS.out _ hOn8 | assumption | (go_split_ands; exact HS.out _ (On.trans (by assumption) PA)))
        (first
          | (go_at_call 26; go_split_ands; (with_reducible refine (HK.out.2.2.2.2.1 _ ?_).mono ?_); assumption; rintro e wA ⟨B9, d9, rfl, T9, PA⟩)
          | (go_at_call 11; (with_reducible refine (HK.out.2.2.2.2.2.1 _ B9 d9 ?_).mono ?_); (first | exact T9 | exact T9.on (On.refl _).drew | exact T9.on PA); rintro e wA ⟨rfl, PA⟩))
      obtain ⟨w9, hwe⟩ : ∃ w9, w9 = wA := ⟨_, rfl⟩
      subst hwe
      rename_i hHe
      have hOn9 := hHe.1
      clear hHe PA T9
      have hS9 := HS.out _ hOn9
      obtain ⟨s0, s1, s2, k0, k1⟩ := hS9.2
      have H1 := HK.out.2.2.2.2.2.2.1 w9 hOn9
      go_wp2_with fail
      refine H1.mono ?_
      rintro e w10 ⟨rfl, P10⟩
      go_wp2
      go_ret
      exact ⟨rfl, HK.out.2.2.2.2.2.2.2.trans (hOn9.trans P10)⟩
end Go.Proofs.Ytcnelmklfdfilaa.Fm
