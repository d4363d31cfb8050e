/-
  Package family: divide, unions.
-/
import Derived.Test.YtakkbemldccekaaDoorSf5
namespace Go.Proofs.YtakkbemldccekaaDoor.Sb
open Go.RowKit
set_option linter.unusedVariables false
set_option maxRecDepth 100000
set_option maxHeartbeats 4000000 in
theorem divide_any (w : World) (A : Option Addr) (n c : Nat) (l : List Nat) (h : Rd w A n c (VI (ints l))) (hl : Ok l) (B : Option Addr) (m d : Nat) (k : List Nat) (h2 : Rd w B m d (VI (ints k))) (hk : Ok k) (hsm : n ≤ 1000000) :
    Calls Tryd.prog 78 #[.slice A n c, .slice B m d] w fun e w' => ∃ A1 n1 c1 A2 n2 c2, e = .returned (.tuple #[.slice A1 n1 c1, .slice A2 n2 c2]) ∧ Rd w' A1 n1 c1 (VI (ints (above l k))) ∧ Rd w' A2 n2 c2 (VI (ints (rest l k))) ∧ On w w' := by
  have hn : l.length = n := by have := h.len; rw [ints_len] at this; exact this
  have hcap := h.cap
  have hmax := h.max
  have HN := Lib.hid hn
  have H := Lib.hid h
  have H2 := Lib.hid h2
  clear hn h h2
  go_enter Tryd.func78, Tryd.ntmps78
  go_wp2
  go_loopw [4, 5, 10] (fun v u i wr => ∃ j : Nat, j ≤ n ∧ i = .int .i64 (j : Int) ∧ wr.ownsRow w.heap.size 3 1 v (abv l k j).length (VI (ints (abv l k j))) ∧ wr.ownsRow w.heap.size 3 1 u (rst l k j).length (VI (ints (rst l k j))) ∧ Apart v u ∧ On w wr) (fun _ _ i _ => n - (intOf i).toNat)
  case atStart => exact ⟨0, by omega, rfl, row_nil _ _ _, row_nil _ _ _, apart_nil _ _, On.refl _⟩
  case round =>
    obtain ⟨j, hj, rfl, hrow, hrow2, hap, hon⟩ := hrel
    obtain ⟨A4, c4, rfl⟩ := row_form hrow
    obtain ⟨A5, c5, rfl⟩ := row_form hrow2
    have HROW := Lib.hid hrow
    have HROW2 := Lib.hid hrow2
    have HAP := Lib.hid hap
    clear hrow hrow2 hap
    by_cases hlt : j < n
    · have hjl : j < l.length := by rw [HN.out]; exact hlt
      obtain ⟨ad, e1, hb, hc⟩ := (H.out.on hon).at_ j _ (ints_get hjl)
      cases e1
      have hs1 := abv_succ l k j hjl
      have hs2 := rst_succ l k j hjl
      have hxm := getD_mem hjl
      have hl1 := abv_len l k j
      have hl2 := rst_len l k j
      rw [HN.out] at hl1 hl2
      obtain ⟨x, hx⟩ : ∃ x, l.getD j 0 = x := ⟨_, rfl⟩
      rw [hx] at hc hs1 hs2 hxm
      have hC := covers_any wr B m d k x (H2.out.on hon) hk (hl x hxm)
      have hsz := hon.size
      obtain ⟨b, hb2⟩ : ∃ b, cov k x = b := ⟨_, rfl⟩
      rw [hb2] at hC hs1 hs2
      have S1 := Lib.hid hs1
      have S2 := Lib.hid hs2
      have L1 := Lib.hid hl1
      have L2 := Lib.hid hl2
      clear hx hxm hb2 hs1 hs2 hl1 hl2
      rcases b with _ | _
      · go_wp2_with (first | (refine hC.mono ?_; rintro e w' ⟨rfl, rfl⟩) | (at_builtin; refine wpList_app rfl (.tmp 21) (.tmp 23) 22 rfl w.heap.size 3 (.int .i64 0) 8 Tryd.underlying22 infoi rfl (by decide) (.slice A5 (rst l k j).length c5) _ (VI (ints (rst l k j))) rfl (row_alloc HROW2.out _) (some ⟨wr.heap.size, 0, none⟩) 1 1 [.int .i64 (x : Int)] rfl (rd_one _ _ _) (by simp [Value.oneCell']) (by have := L2.out; omega) (by simp; omega) ?_; intro v' w5 hown5 hgrow5 hnew5))
        have a1 : abv l k (j + 1) = abv l k j := by simpa using S1.out
        have a2 : rst l k (j + 1) = rst l k j ++ [x] := by simpa using S2.out
        have hap2 := apart_new (row_alloc HROW.out _) HAP.out (Nat.le_refl _) hnew5
        refine ⟨⟨j + 1, by omega, by go_num, ?_, ?_, hap2.1, ?_⟩, by simp [intOf]; omega⟩
        · rw [a1]; exact row_apart (row_alloc HROW.out _) hgrow5 HAP.out
        · rw [a2, List.length_append, List.length_singleton, VI_snoc]; exact hown5
        · exact on_row (hon.alloc _) (row_alloc HROW2.out _) (Nat.le_refl _) hgrow5
      · go_wp2_with (first | (refine hC.mono ?_; rintro e w' ⟨rfl, rfl⟩) | (at_builtin; refine wpList_app rfl (.tmp 17) (.tmp 19) 22 rfl w.heap.size 3 (.int .i64 0) 8 Tryd.underlying22 infoi rfl (by decide) (.slice A4 (abv l k j).length c4) _ (VI (ints (abv l k j))) rfl (row_alloc HROW.out _) (some ⟨wr.heap.size, 0, none⟩) 1 1 [.int .i64 (x : Int)] rfl (rd_one _ _ _) (by simp [Value.oneCell']) (by have := L1.out; omega) (by simp; omega) ?_; intro v' w5 hown5 hgrow5 hnew5))
        have a1 : abv l k (j + 1) = abv l k j ++ [x] := by simpa using S1.out
        have a2 : rst l k (j + 1) = rst l k j := by simpa using S2.out
        have hapr : Apart (.slice A5 (rst l k j).length c5) (.slice A4 (abv l k j).length c4) := fun g hg e2 => HAP.out g e2 hg
        have hap2 := apart_new (row_alloc HROW2.out _) hapr (Nat.le_refl _) hnew5
        refine ⟨⟨j + 1, by omega, by go_num, ?_, ?_, hap2.2, ?_⟩, by simp [intOf]; omega⟩
        · rw [a1, List.length_append, List.length_singleton, VI_snoc]; exact hown5
        · rw [a2]; exact row_apart (row_alloc HROW2.out _) hgrow5 hapr
        · exact on_row (hon.alloc _) (row_alloc HROW.out _) (Nat.le_refl _) hgrow5
    · obtain rfl : j = n := by omega
      have e0 : l.take j = l := List.take_of_length_le (by rw [HN.out]; omega)
      have e1 : abv l k j = above l k := by unfold abv; rw [e0]
      have e2 : rst l k j = rest l k := by unfold rst; rw [e0]
      have r1 := rd_of_row HROW.out
      have r2 := rd_of_row HROW2.out
      have E1 := Lib.hid e1
      have E2 := Lib.hid e2
      have R1 := Lib.hid r1
      have R2 := Lib.hid r2
      clear e0 e1 e2 r1 r2
      go_wp2
      go_ret2
      refine ⟨_, _, _, _, _, _, rfl, ?_, ?_, hon⟩
      · rw [← E1.out]; exact R1.out
      · rw [← E2.out]; exact R2.out
/-- the unions of the first i sets of a with all of b, and of the next one with the first j of b -/
def uniTo (a b : List Nat) (i : Nat) : List Nat := uni (a.take i) b
def uniRow (x : Nat) (b : List Nat) (j : Nat) : List Nat := (b.take j).map fun y => x ||| y
theorem uniTo_succ (a b : List Nat) (i : Nat) (h : i < a.length) : uniTo a b (i + 1) = uniTo a b i ++ uniRow (a.getD i 0) b b.length := by
  unfold uniTo uniRow uni
  rw [take_get h, List.flatMap_append, List.take_length]; simp
theorem uniRow_succ (x : Nat) (b : List Nat) (j : Nat) (h : j < b.length) : uniRow x b (j + 1) = uniRow x b j ++ [x ||| b.getD j 0] := by
  unfold uniRow
  rw [take_get h, List.map_append]; rfl
theorem uniTo_len (a b : List Nat) (i : Nat) : (uniTo a b i).length ≤ a.length * b.length := by
  unfold uniTo
  rw [uni_len, List.length_take]
  exact Nat.mul_le_mul_right _ (Nat.min_le_right _ _)
theorem uniRow_len (x : Nat) (b : List Nat) (j : Nat) : (uniRow x b j).length ≤ b.length := by
  unfold uniRow
  rw [List.length_map, List.length_take]; omega
end Go.Proofs.YtakkbemldccekaaDoor.Sb
