/-
  The specification's Parse of sets: the numbers of a text.
-/
import Derived.Test.YteijndnofihgdaaDoorSt4
import Derived.Test.YteijndnofihgdaaDoorSt2
import Derived.Test.YteijndnofihgdaaDoorSs8
import Derived.Deep.RegionHeld3
namespace Go.Proofs.YteijndnofihgdaaDoor.Sb
open Go.RowKit Go.Lib
set_option linter.unusedVariables false
set_option maxRecDepth 100000
theorem str_ext (s : List UInt8) (a b : Nat) : (str s).extract a b = str ((s.take b).drop a) := by
  have h : ((str s).extract a b).data.toList = (s.take b).drop a := by
    rw [ByteArray.data_extract, Array.toList_extract, List.extract_eq_take_drop]
    simp [str, List.drop_take]
  have h3 : ∀ x : ByteArray, x = ⟨x.data.toList.toArray⟩ := fun x => by cases x; simp
  rw [h3 ((str s).extract a b), h]; rfl
theorem ext2 (s : List UInt8) : (str s).extract 0 2 = str (s.take 2) := by rw [str_ext]; rfl
theorem ext_from (s : List UInt8) (k : Nat) : (str s).extract k (str s).size = str (s.drop k) := by
  rw [str_ext, str_size, List.take_length]
theorem str_toList (s : List UInt8) : (str s).toList = s := ByteArray.toList_mk s
/-- what is left of the text behind the brace -/
theorem sep_take (r : List UInt8) : r.take 2 = [44, 32] ↔ ∃ t, r = 44 :: 32 :: t := by
  constructor
  · intro h
    rcases r with _ | ⟨a, _ | ⟨b, t⟩⟩
    · simp at h
    · simp at h
    · simp at h; exact ⟨t, by rw [h.1, h.2]⟩
  · rintro ⟨t, rfl⟩; rfl
theorem sum2 (k : Nat) (h : k ≤ 3000) : wrap64 (2 + (k : Int)) = ((2 + k : Nat) : Int) := by unfold wrap64; omega
theorem bound3 (a t k : Nat) (h : a + (t + 2) ≤ 2000) (hk : k ≤ t) : k ≤ 3000 ∧ a ≤ 2000 := by omega
theorem sum3 (k t : Nat) (h : k ≤ 3000) (hk : k ≤ t) : ∃ p : Nat, p = k + 2 ∧ wrap64 (2 + (k : Int)) = (p : Int) ∧ (p : Int) ≤ ((t + 2 : Nat) : Int) := ⟨k + 2, rfl, by rw [sum2 k h]; omega, by omega⟩
theorem on_grown {a b c : World} {blk : Option Nat} (h : On a b) (k : b.grownBy c blk) (hb : ∀ k, blk = some k → a.heap.size ≤ k) : On a c := Below.grown h k h.size hb
theorem row_block {w : World} {base : Nat} {e : TypeId} {v : Value} {n : Nat} {xs : List Value} (h : w.ownsRow base e 1 v n xs) : ∀ k, v.ownBlock = some k → base ≤ k := by
  intro k e2
  rcases h.2 with ⟨rfl, _⟩ | ⟨g', cap, cur, rfl, hb', _⟩
  · simp [Value.ownBlock] at e2
  · simp [Value.ownBlock] at e2; omega
theorem le_alloc {a : Nat} {w : World} (h : a ≤ w.heap.size) (o : Obj) : a ≤ (w.alloc o).heap.size := Nat.le_trans h (by simp)
theorem asc_pw (l : List Nat) : ∀ last : Int, ascFrom last l = true → (∀ i ∈ l, last < (i : Int)) ∧ l.Pairwise (· < ·) := by
  induction l with
  | nil => intro last _; exact ⟨(fun i hi => by cases hi), List.Pairwise.nil⟩
  | cons n r ih =>
    intro last h
    unfold ascFrom at h
    rw [Bool.and_eq_true] at h
    have h1 := of_decide_eq_true h.1
    obtain ⟨a, b⟩ := ih _ h.2
    refine ⟨fun i hi => ?_, List.pairwise_cons.2 ⟨fun j hj => by have := a j hj; omega, b⟩⟩
    rcases List.mem_cons.1 hi with e | e
    · subst e; exact h1
    · have := a i e; omega
theorem mask_lt (l : List Nat) (h24 : ∀ i ∈ l, i < 24) (hp : l.Pairwise (· < ·)) : maskN 0 l < 16777216 := by
  have h := ofGo_asc l 0 (-1) (by decide) (fun i hi => Nat.pow_pos (by decide)) h24 (asc_of l _ (fun i _ => by omega) hp)
  have h2 := (ofGo_code (ints l) 0 (by decide)).2.2
  rw [h] at h2
  exact h2
theorem endR_range (l : List Nat) (h : ¬ ∀ i ∈ l, i < 24) : endR l = (0, 3) := by
  unfold endR
  rw [if_neg]
  intro h2
  apply h
  intro i hi
  have := List.all_eq_true.1 h2 i hi
  simpa using this
theorem endR_order (l : List Nat) (h : ∀ i ∈ l, i < 24) (hp : ¬ l.Pairwise (· < ·)) : endR l = (0, 13) := by
  unfold endR
  rw [if_pos (by rw [List.all_eq_true]; intro i hi; simpa using h i hi), if_neg (fun e => hp (asc_pw l _ e).2)]
theorem endR_good (l : List Nat) (h : ∀ i ∈ l, i < 24) (hp : l.Pairwise (· < ·)) : endR l = (maskN 0 l, 0) := by
  unfold endR
  rw [if_pos (by rw [List.all_eq_true]; intro i hi; simpa using h i hi), if_pos (asc_of l _ (fun i _ => by omega) hp)]
set_option maxHeartbeats 8000000 in
/-- the two last loops of the specification's Parse, as the walk meets them -/
theorem rparse_mid (w : World) (b : ByteArray) (n m : Nat) (inner : List UInt8) (hlen : n ≤ 1000) (hbn : b.size = n) (hm : m + 1 = n) (hn3 : 3 ≤ n)
    (hne : b.toList ≠ [123, 125]) (h0 : ∀ h, (b[0]'h).toNat = 123) (h1 : ∀ h, (b[m]'h).toNat = 125) (hex : b.extract 1 m = str inner) (hil : inner.length = n - 2) :
    Calls Tryd.prog 45 #[.string b] w fun e w' => e = .returned (.tuple #[.int .i64 (restE 0 (-1) true true inner).1, .int .i64 (restE 0 (-1) true true inner).2]) ∧ On w w' := by
  have em : (n : Int) - 1 = (m : Int) := by omega
  have hs2 : (({ data := #[44, 32] } : ByteArray) ++ str inner) = str (44 :: 32 :: inner) := str_app [44, 32] inner
  have hsi : (str inner).size ≤ 1000 := by rw [str_size]; omega
  have hm1 : (1 : Int) ≤ (m : Int) := by omega
  have hm2 : (m : Int) < (n : Int) := by omega
  have hne2 : (b.toList == [123, 125]) = false := by simpa using hne
  have hE := restE_end inner
  obtain ⟨T, hT⟩ : ∃ T, tok inner = T := ⟨_, rfl⟩
  rw [hT] at hE
  have HE := Lib.hid hE
  have HT := Lib.hid hT
  clear hE hT
  go_enter Tryd.func45, Tryd.ntmps45
  go_wp2
  clear h0 h1 hex hne hne2 hs2 hsi
  go_loopw [4, 5] (fun v s wr => ∃ (acc : List Nat) (rest : List UInt8), s = .string (str rest) ∧ wr.ownsRow w.heap.size 3 1 v acc.length (VI (ints acc)) ∧ St T rest acc ∧ (∀ i ∈ acc, i < 100) ∧ acc.length + rest.length ≤ 2000 ∧ On w wr) (fun _ s _ => match s with | .string b => b.size | _ => 0)
  case atStart =>
    refine ⟨[], 44 :: 32 :: inner, rfl, row_nil _ _ _, .inr (.inl ⟨inner, rfl, ?_⟩), (fun i hi => by cases hi), by simp; omega, On.refl _⟩
    rw [HT.out]; cases T <;> simp
  case round =>
    obtain ⟨acc, rest, rfl, hrow, hst, h100, hbound, hon⟩ := hrel
    have hsz := str_size rest
    have htl := str_toList rest
    have HR := Lib.hid hrow
    clear hrow
    by_cases hr0 : rest = []
    · subst hr0
      have hT : T = some acc := by
        rcases hst with ⟨_, h⟩ | ⟨t, h, _⟩ | ⟨h, _⟩
        · exact h
        · cases h
        · exact absurd rfl h
      subst hT
      clear hst hsz htl
      have hemp : (str []).toList.isEmpty = true := by rw [str_toList]; rfl
      obtain ⟨A4, c4, hv4⟩ := row_form HR.out
      subst hv4
      have R4 := rd_of_row HR.out
      have hcap := R4.cap
      have hmax := R4.max
      obtain ⟨wo, hwo⟩ : ∃ wo, wr = wo := ⟨_, rfl⟩
      subst hwo
      obtain ⟨N, hN⟩ : ∃ N, acc.length = N := ⟨_, rfl⟩
      rw [hN] at hcap R4 ⊢
      have hNb : N ≤ 2000 := by simp at hbound; omega
      have HNN := Lib.hid hN
      clear hN HR hbound
      have hge : ∀ k (hk : k < acc.length), (VI (ints acc))[k]? = some (.int .i64 ((acc[k] : Nat) : Int)) := fun k hk => by simp [VI, ints, hk]
      have he := HE.out
      simp only at he
      have HE2 := Lib.hid he
      clear he HE HT
      go_wp2
      go_loopw [65] (fun i w' => ∃ k : Nat, k ≤ N ∧ i = .int .i64 (k : Int) ∧ (∀ x ∈ acc.take k, x < 24) ∧ wr = w') (fun i _ => N - (intOf i).toNat)
      case atStart => exact ⟨0, by omega, rfl, (fun x hx => by simp at hx), rfl⟩
      case round =>
        obtain ⟨k, hk, rfl, hall, rfl⟩ := hrel
        by_cases hlt : k < N
        · have hkl : k < acc.length := by rw [HNN.out]; exact hlt
          obtain ⟨ad, rfl, hb, hc⟩ := R4.at_ k _ (hge k hkl)
          obtain ⟨x, hx⟩ : ∃ x, acc[k] = x := ⟨_, rfl⟩
          have hxm : x ∈ acc := by rw [← hx]; exact List.getElem_mem hkl
          rw [hx] at hc
          have hts : acc.take (k + 1) = acc.take k ++ [x] := by rw [List.take_add_one, List.getElem?_eq_getElem hkl, hx]; rfl
          have HTS := Lib.hid hts
          clear hts hx hge
          by_cases hx24 : x < 24
          · have hx' : (x : Int) < 24 := by omega
            go_wp2
            go_roundw
            case rel =>
              refine ⟨k + 1, by omega, by go_num, ?_, trivial⟩
              intro y hy
              rw [HTS.out, List.mem_append] at hy
              rcases hy with hy | hy
              · exact hall y hy
              · simp at hy; omega
            case measure => simp [intOf]; omega
          · have hx' : ¬ (x : Int) < 24 := by omega
            have hr := endR_range acc (fun h => hx24 (h x hxm))
            go_wp2
            go_ret2
            exact ⟨by rw [HE2.out, hr]; rfl, hon⟩
        · obtain rfl : k = N := by omega
          have h24 : ∀ x ∈ acc, x < 24 := by rwa [List.take_of_length_le (by rw [HNN.out]; omega)] at hall
          clear hall
          go_wp2
          go_loopw [10, 74] (fun s10 i w' => ∃ j : Nat, j ≤ k ∧ i = .int .i64 (j : Int) ∧ s10 = .int .i64 (maskN 0 (acc.take j) : Nat) ∧ (acc.take j).Pairwise (· < ·) ∧ wr = w') (fun _ i _ => k - (intOf i).toNat)
          case atStart => exact ⟨0, by omega, rfl, rfl, List.Pairwise.nil, rfl⟩
          case round =>
            obtain ⟨j, hj, rfl, rfl, hpw, rfl⟩ := hrel
            by_cases hlt2 : j < k
            · have hjl : j < acc.length := by rw [HNN.out]; exact hlt2
              obtain ⟨ad, rfl, hb, hc⟩ := R4.at_ j _ (hge j hjl)
              obtain ⟨x, hx⟩ : ∃ x, acc[j] = x := ⟨_, rfl⟩
              have hx24 := h24 x (by rw [← hx]; exact List.getElem_mem hjl)
              rw [hx] at hc
              have hx' : (x : Int) < 24 := by omega
              have hts : acc.take (j + 1) = acc.take j ++ [x] := by rw [List.take_add_one, List.getElem?_eq_getElem hjl, hx]; rfl
              have next : (∀ y ∈ acc.take j, y < x) → (acc.take (j + 1)).Pairwise (· < ·) ∧ wrap64 (((maskN 0 (acc.take j) : Nat) : Int) + wrap64 (2 ^ x)) = ((maskN 0 (acc.take (j + 1)) : Nat) : Int) := by
                intro hlast
                have hpw2 : (acc.take (j + 1)).Pairwise (· < ·) := by
                  rw [hts, List.pairwise_append]
                  exact ⟨hpw, List.pairwise_singleton _ _, fun a ha b hb => by simp at hb; subst hb; exact hlast a ha⟩
                refine ⟨hpw2, ?_⟩
                have hml := mask_lt (acc.take (j + 1)) (fun i hi => h24 i (List.mem_of_mem_take hi)) hpw2
                have hms : maskN 0 (acc.take (j + 1)) = maskN 0 (acc.take j) + 2 ^ x := by rw [hts, maskN_snoc]
                rw [shlw x hx24, hms]
                rw [hms] at hml
                generalize maskN 0 (acc.take j) = m1 at *
                generalize 2 ^ x = m2 at *
                clear hc hb hts hms HE2 HNN
                unfold wrap64; omega
              by_cases hj0 : j = 0
              · subst hj0
                obtain ⟨n1, n2⟩ := next (fun y hy => by simp at hy)
                rw [add_nil] at hc
                have HN2 := Lib.hid n2
                have HN1 := Lib.hid n1
                clear next hts hx hge n1 n2
                go_wp2
                go_roundw
                case rel => exact ⟨1, by omega, rfl, by rw [← HN2.out]; rfl, HN1.out, trivial⟩
                case measure => simp [intOf]; omega
              · obtain ⟨i, hi⟩ : ∃ i, i + 1 = j := ⟨j - 1, by omega⟩
                have hil2 : i < acc.length := by omega
                obtain ⟨ad2, e2, _, hci⟩ := R4.at_ i _ (hge i hil2)
                cases e2
                obtain ⟨z, hz⟩ : ∃ z, acc[i] = z := ⟨_, rfl⟩
                rw [hz] at hci
                have ej : (j : Int) - 1 = (i : Int) := by omega
                have hjp : (0 : Int) < (j : Int) := by omega
                have hi1 : i < k := by omega
                have hlast : z < x → ∀ y ∈ acc.take j, y < x := by
                  intro hzx y hy
                  obtain ⟨a, ha, hya⟩ := List.mem_iff_getElem.1 hy
                  have ha2 : a < j := by rw [List.length_take] at ha; omega
                  have hzt : (acc.take j)[i]'(by rw [List.length_take]; omega) = z := by rw [List.getElem_take]; exact hz
                  rcases Nat.lt_or_ge a i with h | h
                  · have := List.pairwise_iff_getElem.1 hpw a i ha (by rw [List.length_take]; omega) h
                    rw [hya, hzt] at this
                    omega
                  · have : a = i := by omega
                    subst this
                    rw [hzt] at hya
                    omega
                by_cases hxz : x ≤ z
                · have hr := endR_order acc h24 (fun hp => by
                    have := List.pairwise_iff_getElem.1 hp i j hil2 hjl (by omega)
                    rw [hz, hx] at this
                    omega)
                  have hxz' : (x : Int) ≤ (z : Int) := by omega
                  clear next hts hx hz hge hlast hi hj0
                  go_wp2
                  go_ret2
                  exact ⟨by rw [HE2.out, hr]; rfl, hon⟩
                · have hxz' : ¬ (x : Int) ≤ (z : Int) := by omega
                  obtain ⟨n1, n2⟩ := next (hlast (by omega))
                  have HN2 := Lib.hid n2
                  have HN1 := Lib.hid n1
                  clear next hts hx hz hge hlast hi hj0 n1 n2
                  go_wp2
                  go_roundw
                  case rel => exact ⟨j + 1, by omega, by go_num, by rw [← HN2.out], HN1.out, trivial⟩
                  case measure => simp [intOf]; omega
            · obtain rfl : j = k := by omega
              have ht : acc.take j = acc := List.take_of_length_le (by rw [HNN.out]; omega)
              rw [ht] at hpw ⊢
              have hr := endR_good acc h24 hpw
              clear hge
              go_wp2
              go_ret2
              exact ⟨by rw [HE2.out, hr]; rfl, hon⟩
    · have hemp : (str rest).toList.isEmpty = false := by rw [str_toList]; cases rest with | nil => exact absurd rfl hr0 | cons _ _ => rfl
      by_cases hsep : ∃ t, rest = 44 :: 32 :: t
      · obtain ⟨t, rfl⟩ := hsep
        have hTt : T = (tok t).map (acc ++ ·) := by
          rcases hst with ⟨h, _⟩ | ⟨t', h, h2⟩ | ⟨_, h, _⟩
          · cases h
          · cases h; exact h2
          · exact absurd ⟨t, rfl⟩ h
        clear hst hr0
        obtain ⟨s1, s2⟩ := numL_spec t
        have hN := fun W => number_any W t
        obtain ⟨⟨nv, k⟩, hnk⟩ : ∃ x, numL t = x := ⟨_, rfl⟩
        rw [hnk] at s1 s2 hN
        simp only at s1 s2 hN
        clear hnk
        have e2 : (str (44 :: 32 :: t)).extract 0 2 = str [44, 32] := ext2 _
        have e2l : (str [44, 32]).toList = [44, 32] := str_toList _
        have ed : (str (44 :: 32 :: t)).extract 2 (str (44 :: 32 :: t)).size = str t := ext_from _ 2
        have hl2 : (44 :: 32 :: t).length = t.length + 2 := rfl
        have hz : (str (44 :: 32 :: t)).size = t.length + 2 := hsz
        rw [hl2] at hbound
        rw [hz] at ed
        clear hsz htl hl2
        by_cases hk : k = 0
        · subst hk
          have hTn : T = none := by rw [hTt, s1 rfl]; rfl
          have he := HE.out
          rw [hTn] at he
          simp only at he
          have HE2 := Lib.hid he
          clear he s1 s2 hTt hTn HE HT
          obtain ⟨cc, hcc⟩ : ∃ cc, str [44, 32] = cc := ⟨_, rfl⟩
          rw [hcc] at e2 e2l
          clear hcc
          obtain ⟨bb, hbb⟩ : ∃ bb, str (44 :: 32 :: t) = bb := ⟨_, rfl⟩
          rw [hbb] at e2 ed hz hemp ⊢
          clear hbb
          go_wp2_with (first | (refine (hN _).mono ?_; rintro e w' ⟨rfl, rfl⟩) | fail)
          go_ret2
          exact ⟨by rw [HE2.out]; rfl, hon⟩
        · obtain ⟨hkl, hn100, hst2⟩ := s2 hk
          have hst3 := st_step hTt hst2
          obtain ⟨A4, c4, hv4⟩ := row_form HR.out
          subst hv4
          have HZ := Lib.hid hz
          have hkz : ¬ (k : Int) = 0 := fun e => hk (Int.ofNat.inj e)
          obtain ⟨hk3, ha3⟩ := bound3 _ _ _ hbound hkl
          obtain ⟨p, hp, hsum, hk2⟩ := sum3 k t.length hk3 hkl
          have hsum2 : IntKind.i64.wrap (2 + (k : Int)) = (p : Int) := (IntWalk.i64_left _).trans hsum
          have hsl : ∀ W, (Instr.slice 9 (.string (str (44 :: 32 :: t))) (some (.int .i64 (p : Int))) none none).run Tryd.prog W = .ok (.string (str (t.drop k))) W := fun W => by
            rw [run_slice_string_from_if W 9 _ .i64 _ Tryd.underlying9, hz, if_pos ⟨Int.natCast_nonneg _, hk2⟩]
            have h := ext_from (44 :: 32 :: t) p
            rw [hz] at h
            rw [Int.toNat_natCast, h, hp]
            rfl
          have hS3 := Lib.hid hst3
          have hsz := hon.size
          have HS2 := Lib.hid hsum2
          have hsm : acc.length + 1 ≤ 1000000000 := Nat.le_trans (Nat.add_le_add_right ha3 1) (by decide)
          have HSM := Lib.hid hsm
          clear s1 s2 hst2 hst3 hTt hk HE HT hsum hsum2 hp hk2 hsm hk3 ha3
          obtain ⟨cc, hcc⟩ : ∃ cc, str [44, 32] = cc := ⟨_, rfl⟩
          rw [hcc] at e2 e2l
          clear hcc HZ
          obtain ⟨bb, hbb⟩ : ∃ bb, str (44 :: 32 :: t) = bb := ⟨_, rfl⟩
          simp only [hbb] at e2 ed hz hemp hsl ⊢
          clear hbb
          have HSL := Lib.hid hsl
          clear hsl
          go_wp2_with (first | (refine (hN _).mono ?_; rintro e w' ⟨rfl, rfl⟩) | fail)
          have H13 := Lib.hid hbound
          have HB := Lib.hid (row_block HR.out)
          have HZ2 := Lib.hid hz
          have HN1 := Lib.hid hn100
          clear hbound hkl hn100 hz ed e2 e2l hemp hkz hm hbn hlen hn3 hil em hm1 hm2
          have hsum2 := HS2.out
          have hsl := HSL.out
          go_region_held3 (fun W => On w W) (first | (refine on_grown ?_ hgrow5 HB.out; (repeat' (first | assumption | exact hon | apply On.drew | apply On.alloc))) | (repeat' (first | assumption | exact hon | apply On.drew | apply On.alloc)))
            (first | (refine step_app rfl (.tmp 55) (.tmp 57) 28 ?_ w.heap.size 3 (.int .i64 0) 8 Tryd.underlying28 infoi rfl (by decide) (.slice A4 acc.length c4) acc.length (VI (ints acc)) ?_ ?_ (some ⟨wr.heap.size, 0, none⟩) 1 1 [.int .i64 (nv : Int)] ?_ ?_ ?_ ?_ ?_ ?_; rfl; rfl; (exact row_alloc HR.out _); rfl; (exact rd_one _ _ _); (simp [Value.oneCell']); (exact HSM.out); (exact le_alloc hsz _); intro v' w5 hown5 hgrow5 hor))
          go_wp2
          have hvi : VI (ints (acc ++ [nv])) = VI (ints acc) ++ [.int .i64 (nv : Int)] := by simp [VI, ints]
          refine ⟨⟨acc ++ [nv], t.drop k, rfl, ?_, hS3.out, ?_, ?_, by assumption⟩, ?_⟩
          · rw [List.length_append, hvi]; exact hown5
          · intro i hi
            rcases List.mem_append.1 hi with h | h
            · exact h100 i h
            · rw [List.mem_singleton.1 h]; exact HN1.out
          · have := H13.out
            rw [List.length_append, List.length_drop]
            clear hown5 hgrow5
            simp only [List.length_cons, List.length_nil]
            omega
          · show (str (t.drop k)).size < bb.size
            rw [HZ2.out, str_size, List.length_drop]
            clear hown5 hgrow5
            omega
      · have hTn : T = none := by
          rcases hst with ⟨h, _⟩ | ⟨t', h, _⟩ | ⟨_, _, h⟩
          · exact absurd h hr0
          · exact absurd ⟨t', h⟩ hsep
          · exact h
        have he := HE.out
        rw [hTn] at he
        simp only at he
        have HE2 := Lib.hid he
        clear he hTn HE HT hst h100 hbound
        rcases rest with _ | ⟨c1, _ | ⟨d1, u1⟩⟩
        · exact absurd rfl hr0
        · have hz : (str [c1]).size = 1 := hsz
          clear hsz htl hr0 hsep
          obtain ⟨bb, hbb⟩ : ∃ bb, str [c1] = bb := ⟨_, rfl⟩
          rw [hbb] at hz hemp ⊢
          clear hbb
          go_wp2
          go_ret2
          exact ⟨by rw [HE2.out]; rfl, hon⟩
        · have hz : (str (c1 :: d1 :: u1)).size = u1.length + 2 := hsz
          have e2 : (str (c1 :: d1 :: u1)).extract 0 2 = str [c1, d1] := ext2 _
          have e2l : (str [c1, d1]).toList = [c1, d1] := str_toList _
          have hneq : ([c1, d1] == ([44, 32] : List UInt8)) = false := by
            rw [beq_eq_false_iff_ne]
            intro h
            simp at h
            exact hsep ⟨u1, by rw [h.1, h.2]⟩
          clear hsz htl hr0 hsep
          obtain ⟨cc, hcc⟩ : ∃ cc, str [c1, d1] = cc := ⟨_, rfl⟩
          rw [hcc] at e2 e2l
          clear hcc
          obtain ⟨q1, hq1⟩ : ∃ q1, [c1, d1] = q1 := ⟨_, rfl⟩
          rw [hq1] at e2l hneq
          clear hq1
          have hneq2 : (cc.toList == ([44, 32] : List UInt8)) = false := by rw [e2l]; exact hneq
          obtain ⟨bb, hbb⟩ : ∃ bb, str (c1 :: d1 :: u1) = bb := ⟨_, rfl⟩
          rw [hbb] at hz hemp e2 ⊢
          clear hbb e2l hneq
          go_wp2
          go_ret2
          exact ⟨by rw [HE2.out]; rfl, hon⟩
end Go.Proofs.YteijndnofihgdaaDoor.Sb
