/-
  Package sets: parseElements and Parse.
-/
import Derived.Test.YteijndnofihgdaaDoorSq2
namespace Go.Proofs.YteijndnofihgdaaDoor.Sb
open Go.RowKit Go.Lib
set_option linter.unusedVariables false
set_option maxRecDepth 100000
/-- the variable of bytealg that strings.Cut reads -/
def Mx (w : World) : Prop := ∃ m, w.cell? ⟨3, 0, none⟩ = some (.int .i64 m)
theorem Mx.on {w w' : World} (h : Mx w) (k : On w w') : Mx w' := by
  obtain ⟨m, hm⟩ := h
  exact ⟨m, (Below.cell k (World.block_lt_of_cell? _ _ hm)).trans hm⟩
theorem mx_of_shaped {w : World} (h : w.ShapedOpen Tryd.prog) : Mx w := Tryd.laysM145.s1_3 w h
theorem cut_run (w : World) (t : List UInt8) (ht : t.length < 4294967281) (h : Mx w) :
    Calls Tryd.prog 78 #[.string (str t), .string ⟨#[44, 32]⟩] w fun e w' => e = .returned (.tuple #[.string (str (cut2 t).1), .string (str (cut2 t).2.1), .bool (cut2 t).2.2]) ∧ On w w' := by
  obtain ⟨m, hm⟩ := h
  have hC := Tryd.strings_Cut (str t) ⟨#[44, 32]⟩ m w (by show t.toArray.size < 4294967281; simpa using ht) hm
  refine Calls.mono hC ?_
  rintro e w' ⟨rfl, n, rfl⟩
  refine ⟨?_, (On.refl w).drewN n⟩
  have e1 : (str t).data.toList = t := by simp [str]
  have e2 : (⟨#[44, 32]⟩ : ByteArray).data.toList = [44, 32] := rfl
  rw [e1, e2, cut2_eq]; rfl
/-- what the rest of the text makes of what is read so far -/
def restE (set last : Int) (rg od : Bool) (t : List UInt8) : Int × Nat := match tok t with | none => (0, 2) | some ns => evalP set last rg od ns
theorem restE_eq (set last : Int) (rg od : Bool) (t : List UInt8) : restE set last rg od t = match numP (cut2 t).1 with
    | none => (0, 2)
    | some i => if (cut2 t).2.2 then restE (bits .or .i64 set (wrap64 (2 ^ min i 64))) (i : Int) (rg && decide ((i : Int) < 24)) (od && decide (last < (i : Int))) (cut2 t).2.1 else evalP set last rg od [i] := by
  unfold restE
  rw [tok_eq t]
  cases numP (cut2 t).1 with
  | none => rfl
  | some i =>
    simp only
    by_cases hm : (cut2 t).2.2 = true
    · rw [if_pos hm, if_pos hm]
      cases tok (cut2 t).2.1 with
      | none => rfl
      | some ns => rfl
    · rw [if_neg hm, if_neg hm]
set_option maxHeartbeats 4000000 in
theorem elements_run (w : World) (t : List UInt8) (ht : t.length < 4294967281) (h : Mx w) :
    Calls Tryd.prog 61 #[.string (str t)] w fun e w' => e = .returned (.tuple #[.int .i64 (restE 0 (-1) true true t).1, errV (restE 0 (-1) true true t).2]) ∧ On w w' := by
  have hC := fun W u hu hW => cut_run W u hu hW
  go_enter Tryd.func61, Tryd.ntmps61
  go_wp2
  go_loopw [0, 4, 5, 6, 7, 8] (fun s0 s4 s5 s6 s7 s8 wr => ∃ (u : List UInt8) (sv lv : Int) (rg od m : Bool), s0 = .string (str u) ∧ s4 = .int .i64 sv ∧ s5 = .int .i64 lv ∧ s6 = .bool rg ∧ s7 = .bool od ∧ s8 = .bool m ∧ u.length ≤ t.length ∧ -1 ≤ lv ∧ lv < 100 ∧ (if m then restE sv lv rg od u else evalP sv lv rg od []) = restE 0 (-1) true true t ∧ On w wr) (fun s0 _ _ _ _ s8 _ => match s0, s8 with | .string b, .bool true => b.size + 1 | _, _ => 0)
  case atStart => exact ⟨t, 0, -1, true, true, true, rfl, rfl, rfl, rfl, rfl, rfl, Nat.le_refl _, by omega, by omega, rfl, On.refl _⟩
  case round =>
    obtain ⟨u, sv, lv, rg, od, m, rfl, rfl, rfl, rfl, rfl, rfl, hu, hl1, hl2, hv, hon⟩ := hrel
    rcases m with _ | _
    · rw [if_neg (by decide)] at hv
      have HV := Lib.hid hv
      clear hv hC
      rcases rg with _ | _
      · go_wp2
        go_ret2
        exact ⟨by rw [← HV.out]; rfl, hon⟩
      · rcases od with _ | _
        · go_wp2
          go_ret2
          exact ⟨by rw [← HV.out]; rfl, hon⟩
        · go_wp2
          go_ret2
          exact ⟨by rw [← HV.out]; rfl, hon⟩
    · rw [if_pos rfl, restE_eq] at hv
      have hcut := hC wr u (by omega) (h.on hon)
      have hlen := cut2_len u
      have hle := cut2_le u
      obtain ⟨⟨a, b, f⟩, hab⟩ : ∃ x, cut2 u = x := ⟨_, rfl⟩
      rw [hab] at hv hcut hlen hle
      clear hab hC
      simp only at hv hcut hlen hle
      have hN := fun W => pn_any W a
      have hlt := numP_lt a
      unfold numR at hN
      cases hp : numP a with
      | none =>
        rw [hp] at hv hN
        simp only at hv hN
        have HV := Lib.hid hv
        clear hv hp hlt
        go_wp2_with (first | (refine hcut.mono ?_; rintro e w5 ⟨rfl, P5⟩) | (refine (hN _).mono ?_; rintro e w' ⟨rfl, rfl⟩))
        go_ret2
        exact ⟨by rw [← HV.out]; rfl, hon.trans P5⟩
      | some i =>
        rw [hp] at hv hN
        simp only at hv hN
        have hi := hlt i hp
        have HV := Lib.hid hv
        have HL := Lib.hid hlen
        clear hv hp hlt hlen
        have hmz : (match Value.string (str b), Value.bool f with | .string b, .bool true => b.size + 1 | _, _ => 0) < (match Value.string (str u), Value.bool true with | .string b, .bool true => b.size + 1 | _, _ => 0) := by
          clear hcut HV
          rcases f with _ | _
          · show 0 < (str u).size + 1
            omega
          · have := HL.out rfl
            show b.toArray.size + 1 < u.toArray.size + 1
            simp; omega
        have HM := Lib.hid hmz
        clear hmz
        rcases rg with _ | _ <;> rcases od with _ | _
        · go_wp2_with (first | (refine hcut.mono ?_; rintro e w5 ⟨rfl, P5⟩) | (refine (hN _).mono ?_; rintro e w' ⟨rfl, rfl⟩))
          exact ⟨⟨b, _, _, _, _, f, rfl, rfl, rfl, rfl, rfl, rfl, by omega, by omega, by omega, HV.out, hon.trans P5⟩, HM.out⟩
        · go_wp2_with (first | (refine hcut.mono ?_; rintro e w5 ⟨rfl, P5⟩) | (refine (hN _).mono ?_; rintro e w' ⟨rfl, rfl⟩))
          exact ⟨⟨b, _, _, _, _, f, rfl, rfl, rfl, rfl, rfl, rfl, by omega, by omega, by omega, HV.out, hon.trans P5⟩, HM.out⟩
        · go_wp2_with (first | (refine hcut.mono ?_; rintro e w5 ⟨rfl, P5⟩) | (refine (hN _).mono ?_; rintro e w' ⟨rfl, rfl⟩))
          exact ⟨⟨b, _, _, _, _, f, rfl, rfl, rfl, rfl, rfl, rfl, by omega, by omega, by omega, HV.out, hon.trans P5⟩, HM.out⟩
        · go_wp2_with (first | (refine hcut.mono ?_; rintro e w5 ⟨rfl, P5⟩) | (refine (hN _).mono ?_; rintro e w' ⟨rfl, rfl⟩))
          exact ⟨⟨b, _, _, _, _, f, rfl, rfl, rfl, rfl, rfl, rfl, by omega, by omega, by omega, HV.out, hon.trans P5⟩, HM.out⟩
/-- what Parse returns -/
def parseR (t : List UInt8) : Int × Nat :=
  if t.head? = some 123 ∧ t.tail.getLast? = some 125 then (if t.tail.dropLast = [] then (0, 0) else restE 0 (-1) true true t.tail.dropLast) else (0, 2)
theorem brace (t : List UInt8) : Lib.hasPrefix t [123] = decide (t.head? = some 123) := by
  unfold Lib.hasPrefix
  rcases t with _ | ⟨b, l⟩
  · rfl
  · simp [List.isPrefixOf]
    by_cases h : b = 123
    · simp [h]
    · have : ¬ (123 : UInt8) = b := fun e => h e.symm
      simp [h, this]
theorem trim_brace (t : List UInt8) (h : t.head? = some 123) : Lib.trimPrefix t [123] = t.tail := by
  unfold Lib.trimPrefix
  rw [brace, decide_eq_true h, if_pos rfl]
  rcases t with _ | ⟨b, l⟩ <;> rfl
theorem ebrace (t : List UInt8) : Lib.hasSuffix t [125] = decide (t.getLast? = some 125) := by
  unfold Lib.hasSuffix
  rw [Bool.eq_iff_iff, decide_eq_true_eq, List.isSuffixOf_iff_suffix]
  constructor
  · rintro ⟨r, rfl⟩; simp
  · intro h
    obtain ⟨r, e⟩ := List.getLast?_eq_some_iff.1 h
    exact ⟨r, e.symm⟩
theorem trim_ebrace (t : List UInt8) (h : t.getLast? = some 125) : Lib.trimSuffix t [125] = t.dropLast := by
  unfold Lib.trimSuffix
  rw [ebrace, decide_eq_true h, if_pos rfl, List.dropLast_eq_take]
  rfl
theorem prefix_run (w : World) (t : List UInt8) : Calls Tryd.prog 59 #[.string (str t), .string ⟨#[123]⟩] w fun e w' => e = .returned (.tuple #[.string (str (Lib.trimPrefix t [123])), .bool (decide (t.head? = some 123))]) ∧ w = w' := by
  refine Calls.mono (Tryd.strings_CutPrefix (str t) ⟨#[123]⟩ w) ?_
  rintro e w' ⟨rfl, rfl⟩
  have e1 : (str t).data.toList = t := by simp [str]
  have e2 : (⟨#[123]⟩ : ByteArray).data.toList = [123] := rfl
  rw [e1, e2, brace]
  exact ⟨rfl, rfl⟩
theorem suffix_run (w : World) (t : List UInt8) (ht : t.length < 4294967281) : Calls Tryd.prog 60 #[.string (str t), .string ⟨#[125]⟩] w fun e w' => e = .returned (.tuple #[.string (str (Lib.trimSuffix t [125])), .bool (decide (t.getLast? = some 125))]) ∧ w = w' := by
  refine Calls.mono (Tryd.strings_CutSuffix (str t) ⟨#[125]⟩ w (by show t.toArray.size ≤ _; simp; omega)) ?_
  rintro e w' ⟨rfl, rfl⟩
  have e1 : (str t).data.toList = t := by simp [str]
  have e2 : (⟨#[125]⟩ : ByteArray).data.toList = [125] := rfl
  rw [e1, e2, ebrace]
  exact ⟨rfl, rfl⟩
set_option maxHeartbeats 1000000 in
theorem parse_any (w : World) (t : List UInt8) (ht : t.length < 4294967281) (h : Mx w) :
    Calls Tryd.prog 43 #[.string (str t)] w fun e w' => e = .returned (.tuple #[.int .i64 (parseR t).1, errV (parseR t).2]) ∧ On w w' := by
  have hP := fun W => prefix_run W t
  unfold parseR
  by_cases h1 : t.head? = some 123
  · rw [trim_brace t h1, decide_eq_true h1] at hP
    have hl : t.tail.length < 4294967281 := by rw [List.length_tail]; omega
    have hS := fun W => suffix_run W t.tail hl
    generalize t.tail = u at *
    by_cases h2 : u.getLast? = some 125
    · rw [trim_ebrace u h2, decide_eq_true h2] at hS
      rw [if_pos ⟨h1, h2⟩]
      have hl2 : u.dropLast.length < 4294967281 := by rw [List.length_dropLast]; omega
      have hE := elements_run w u.dropLast hl2 h
      generalize u.dropLast = v at *
      clear h1 h2 h
      rcases v with _ | ⟨b, v⟩
      · rw [if_pos rfl]
        have hb : (str []).toList.isEmpty = true := by unfold str; rw [ByteArray.toList_mk]; rfl
        rw [errV_zero]
        clear hE
        go_enter Tryd.func43, Tryd.ntmps43
        go_wp2_with (first | (with_reducible refine (hP _).mono ?_; rintro e w' ⟨rfl, rfl⟩) | (with_reducible refine (hS _).mono ?_; rintro e w' ⟨rfl, rfl⟩))
        go_ret2
        exact ⟨rfl, On.refl _⟩
      · rw [if_neg (by simp)]
        have hb : (str (b :: v)).toList.isEmpty = false := by unfold str; rw [ByteArray.toList_mk]; rfl
        go_enter Tryd.func43, Tryd.ntmps43
        go_wp2_with (first | (with_reducible refine (hP _).mono ?_; rintro e w' ⟨rfl, rfl⟩) | (with_reducible refine (hS _).mono ?_; rintro e w' ⟨rfl, rfl⟩))
        refine hE.mono ?_
        rintro e w1 ⟨rfl, P1⟩
        go_wp2
        go_ret2
        exact ⟨rfl, P1⟩
    · rw [if_neg (fun e => h2 e.2)]
      rw [decide_eq_false h2] at hS
      clear h1 h2 h
      go_enter Tryd.func43, Tryd.ntmps43
      go_wp2_with (first | (with_reducible refine (hP _).mono ?_; rintro e w' ⟨rfl, rfl⟩) | (with_reducible refine (hS _).mono ?_; rintro e w' ⟨rfl, rfl⟩))
      go_ret2
      exact ⟨rfl, On.refl _⟩
  · rw [if_neg (fun e => h1 e.1)]
    rw [decide_eq_false h1] at hP
    have hl : (Lib.trimPrefix t [123]).length < 4294967281 := by
      unfold Lib.trimPrefix
      split
      · rw [List.length_drop]; omega
      · exact ht
    have hS := fun W => suffix_run W _ hl
    generalize Lib.trimPrefix t [123] = u at *
    generalize decide (u.getLast? = some 125) = b at *
    clear h1 h
    go_enter Tryd.func43, Tryd.ntmps43
    go_wp2_with (first | (with_reducible refine (hP _).mono ?_; rintro e w' ⟨rfl, rfl⟩) | (with_reducible refine (hS _).mono ?_; rintro e w' ⟨rfl, rfl⟩))
    go_ret2
    exact ⟨rfl, On.refl _⟩
end Go.Proofs.YteijndnofihgdaaDoor.Sb
