/-
  The statement FamilyLattice, walked: Plus and Product are commutative and associative, and distribute over each other.
-/
import Derived.Test.YtibkpglgeincdaaSfb
namespace Go.Proofs.Ytibkpglgeincdaa.Sb
open Go.RowKit
set_option linter.unusedVariables false
set_option maxRecDepth 100000
theorem plus_eq {a b a' b' : List Nat} (ha : Ok a) (hb : Ok b) (ha' : Ok a') (hb' : Ok b') (h : ∀ s, (cov a s || cov b s) = (cov a' s || cov b' s)) : minL (a ++ b) = minL (a' ++ b') :=
  minL_eq (ha.append hb) (ha'.append hb') fun s => by rw [cov_append, cov_append]; exact h s
theorem prod_eq {a b a' b' : List Nat} (ha : Ok a) (hb : Ok b) (ha' : Ok a') (hb' : Ok b') (h : ∀ s, (cov a s && cov b s) = (cov a' s && cov b' s)) : minL (uni a b) = minL (uni a' b') :=
  minL_eq (uni_ok ha hb) (uni_ok ha' hb') fun s => by rw [cov_uni, cov_uni]; exact h s
theorem mix_eq {a b a' b' : List Nat} (ha : Ok a) (hb : Ok b) (ha' : Ok a') (hb' : Ok b') (h : ∀ s, (cov a s && cov b s) = (cov a' s || cov b' s)) : minL (uni a b) = minL (a' ++ b') :=
  minL_eq (uni_ok ha hb) (ha'.append hb') fun s => by rw [cov_uni, cov_append]; exact h s
theorem plus_cov {a b z : List Nat} (ha : Ok a) (hb : Ok b) (h : minL (a ++ b) = z) (s : Nat) : cov z s = (cov a s || cov b s) := by rw [← h, cov_min (ha.append hb), cov_append]
theorem prod_cov {a b z : List Nat} (ha : Ok a) (hb : Ok b) (h : minL (uni a b) = z) (s : Nat) : cov z s = (cov a s && cov b s) := by rw [← h, cov_min (uni_ok ha hb), cov_uni]
set_option maxHeartbeats 16000000 in
theorem lattice_law (w : World) (A : Option Addr) (n c : Nat) (l : List Int) (B : Option Addr) (m d : Nat) (k : List Int) (C : Option Addr) (p q : Nat) (r : List Int) (h : Rd w A n c (VI l)) (h2 : Rd w B m d (VI k)) (h3 : Rd w C p q (VI r)) :
    Calls Try.prog 6 #[.slice A n c, .slice B m d, .slice C p q] w fun e w' => e = .returned (.bool true) ∧ On w w' := by
  have hV := lvalid3 w A n c l h B m d k h2 C p q r h3
  have PP := (On.refl w).alloc (.cells #[.slice A n c, .slice B m d, .slice C p q] 22)
  have hA := fun W => awake_any W
  have hna : l.length = n := by have := h.len; rw [VI_length] at this; exact this
  have hnb : k.length = m := by have := h2.len; rw [VI_length] at this; exact this
  have hnc : r.length = p := by have := h3.len; rw [VI_length] at this; exact this
  by_cases hok : (okS l && (okS k && okS r)) = true
  · rw [hok] at hV
    rw [Bool.and_eq_true, Bool.and_eq_true] at hok
    by_cases hsh : n ≤ 8 ∧ m ≤ 8 ∧ p ≤ 8
    · obtain ⟨hs1, hs2, hs3⟩ := hsh
      obtain ⟨a, rfl, Oa, _⟩ := okS_iff l hok.1
      obtain ⟨b, rfl, Ob, _⟩ := okS_iff k hok.2.1
      obtain ⟨z, rfl, Oz, _⟩ := okS_iff r hok.2.2
      have Ba : a.length ≤ 8 := by rw [ints_length] at hna; omega
      have Bb : b.length ≤ 8 := by rw [ints_length] at hnb; omega
      have Bz : z.length ≤ 8 := by rw [ints_length] at hnc; omega
      have Ra := h.on PP
      have Rb := h2.on PP
      have Rz := h3.on PP
      clear hok h h2 h3 hna hnb hnc
      go_enter Try.func6, Try.ntmps6
      go_wp2_with fail
      refine hV.mono ?_
      rintro e w1 ⟨rfl, rfl⟩
      generalize w.alloc (.cells #[.slice A n c, .slice B m d, .slice C p q] 22) = w1 at *
      clear hV
      go_wp2_with fail
      refine (hA _).mono ?_
      rintro e w2 ⟨rfl, P2⟩
      replace Ra := Ra.on P2
      replace Rb := Rb.on P2
      replace Rz := Rz.on P2
      replace PP := PP.trans P2
      clear hA P2 hs1 hs2 hs3
      have hz := Plus_ok w2 A n c a Ra Oa (by omega) B m d b Rb Ob (by omega)
      have Bab := plus_len a b 8 8 Ba Bb
      have Oab := minL_ok (Oa.append Ob)
      have Vab := fun s => plus_cov (z := minL (a ++ b)) Oa Ob rfl s
      obtain ⟨ab, hab⟩ : ∃ t, minL (a ++ b) = t := ⟨_, rfl⟩
      rw [hab] at hz Bab Oab
      simp only [hab] at Vab
      have Hab := Lib.hid hab
      have HVab := Lib.hid Vab
      clear hab Vab
      go_wp2_with fail
      refine hz.mono ?_
      rintro e w3 hg
      obtain ⟨Aab, nab, cab, rfl, Rab, P3⟩ := hg.ok (by omega)
      clear hz hg
      replace Ra := Ra.on P3
      replace Rb := Rb.on P3
      replace Rz := Rz.on P3
      replace PP := PP.trans P3
      clear P3
      have hz := Plus_ok w3 B m d b Rb Ob (by omega) A n c a Ra Oa (by omega)
      have Bba := plus_len b a 8 8 Bb Ba
      have Oba := minL_ok (Ob.append Oa)
      have Vba := fun s => plus_cov (z := minL (b ++ a)) Ob Oa rfl s
      obtain ⟨ba, hba⟩ : ∃ t, minL (b ++ a) = t := ⟨_, rfl⟩
      rw [hba] at hz Bba Oba
      simp only [hba] at Vba
      have Hba := Lib.hid hba
      have HVba := Lib.hid Vba
      clear hba Vba
      go_wp2_with fail
      refine hz.mono ?_
      rintro e w4 hg
      obtain ⟨Aba, nba, cba, rfl, Rba, P4⟩ := hg.ok (by omega)
      clear hz hg
      replace Ra := Ra.on P4
      replace Rb := Rb.on P4
      replace Rz := Rz.on P4
      replace Rab := Rab.on P4
      replace PP := PP.trans P4
      clear P4
      have hz := Plus_ok w4 B m d b Rb Ob (by omega) C p q z Rz Oz (by omega)
      have Bbc := plus_len b z 8 8 Bb Bz
      have Obc := minL_ok (Ob.append Oz)
      have Vbc := fun s => plus_cov (z := minL (b ++ z)) Ob Oz rfl s
      obtain ⟨bc, hbc⟩ : ∃ t, minL (b ++ z) = t := ⟨_, rfl⟩
      rw [hbc] at hz Bbc Obc
      simp only [hbc] at Vbc
      have Hbc := Lib.hid hbc
      have HVbc := Lib.hid Vbc
      clear hbc Vbc
      go_wp2_with fail
      refine hz.mono ?_
      rintro e w5 hg
      obtain ⟨Abc, nbc, cbc, rfl, Rbc, P5⟩ := hg.ok (by omega)
      clear hz hg
      replace Ra := Ra.on P5
      replace Rb := Rb.on P5
      replace Rz := Rz.on P5
      replace Rab := Rab.on P5
      replace Rba := Rba.on P5
      replace PP := PP.trans P5
      clear P5
      have hz := Plus_ok w5 Aab nab cab ab Rab Oab (by omega) C p q z Rz Oz (by omega)
      have Ble := plus_len ab z 16 8 Bab Bz
      have Ole := minL_ok (Oab.append Oz)
      have Vle := fun s => plus_cov (z := minL (ab ++ z)) Oab Oz rfl s
      obtain ⟨le, hle⟩ : ∃ t, minL (ab ++ z) = t := ⟨_, rfl⟩
      rw [hle] at hz Ble Ole
      simp only [hle] at Vle
      have Hle := Lib.hid hle
      have HVle := Lib.hid Vle
      clear hle Vle
      go_wp2_with fail
      refine hz.mono ?_
      rintro e w6 hg
      obtain ⟨Ale, nle, cle, rfl, Rle, P6⟩ := hg.ok (by omega)
      clear hz hg
      replace Ra := Ra.on P6
      replace Rb := Rb.on P6
      replace Rz := Rz.on P6
      replace Rab := Rab.on P6
      replace Rba := Rba.on P6
      replace Rbc := Rbc.on P6
      replace PP := PP.trans P6
      clear P6
      have hz := Plus_ok w6 A n c a Ra Oa (by omega) Abc nbc cbc bc Rbc Obc (by omega)
      have Bri := plus_len a bc 8 16 Ba Bbc
      have Ori := minL_ok (Oa.append Obc)
      have Vri := fun s => plus_cov (z := minL (a ++ bc)) Oa Obc rfl s
      obtain ⟨ri, hri⟩ : ∃ t, minL (a ++ bc) = t := ⟨_, rfl⟩
      rw [hri] at hz Bri Ori
      simp only [hri] at Vri
      have Hri := Lib.hid hri
      have HVri := Lib.hid Vri
      clear hri Vri
      go_wp2_with fail
      refine hz.mono ?_
      rintro e w7 hg
      obtain ⟨Ari, nri, cri, rfl, Rri, P7⟩ := hg.ok (by omega)
      clear hz hg
      replace Ra := Ra.on P7
      replace Rb := Rb.on P7
      replace Rz := Rz.on P7
      replace Rab := Rab.on P7
      replace Rba := Rba.on P7
      replace Rbc := Rbc.on P7
      replace Rle := Rle.on P7
      replace PP := PP.trans P7
      clear P7
      have heq : ab = ba := (by rw [← Hab.out, ← Hba.out]; exact plus_eq Oa Ob Ob Oa fun s => Bool.or_comm _ _)
      have hI := ints_any w7 Aab nab cab _ Aba nba cba _ Rab Rba
      rw [decide_eq_true (congrArg ints heq)] at hI
      clear heq
      go_wp2_with fail
      refine hI.mono ?_
      rintro e w8 ⟨rfl, P8⟩
      clear hI
      replace Ra := Ra.on P8
      replace Rb := Rb.on P8
      replace Rz := Rz.on P8
      replace Rab := Rab.on P8
      replace Rba := Rba.on P8
      replace Rbc := Rbc.on P8
      replace Rle := Rle.on P8
      replace Rri := Rri.on P8
      replace PP := PP.trans P8
      clear P8
      have heq : le = ri := (by rw [← Hle.out, ← Hri.out]; exact plus_eq Oab Oz Oa Obc fun s => by rw [HVab.out, HVbc.out, Bool.or_assoc])
      have hI := ints_any w8 Ale nle cle _ Ari nri cri _ Rle Rri
      rw [decide_eq_true (congrArg ints heq)] at hI
      clear heq
      go_wp2_with fail
      refine hI.mono ?_
      rintro e w9 ⟨rfl, P9⟩
      clear hI
      replace Ra := Ra.on P9
      replace Rb := Rb.on P9
      replace Rz := Rz.on P9
      replace Rab := Rab.on P9
      replace Rba := Rba.on P9
      replace Rbc := Rbc.on P9
      replace Rle := Rle.on P9
      replace Rri := Rri.on P9
      replace PP := PP.trans P9
      clear P9
      clear Rba
      clear Rle
      clear Rri
      have hz := Product_ok w9 A n c a Ra Oa (by omega) B m d b Rb Ob (by omega)
      have Bpq := prod_len a b 8 8 Ba Bb
      have Opq := minL_ok (uni_ok Oa Ob)
      have Vpq := fun s => prod_cov (z := minL (uni a b)) Oa Ob rfl s
      obtain ⟨pq, hpq⟩ : ∃ t, minL (uni a b) = t := ⟨_, rfl⟩
      rw [hpq] at hz Bpq Opq
      simp only [hpq] at Vpq
      have Hpq := Lib.hid hpq
      have HVpq := Lib.hid Vpq
      clear hpq Vpq
      go_wp2_with fail
      refine hz.mono ?_
      rintro e w10 hg
      obtain ⟨Apq, npq, cpq, rfl, Rpq, P10⟩ := hg.ok (by omega)
      clear hz hg
      replace Ra := Ra.on P10
      replace Rb := Rb.on P10
      replace Rz := Rz.on P10
      replace Rab := Rab.on P10
      replace Rbc := Rbc.on P10
      replace PP := PP.trans P10
      clear P10
      have hz := Product_ok w10 B m d b Rb Ob (by omega) A n c a Ra Oa (by omega)
      have Bqp := prod_len b a 8 8 Bb Ba
      have Oqp := minL_ok (uni_ok Ob Oa)
      have Vqp := fun s => prod_cov (z := minL (uni b a)) Ob Oa rfl s
      obtain ⟨qp, hqp⟩ : ∃ t, minL (uni b a) = t := ⟨_, rfl⟩
      rw [hqp] at hz Bqp Oqp
      simp only [hqp] at Vqp
      have Hqp := Lib.hid hqp
      have HVqp := Lib.hid Vqp
      clear hqp Vqp
      go_wp2_with fail
      refine hz.mono ?_
      rintro e w11 hg
      obtain ⟨Aqp, nqp, cqp, rfl, Rqp, P11⟩ := hg.ok (by omega)
      clear hz hg
      replace Ra := Ra.on P11
      replace Rb := Rb.on P11
      replace Rz := Rz.on P11
      replace Rab := Rab.on P11
      replace Rbc := Rbc.on P11
      replace Rpq := Rpq.on P11
      replace PP := PP.trans P11
      clear P11
      have hz := Product_ok w11 B m d b Rb Ob (by omega) C p q z Rz Oz (by omega)
      have Bqr := prod_len b z 8 8 Bb Bz
      have Oqr := minL_ok (uni_ok Ob Oz)
      have Vqr := fun s => prod_cov (z := minL (uni b z)) Ob Oz rfl s
      obtain ⟨qr, hqr⟩ : ∃ t, minL (uni b z) = t := ⟨_, rfl⟩
      rw [hqr] at hz Bqr Oqr
      simp only [hqr] at Vqr
      have Hqr := Lib.hid hqr
      have HVqr := Lib.hid Vqr
      clear hqr Vqr
      go_wp2_with fail
      refine hz.mono ?_
      rintro e w12 hg
      obtain ⟨Aqr, nqr, cqr, rfl, Rqr, P12⟩ := hg.ok (by omega)
      clear hz hg
      replace Ra := Ra.on P12
      replace Rb := Rb.on P12
      replace Rz := Rz.on P12
      replace Rab := Rab.on P12
      replace Rbc := Rbc.on P12
      replace Rpq := Rpq.on P12
      replace Rqp := Rqp.on P12
      replace PP := PP.trans P12
      clear P12
      have hz := Product_ok w12 Apq npq cpq pq Rpq Opq (by omega) C p q z Rz Oz (by omega)
      have Blf := prod_len pq z 64 8 Bpq Bz
      have Olf := minL_ok (uni_ok Opq Oz)
      have Vlf := fun s => prod_cov (z := minL (uni pq z)) Opq Oz rfl s
      obtain ⟨lf, hlf⟩ : ∃ t, minL (uni pq z) = t := ⟨_, rfl⟩
      rw [hlf] at hz Blf Olf
      simp only [hlf] at Vlf
      have Hlf := Lib.hid hlf
      have HVlf := Lib.hid Vlf
      clear hlf Vlf
      go_wp2_with fail
      refine hz.mono ?_
      rintro e w13 hg
      obtain ⟨Alf, nlf, clf, rfl, Rlf, P13⟩ := hg.ok (by omega)
      clear hz hg
      replace Ra := Ra.on P13
      replace Rb := Rb.on P13
      replace Rz := Rz.on P13
      replace Rab := Rab.on P13
      replace Rbc := Rbc.on P13
      replace Rpq := Rpq.on P13
      replace Rqp := Rqp.on P13
      replace Rqr := Rqr.on P13
      replace PP := PP.trans P13
      clear P13
      have hz := Product_ok w13 A n c a Ra Oa (by omega) Aqr nqr cqr qr Rqr Oqr (by omega)
      have Brt := prod_len a qr 8 64 Ba Bqr
      have Ort := minL_ok (uni_ok Oa Oqr)
      have Vrt := fun s => prod_cov (z := minL (uni a qr)) Oa Oqr rfl s
      obtain ⟨rt, hrt⟩ : ∃ t, minL (uni a qr) = t := ⟨_, rfl⟩
      rw [hrt] at hz Brt Ort
      simp only [hrt] at Vrt
      have Hrt := Lib.hid hrt
      have HVrt := Lib.hid Vrt
      clear hrt Vrt
      go_wp2_with fail
      refine hz.mono ?_
      rintro e w14 hg
      obtain ⟨Art, nrt, crt, rfl, Rrt, P14⟩ := hg.ok (by omega)
      clear hz hg
      replace Ra := Ra.on P14
      replace Rb := Rb.on P14
      replace Rz := Rz.on P14
      replace Rab := Rab.on P14
      replace Rbc := Rbc.on P14
      replace Rpq := Rpq.on P14
      replace Rqp := Rqp.on P14
      replace Rqr := Rqr.on P14
      replace Rlf := Rlf.on P14
      replace PP := PP.trans P14
      clear P14
      have heq : pq = qp := (by rw [← Hpq.out, ← Hqp.out]; exact prod_eq Oa Ob Ob Oa fun s => Bool.and_comm _ _)
      have hI := ints_any w14 Apq npq cpq _ Aqp nqp cqp _ Rpq Rqp
      rw [decide_eq_true (congrArg ints heq)] at hI
      clear heq
      go_wp2_with fail
      refine hI.mono ?_
      rintro e w15 ⟨rfl, P15⟩
      clear hI
      replace Ra := Ra.on P15
      replace Rb := Rb.on P15
      replace Rz := Rz.on P15
      replace Rab := Rab.on P15
      replace Rbc := Rbc.on P15
      replace Rpq := Rpq.on P15
      replace Rqp := Rqp.on P15
      replace Rqr := Rqr.on P15
      replace Rlf := Rlf.on P15
      replace Rrt := Rrt.on P15
      replace PP := PP.trans P15
      clear P15
      have heq : lf = rt := (by rw [← Hlf.out, ← Hrt.out]; exact prod_eq Opq Oz Oa Oqr fun s => by rw [HVpq.out, HVqr.out, Bool.and_assoc])
      have hI := ints_any w15 Alf nlf clf _ Art nrt crt _ Rlf Rrt
      rw [decide_eq_true (congrArg ints heq)] at hI
      clear heq
      go_wp2_with fail
      refine hI.mono ?_
      rintro e w16 ⟨rfl, P16⟩
      clear hI
      replace Ra := Ra.on P16
      replace Rb := Rb.on P16
      replace Rz := Rz.on P16
      replace Rab := Rab.on P16
      replace Rbc := Rbc.on P16
      replace Rpq := Rpq.on P16
      replace Rqp := Rqp.on P16
      replace Rqr := Rqr.on P16
      replace Rlf := Rlf.on P16
      replace Rrt := Rrt.on P16
      replace PP := PP.trans P16
      clear P16
      clear Rqp
      clear Rlf
      clear Rrt
      have hz := Product_ok w16 A n c a Ra Oa (by omega) Abc nbc cbc bc Rbc Obc (by omega)
      have Bx := prod_len a bc 8 16 Ba Bbc
      have Ox := minL_ok (uni_ok Oa Obc)
      have Vx := fun s => prod_cov (z := minL (uni a bc)) Oa Obc rfl s
      obtain ⟨x, hx⟩ : ∃ t, minL (uni a bc) = t := ⟨_, rfl⟩
      rw [hx] at hz Bx Ox
      simp only [hx] at Vx
      have Hx := Lib.hid hx
      have HVx := Lib.hid Vx
      clear hx Vx
      go_wp2_with fail
      refine hz.mono ?_
      rintro e w17 hg
      obtain ⟨Ax, nx, cx, rfl, Rx, P17⟩ := hg.ok (by omega)
      clear hz hg
      replace Ra := Ra.on P17
      replace Rb := Rb.on P17
      replace Rz := Rz.on P17
      replace Rab := Rab.on P17
      replace Rbc := Rbc.on P17
      replace Rpq := Rpq.on P17
      replace Rqr := Rqr.on P17
      replace PP := PP.trans P17
      clear P17
      have hz := Product_ok w17 A n c a Ra Oa (by omega) C p q z Rz Oz (by omega)
      have Bpr := prod_len a z 8 8 Ba Bz
      have Opr := minL_ok (uni_ok Oa Oz)
      have Vpr := fun s => prod_cov (z := minL (uni a z)) Oa Oz rfl s
      obtain ⟨pr, hpr⟩ : ∃ t, minL (uni a z) = t := ⟨_, rfl⟩
      rw [hpr] at hz Bpr Opr
      simp only [hpr] at Vpr
      have Hpr := Lib.hid hpr
      have HVpr := Lib.hid Vpr
      clear hpr Vpr
      go_wp2_with fail
      refine hz.mono ?_
      rintro e w18 hg
      obtain ⟨Apr, npr, cpr, rfl, Rpr, P18⟩ := hg.ok (by omega)
      clear hz hg
      replace Ra := Ra.on P18
      replace Rb := Rb.on P18
      replace Rz := Rz.on P18
      replace Rab := Rab.on P18
      replace Rbc := Rbc.on P18
      replace Rpq := Rpq.on P18
      replace Rqr := Rqr.on P18
      replace Rx := Rx.on P18
      replace PP := PP.trans P18
      clear P18
      have hz := Plus_ok w18 Apq npq cpq pq Rpq Opq (by omega) Apr npr cpr pr Rpr Opr (by omega)
      have By := plus_len pq pr 64 64 Bpq Bpr
      have Oy := minL_ok (Opq.append Opr)
      have Vy := fun s => plus_cov (z := minL (pq ++ pr)) Opq Opr rfl s
      obtain ⟨y, hy⟩ : ∃ t, minL (pq ++ pr) = t := ⟨_, rfl⟩
      rw [hy] at hz By Oy
      simp only [hy] at Vy
      have Hy := Lib.hid hy
      have HVy := Lib.hid Vy
      clear hy Vy
      go_wp2_with fail
      refine hz.mono ?_
      rintro e w19 hg
      obtain ⟨Ay, ny, cy, rfl, Ry, P19⟩ := hg.ok (by omega)
      clear hz hg
      replace Ra := Ra.on P19
      replace Rb := Rb.on P19
      replace Rz := Rz.on P19
      replace Rab := Rab.on P19
      replace Rbc := Rbc.on P19
      replace Rpq := Rpq.on P19
      replace Rqr := Rqr.on P19
      replace Rx := Rx.on P19
      replace Rpr := Rpr.on P19
      replace PP := PP.trans P19
      clear P19
      have hz := Plus_ok w19 A n c a Ra Oa (by omega) Aqr nqr cqr qr Rqr Oqr (by omega)
      have Bu := plus_len a qr 8 64 Ba Bqr
      have Ou := minL_ok (Oa.append Oqr)
      have Vu := fun s => plus_cov (z := minL (a ++ qr)) Oa Oqr rfl s
      obtain ⟨u, hu⟩ : ∃ t, minL (a ++ qr) = t := ⟨_, rfl⟩
      rw [hu] at hz Bu Ou
      simp only [hu] at Vu
      have Hu := Lib.hid hu
      have HVu := Lib.hid Vu
      clear hu Vu
      go_wp2_with fail
      refine hz.mono ?_
      rintro e w20 hg
      obtain ⟨Au, nu, cu, rfl, Ru, P20⟩ := hg.ok (by omega)
      clear hz hg
      replace Ra := Ra.on P20
      replace Rb := Rb.on P20
      replace Rz := Rz.on P20
      replace Rab := Rab.on P20
      replace Rbc := Rbc.on P20
      replace Rpq := Rpq.on P20
      replace Rqr := Rqr.on P20
      replace Rx := Rx.on P20
      replace Rpr := Rpr.on P20
      replace Ry := Ry.on P20
      replace PP := PP.trans P20
      clear P20
      have hz := Plus_ok w20 A n c a Ra Oa (by omega) C p q z Rz Oz (by omega)
      have Bac := plus_len a z 8 8 Ba Bz
      have Oac := minL_ok (Oa.append Oz)
      have Vac := fun s => plus_cov (z := minL (a ++ z)) Oa Oz rfl s
      obtain ⟨ac, hac⟩ : ∃ t, minL (a ++ z) = t := ⟨_, rfl⟩
      rw [hac] at hz Bac Oac
      simp only [hac] at Vac
      have Hac := Lib.hid hac
      have HVac := Lib.hid Vac
      clear hac Vac
      go_wp2_with fail
      refine hz.mono ?_
      rintro e w21 hg
      obtain ⟨Aac, nac, cac, rfl, Rac, P21⟩ := hg.ok (by omega)
      clear hz hg
      replace Ra := Ra.on P21
      replace Rb := Rb.on P21
      replace Rz := Rz.on P21
      replace Rab := Rab.on P21
      replace Rbc := Rbc.on P21
      replace Rpq := Rpq.on P21
      replace Rqr := Rqr.on P21
      replace Rx := Rx.on P21
      replace Rpr := Rpr.on P21
      replace Ry := Ry.on P21
      replace Ru := Ru.on P21
      replace PP := PP.trans P21
      clear P21
      have hz := Product_ok w21 Aab nab cab ab Rab Oab (by omega) Aac nac cac ac Rac Oac (by omega)
      have Bv := prod_len ab ac 16 16 Bab Bac
      have Ov := minL_ok (uni_ok Oab Oac)
      have Vv := fun s => prod_cov (z := minL (uni ab ac)) Oab Oac rfl s
      obtain ⟨v, hv⟩ : ∃ t, minL (uni ab ac) = t := ⟨_, rfl⟩
      rw [hv] at hz Bv Ov
      simp only [hv] at Vv
      have Hv := Lib.hid hv
      have HVv := Lib.hid Vv
      clear hv Vv
      go_wp2_with fail
      refine hz.mono ?_
      rintro e w22 hg
      obtain ⟨Av, nv, cv, rfl, Rv, P22⟩ := hg.ok (by omega)
      clear hz hg
      replace Ra := Ra.on P22
      replace Rb := Rb.on P22
      replace Rz := Rz.on P22
      replace Rab := Rab.on P22
      replace Rbc := Rbc.on P22
      replace Rpq := Rpq.on P22
      replace Rqr := Rqr.on P22
      replace Rx := Rx.on P22
      replace Rpr := Rpr.on P22
      replace Ry := Ry.on P22
      replace Ru := Ru.on P22
      replace Rac := Rac.on P22
      replace PP := PP.trans P22
      clear P22
      have heq : x = y := (by rw [← Hx.out, ← Hy.out]; exact mix_eq Oa Obc Opq Opr fun s => by rw [HVbc.out, HVpq.out, HVpr.out, Bool.and_or_distrib_left])
      have hI := ints_any w22 Ax nx cx _ Ay ny cy _ Rx Ry
      rw [decide_eq_true (congrArg ints heq)] at hI
      clear heq
      go_wp2_with fail
      refine hI.mono ?_
      rintro e w23 ⟨rfl, P23⟩
      clear hI
      replace Ra := Ra.on P23
      replace Rb := Rb.on P23
      replace Rz := Rz.on P23
      replace Rab := Rab.on P23
      replace Rbc := Rbc.on P23
      replace Rpq := Rpq.on P23
      replace Rqr := Rqr.on P23
      replace Rx := Rx.on P23
      replace Rpr := Rpr.on P23
      replace Ry := Ry.on P23
      replace Ru := Ru.on P23
      replace Rac := Rac.on P23
      replace Rv := Rv.on P23
      replace PP := PP.trans P23
      clear P23
      have heq : u = v := (by rw [← Hu.out, ← Hv.out]; exact (mix_eq Oab Oac Oa Oqr fun s => by rw [HVab.out, HVac.out, HVqr.out, Bool.or_and_distrib_left]).symm)
      have hI := ints_any w23 Au nu cu _ Av nv cv _ Ru Rv
      rw [decide_eq_true (congrArg ints heq)] at hI
      clear heq
      go_wp2_with fail
      refine hI.mono ?_
      rintro e w24 ⟨rfl, P24⟩
      clear hI
      replace Ra := Ra.on P24
      replace Rb := Rb.on P24
      replace Rz := Rz.on P24
      replace Rab := Rab.on P24
      replace Rbc := Rbc.on P24
      replace Rpq := Rpq.on P24
      replace Rqr := Rqr.on P24
      replace Rx := Rx.on P24
      replace Rpr := Rpr.on P24
      replace Ry := Ry.on P24
      replace Ru := Ru.on P24
      replace Rac := Rac.on P24
      replace Rv := Rv.on P24
      replace PP := PP.trans P24
      clear P24
      clear Ra Rb Rz Rab Rbc Rpq Rqr Rx Rpr Ry Ru Rac Rv
      go_wp2
      go_ret
      exact ⟨rfl, PP⟩
    · go_enter Try.func6, Try.ntmps6
      go_wp2_with fail
      refine hV.mono ?_
      rintro e w1 ⟨rfl, rfl⟩
      generalize w.alloc (.cells #[.slice A n c, .slice B m d, .slice C p q] 22) = w1 at *
      clear hV hok hna hnb hnc
      by_cases g1 : 8 < n
      · go_wp2_with fail
        refine (hA _).mono ?_
        rintro e w2 ⟨rfl, P2⟩
        go_wp2
        go_ret
        exact ⟨rfl, PP.trans P2⟩
      · by_cases g2 : 8 < m
        · go_wp2_with fail
          refine (hA _).mono ?_
          rintro e w2 ⟨rfl, P2⟩
          go_wp2
          go_ret
          exact ⟨rfl, PP.trans P2⟩
        · have g3 : 8 < p := by omega
          go_wp2_with fail
          refine (hA _).mono ?_
          rintro e w2 ⟨rfl, P2⟩
          go_wp2
          go_ret
          exact ⟨rfl, PP.trans P2⟩
  · have hok2 : (okS l && (okS k && okS r)) = false := by simpa using hok
    rw [hok2] at hV
    clear hok hok2 hna hnb hnc
    go_enter Try.func6, Try.ntmps6
    go_wp2_with fail
    refine hV.mono ?_
    rintro e w1 ⟨rfl, rfl⟩
    generalize w.alloc (.cells #[.slice A n c, .slice B m d, .slice C p q] 22) = w1 at *
    clear hV
    go_wp2_with fail
    refine (hA _).mono ?_
    rintro e w2 ⟨rfl, P2⟩
    go_wp2
    go_ret
    exact ⟨rfl, PP.trans P2⟩
end Go.Proofs.Ytibkpglgeincdaa.Sb
