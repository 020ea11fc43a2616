/-
  The contracts of the given package gavotteref01's made and Make over this seat's translation. Conditions: those that each theorem states.
-/
import Derived.Test.YthdadpafankbfaaDoorRefK
import Derived.Test.YthdadpafankbfaaDoorSpanF
namespace Go.Proofs.YthdadpafankbfaaDoor
open Go.RowKit
attribute [local go_sem ↓] Go.wp_at_zero Go.wp_at_succ

/-- A time of noughts that the call made, at block g. -/
structure ZT (g : Nat) (w : World) : Prop where
  c0 : w.cell? ⟨g, 0, none⟩ = some (.int .i64 0)
  c1 : w.cell? ⟨g, 1, none⟩ = some (.int .i64 0)
  f0 : w.frozen? ⟨g, 0, none⟩ = false
  f1 : w.frozen? ⟨g, 1, none⟩ = false
theorem ZT.keep {g : Nat} {w w' : World} (h : ZT g w) (hb : Below w.heap.size w w') : ZT g w' :=
  ⟨keepc hb h.c0, keepc hb h.c1, keepf hb h.c0 h.f0, keepf hb h.c1 h.f1⟩

def madeS (A B : Int) : Int × Int × Int := fitT 0 (A / (Int.gcd A B : Int)) 0 (B / (Int.gcd A B : Int))

theorem sgn_pos {x y : Int} (h : y < x) : 0 < sgn x y := by rw [sgn_gt h]; omega
theorem sgn_npos {x y : Int} (h : ¬ y < x) : ¬ 0 < sgn x y := by unfold sgn; (repeat' split) <;> omega

set_option maxHeartbeats 4000000 in
theorem made_w (va vb : Value) (A B g a b : Int) (w : World) (na : NumIs w va A) (nb : NumIs w vb B) (hA : A < 10000 ^ 20) (hB : 0 < B) (hB2 : B < 10000 ^ 20) (hg : (Int.gcd A B : Int) = g) (ha : A / g = a) (hb : B / g = b) :
    Calls Tryd.prog 39 #[va, vb] w fun e w' => e = .returned (timeV (fitT 0 a 0 b)) ∧ Below w.heap.size w w' := by
  have hA0 := na.nonneg
  have hg0 : 0 < g := by
    have : 0 < Int.gcd A B := Int.gcd_pos_of_ne_zero_right _ (by omega)
    omega
  have hgB : g ≤ B := by
    rw [← hg]
    exact Int.le_of_dvd hB (Int.gcd_dvd_right ..)
  have ha2 : a ≤ A := by rw [← ha]; exact Int.ediv_le_self _ hA0
  have hb2 : b ≤ B := by rw [← hb]; exact Int.ediv_le_self _ (by omega)
  have ha0 : 0 ≤ a := by rw [← ha]; exact Int.ediv_nonneg hA0 (by omega)
  have hb0 : 0 ≤ b := by rw [← hb]; exact Int.ediv_nonneg (by omega) (by omega)
  have hg2 : g < 10000 ^ 20 := Int.lt_of_le_of_lt hgB hB2
  have ha3 := lt_b (Int.lt_of_le_of_lt ha2 hA)
  have hb3 := lt_b (Int.lt_of_le_of_lt hb2 hB2)
  have NA := Lib.hid na
  have NB := Lib.hid nb
  have HA := Lib.hid hA
  have HB2 := Lib.hid hB2
  have HG := Lib.hid hg
  have Ha := Lib.hid ha
  have Hb := Lib.hid hb
  have HG2 := Lib.hid hg2
  have HA3 := Lib.hid ha3
  have HB3 := Lib.hid hb3
  clear na nb hA hB2 hg ha hb hg2 ha3 hb3 hA0 hgB
  go_enter Tryd.func39, Tryd.ntmps39
  go_wp2_with fail
  refine (ngcd_c va vb A B _ (NA.out.keep (belowA (Below.refl _ _) _)) (NB.out.keep (belowA (Below.refl _ _) _)) HA.out HB2.out).mono ?_
  rintro e w1 ⟨⟨vg, rfl, n1⟩, hb1⟩
  rw [HG.out] at n1
  have N1 := Lib.hid n1
  have Z1 : ZT w.heap.size w1 := ZT.keep ⟨by go_simp, by go_simp, by go_simp, by go_simp⟩ hb1
  have W1 := belowT (belowA (Below.refl _ w) _) hb1
  clear n1 hb1
  go_wp2_with fail
  refine (ndiv_c va vg A g w1 (NA.out.keep W1) N1.out HA.out hg0 HG2.out).mono ?_
  rintro e w2 ⟨⟨qa, ra, rfl, q1, _⟩, hb1⟩
  rw [Ha.out] at q1
  have QA := Lib.hid q1
  have N2 := Lib.hid (N1.out.keep hb1)
  have Z2 := Z1.keep hb1
  have W2 := belowT W1 hb1
  clear q1 hb1 N1 Z1 W1
  go_wp2_with fail
  refine (ndiv_c vb vg B g w2 (NB.out.keep W2) N2.out HB2.out hg0 HG2.out).mono ?_
  rintro e w3 ⟨⟨qb, rb, rfl, q1, _⟩, hb1⟩
  rw [Hb.out] at q1
  have QB := Lib.hid q1
  have QA3 := Lib.hid (QA.out.keep hb1)
  have Z3 := Z2.keep hb1
  have W3 := belowT W2 hb1
  clear q1 hb1 N2 QA Z2 W2
  go_wp2_with fail
  refine (most_c w3).mono ?_
  rintro e w4 ⟨⟨vm, rfl, q1⟩, hb1⟩
  have M4 := Lib.hid q1
  have QA4 := Lib.hid (QA3.out.keep hb1)
  have QB4 := Lib.hid (QB.out.keep hb1)
  have Z4 := Z3.keep hb1
  have W4 := belowT W3 hb1
  clear q1 hb1 QA3 QB Z3 W3
  go_wp2_with fail
  refine (numcmp_c qa vm a _ w4 QA4.out M4.out HA3.out).mono ?_
  rintro e w5 ⟨rfl, hb1⟩
  have QA5 := Lib.hid (QA4.out.keep hb1)
  have QB5 := Lib.hid (QB4.out.keep hb1)
  have Z5 := Z4.keep hb1
  have W5 := belowT W4 hb1
  clear hb1 QA4 QB4 M4 Z4 W4
  by_cases h1 : 9223372036854775807 < a
  · have hs := sgn_pos h1
    have E := Lib.hid (show fitT 0 a 0 b = (0, 0, 2) from by unfold fitT; rw [if_pos (by omega)])
    generalize sgn a 9223372036854775807 = sg at *
    obtain ⟨c0, c1, f0, f1⟩ := Z5
    go_wp2
    exact bodyPost_ret (v := .tuple #[.agg #[.int .i64 0, .int .i64 0], .int .i64 2]) (by simp [results, Tryd.results39, go_sem, c0, c1]) rfl ⟨by rw [E.out]; rfl, (by repeat (first | assumption | refine belowS ?_ (Nat.le_refl _) _))⟩
  · have hs := sgn_npos h1
    generalize sgn a 9223372036854775807 = sg at *
    go_wp2_with fail
    refine (most_c w5).mono ?_
    rintro e w6 ⟨⟨vm2, rfl, q1⟩, hb1⟩
    have M6 := Lib.hid q1
    have QA6 := Lib.hid (QA5.out.keep hb1)
    have QB6 := Lib.hid (QB5.out.keep hb1)
    have Z6 := Z5.keep hb1
    have W6 := belowT W5 hb1
    clear q1 hb1 QA5 QB5 Z5 W5
    go_wp2_with fail
    refine (numcmp_c qb vm2 b _ w6 QB6.out M6.out HB3.out).mono ?_
    rintro e w7 ⟨rfl, hb1⟩
    have QA7 := Lib.hid (QA6.out.keep hb1)
    have QB7 := Lib.hid (QB6.out.keep hb1)
    have Z7 := Z6.keep hb1
    have W7 := belowT W6 hb1
    clear hb1 QA6 QB6 M6 Z6 W6
    by_cases h2 : 9223372036854775807 < b
    · have hs2 := sgn_pos h2
      have E := Lib.hid (show fitT 0 a 0 b = (0, 0, 2) from by unfold fitT; rw [if_pos (by omega)])
      generalize sgn b 9223372036854775807 = sg2 at *
      obtain ⟨c0, c1, f0, f1⟩ := Z7
      go_wp2
      exact bodyPost_ret (v := .tuple #[.agg #[.int .i64 0, .int .i64 0], .int .i64 2]) (by simp [results, Tryd.results39, go_sem, c0, c1]) rfl ⟨by rw [E.out]; rfl, (by repeat (first | assumption | refine belowS ?_ (Nat.le_refl _) _))⟩
    · have hs2 := sgn_npos h2
      have E := Lib.hid (show fitT 0 a 0 b = (a, b, 0) from by unfold fitT; rw [if_neg (by omega)])
      generalize sgn b 9223372036854775807 = sg2 at *
      obtain ⟨c0, c1, f0, f1⟩ := Z7
      go_wp2_with fail
      refine (nint_c qa a w7 QA7.out (by omega)).mono ?_
      rintro e w8 ⟨rfl, rfl⟩
      go_wp2_with fail
      refine (nint_c qb b w7 QB7.out (by omega)).mono ?_
      rintro e w8 ⟨rfl, rfl⟩
      go_wp2
      exact bodyPost_ret (v := .tuple #[.agg #[.int .i64 a, .int .i64 b], .int .i64 0]) (by simp [results, Tryd.results39, go_sem, c0, c1]) rfl ⟨by rw [E.out]; rfl, (by repeat (first | assumption | refine belowS ?_ (Nat.le_refl _) _))⟩

theorem made_c (va vb : Value) (A B : Int) (w : World) (na : NumIs w va A) (nb : NumIs w vb B) (hA : A < 10000 ^ 20) (hB : 0 < B) (hB2 : B < 10000 ^ 20) :
    Calls Tryd.prog 39 #[va, vb] w fun e w' => e = .returned (timeV (madeS A B)) ∧ Below w.heap.size w w' :=
  made_w va vb A B _ _ _ w na nb hA hB hB2 rfl rfl rfl
end Go.Proofs.YthdadpafankbfaaDoor
