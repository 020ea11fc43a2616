/-
  The contracts of the given package gavotteref01's Add and Sub over this seat's translation, whole: the sum and the difference of fractions. Conditions: the numbers are ints.
-/
import Derived.Test.YthdadpafankbfaaDoorRefT
import Derived.Test.YthdadpafankbfaaDoorRefU
import Derived.Test.YthdadpafankbfaaDoorRefW
namespace Go.Proofs.YthdadpafankbfaaDoor
open Go.RowKit

theorem madeS_rat (n : Int) (d : Nat) (hd : d ≠ 0) : madeS n d = ofRat (mkRat n d) := by
  have h := M.num_den n d hd
  have e : Int.gcd n (d : Int) = Nat.gcd n.natAbs d := rfl
  unfold madeS ofRat fitT
  rw [h.1, h.2, e]
  have e2 : ((d / Nat.gcd n.natAbs d : Nat) : Int) = (d : Int) / (Nat.gcd n.natAbs d : Int) := by simp
  rw [e2]
  simp

theorem made_add (an ad bn bd : Int) (pa : plainR an ad) (pb : plainR bn bd) : madeS (an * bd + bn * ad) (ad * bd) = ofRat (M.qOf an.toNat ad.toNat + M.qOf bn.toNat bd.toNat) := by
  obtain ⟨e1, e2, _, h1⟩ := plain_nat pa
  obtain ⟨e3, e4, _, h2⟩ := plain_nat pb
  unfold M.qOf
  rw [Rat.mkRat_add_mkRat _ _ (by omega) (by omega), ← madeS_rat _ _ (by have := Nat.mul_pos h1 h2; omega)]
  rw [e1, e2, e3, e4, Int.natCast_mul, e2, e4]
theorem made_sub (an ad bn bd : Int) (pa : plainR an ad) (pb : plainR bn bd) : madeS (an * bd - bn * ad) (ad * bd) = ofRat (M.qOf an.toNat ad.toNat - M.qOf bn.toNat bd.toNat) := by
  obtain ⟨e1, e2, _, h1⟩ := plain_nat pa
  obtain ⟨e3, e4, _, h2⟩ := plain_nat pb
  unfold M.qOf
  rw [Rat.sub_eq_add_neg, Rat.neg_mkRat, Rat.mkRat_add_mkRat _ _ (by omega) (by omega), ← madeS_rat _ _ (by have := Nat.mul_pos h1 h2; omega)]
  rw [e1, e2, e3, e4, Int.natCast_mul, e2, e4, Int.neg_mul, ← Int.sub_eq_add_neg]

theorem lt_q {x : Int} (h : x ≤ 2 * (9223372036854775807 * 9223372036854775807)) : x < 10000 ^ 20 := by
  have h1 := pow_mono 10 20 (by omega)
  have h2 : (10000 : Int) ^ 10 = 10000000000000000000000000000000000000000 := by decide
  generalize (10000 : Int) ^ 20 = M at *
  omega
theorem mul_le {x y : Int} (x1 : x ≤ 9223372036854775807) (y0 : 0 ≤ y) (y1 : y ≤ 9223372036854775807) : x * y ≤ 9223372036854775807 * 9223372036854775807 := Int.mul_le_mul x1 y1 y0 (by omega)

theorem radd_c (an ad bn bd : Int) (ha : In64 an ∧ In64 ad) (hb : In64 bn ∧ In64 bd) (w : World) :
    Calls Tryd.prog 22 #[.agg #[.int .i64 an, .int .i64 ad], .agg #[.int .i64 bn, .int .i64 bd]] w fun e w' => e = .returned (timeV (addS an ad bn bd)) ∧ Below w.heap.size w w' := by
  have kra := rright_c an ad ha.1 ha.2
  have krb := rright_c bn bd hb.1 hb.2
  by_cases ra : rightB an ad = true
  · by_cases rb : rightB bn bd = true
    · have da := right_bd ra
      have db := right_bd rb
      rw [ra] at kra
      rw [rb] at krb
      by_cases na : isNever an ad
      · have e : addS an ad bn bd = (1, 0, 0) := by unfold addS; rw [if_pos ⟨ra, rb⟩, if_pos (.inl na)]
        rw [e]
        obtain ⟨rfl, rfl⟩ := na
        exact radd_na 1 0 bn bd kra krb rnever_yes w
      · by_cases nb : isNever bn bd
        · have e : addS an ad bn bd = (1, 0, 0) := by unfold addS; rw [if_pos ⟨ra, rb⟩, if_pos (.inr nb)]
          rw [e]
          have kna := rnever_no an ad na
          obtain ⟨rfl, rfl⟩ := nb
          exact radd_nb an ad 1 0 kra krb kna rnever_yes w
        · have e : addS an ad bn bd = ofRat (M.qOf an.toNat ad.toNat + M.qOf bn.toNat bd.toNat) := by unfold addS; rw [if_pos ⟨ra, rb⟩, if_neg (by rintro (h | h); exact na h; exact nb h)]
          have pa := plain_of ra na
          have pb := plain_of rb nb
          rw [e, ← made_add an ad bn bd pa pb]
          have m1 := mul_le ha.1.2 db.2 hb.2.2
          have m2 := mul_le hb.1.2 da.2 ha.2.2
          have m3 := mul_le ha.2.2 db.2 hb.2.2
          have m4 : 0 < ad * bd := Int.mul_pos pa.1 pb.1
          exact radd_pp an ad bn bd da.1 ha.1.2 da.2 ha.2.2 db.1 hb.1.2 db.2 hb.2.2 (lt_m (by omega)) (lt_m (by omega)) rfl ⟨lt_q (by omega), m4, lt_q (by omega)⟩ _ _ _ rfl kra krb (rnever_no an ad na) (rnever_no bn bd nb) w
    · have e : addS an ad bn bd = (0, 0, 1) := by unfold addS; rw [if_neg (fun h => rb h.2)]
      rw [ra] at kra
      rw [Bool.eq_false_iff.2 rb] at krb
      rw [e]
      exact radd_notb an ad bn bd kra krb w
  · have e : addS an ad bn bd = (0, 0, 1) := by unfold addS; rw [if_neg (fun h => ra h.1)]
    rw [Bool.eq_false_iff.2 ra] at kra
    rw [e]
    exact radd_nota an ad bn bd kra w

theorem rsub_c (an ad bn bd : Int) (ha : In64 an ∧ In64 ad) (hb : In64 bn ∧ In64 bd) (w : World) :
    Calls Tryd.prog 23 #[.agg #[.int .i64 an, .int .i64 ad], .agg #[.int .i64 bn, .int .i64 bd]] w fun e w' => e = .returned (timeV (subS an ad bn bd)) ∧ Below w.heap.size w w' := by
  have kra := rright_c an ad ha.1 ha.2
  have krb := rright_c bn bd hb.1 hb.2
  have kc := rcmp_c an ad bn bd ha hb
  by_cases ra : rightB an ad = true
  · by_cases rb : rightB bn bd = true
    · have da := right_bd ra
      have db := right_bd rb
      rw [ra] at kra
      rw [rb] at krb
      by_cases nb : isNever bn bd
      · have e : subS an ad bn bd = (0, 0, 4) := by unfold subS; rw [if_pos ⟨ra, rb⟩, if_pos (.inl nb)]
        rw [e]
        obtain ⟨rfl, rfl⟩ := nb
        exact rsub_nb an ad 1 0 kra krb rnever_yes w
      · have knb := rnever_no bn bd nb
        by_cases hc : cmpS an ad bn bd < 0
        · have e : subS an ad bn bd = (0, 0, 4) := by unfold subS; rw [if_pos ⟨ra, rb⟩, if_pos (.inr hc)]
          rw [e]
          exact rsub_lt an ad bn bd _ hc kra krb knb kc w
        · have hno : ¬ (isNever bn bd ∨ cmpS an ad bn bd < 0) := by rintro (h | h); exact nb h; exact hc h
          by_cases na : isNever an ad
          · have e : subS an ad bn bd = (1, 0, 0) := by unfold subS; rw [if_pos ⟨ra, rb⟩, if_neg hno, if_pos na]
            rw [e]
            obtain ⟨rfl, rfl⟩ := na
            exact rsub_na 1 0 bn bd _ hc kra krb knb kc rnever_yes w
          · have e : subS an ad bn bd = ofRat (M.qOf an.toNat ad.toNat - M.qOf bn.toNat bd.toNat) := by unfold subS; rw [if_pos ⟨ra, rb⟩, if_neg hno, if_neg na]
            have pa := plain_of ra na
            have pb := plain_of rb nb
            have hge := cmp_ge an ad bn bd pa pb hc
            rw [e, ← made_sub an ad bn bd pa pb]
            have m1 := mul_le ha.1.2 db.2 hb.2.2
            have m2 : 0 ≤ bn * ad := Int.mul_nonneg db.1 da.2
            have m3 := mul_le ha.2.2 db.2 hb.2.2
            have m4 : 0 < ad * bd := Int.mul_pos pa.1 pb.1
            exact rsub_pp an ad bn bd da.1 ha.1.2 da.2 ha.2.2 db.1 hb.1.2 db.2 hb.2.2 (lt_m (by omega)) hge ⟨lt_q (by omega), m4, lt_q (by omega)⟩ _ _ _ rfl _ hc kra krb knb kc (rnever_no an ad na) w
    · have e : subS an ad bn bd = (0, 0, 1) := by unfold subS; rw [if_neg (fun h => rb h.2)]
      rw [ra] at kra
      rw [Bool.eq_false_iff.2 rb] at krb
      rw [e]
      exact rsub_notb an ad bn bd kra krb w
  · have e : subS an ad bn bd = (0, 0, 1) := by unfold subS; rw [if_neg (fun h => ra h.1)]
    rw [Bool.eq_false_iff.2 ra] at kra
    rw [e]
    exact rsub_nota an ad bn bd kra w
end Go.Proofs.YthdadpafankbfaaDoor
