/-
  The contracts of the given package gavotteref01's Right and Cmp over this seat's translation, whole. Conditions: the numbers are ints.
-/
import Derived.Test.YthdadpafankbfaaDoorRefNb
import Derived.Test.YthdadpafankbfaaDoorRefQ
import Derived.Test.YthdadpafankbfaaDoorRefR
import Derived.Test.YthdadpafankbfaaDoorSpanR
namespace Go.Proofs.YthdadpafankbfaaDoor
open Go.RowKit

theorem rright_c (n d : Int) (hn : In64 n) (hd : In64 d) (w : World) :
    Calls Tryd.prog 24 #[.agg #[.int .i64 n, .int .i64 d]] w fun e w' => e = .returned (.bool (rightB n d)) ∧ Below w.heap.size w w' := by
  by_cases h : isNever n d
  · obtain ⟨rfl, rfl⟩ := h
    rw [right_never]
    exact rright_never w
  · by_cases h2 : 0 < d ∧ 0 ≤ n
    · exact rright_yes n d hn hd h h2.1 h2.2 w
    · exact rright_no n d hn hd h (by omega) w

theorem ne_two {a b c d : Int} (h : ¬ (a = b ∧ c = d)) : (a == b) = false ∨ (a = b ∧ (c == d) = false) := by
  by_cases e : a = b
  · right
    refine ⟨e, ?_⟩
    simp
    omega
  · left
    simpa using e

theorem lt_p {x y : Int} (x1 : x ≤ 9223372036854775807) (y0 : 0 ≤ y) (y1 : y ≤ 9223372036854775807) : x * y < 10000 ^ 100 := by
  have h : x * y ≤ 9223372036854775807 * 9223372036854775807 := Int.mul_le_mul x1 y1 y0 (by omega)
  have h1 := pow_mono 10 100 (by omega)
  have h2 : (10000 : Int) ^ 10 = 10000000000000000000000000000000000000000 := by decide
  generalize (10000 : Int) ^ 100 = M at *
  omega

theorem rcmp_c (an ad bn bd : Int) (ha : In64 an ∧ In64 ad) (hb : In64 bn ∧ In64 bd) (w : World) :
    Calls Tryd.prog 25 #[.agg #[.int .i64 an, .int .i64 ad], .agg #[.int .i64 bn, .int .i64 bd]] w fun e w' => e = .returned (.int .i64 (cmpS an ad bn bd)) ∧ Below w.heap.size w w' := by
  have kra := rright_c an ad ha.1 ha.2
  have krb := rright_c bn bd hb.1 hb.2
  by_cases ra : rightB an ad = true
  · by_cases rb : rightB bn bd = true
    · have hc : cmpS an ad bn bd = sgn (an * bd) (bn * ad) := by unfold cmpS; rw [if_pos ⟨ra, rb⟩]
      have da := right_bd ra
      have db := right_bd rb
      rw [ra] at kra
      rw [rb] at krb
      rw [hc]
      by_cases he : an = bn ∧ ad = bd
      · obtain ⟨rfl, rfl⟩ := he
        rw [sgn_eq rfl]
        exact rcmp_same an ad kra krb w
      · by_cases na : isNever an ad
        · obtain ⟨rfl, rfl⟩ := na
          have nb : ¬ isNever bn bd := fun h => he ⟨h.1.symm, h.2.symm⟩
          have pb := plain_of rb nb
          rw [sgn_gt (by have := pb.1; omega)]
          rcases ne_two he with h | ⟨rfl, h⟩
          · exact rcmp_na1 1 0 bn bd h kra krb rnever_yes w
          · exact rcmp_na2 1 0 bd h kra krb rnever_yes w
        · have pa := plain_of ra na
          have kna := rnever_no an ad na
          by_cases nb : isNever bn bd
          · obtain ⟨rfl, rfl⟩ := nb
            rw [sgn_lt (by have := pa.1; omega)]
            rcases ne_two he with h | ⟨rfl, h⟩
            · exact rcmp_nb1 an ad 1 0 h kra krb kna rnever_yes w
            · exact rcmp_nb2 1 ad 0 h kra krb kna rnever_yes w
          · have knb := rnever_no bn bd nb
            have gp := lt_p ha.1.2 db.2 hb.2.2
            rcases ne_two he with h | ⟨rfl, h⟩
            · exact rcmp_pp1 an ad bn bd h da.1 ha.1.2 da.2 ha.2.2 db.1 hb.1.2 db.2 hb.2.2 gp kra krb kna knb w
            · exact rcmp_pp2 an ad bd h da.1 ha.1.2 da.2 ha.2.2 db.2 hb.2.2 gp kra krb kna knb w
    · have hc : cmpS an ad bn bd = 0 := by unfold cmpS; rw [if_neg (fun h => rb h.2)]
      rw [ra] at kra
      rw [Bool.eq_false_iff.2 rb] at krb
      rw [hc]
      exact rcmp_notb an ad bn bd kra krb w
  · have hc : cmpS an ad bn bd = 0 := by unfold cmpS; rw [if_neg (fun h => ra h.1)]
    rw [Bool.eq_false_iff.2 ra] at kra
    rw [hc]
    exact rcmp_nota an ad bn bd kra w
end Go.Proofs.YthdadpafankbfaaDoor
