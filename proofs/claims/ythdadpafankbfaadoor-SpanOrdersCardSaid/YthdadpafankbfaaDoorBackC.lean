/-
  The contract of the law SpanBack over this seat's translation: whatever two times it is handed, it answers true. Conditions: the numbers are ints.
-/
import Derived.Test.YthdadpafankbfaaDoorBackW
import Derived.Test.YthdadpafankbfaaDoorSpanMath2
namespace Go.Proofs.YthdadpafankbfaaDoor
open Go.RowKit

theorem ofRat_self {n d : Int} (h : plainR n d) (hi : In64 n ∧ In64 d) : ofRat (M.qOf n.toNat d.toNat) = (n, d, 0) := by
  obtain ⟨e1, e2, e3, e4⟩ := plain_nat h
  obtain ⟨f1, f2⟩ := M.num_den1 n.toNat d.toNat (Nat.ne_of_gt e4) e3
  obtain ⟨⟨_, h1⟩, _, h2⟩ := hi
  unfold ofRat
  rw [f1, f2, e1, e2, if_neg (by omega)]

theorem q_le {an ad bn bd : Int} (pa : plainR an ad) (pb : plainR bn bd) : M.qOf bn.toNat bd.toNat ≤ M.qOf an.toNat ad.toNat ↔ bn * ad ≤ an * bd := by
  obtain ⟨e1, e2, e3, e4⟩ := plain_nat pa
  obtain ⟨f1, f2, f3, f4⟩ := plain_nat pb
  obtain ⟨g1, g2⟩ := M.num_den1 an.toNat ad.toNat (Nat.ne_of_gt e4) e3
  obtain ⟨g3, g4⟩ := M.num_den1 bn.toNat bd.toNat (Nat.ne_of_gt f4) f3
  rw [Rat.le_iff, g1, g2, g3, g4, e1, e2, f1, f2]

theorem le_add_left (p q : Rat) (hp : 0 ≤ p) : q ≤ p + q := by
  have := Rat.add_le_add_right (a := 0) (b := p) (c := q)
  rw [Rat.zero_add] at this
  exact this.2 hp

theorem cmp_plain {an ad bn bd : Int} (pa : plainR an ad) (pb : plainR bn bd) : cmpS an ad bn bd = sgn (an * bd) (bn * ad) := by
  unfold cmpS; rw [if_pos ⟨right_plain pa, right_plain pb⟩]

/-- What was added can be taken away. -/
theorem sub_add {an ad bn bd xn xd : Int} (ha : In64 an ∧ In64 ad) (hx : addS an ad bn bd = (xn, xd, 0)) (hb : ¬ isNever bn bd) : subS xn xd bn bd = (an, ad, 0) := by
  obtain ⟨ra, rb⟩ := add_ok_right hx
  have pb := plain_of rb hb
  rcases add_ok hx with ⟨rfl, rfl, h⟩ | ⟨px, pa, _, ex⟩
  · rcases h with ⟨rfl, rfl⟩ | ⟨rfl, rfl⟩
    · have hc : ¬ cmpS 1 0 bn bd < 0 := by
        unfold cmpS
        rw [if_pos ⟨right_never, rb⟩]
        obtain ⟨h1, _⟩ := pb
        rw [sgn_gt (by omega)]
        omega
      unfold subS
      rw [if_pos ⟨right_never, rb⟩, if_neg (by rintro (k | k); exact hb k; exact hc k), if_pos ⟨rfl, rfl⟩]
    · exact absurd ⟨rfl, rfl⟩ hb
  · have hc : ¬ cmpS xn xd bn bd < 0 := by
      have hle : bn * xd ≤ xn * bd := by
        rw [← q_le px pb, ex]
        exact le_add_left _ _ (q_nonneg _ _)
      rw [cmp_plain px pb]
      rcases Int.lt_trichotomy (xn * bd) (bn * xd) with k | k | k
      · omega
      · rw [sgn_eq k]; omega
      · rw [sgn_gt k]; omega
    unfold subS
    rw [if_pos ⟨right_plain px, rb⟩, if_neg (by rintro (k | k); exact hb k; exact hc k), if_neg (not_never px), ex, Rat.add_sub_cancel]
    exact ofRat_self pa ha

theorem add_err {an ad bn bd xn xd xe : Int} (hx : addS an ad bn bd = (xn, xd, xe)) (he : ¬ xe = 0) : xn = 0 ∧ xd = 0 ∧ (xe = 1 ∨ xe = 2) := by
  unfold addS at hx
  split at hx
  · split at hx
    · simp only [Prod.mk.injEq] at hx
      exact absurd hx.2.2.symm he
    · have := ofRat_large hx he
      simp only [Prod.mk.injEq] at this
      exact ⟨this.1, this.2.1, .inr this.2.2⟩
  · simp only [Prod.mk.injEq] at hx
    exact ⟨hx.1.symm, hx.2.1.symm, .inl hx.2.2.symm⟩

theorem add_right {an ad bn bd xn xd : Int} (hx : addS an ad bn bd = (xn, xd, 0)) : rightB xn xd = true := by
  rcases add_ok hx with ⟨rfl, rfl, _⟩ | ⟨px, _⟩
  · exact right_never
  · exact right_plain px

theorem back_c (an ad bn bd : Int) (ha : In64 an ∧ In64 ad) (hb : In64 bn ∧ In64 bd) (w : World) :
    Calls Tryd.prog 4 #[.agg #[.int .i64 an, .int .i64 ad], .agg #[.int .i64 bn, .int .i64 bd]] w fun e w' => e = .returned (.bool true) ∧ Below w.heap.size w w' := by
  have k1 := add_c an ad bn bd ha hb
  have k2 := add_c bn bd an ad hb ha
  rw [add_comm bn bd an ad] at k2
  have i1 := add_in an ad bn bd
  obtain ⟨xn, xd, xe, hx⟩ : ∃ xn xd xe, addS an ad bn bd = (xn, xd, xe) := ⟨_, _, _, rfl⟩
  rw [hx] at k1 k2 i1
  by_cases h1 : xe = 0
  · subst h1
    have hr := add_right hx
    have k3 := sub_c xn xd bn bd i1 hb
    by_cases hn : isNever bn bd
    · have e : subS xn xd bn bd = (0, 0, 4) := by
        unfold subS
        rw [if_pos ⟨hr, (add_ok_right hx).2⟩, if_pos (.inl hn)]
      rw [e] at k3
      obtain ⟨rfl, rfl⟩ := hn
      exact back_ok0 an ad xn xd 0 0 i1 hr k1 k2 k3 w
    · rw [sub_add ha hx hn] at k3
      rcases never_or hn with h2 | ⟨rfl, h2⟩
      · exact back_ok1 an ad bn bd xn xd i1 hr k1 k2 k3 h2 w
      · exact back_ok2 an ad bd xn xd i1 hr k1 k2 k3 h2 w
  · obtain ⟨rfl, rfl, h2⟩ := add_err hx h1
    exact back_err an ad bn bd xe h2 k1 k2 w
end Go.Proofs.YthdadpafankbfaaDoor
