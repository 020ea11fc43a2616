/-
  Plain mathematics for package span: how times stand to each other, and the least of them. It speaks of no program. No condition but those that each theorem states.
-/
import Derived.Test.YthdadpafankbfaaDoorBackC
import Derived.Test.YthdadpafankbfaaDoorMinC
namespace Go.Proofs.YthdadpafankbfaaDoor
open Go.RowKit

theorem sgn_anti (x y : Int) : sgn x y = - sgn y x := by
  unfold sgn
  (repeat' split) <;> omega
theorem sgn_in (x y : Int) : -1 ≤ sgn x y ∧ sgn x y ≤ 1 := by
  unfold sgn
  (repeat' split) <;> omega
theorem cmp_anti (an ad bn bd : Int) : cmpS an ad bn bd = - cmpS bn bd an ad := by
  unfold cmpS
  by_cases h : rightB an ad = true ∧ rightB bn bd = true
  · rw [if_pos h, if_pos (show rightB bn bd = true ∧ rightB an ad = true from ⟨h.2, h.1⟩)]
    exact sgn_anti _ _
  · rw [if_neg h, if_neg (show ¬ (rightB bn bd = true ∧ rightB an ad = true) from fun k => h ⟨k.2, k.1⟩)]
    rfl
theorem cmp_in (an ad bn bd : Int) : -1 ≤ cmpS an ad bn bd ∧ cmpS an ad bn bd ≤ 1 := by
  unfold cmpS
  split
  · exact sgn_in _ _
  · omega
theorem cmp_self (an ad : Int) : cmpS an ad an ad = 0 := by
  unfold cmpS
  split
  · exact sgn_eq rfl
  · rfl
theorem cmp_q {an ad bn bd : Int} (pa : plainR an ad) (pb : plainR bn bd) :
    cmpS an ad bn bd = if M.qOf an.toNat ad.toNat < M.qOf bn.toNat bd.toNat then -1 else if M.qOf bn.toNat bd.toNat < M.qOf an.toNat ad.toNat then 1 else 0 := by
  rw [cmp_plain pa pb]
  have h1 := q_le pa pb
  have h2 := q_le pb pa
  rcases Int.lt_trichotomy (an * bd) (bn * ad) with k | k | k
  · rw [sgn_lt k, if_pos]
    rw [← Rat.not_le, h1]
    omega
  · rw [sgn_eq k, if_neg, if_neg]
    · rw [Rat.not_lt, h2]; omega
    · rw [Rat.not_lt, h1]; omega
  · rw [sgn_gt k, if_neg, if_pos]
    · rw [← Rat.not_le, h2]; omega
    · rw [Rat.not_lt, h1]; omega
theorem q_inj {an ad bn bd : Int} (pa : plainR an ad) (pb : plainR bn bd) (h : M.qOf an.toNat ad.toNat = M.qOf bn.toNat bd.toNat) : an = bn ∧ ad = bd := by
  obtain ⟨e1, e2, e3, e4⟩ := plain_nat pa
  obtain ⟨f1, f2, f3, f4⟩ := plain_nat pb
  obtain ⟨g1, g2⟩ := M.num_den1 an.toNat ad.toNat (Nat.ne_of_gt e4) e3
  obtain ⟨g3, g4⟩ := M.num_den1 bn.toNat bd.toNat (Nat.ne_of_gt f4) f3
  rw [h] at g1 g2
  have h1 : (an.toNat : Int) = bn.toNat := g1.symm.trans g3
  have h2 : ad.toNat = bd.toNat := g2.symm.trans g4
  omega
theorem cmp_np {bn bd : Int} (pb : plainR bn bd) : cmpS 1 0 bn bd = 1 := by
  unfold cmpS
  rw [if_pos ⟨right_never, right_plain pb⟩]
  exact sgn_gt (by have := pb.1; omega)
theorem cmp_pn {an ad : Int} (pa : plainR an ad) : cmpS an ad 1 0 = -1 := by rw [cmp_anti, cmp_np pa]

theorem cmp_zero {an ad bn bd : Int} (ra : rightB an ad = true) (rb : rightB bn bd = true) (h : cmpS an ad bn bd = 0) : an = bn ∧ ad = bd := by
  rcases right_cases ra with ⟨rfl, rfl⟩ | pa
  · rcases right_cases rb with ⟨rfl, rfl⟩ | pb
    · exact ⟨rfl, rfl⟩
    · rw [cmp_np pb] at h; omega
  · rcases right_cases rb with ⟨rfl, rfl⟩ | pb
    · rw [cmp_pn pa] at h; omega
    · refine q_inj pa pb ?_
      rw [cmp_q pa pb] at h
      by_cases k1 : M.qOf an.toNat ad.toNat < M.qOf bn.toNat bd.toNat
      · rw [if_pos k1] at h; omega
      · rw [if_neg k1] at h
        by_cases k2 : M.qOf bn.toNat bd.toNat < M.qOf an.toNat ad.toNat
        · rw [if_pos k2] at h; omega
        · exact Rat.le_antisymm (Rat.not_lt.1 k2) (Rat.not_lt.1 k1)

theorem cmp_le {an ad bn bd : Int} (pa : plainR an ad) (pb : plainR bn bd) : cmpS an ad bn bd ≤ 0 ↔ M.qOf an.toNat ad.toNat ≤ M.qOf bn.toNat bd.toNat := by
  rw [cmp_q pa pb]
  by_cases k1 : M.qOf bn.toNat bd.toNat < M.qOf an.toNat ad.toNat
  · have k2 : ¬ M.qOf an.toNat ad.toNat < M.qOf bn.toNat bd.toNat := by
      rw [Rat.not_lt]
      exact (Rat.lt_iff_le_and_not_ge.1 k1).1
    rw [if_neg k2, if_pos k1]
    have := Rat.not_le.2 k1
    constructor
    · intro h; omega
    · intro h; exact absurd h this
  · have h := Rat.not_lt.1 k1
    rw [if_neg k1]
    constructor
    · intro _; exact h
    · intro _; split <;> omega

theorem cmp_trans {an ad bn bd cn cd : Int} (ra : rightB an ad = true) (rb : rightB bn bd = true) (rc : rightB cn cd = true) (h1 : cmpS an ad bn bd ≤ 0) (h2 : cmpS bn bd cn cd ≤ 0) : cmpS an ad cn cd ≤ 0 := by
  rcases right_cases rc with ⟨rfl, rfl⟩ | pc
  · rcases right_cases ra with ⟨rfl, rfl⟩ | pa
    · rw [cmp_self]; omega
    · rw [cmp_pn pa]; omega
  · rcases right_cases rb with ⟨rfl, rfl⟩ | pb
    · rw [cmp_np pc] at h2; omega
    · rcases right_cases ra with ⟨rfl, rfl⟩ | pa
      · rw [cmp_np pb] at h1; omega
      · rw [cmp_le pa pc]
        exact Rat.le_trans ((cmp_le pa pb).1 h1) ((cmp_le pb pc).1 h2)

theorem cmp_sums {an ad bn bd cn cd sn sd tn td : Int} (hs : addS an ad cn cd = (sn, sd, 0)) (ht : addS bn bd cn cd = (tn, td, 0)) (hc : ¬ (cn = 1 ∧ cd = 0)) : cmpS sn sd tn td = cmpS an ad bn bd := by
  rcases add_ok hs with ⟨rfl, rfl, h⟩ | ⟨ps, pa, pc, es⟩
  · rcases h with ⟨rfl, rfl⟩ | h
    · rcases add_ok ht with ⟨rfl, rfl, h'⟩ | ⟨pt, pb, _, _⟩
      · rcases h' with ⟨rfl, rfl⟩ | h'
        · rfl
        · exact absurd h' hc
      · rw [cmp_np pt, cmp_np pb]
    · exact absurd h hc
  · rcases add_ok ht with ⟨rfl, rfl, h'⟩ | ⟨pt, pb, _, et⟩
    · rcases h' with ⟨rfl, rfl⟩ | h'
      · rw [cmp_pn ps, cmp_pn pa]
      · exact absurd h' hc
    · rw [cmp_q ps pt, cmp_q pa pb, es, et]
      simp only [Rat.add_lt_add_right]


theorem cmp_right {an ad bn bd : Int} (h : ¬ cmpS an ad bn bd = 0) : rightB an ad = true ∧ rightB bn bd = true := by
  unfold cmpS at h
  by_cases k : rightB an ad = true ∧ rightB bn bd = true
  · exact k
  · rw [if_neg k] at h; exact absurd rfl h

theorem min_right (f : Nat → Int × Int) : ∀ k, rightB (minTo f k).1 (minTo f k).2 = true
  | 0 => right_never
  | k + 1 => by
    by_cases hc : cmpS (f k).1 (f k).2 (minTo f k).1 (minTo f k).2 < 0
    · rw [minTo_yes f k hc]; exact (cmp_right (Int.ne_of_lt hc)).1
    · rw [minTo_no f k hc]; exact min_right f k
theorem min_one (f : Nat → Int × Int) : ∀ k, minTo f k = (1, 0) ∨ ∃ j, j < k ∧ f j = minTo f k
  | 0 => .inl rfl
  | k + 1 => by
    by_cases hc : cmpS (f k).1 (f k).2 (minTo f k).1 (minTo f k).2 < 0
    · rw [minTo_yes f k hc]; exact .inr ⟨k, by omega, rfl⟩
    · rw [minTo_no f k hc]
      rcases min_one f k with h | ⟨j, h1, h2⟩
      · exact .inl h
      · exact .inr ⟨j, by omega, h2⟩
theorem min_le (f : Nat → Int × Int) : ∀ k j, j < k → rightB (f j).1 (f j).2 = true → cmpS (minTo f k).1 (minTo f k).2 (f j).1 (f j).2 ≤ 0
  | 0, _, h, _ => by omega
  | k + 1, j, h, hr => by
    by_cases hc : cmpS (f k).1 (f k).2 (minTo f k).1 (minTo f k).2 < 0
    · rw [minTo_yes f k hc]
      by_cases hj : j = k
      · subst hj; rw [cmp_self]; omega
      · exact cmp_trans (cmp_right (Int.ne_of_lt hc)).1 (min_right f k) hr (Int.le_of_lt hc) (min_le f k j (by omega) hr)
    · rw [minTo_no f k hc]
      by_cases hj : j = k
      · subst hj
        rw [cmp_anti]
        omega
      · exact min_le f k j (by omega) hr
end Go.Proofs.YthdadpafankbfaaDoor
