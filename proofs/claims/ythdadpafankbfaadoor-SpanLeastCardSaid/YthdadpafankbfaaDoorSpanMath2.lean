/-
  Plain mathematics for package span: what sums and differences of times keep. It speaks of no program. No condition but those that each theorem states.
-/
import Derived.Test.YthdadpafankbfaaDoorSpanO
namespace Go.Proofs.YthdadpafankbfaaDoor
open Go.RowKit

theorem q_nonneg (n d : Nat) : 0 ≤ M.qOf n d := by
  unfold M.qOf
  rw [← Rat.num_nonneg, Rat.num_mkRat]
  split
  · omega
  · exact Int.ediv_nonneg (by omega) (by omega)

theorem ofRat_ok {q : Rat} (h0 : 0 ≤ q) {n d : Int} (h : ofRat q = (n, d, 0)) : plainR n d ∧ M.qOf n.toNat d.toNat = q ∧ (In64 n ∧ In64 d) := by
  unfold ofRat at h
  have hn : 0 ≤ q.num := Rat.num_nonneg.2 h0
  have hd := q.den_nz
  by_cases hb : 9223372036854775807 < q.num ∨ 9223372036854775807 < (q.den : Int)
  · rw [if_pos hb] at h
    simp at h
  · rw [if_neg hb] at h
    simp only [Prod.mk.injEq] at h
    obtain ⟨rfl, rfl, _⟩ := h
    have e1 : ((q.num.toNat : Nat) : Int) = q.num := by omega
    refine ⟨⟨by omega, hn, ?_⟩, ?_, ⟨by omega, by omega⟩, by omega, by omega⟩
    · have := q.reduced
      unfold Nat.Coprime at this
      unfold Int.gcd
      simpa using this
    · unfold M.qOf
      rw [e1, Int.toNat_natCast, Rat.mkRat_self]
theorem ofRat_large {q : Rat} {t : Int × Int × Int} (h : ofRat q = t) (he : t.2.2 ≠ 0) : t = (0, 0, 2) := by
  unfold ofRat at h
  split at h
  · exact h.symm
  · subst h; simp at he
theorem ofRat_in (q : Rat) (h0 : 0 ≤ q) : In64 (ofRat q).1 ∧ In64 (ofRat q).2.1 := by
  have hn : 0 ≤ q.num := Rat.num_nonneg.2 h0
  unfold ofRat
  split
  · exact ⟨⟨by decide, by decide⟩, by decide, by decide⟩
  · exact ⟨⟨by show _ ≤ q.num; omega, by show q.num ≤ _; omega⟩, by show _ ≤ (q.den : Int); omega, by show (q.den : Int) ≤ _; omega⟩
theorem right_plain {n d : Int} (h : plainR n d) : rightB n d = true := by unfold rightB; simp [h]
theorem not_never {n d : Int} (h : plainR n d) : ¬ isNever n d := by
  intro k
  obtain ⟨h1, _⟩ := h
  obtain ⟨_, k2⟩ := k
  omega
theorem right_cases {n d : Int} (h : rightB n d = true) : (n = 1 ∧ d = 0) ∨ plainR n d := by
  unfold rightB at h
  exact of_decide_eq_true h

theorem add_not {an ad bn bd : Int} (h : ¬ (rightB an ad = true ∧ rightB bn bd = true)) : addS an ad bn bd = (0, 0, 1) := by unfold addS; rw [if_neg h]
theorem add_never1 {bn bd : Int} (h : rightB bn bd = true) : addS 1 0 bn bd = (1, 0, 0) := by
  unfold addS; rw [if_pos ⟨right_never, h⟩, if_pos (.inl ⟨rfl, rfl⟩)]
theorem add_never2 {an ad : Int} (h : rightB an ad = true) : addS an ad 1 0 = (1, 0, 0) := by
  unfold addS; rw [if_pos ⟨h, right_never⟩, if_pos (.inr ⟨rfl, rfl⟩)]
theorem add_plain {an ad bn bd : Int} (ha : plainR an ad) (hb : plainR bn bd) : addS an ad bn bd = ofRat (M.qOf an.toNat ad.toNat + M.qOf bn.toNat bd.toNat) := by
  unfold addS; rw [if_pos ⟨right_plain ha, right_plain hb⟩, if_neg (by rintro (k | k); exact not_never ha k; exact not_never hb k)]
theorem add_ok_right {an ad bn bd n d : Int} (h : addS an ad bn bd = (n, d, 0)) : rightB an ad = true ∧ rightB bn bd = true := by
  by_cases k : rightB an ad = true ∧ rightB bn bd = true
  · exact k
  · rw [add_not k] at h
    simp at h
theorem add_comm (an ad bn bd : Int) : addS an ad bn bd = addS bn bd an ad := by
  unfold addS
  by_cases h : rightB an ad = true ∧ rightB bn bd = true
  · rw [if_pos h, if_pos (show rightB bn bd = true ∧ rightB an ad = true from ⟨h.2, h.1⟩)]
    by_cases k : isNever an ad ∨ isNever bn bd
    · rw [if_pos k, if_pos (show isNever bn bd ∨ isNever an ad from k.symm)]
    · rw [if_neg k, if_neg (show ¬ (isNever bn bd ∨ isNever an ad) from fun k' => k k'.symm), Rat.add_comm]
  · rw [if_neg h, if_neg (show ¬ (rightB bn bd = true ∧ rightB an ad = true) from fun k => h ⟨k.2, k.1⟩)]

theorem add_in (an ad bn bd : Int) : In64 (addS an ad bn bd).1 ∧ In64 (addS an ad bn bd).2.1 := by
  unfold addS
  split
  · split
    · exact ⟨⟨by decide, by decide⟩, by decide, by decide⟩
    · exact ofRat_in _ (Rat.add_nonneg (q_nonneg _ _) (q_nonneg _ _))
  · exact ⟨⟨by decide, by decide⟩, by decide, by decide⟩

/-- A sum that fits: right; without an end just if a part is. -/
theorem add_ok {an ad bn bd n d : Int} (h : addS an ad bn bd = (n, d, 0)) : (n = 1 ∧ d = 0 ∧ ((an = 1 ∧ ad = 0) ∨ (bn = 1 ∧ bd = 0))) ∨ (plainR n d ∧ plainR an ad ∧ plainR bn bd ∧ M.qOf n.toNat d.toNat = M.qOf an.toNat ad.toNat + M.qOf bn.toNat bd.toNat) := by
  obtain ⟨ra, rb⟩ := add_ok_right h
  rcases right_cases ra with ⟨rfl, rfl⟩ | pa
  · rw [add_never1 rb] at h
    simp only [Prod.mk.injEq] at h
    exact .inl ⟨h.1.symm, h.2.1.symm, .inl ⟨rfl, rfl⟩⟩
  · rcases right_cases rb with ⟨rfl, rfl⟩ | pb
    · rw [add_never2 ra] at h
      simp only [Prod.mk.injEq] at h
      exact .inl ⟨h.1.symm, h.2.1.symm, .inr ⟨rfl, rfl⟩⟩
    · rw [add_plain pa pb] at h
      obtain ⟨p, e, _⟩ := ofRat_ok (Rat.add_nonneg (q_nonneg _ _) (q_nonneg _ _)) h
      exact .inr ⟨p, pa, pb, e⟩

theorem add_assoc {an ad bn bd cn cd xn xd yn yd : Int} (hx : addS an ad bn bd = (xn, xd, 0)) (hy : addS bn bd cn cd = (yn, yd, 0)) : addS xn xd cn cd = addS an ad yn yd := by
  obtain ⟨ra, rb⟩ := add_ok_right hx
  obtain ⟨_, rc⟩ := add_ok_right hy
  rcases add_ok hx with ⟨rfl, rfl, h⟩ | ⟨px, pa, pb, ex⟩
  · rw [add_never1 rc]
    rcases h with ⟨rfl, rfl⟩ | ⟨rfl, rfl⟩
    · rcases add_ok hy with ⟨rfl, rfl, _⟩ | ⟨py, _⟩
      · rw [add_never1 right_never]
      · rw [add_never1 (right_plain py)]
    · rw [add_never1 rc] at hy
      simp only [Prod.mk.injEq] at hy
      obtain ⟨rfl, rfl, _⟩ := hy
      rw [add_never2 ra]
  · rcases right_cases rc with ⟨rfl, rfl⟩ | pc
    · rw [add_never2 (right_plain px)]
      rw [add_never2 rb] at hy
      simp only [Prod.mk.injEq] at hy
      obtain ⟨rfl, rfl, _⟩ := hy
      rw [add_never2 ra]
    · rcases add_ok hy with ⟨rfl, rfl, h⟩ | ⟨py, _, _, ey⟩
      · rcases h with ⟨rfl, rfl⟩ | ⟨rfl, rfl⟩
        · exact absurd ⟨rfl, rfl⟩ (not_never pb)
        · exact absurd ⟨rfl, rfl⟩ (not_never pc)
      · rw [add_plain px pc, add_plain pa py, ex, ey, Rat.add_assoc]
end Go.Proofs.YthdadpafankbfaaDoor
