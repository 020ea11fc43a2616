/-
  The contracts of package span's Add and Sub over this seat's translation, for all times. No condition but that the numbers are ints.
-/
import Derived.Test.YthdadpafankbfaaDoorSpanP
import Derived.Test.YthdadpafankbfaaDoorSpanQ
namespace Go.Proofs.YthdadpafankbfaaDoor
open Go.RowKit

theorem plain_of {n d : Int} (h : rightB n d = true) (hn : ¬ isNever n d) : plainR n d := by
  unfold rightB at h
  simp at h
  rcases h with h | h
  · exact absurd h hn
  · exact h
theorem plain_nat {n d : Int} (h : plainR n d) : (n.toNat : Int) = n ∧ (d.toNat : Int) = d ∧ Nat.gcd n.toNat d.toNat = 1 ∧ 0 < d.toNat := by
  obtain ⟨h1, h2, h3⟩ := h
  have e1 : (n.toNat : Int) = n := by omega
  have e2 : (d.toNat : Int) = d := by omega
  refine ⟨e1, e2, ?_, by omega⟩
  rw [← e1, ← e2, Int.gcd_natCast_natCast] at h3
  exact h3

theorem never_or {n d : Int} (h : ¬ isNever n d) : ((n == 1) = false) ∨ (n = 1 ∧ (d == 0) = false) := by
  unfold isNever at h
  by_cases h1 : n = 1
  · exact .inr ⟨h1, by simp; exact fun h2 => h ⟨h1, h2⟩⟩
  · exact .inl (by simpa using h1)

theorem togp_c (an ad bn bd : Int) (ha : In64 an ∧ In64 ad) (hb : In64 bn ∧ In64 bd) (pa : plainR an ad) (pb : plainR bn bd) (w : World) :
    Calls Tryd.prog 34 #[.agg #[.int .i64 an, .int .i64 ad], .agg #[.int .i64 bn, .int .i64 bd], .func (.func 35) #[] #[]] w fun e w' => e = .returned (timeV (ofRat (M.qOf an.toNat ad.toNat + M.qOf bn.toNat bd.toNat))) ∧ Below w.heap.size w w' := by
  obtain ⟨e1, e2, e3, e4⟩ := plain_nat pa
  obtain ⟨f1, f2, f3, f4⟩ := plain_nat pb
  have h := tog_plus an.toNat ad.toNat bn.toNat bd.toNat (by omega) (by omega) (by omega) (by omega) e3 f3 e4 f4 w
  rw [e1, e2, f1, f2] at h
  exact h

theorem cmp_ge (an ad bn bd : Int) (pa : plainR an ad) (pb : plainR bn bd) (h : ¬ cmpS an ad bn bd < 0) : bn * ad ≤ an * bd := by
  have ra : rightB an ad = true := by unfold rightB; simp [pa]
  have rb : rightB bn bd = true := by unfold rightB; simp [pb]
  unfold cmpS at h
  rw [if_pos ⟨ra, rb⟩] at h
  unfold sgn at h
  by_cases hlt : an * bd < bn * ad
  · rw [if_pos hlt] at h; omega
  · omega

theorem togm_c (an ad bn bd : Int) (ha : In64 an ∧ In64 ad) (hb : In64 bn ∧ In64 bd) (pa : plainR an ad) (pb : plainR bn bd) (hc : ¬ cmpS an ad bn bd < 0) (w : World) :
    Calls Tryd.prog 34 #[.agg #[.int .i64 an, .int .i64 ad], .agg #[.int .i64 bn, .int .i64 bd], .func (.func 36) #[] #[]] w fun e w' => e = .returned (timeV (ofRat (M.qOf an.toNat ad.toNat - M.qOf bn.toNat bd.toNat))) ∧ Below w.heap.size w w' := by
  have hge := cmp_ge an ad bn bd pa pb hc
  obtain ⟨e1, e2, e3, e4⟩ := plain_nat pa
  obtain ⟨f1, f2, f3, f4⟩ := plain_nat pb
  have h := tog_minus an.toNat ad.toNat bn.toNat bd.toNat (by omega) (by omega) (by omega) (by omega) e3 f3 e4 f4 (by
    rw [← e1, ← e2, ← f1, ← f2] at hge
    exact_mod_cast hge) w
  rw [e1, e2, f1, f2] at h
  exact h

theorem add_c (an ad bn bd : Int) (ha : In64 an ∧ In64 ad) (hb : In64 bn ∧ In64 bd) (w : World) :
    Calls Tryd.prog 16 #[.agg #[.int .i64 an, .int .i64 ad], .agg #[.int .i64 bn, .int .i64 bd]] w fun e w' => e = .returned (timeV (addS an ad bn bd)) ∧ Below w.heap.size w w' := by
  by_cases h : rightB an ad = true ∧ rightB bn bd = true
  · obtain ⟨hra, hrb⟩ := h
    by_cases hna : isNever an ad
    · have e : addS an ad bn bd = (1, 0, 0) := by unfold addS; rw [if_pos ⟨hra, hrb⟩, if_pos (.inl hna)]
      rw [e]
      obtain ⟨rfl, rfl⟩ := hna
      exact add_03 bn bd ha hb hra hrb w
    · by_cases hnb : isNever bn bd
      · have e : addS an ad bn bd = (1, 0, 0) := by unfold addS; rw [if_pos ⟨hra, hrb⟩, if_pos (.inr hnb)]
        rw [e]
        obtain ⟨rfl, rfl⟩ := hnb
        rcases never_or hna with h1 | ⟨rfl, h1⟩
        · exact add_10 an ad ha hb hra hrb h1 w
        · exact add_20 ad ha hb hra hrb h1 w
      · have e : addS an ad bn bd = ofRat (M.qOf an.toNat ad.toNat + M.qOf bn.toNat bd.toNat) := by
          unfold addS; rw [if_pos ⟨hra, hrb⟩, if_neg (by rintro (k | k); exact hna k; exact hnb k)]
        have ht := togp_c an ad bn bd ha hb (plain_of hra hna) (plain_of hrb hnb)
        rw [← e] at ht
        rcases never_or hna with h1 | ⟨rfl, h1⟩
        · rcases never_or hnb with h2 | ⟨rfl, h2⟩
          · exact add_11 an ad bn bd ha hb hra hrb h1 h2 _ _ _ ht w
          · exact add_12 an ad bd ha hb hra hrb h1 h2 _ _ _ ht w
        · rcases never_or hnb with h2 | ⟨rfl, h2⟩
          · exact add_21 ad bn bd ha hb hra hrb h1 h2 _ _ _ ht w
          · exact add_22 ad bd ha hb hra hrb h1 h2 _ _ _ ht w
  · have e : addS an ad bn bd = (0, 0, 1) := by unfold addS; rw [if_neg h]
    rw [e]
    exact add_no an ad bn bd ha hb h w

theorem sub_c (an ad bn bd : Int) (ha : In64 an ∧ In64 ad) (hb : In64 bn ∧ In64 bd) (w : World) :
    Calls Tryd.prog 18 #[.agg #[.int .i64 an, .int .i64 ad], .agg #[.int .i64 bn, .int .i64 bd]] w fun e w' => e = .returned (timeV (subS an ad bn bd)) ∧ Below w.heap.size w w' := by
  by_cases h : rightB an ad = true ∧ rightB bn bd = true
  · obtain ⟨hra, hrb⟩ := h
    by_cases hnb : isNever bn bd
    · have e : subS an ad bn bd = (0, 0, 4) := by unfold subS; rw [if_pos ⟨hra, hrb⟩, if_pos (.inl hnb)]
      rw [e]
      obtain ⟨rfl, rfl⟩ := hnb
      exact sub_30 an ad ha hb hra hrb w
    · by_cases hc : cmpS an ad bn bd < 0
      · have e : subS an ad bn bd = (0, 0, 4) := by unfold subS; rw [if_pos ⟨hra, hrb⟩, if_pos (.inr hc)]
        rw [e]
        rcases never_or hnb with h2 | ⟨rfl, h2⟩
        · exact subless_31 an ad bn bd ha hb hra hrb h2 hc w
        · exact subless_32 an ad bd ha hb hra hrb h2 hc w
      · by_cases hna : isNever an ad
        · have e : subS an ad bn bd = (1, 0, 0) := by unfold subS; rw [if_pos ⟨hra, hrb⟩, if_neg (by rintro (k | k); exact hnb k; exact hc k), if_pos hna]
          rw [e]
          obtain ⟨rfl, rfl⟩ := hna
          rcases never_or hnb with h2 | ⟨rfl, h2⟩
          · exact sub_01 bn bd ha hb hra hrb h2 hc w
          · exact sub_02 bd ha hb hra hrb h2 hc w
        · have e : subS an ad bn bd = ofRat (M.qOf an.toNat ad.toNat - M.qOf bn.toNat bd.toNat) := by
            unfold subS; rw [if_pos ⟨hra, hrb⟩, if_neg (by rintro (k | k); exact hnb k; exact hc k), if_neg hna]
          have ht := togm_c an ad bn bd ha hb (plain_of hra hna) (plain_of hrb hnb) hc
          rw [← e] at ht
          rcases never_or hna with h1 | ⟨rfl, h1⟩
          · rcases never_or hnb with h2 | ⟨rfl, h2⟩
            · exact sub_11 an ad bn bd ha hb hra hrb h1 h2 hc _ _ _ ht w
            · exact sub_12 an ad bd ha hb hra hrb h1 h2 hc _ _ _ ht w
          · rcases never_or hnb with h2 | ⟨rfl, h2⟩
            · exact sub_21 ad bn bd ha hb hra hrb h1 h2 hc _ _ _ ht w
            · exact sub_22 ad bd ha hb hra hrb h1 h2 hc _ _ _ ht w
  · have e : subS an ad bn bd = (0, 0, 1) := by unfold subS; rw [if_neg h]
    rw [e]
    exact sub_no an ad bn bd ha hb h w
end Go.Proofs.YthdadpafankbfaaDoor
