/-
  Several texts in one: SpanM SpanN SpanO SpanP SpanQ SpanR SpanMath2.
-/
import Derived.KernelRfl
import Derived.Test.YtibphmddepfgjaaMC

/-
  Plain mathematics for package span: what together reckons is the reduced sum or difference of two fractions. It speaks of no program. No condition but those that each theorem states.
-/
namespace Go.Proofs.Ytibphmddepfgjaa.M

theorem cop_of (k x T y : Nat) (hk : Nat.Coprime k x) (h : ∀ d, d ∣ k → d ∣ T → d ∣ y → d ∣ x) (hy : k ∣ y) : Nat.Coprime k T := by
  unfold Nat.Coprime at *
  have h1 : Nat.gcd k T ∣ k := Nat.gcd_dvd_left _ _
  have h2 : Nat.gcd k T ∣ T := Nat.gcd_dvd_right _ _
  have h3 := h _ h1 h2 (Nat.dvd_trans h1 hy)
  have h4 : Nat.gcd k T ∣ Nat.gcd k x := Nat.dvd_gcd h1 h3
  rw [hk] at h4
  exact Nat.dvd_one.1 h4

/-- T is the sum or the difference of x and y. -/
def PM (x y T : Nat) : Prop := T = x + y ∨ T + y = x

theorem pm_dvd (x y T : Nat) (h : PM x y T) (d : Nat) (hT : d ∣ T) (hy : d ∣ y) : d ∣ x := by
  rcases h with h | h
  · rw [h] at hT
    exact (Nat.dvd_add_left hy).1 hT
  · rw [← h]
    exact Nat.dvd_add hT hy
theorem pm_dvd2 (x y T : Nat) (h : PM x y T) (d : Nat) (hT : d ∣ T) (hx : d ∣ x) : d ∣ y := by
  rcases h with h | h
  · rw [h] at hT
    exact (Nat.dvd_add_right hx).1 hT
  · rw [← h] at hx
    exact (Nat.dvd_add_right hT).1 hx

theorem tog (an ad bn bd T : Nat) (ha : Nat.gcd an ad = 1) (hb : Nat.gcd bn bd = 1) (h1 : 0 < ad) (hT : PM (an * (bd / Nat.gcd ad bd)) (bn * (ad / Nat.gcd ad bd)) T) :
    Nat.gcd (ad * bd) (Nat.gcd ad bd * T) = Nat.gcd ad bd * Nat.gcd (Nat.gcd ad bd) (T % Nat.gcd ad bd) ∧ Nat.gcd (Nat.gcd ad bd) (T % Nat.gcd ad bd) ∣ bd ∧
    Nat.gcd ad bd * T / (Nat.gcd ad bd * Nat.gcd (Nat.gcd ad bd) (T % Nat.gcd ad bd)) = T / Nat.gcd (Nat.gcd ad bd) (T % Nat.gcd ad bd) ∧
    ad * bd / (Nat.gcd ad bd * Nat.gcd (Nat.gcd ad bd) (T % Nat.gcd ad bd)) = ad / Nat.gcd ad bd * (bd / Nat.gcd (Nat.gcd ad bd) (T % Nat.gcd ad bd)) := by
  have hc : 0 < Nat.gcd ad bd := Nat.gcd_pos_of_pos_left _ h1
  have hlr : Nat.Coprime (ad / Nat.gcd ad bd) (bd / Nat.gcd ad bd) := Nat.coprime_div_gcd_div_gcd hc
  have el : ad = Nat.gcd ad bd * (ad / Nat.gcd ad bd) := (Nat.mul_div_cancel' (Nat.gcd_dvd_left _ _)).symm
  have er : bd = Nat.gcd ad bd * (bd / Nat.gcd ad bd) := (Nat.mul_div_cancel' (Nat.gcd_dvd_right _ _)).symm
  have hg2 : Nat.gcd (Nat.gcd ad bd) (T % Nat.gcd ad bd) ∣ bd := Nat.dvd_trans (Nat.gcd_dvd_left _ _) (Nat.gcd_dvd_right _ _)
  have hgT : Nat.gcd (Nat.gcd ad bd) (T % Nat.gcd ad bd) = Nat.gcd (Nat.gcd ad bd) T := by
    rw [Nat.gcd_comm (Nat.gcd ad bd) (T % Nat.gcd ad bd), ← Nat.gcd_rec]
  rw [hgT] at hg2 ⊢
  generalize hcq : Nat.gcd ad bd = c at *
  generalize ad / c = l at *
  generalize bd / c = r at *
  have cl : Nat.Coprime l an := by
    have : Nat.Coprime an (c * l) := by rw [← el]; exact ha
    exact (Nat.Coprime.coprime_mul_left_right this).symm
  have cr : Nat.Coprime r bn := by
    have : Nat.Coprime bn (c * r) := by rw [← er]; exact hb
    exact (Nat.Coprime.coprime_mul_left_right this).symm
  have clT : Nat.Coprime l T := cop_of l (an * r) T (bn * l) (Nat.Coprime.mul_right cl hlr) (fun d _ hT' hy => pm_dvd _ _ _ hT d hT' hy) (Nat.dvd_mul_left _ _)
  have crT : Nat.Coprime r T := cop_of r (bn * l) T (an * r) (Nat.Coprime.mul_right cr hlr.symm) (fun d _ hT' hy => pm_dvd2 _ _ _ hT d hT' hy) (Nat.dvd_mul_left _ _)
  have key : Nat.gcd (l * bd) T = Nat.gcd c T := by
    rw [er, Nat.Coprime.gcd_mul_left_cancel _ clT, Nat.mul_comm c r, Nat.Coprime.gcd_mul_left_cancel _ crT]
  have e0 : ad * bd = c * (l * bd) := by rw [el, Nat.mul_assoc]
  refine ⟨?_, hg2, ?_, ?_⟩
  · rw [e0, Nat.gcd_mul_left, key]
  · exact Nat.mul_div_mul_left _ _ hc
  · rw [e0, Nat.mul_div_mul_left _ _ hc, Nat.mul_div_assoc _ hg2]

/-- A time with an end, as a number. -/
def qOf (n d : Nat) : Rat := mkRat n d

theorem num_den (n : Int) (d : Nat) (hd : d ≠ 0) : (mkRat n d).num = n / (Nat.gcd n.natAbs d : Int) ∧ (mkRat n d).den = d / Nat.gcd n.natAbs d := by
  rw [Rat.mkRat_def, dif_neg hd, Rat.normalize_eq]
  exact ⟨rfl, rfl⟩

theorem num_den1 (n d : Nat) (hd : d ≠ 0) (h : Nat.gcd n d = 1) : (qOf n d).num = n ∧ (qOf n d).den = d := by
  have := num_den (n : Int) d hd
  simp only [Int.natAbs_natCast, h] at this
  simpa [qOf] using this

/-- What together reckons with: the numbers that are put together, and what is taken out at the end. -/
def tc (ad bd : Nat) : Nat := Nat.gcd ad bd
def tg (ad bd T : Nat) : Nat := Nat.gcd (Nat.gcd ad bd) (T % Nat.gcd ad bd)

theorem togQ (an ad bn bd T : Nat) (ha : Nat.gcd an ad = 1) (hb : Nat.gcd bn bd = 1) (h1 : 0 < ad) (h2 : 0 < bd) (hT : PM (an * (bd / Nat.gcd ad bd)) (bn * (ad / Nat.gcd ad bd)) T) :
    (mkRat (Nat.gcd ad bd * T : Nat) (ad * bd)).num = (T / tg ad bd T : Nat) ∧ (mkRat (Nat.gcd ad bd * T : Nat) (ad * bd)).den = ad / Nat.gcd ad bd * (bd / tg ad bd T) := by
  obtain ⟨k1, _, k3, k4⟩ := tog an ad bn bd T ha hb h1 hT
  have h := num_den ((Nat.gcd ad bd * T : Nat) : Int) (ad * bd) (Nat.ne_of_gt (Nat.mul_pos h1 h2))
  rw [Int.natAbs_natCast, Nat.gcd_comm (Nat.gcd ad bd * T), k1] at h
  unfold tg
  rw [h.1, h.2, k4, ← k3]
  exact ⟨(Int.natCast_ediv _ _).symm, rfl⟩

theorem sumQ (an ad bn bd T : Nat) (ha : Nat.gcd an ad = 1) (hb : Nat.gcd bn bd = 1) (h1 : 0 < ad) (h2 : 0 < bd) (hT : T = an * (bd / Nat.gcd ad bd) + bn * (ad / Nat.gcd ad bd)) :
    (qOf an ad + qOf bn bd).num = (T / tg ad bd T : Nat) ∧ (qOf an ad + qOf bn bd).den = ad / Nat.gcd ad bd * (bd / tg ad bd T) := by
  have e : qOf an ad + qOf bn bd = mkRat (Nat.gcd ad bd * T : Nat) (ad * bd) := by
    unfold qOf
    rw [Rat.mkRat_add_mkRat _ _ (Nat.ne_of_gt h1) (Nat.ne_of_gt h2)]
    have : Nat.gcd ad bd * T = an * bd + bn * ad := by
      have el : Nat.gcd ad bd * (ad / Nat.gcd ad bd) = ad := Nat.mul_div_cancel' (Nat.gcd_dvd_left _ _)
      have er : Nat.gcd ad bd * (bd / Nat.gcd ad bd) = bd := Nat.mul_div_cancel' (Nat.gcd_dvd_right _ _)
      rw [hT, Nat.mul_add, Nat.mul_left_comm, er, Nat.mul_left_comm, el]
    rw [this]
    simp
  rw [e]
  exact togQ an ad bn bd T ha hb h1 h2 (.inl hT)

theorem difQ (an ad bn bd T : Nat) (ha : Nat.gcd an ad = 1) (hb : Nat.gcd bn bd = 1) (h1 : 0 < ad) (h2 : 0 < bd) (hT : T + bn * (ad / Nat.gcd ad bd) = an * (bd / Nat.gcd ad bd)) :
    (qOf an ad - qOf bn bd).num = (T / tg ad bd T : Nat) ∧ (qOf an ad - qOf bn bd).den = ad / Nat.gcd ad bd * (bd / tg ad bd T) := by
  have e : qOf an ad - qOf bn bd = mkRat (Nat.gcd ad bd * T : Nat) (ad * bd) := by
    have e2 : qOf an ad = mkRat (Nat.gcd ad bd * T : Nat) (ad * bd) + qOf bn bd := by
      unfold qOf
      rw [Rat.mkRat_add_mkRat _ _ (Nat.ne_of_gt (Nat.mul_pos h1 h2)) (Nat.ne_of_gt h2), Rat.mkRat_eq_iff (Nat.ne_of_gt h1) (Nat.ne_of_gt (Nat.mul_pos (Nat.mul_pos h1 h2) h2))]
      have : Nat.gcd ad bd * T + bn * ad = an * bd := by
        have el : Nat.gcd ad bd * (ad / Nat.gcd ad bd) = ad := Nat.mul_div_cancel' (Nat.gcd_dvd_left _ _)
        have er : Nat.gcd ad bd * (bd / Nat.gcd ad bd) = bd := Nat.mul_div_cancel' (Nat.gcd_dvd_right _ _)
        have h := congrArg (Nat.gcd ad bd * ·) hT
        simp only [Nat.mul_add] at h
        rw [Nat.mul_left_comm _ bn, el, Nat.mul_left_comm _ an, er] at h
        exact h
      have h3 : ((an * (ad * bd * bd) : Nat) : Int) = (((Nat.gcd ad bd * T + bn * ad) * bd * ad : Nat) : Int) := by
        rw [this]
        congr 1
        simp only [Nat.mul_comm, Nat.mul_left_comm]
      have h4 : (((Nat.gcd ad bd * T + bn * ad) * bd * ad : Nat) : Int) = (((Nat.gcd ad bd * T : Nat) : Int) * (bd : Int) + (bn : Int) * ((ad * bd : Nat) : Int)) * (ad : Int) := by
        rw [Nat.add_mul, Nat.mul_assoc bn ad bd]
        simp
      rw [← h4, ← h3]
      simp
    rw [e2, Rat.add_sub_cancel]
  rw [e]
  exact togQ an ad bn bd T ha hb h1 h2 (.inr hT)
end Go.Proofs.Ytibphmddepfgjaa.M

/-
  The contracts of package span over this seat's translation: together at plus and minus, as sums and differences of fractions; Add, Sub. No condition but the bounds that each theorem states.
-/
namespace Go.Proofs.Ytibphmddepfgjaa
open Go.RowKit
attribute [local go_sem ↓] Go.wp_at_zero Go.wp_at_succ

/-- What a sum comes to: a time, or too large. -/
def ofRat (q : Rat) : Int × Int × Int := if 9223372036854775807 < q.num ∨ 9223372036854775807 < (q.den : Int) then (0, 0, 2) else (q.num, (q.den : Int), 0)

theorem fitT_nat (n z : Nat) : fitT ((n : Int) / 18446744073709551616) ((n : Int) % 18446744073709551616) ((z : Int) / 18446744073709551616) ((z : Int) % 18446744073709551616) = if 9223372036854775807 < (n : Int) ∨ 9223372036854775807 < (z : Int) then (0, 0, 2) else ((n : Int), (z : Int), 0) := by
  unfold fitT
  by_cases h : 9223372036854775807 < (n : Int) ∨ 9223372036854775807 < (z : Int)
  · rw [if_pos h, if_pos (by omega)]
  · rw [if_neg h, if_neg (by omega)]
    have e1 : (n : Int) % 18446744073709551616 = n := by omega
    have e2 : (z : Int) % 18446744073709551616 = z := by omega
    rw [e1, e2]

end Go.Proofs.Ytibphmddepfgjaa

/-
  The contracts of package span's Add and Sub over this seat's translation. No condition but the bounds that each theorem states.
-/
namespace Go.Proofs.Ytibphmddepfgjaa
open Go.RowKit
attribute [local go_sem ↓] Go.wp_at_zero Go.wp_at_succ

/-- What Add answers: the time and the error's number. -/
def addS (an ad bn bd : Int) : Int × Int × Int :=
  if rightB an ad = true ∧ rightB bn bd = true then
    if isNever an ad ∨ isNever bn bd then (1, 0, 0) else ofRat (M.qOf an.toNat ad.toNat + M.qOf bn.toNat bd.toNat)
  else (0, 0, 1)
/-- What Sub answers: the time and the error's number. -/
def subS (an ad bn bd : Int) : Int × Int × Int :=
  if rightB an ad = true ∧ rightB bn bd = true then
    if isNever bn bd ∨ cmpS an ad bn bd < 0 then (0, 0, 4) else if isNever an ad then (1, 0, 0) else ofRat (M.qOf an.toNat ad.toNat - M.qOf bn.toNat bd.toNat)
  else (0, 0, 1)

theorem box3 {w : World} {o1 o2 o3 : Obj} {w1 : World} (hb : Below (((w.alloc o1).alloc o2).alloc o3).heap.size (((w.alloc o1).alloc o2).alloc o3) w1) : Below w.heap.size w w1 := belowT (belowA (belowA (belowA (Below.refl _ _) _) _) _) hb

end Go.Proofs.Ytibphmddepfgjaa

/-
  The contracts of package span's Add over this seat's translation, where both times are right, way by way. No condition but the bounds that each theorem states.
-/
namespace Go.Proofs.Ytibphmddepfgjaa
open Go.RowKit
attribute [local go_sem ↓] Go.wp_at_zero Go.wp_at_succ

end Go.Proofs.Ytibphmddepfgjaa

/-
  The contracts of package span's Sub over this seat's translation, where both times are right, way by way. No condition but the bounds that each theorem states.
-/
namespace Go.Proofs.Ytibphmddepfgjaa
open Go.RowKit
attribute [local go_sem ↓] Go.wp_at_zero Go.wp_at_succ

end Go.Proofs.Ytibphmddepfgjaa

/-
  The contracts of package span's Add and Sub over this seat's translation, for all times. No condition but that the numbers are ints.
-/
namespace Go.Proofs.Ytibphmddepfgjaa
open Go.RowKit

theorem plain_of {n d : Int} (h : rightB n d = true) (hn : ¬ isNever n d) : plainR n d := by
  unfold rightB at h
  simp at h
  rcases h with h | h
  · exact absurd h hn
  · exact h
theorem plain_nat {n d : Int} (h : plainR n d) : (n.toNat : Int) = n ∧ (d.toNat : Int) = d ∧ Nat.gcd n.toNat d.toNat = 1 ∧ 0 < d.toNat := by
  obtain ⟨h1, h2, h3⟩ := h
  have e1 : (n.toNat : Int) = n := by omega
  have e2 : (d.toNat : Int) = d := by omega
  refine ⟨e1, e2, ?_, by omega⟩
  rw [← e1, ← e2, Int.gcd_natCast_natCast] at h3
  exact h3

theorem never_or {n d : Int} (h : ¬ isNever n d) : ((n == 1) = false) ∨ (n = 1 ∧ (d == 0) = false) := by
  unfold isNever at h
  by_cases h1 : n = 1
  · exact .inr ⟨h1, by simp; exact fun h2 => h ⟨h1, h2⟩⟩
  · exact .inl (by simpa using h1)

theorem cmp_ge (an ad bn bd : Int) (pa : plainR an ad) (pb : plainR bn bd) (h : ¬ cmpS an ad bn bd < 0) : bn * ad ≤ an * bd := by
  have ra : rightB an ad = true := by unfold rightB; simp [pa]
  have rb : rightB bn bd = true := by unfold rightB; simp [pb]
  unfold cmpS at h
  rw [if_pos ⟨ra, rb⟩] at h
  unfold sgn at h
  by_cases hlt : an * bd < bn * ad
  · rw [if_pos hlt] at h; omega
  · omega

end Go.Proofs.Ytibphmddepfgjaa

/-
  Plain mathematics for package span: what sums and differences of times keep. It speaks of no program. No condition but those that each theorem states.
-/
namespace Go.Proofs.Ytibphmddepfgjaa
open Go.RowKit

theorem q_nonneg (n d : Nat) : 0 ≤ M.qOf n d := by
  unfold M.qOf
  rw [← Rat.num_nonneg, Rat.num_mkRat]
  split
  · omega
  · exact Int.ediv_nonneg (by omega) (by omega)

theorem ofRat_ok {q : Rat} (h0 : 0 ≤ q) {n d : Int} (h : ofRat q = (n, d, 0)) : plainR n d ∧ M.qOf n.toNat d.toNat = q ∧ (In64 n ∧ In64 d) := by
  unfold ofRat at h
  have hn : 0 ≤ q.num := Rat.num_nonneg.2 h0
  have hd := q.den_nz
  by_cases hb : 9223372036854775807 < q.num ∨ 9223372036854775807 < (q.den : Int)
  · rw [if_pos hb] at h
    simp at h
  · rw [if_neg hb] at h
    simp only [Prod.mk.injEq] at h
    obtain ⟨rfl, rfl, _⟩ := h
    have e1 : ((q.num.toNat : Nat) : Int) = q.num := by omega
    refine ⟨⟨by omega, hn, ?_⟩, ?_, ⟨by omega, by omega⟩, by omega, by omega⟩
    · have := q.reduced
      unfold Nat.Coprime at this
      unfold Int.gcd
      simpa using this
    · unfold M.qOf
      rw [e1, Int.toNat_natCast, Rat.mkRat_self]
theorem ofRat_large {q : Rat} {t : Int × Int × Int} (h : ofRat q = t) (he : t.2.2 ≠ 0) : t = (0, 0, 2) := by
  unfold ofRat at h
  split at h
  · exact h.symm
  · subst h; simp at he
theorem ofRat_in (q : Rat) (h0 : 0 ≤ q) : In64 (ofRat q).1 ∧ In64 (ofRat q).2.1 := by
  have hn : 0 ≤ q.num := Rat.num_nonneg.2 h0
  unfold ofRat
  split
  · exact ⟨⟨by decide, by decide⟩, by decide, by decide⟩
  · exact ⟨⟨by show _ ≤ q.num; omega, by show q.num ≤ _; omega⟩, by show _ ≤ (q.den : Int); omega, by show (q.den : Int) ≤ _; omega⟩
theorem right_plain {n d : Int} (h : plainR n d) : rightB n d = true := by unfold rightB; simp [h]
theorem not_never {n d : Int} (h : plainR n d) : ¬ isNever n d := by
  intro k
  obtain ⟨h1, _⟩ := h
  obtain ⟨_, k2⟩ := k
  omega
theorem right_cases {n d : Int} (h : rightB n d = true) : (n = 1 ∧ d = 0) ∨ plainR n d := by
  unfold rightB at h
  exact of_decide_eq_true h

theorem add_not {an ad bn bd : Int} (h : ¬ (rightB an ad = true ∧ rightB bn bd = true)) : addS an ad bn bd = (0, 0, 1) := by unfold addS; rw [if_neg h]
theorem add_never1 {bn bd : Int} (h : rightB bn bd = true) : addS 1 0 bn bd = (1, 0, 0) := by
  unfold addS; rw [if_pos ⟨right_never, h⟩, if_pos (.inl ⟨rfl, rfl⟩)]
theorem add_never2 {an ad : Int} (h : rightB an ad = true) : addS an ad 1 0 = (1, 0, 0) := by
  unfold addS; rw [if_pos ⟨h, right_never⟩, if_pos (.inr ⟨rfl, rfl⟩)]
theorem add_plain {an ad bn bd : Int} (ha : plainR an ad) (hb : plainR bn bd) : addS an ad bn bd = ofRat (M.qOf an.toNat ad.toNat + M.qOf bn.toNat bd.toNat) := by
  unfold addS; rw [if_pos ⟨right_plain ha, right_plain hb⟩, if_neg (by rintro (k | k); exact not_never ha k; exact not_never hb k)]
theorem add_ok_right {an ad bn bd n d : Int} (h : addS an ad bn bd = (n, d, 0)) : rightB an ad = true ∧ rightB bn bd = true := by
  by_cases k : rightB an ad = true ∧ rightB bn bd = true
  · exact k
  · rw [add_not k] at h
    simp at h
theorem add_comm (an ad bn bd : Int) : addS an ad bn bd = addS bn bd an ad := by
  unfold addS
  by_cases h : rightB an ad = true ∧ rightB bn bd = true
  · rw [if_pos h, if_pos (show rightB bn bd = true ∧ rightB an ad = true from ⟨h.2, h.1⟩)]
    by_cases k : isNever an ad ∨ isNever bn bd
    · rw [if_pos k, if_pos (show isNever bn bd ∨ isNever an ad from k.symm)]
    · rw [if_neg k, if_neg (show ¬ (isNever bn bd ∨ isNever an ad) from fun k' => k k'.symm), Rat.add_comm]
  · rw [if_neg h, if_neg (show ¬ (rightB bn bd = true ∧ rightB an ad = true) from fun k => h ⟨k.2, k.1⟩)]

theorem add_in (an ad bn bd : Int) : In64 (addS an ad bn bd).1 ∧ In64 (addS an ad bn bd).2.1 := by
  unfold addS
  split
  · split
    · exact ⟨⟨by decide, by decide⟩, by decide, by decide⟩
    · exact ofRat_in _ (Rat.add_nonneg (q_nonneg _ _) (q_nonneg _ _))
  · exact ⟨⟨by decide, by decide⟩, by decide, by decide⟩

/-- A sum that fits: right; without an end just if a part is. -/
theorem add_ok {an ad bn bd n d : Int} (h : addS an ad bn bd = (n, d, 0)) : (n = 1 ∧ d = 0 ∧ ((an = 1 ∧ ad = 0) ∨ (bn = 1 ∧ bd = 0))) ∨ (plainR n d ∧ plainR an ad ∧ plainR bn bd ∧ M.qOf n.toNat d.toNat = M.qOf an.toNat ad.toNat + M.qOf bn.toNat bd.toNat) := by
  obtain ⟨ra, rb⟩ := add_ok_right h
  rcases right_cases ra with ⟨rfl, rfl⟩ | pa
  · rw [add_never1 rb] at h
    simp only [Prod.mk.injEq] at h
    exact .inl ⟨h.1.symm, h.2.1.symm, .inl ⟨rfl, rfl⟩⟩
  · rcases right_cases rb with ⟨rfl, rfl⟩ | pb
    · rw [add_never2 ra] at h
      simp only [Prod.mk.injEq] at h
      exact .inl ⟨h.1.symm, h.2.1.symm, .inr ⟨rfl, rfl⟩⟩
    · rw [add_plain pa pb] at h
      obtain ⟨p, e, _⟩ := ofRat_ok (Rat.add_nonneg (q_nonneg _ _) (q_nonneg _ _)) h
      exact .inr ⟨p, pa, pb, e⟩

theorem add_assoc {an ad bn bd cn cd xn xd yn yd : Int} (hx : addS an ad bn bd = (xn, xd, 0)) (hy : addS bn bd cn cd = (yn, yd, 0)) : addS xn xd cn cd = addS an ad yn yd := by
  obtain ⟨ra, rb⟩ := add_ok_right hx
  obtain ⟨_, rc⟩ := add_ok_right hy
  rcases add_ok hx with ⟨rfl, rfl, h⟩ | ⟨px, pa, pb, ex⟩
  · rw [add_never1 rc]
    rcases h with ⟨rfl, rfl⟩ | ⟨rfl, rfl⟩
    · rcases add_ok hy with ⟨rfl, rfl, _⟩ | ⟨py, _⟩
      · rw [add_never1 right_never]
      · rw [add_never1 (right_plain py)]
    · rw [add_never1 rc] at hy
      simp only [Prod.mk.injEq] at hy
      obtain ⟨rfl, rfl, _⟩ := hy
      rw [add_never2 ra]
  · rcases right_cases rc with ⟨rfl, rfl⟩ | pc
    · rw [add_never2 (right_plain px)]
      rw [add_never2 rb] at hy
      simp only [Prod.mk.injEq] at hy
      obtain ⟨rfl, rfl, _⟩ := hy
      rw [add_never2 ra]
    · rcases add_ok hy with ⟨rfl, rfl, h⟩ | ⟨py, _, _, ey⟩
      · rcases h with ⟨rfl, rfl⟩ | ⟨rfl, rfl⟩
        · exact absurd ⟨rfl, rfl⟩ (not_never pb)
        · exact absurd ⟨rfl, rfl⟩ (not_never pc)
      · rw [add_plain px pc, add_plain pa py, ex, ey, Rat.add_assoc]
end Go.Proofs.Ytibphmddepfgjaa
