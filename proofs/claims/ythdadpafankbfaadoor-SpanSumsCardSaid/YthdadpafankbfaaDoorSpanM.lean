/-
  Plain mathematics for package span: what together reckons is the reduced sum or difference of two fractions. It speaks of no program. No condition but those that each theorem states.
-/
import Derived.KernelRfl
namespace Go.Proofs.YthdadpafankbfaaDoor.M

theorem cop_of (k x T y : Nat) (hk : Nat.Coprime k x) (h : ∀ d, d ∣ k → d ∣ T → d ∣ y → d ∣ x) (hy : k ∣ y) : Nat.Coprime k T := by
  unfold Nat.Coprime at *
  have h1 : Nat.gcd k T ∣ k := Nat.gcd_dvd_left _ _
  have h2 : Nat.gcd k T ∣ T := Nat.gcd_dvd_right _ _
  have h3 := h _ h1 h2 (Nat.dvd_trans h1 hy)
  have h4 : Nat.gcd k T ∣ Nat.gcd k x := Nat.dvd_gcd h1 h3
  rw [hk] at h4
  exact Nat.dvd_one.1 h4

/-- T is the sum or the difference of x and y. -/
def PM (x y T : Nat) : Prop := T = x + y ∨ T + y = x

theorem pm_dvd (x y T : Nat) (h : PM x y T) (d : Nat) (hT : d ∣ T) (hy : d ∣ y) : d ∣ x := by
  rcases h with h | h
  · rw [h] at hT
    exact (Nat.dvd_add_left hy).1 hT
  · rw [← h]
    exact Nat.dvd_add hT hy
theorem pm_dvd2 (x y T : Nat) (h : PM x y T) (d : Nat) (hT : d ∣ T) (hx : d ∣ x) : d ∣ y := by
  rcases h with h | h
  · rw [h] at hT
    exact (Nat.dvd_add_right hx).1 hT
  · rw [← h] at hx
    exact (Nat.dvd_add_right hT).1 hx

theorem tog (an ad bn bd T : Nat) (ha : Nat.gcd an ad = 1) (hb : Nat.gcd bn bd = 1) (h1 : 0 < ad) (hT : PM (an * (bd / Nat.gcd ad bd)) (bn * (ad / Nat.gcd ad bd)) T) :
    Nat.gcd (ad * bd) (Nat.gcd ad bd * T) = Nat.gcd ad bd * Nat.gcd (Nat.gcd ad bd) (T % Nat.gcd ad bd) ∧ Nat.gcd (Nat.gcd ad bd) (T % Nat.gcd ad bd) ∣ bd ∧
    Nat.gcd ad bd * T / (Nat.gcd ad bd * Nat.gcd (Nat.gcd ad bd) (T % Nat.gcd ad bd)) = T / Nat.gcd (Nat.gcd ad bd) (T % Nat.gcd ad bd) ∧
    ad * bd / (Nat.gcd ad bd * Nat.gcd (Nat.gcd ad bd) (T % Nat.gcd ad bd)) = ad / Nat.gcd ad bd * (bd / Nat.gcd (Nat.gcd ad bd) (T % Nat.gcd ad bd)) := by
  have hc : 0 < Nat.gcd ad bd := Nat.gcd_pos_of_pos_left _ h1
  have hlr : Nat.Coprime (ad / Nat.gcd ad bd) (bd / Nat.gcd ad bd) := Nat.coprime_div_gcd_div_gcd hc
  have el : ad = Nat.gcd ad bd * (ad / Nat.gcd ad bd) := (Nat.mul_div_cancel' (Nat.gcd_dvd_left _ _)).symm
  have er : bd = Nat.gcd ad bd * (bd / Nat.gcd ad bd) := (Nat.mul_div_cancel' (Nat.gcd_dvd_right _ _)).symm
  have hg2 : Nat.gcd (Nat.gcd ad bd) (T % Nat.gcd ad bd) ∣ bd := Nat.dvd_trans (Nat.gcd_dvd_left _ _) (Nat.gcd_dvd_right _ _)
  have hgT : Nat.gcd (Nat.gcd ad bd) (T % Nat.gcd ad bd) = Nat.gcd (Nat.gcd ad bd) T := by
    rw [Nat.gcd_comm (Nat.gcd ad bd) (T % Nat.gcd ad bd), ← Nat.gcd_rec]
  rw [hgT] at hg2 ⊢
  generalize hcq : Nat.gcd ad bd = c at *
  generalize ad / c = l at *
  generalize bd / c = r at *
  have cl : Nat.Coprime l an := by
    have : Nat.Coprime an (c * l) := by rw [← el]; exact ha
    exact (Nat.Coprime.coprime_mul_left_right this).symm
  have cr : Nat.Coprime r bn := by
    have : Nat.Coprime bn (c * r) := by rw [← er]; exact hb
    exact (Nat.Coprime.coprime_mul_left_right this).symm
  have clT : Nat.Coprime l T := cop_of l (an * r) T (bn * l) (Nat.Coprime.mul_right cl hlr) (fun d _ hT' hy => pm_dvd _ _ _ hT d hT' hy) (Nat.dvd_mul_left _ _)
  have crT : Nat.Coprime r T := cop_of r (bn * l) T (an * r) (Nat.Coprime.mul_right cr hlr.symm) (fun d _ hT' hy => pm_dvd2 _ _ _ hT d hT' hy) (Nat.dvd_mul_left _ _)
  have key : Nat.gcd (l * bd) T = Nat.gcd c T := by
    rw [er, Nat.Coprime.gcd_mul_left_cancel _ clT, Nat.mul_comm c r, Nat.Coprime.gcd_mul_left_cancel _ crT]
  have e0 : ad * bd = c * (l * bd) := by rw [el, Nat.mul_assoc]
  refine ⟨?_, hg2, ?_, ?_⟩
  · rw [e0, Nat.gcd_mul_left, key]
  · exact Nat.mul_div_mul_left _ _ hc
  · rw [e0, Nat.mul_div_mul_left _ _ hc, Nat.mul_div_assoc _ hg2]

/-- A time with an end, as a number. -/
def qOf (n d : Nat) : Rat := mkRat n d

theorem num_den (n : Int) (d : Nat) (hd : d ≠ 0) : (mkRat n d).num = n / (Nat.gcd n.natAbs d : Int) ∧ (mkRat n d).den = d / Nat.gcd n.natAbs d := by
  rw [Rat.mkRat_def, dif_neg hd, Rat.normalize_eq]
  exact ⟨rfl, rfl⟩

theorem num_den1 (n d : Nat) (hd : d ≠ 0) (h : Nat.gcd n d = 1) : (qOf n d).num = n ∧ (qOf n d).den = d := by
  have := num_den (n : Int) d hd
  simp only [Int.natAbs_natCast, h] at this
  simpa [qOf] using this

/-- What together reckons with: the numbers that are put together, and what is taken out at the end. -/
def tc (ad bd : Nat) : Nat := Nat.gcd ad bd
def tg (ad bd T : Nat) : Nat := Nat.gcd (Nat.gcd ad bd) (T % Nat.gcd ad bd)

theorem togQ (an ad bn bd T : Nat) (ha : Nat.gcd an ad = 1) (hb : Nat.gcd bn bd = 1) (h1 : 0 < ad) (h2 : 0 < bd) (hT : PM (an * (bd / Nat.gcd ad bd)) (bn * (ad / Nat.gcd ad bd)) T) :
    (mkRat (Nat.gcd ad bd * T : Nat) (ad * bd)).num = (T / tg ad bd T : Nat) ∧ (mkRat (Nat.gcd ad bd * T : Nat) (ad * bd)).den = ad / Nat.gcd ad bd * (bd / tg ad bd T) := by
  obtain ⟨k1, _, k3, k4⟩ := tog an ad bn bd T ha hb h1 hT
  have h := num_den ((Nat.gcd ad bd * T : Nat) : Int) (ad * bd) (Nat.ne_of_gt (Nat.mul_pos h1 h2))
  rw [Int.natAbs_natCast, Nat.gcd_comm (Nat.gcd ad bd * T), k1] at h
  unfold tg
  rw [h.1, h.2, k4, ← k3]
  exact ⟨(Int.natCast_ediv _ _).symm, rfl⟩

theorem sumQ (an ad bn bd T : Nat) (ha : Nat.gcd an ad = 1) (hb : Nat.gcd bn bd = 1) (h1 : 0 < ad) (h2 : 0 < bd) (hT : T = an * (bd / Nat.gcd ad bd) + bn * (ad / Nat.gcd ad bd)) :
    (qOf an ad + qOf bn bd).num = (T / tg ad bd T : Nat) ∧ (qOf an ad + qOf bn bd).den = ad / Nat.gcd ad bd * (bd / tg ad bd T) := by
  have e : qOf an ad + qOf bn bd = mkRat (Nat.gcd ad bd * T : Nat) (ad * bd) := by
    unfold qOf
    rw [Rat.mkRat_add_mkRat _ _ (Nat.ne_of_gt h1) (Nat.ne_of_gt h2)]
    have : Nat.gcd ad bd * T = an * bd + bn * ad := by
      have el : Nat.gcd ad bd * (ad / Nat.gcd ad bd) = ad := Nat.mul_div_cancel' (Nat.gcd_dvd_left _ _)
      have er : Nat.gcd ad bd * (bd / Nat.gcd ad bd) = bd := Nat.mul_div_cancel' (Nat.gcd_dvd_right _ _)
      rw [hT, Nat.mul_add, Nat.mul_left_comm, er, Nat.mul_left_comm, el]
    rw [this]
    simp
  rw [e]
  exact togQ an ad bn bd T ha hb h1 h2 (.inl hT)

theorem difQ (an ad bn bd T : Nat) (ha : Nat.gcd an ad = 1) (hb : Nat.gcd bn bd = 1) (h1 : 0 < ad) (h2 : 0 < bd) (hT : T + bn * (ad / Nat.gcd ad bd) = an * (bd / Nat.gcd ad bd)) :
    (qOf an ad - qOf bn bd).num = (T / tg ad bd T : Nat) ∧ (qOf an ad - qOf bn bd).den = ad / Nat.gcd ad bd * (bd / tg ad bd T) := by
  have e : qOf an ad - qOf bn bd = mkRat (Nat.gcd ad bd * T : Nat) (ad * bd) := by
    have e2 : qOf an ad = mkRat (Nat.gcd ad bd * T : Nat) (ad * bd) + qOf bn bd := by
      unfold qOf
      rw [Rat.mkRat_add_mkRat _ _ (Nat.ne_of_gt (Nat.mul_pos h1 h2)) (Nat.ne_of_gt h2), Rat.mkRat_eq_iff (Nat.ne_of_gt h1) (Nat.ne_of_gt (Nat.mul_pos (Nat.mul_pos h1 h2) h2))]
      have : Nat.gcd ad bd * T + bn * ad = an * bd := by
        have el : Nat.gcd ad bd * (ad / Nat.gcd ad bd) = ad := Nat.mul_div_cancel' (Nat.gcd_dvd_left _ _)
        have er : Nat.gcd ad bd * (bd / Nat.gcd ad bd) = bd := Nat.mul_div_cancel' (Nat.gcd_dvd_right _ _)
        have h := congrArg (Nat.gcd ad bd * ·) hT
        simp only [Nat.mul_add] at h
        rw [Nat.mul_left_comm _ bn, el, Nat.mul_left_comm _ an, er] at h
        exact h
      have h3 : ((an * (ad * bd * bd) : Nat) : Int) = (((Nat.gcd ad bd * T + bn * ad) * bd * ad : Nat) : Int) := by
        rw [this]
        congr 1
        simp only [Nat.mul_comm, Nat.mul_left_comm]
      have h4 : (((Nat.gcd ad bd * T + bn * ad) * bd * ad : Nat) : Int) = (((Nat.gcd ad bd * T : Nat) : Int) * (bd : Int) + (bn : Int) * ((ad * bd : Nat) : Int)) * (ad : Int) := by
        rw [Nat.add_mul, Nat.mul_assoc bn ad bd]
        simp
      rw [← h4, ← h3]
      simp
    rw [e2, Rat.add_sub_cancel]
  rw [e]
  exact togQ an ad bn bd T ha hb h1 h2 (.inr hT)
end Go.Proofs.YthdadpafankbfaaDoor.M
