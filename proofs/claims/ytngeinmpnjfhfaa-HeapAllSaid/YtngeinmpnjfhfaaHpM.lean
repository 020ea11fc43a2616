/-
  Plain mathematics of a binary heap in a list: where an entry goes, what a way of entries moved by one place leaves, and the places of keys. No condition but those that each theorem states.
-/
import Derived.Sort.Defs
namespace Go.Proofs.Ytngeinmpnjfhfaa.Hp

/-- An entry: its key, what it stands by. -/
abbrev It := Int × Int
def ltE (a b : It) : Bool := if a.2 = b.2 then decide (a.1 < b.1) else decide (a.2 < b.2)
theorem ltE_iff {a b : It} : ltE a b = true ↔ a.2 < b.2 ∨ (a.2 = b.2 ∧ a.1 < b.1) := by
  unfold ltE
  by_cases h : a.2 = b.2
  · simp [h]
  · simp [h]
theorem ltE_no {a b : It} : ltE a b = false ↔ b.2 < a.2 ∨ (a.2 = b.2 ∧ b.1 ≤ a.1) := by
  rw [← Bool.not_eq_true, ltE_iff]
  omega
/-- Not greater. -/
abbrev le (a b : It) : Prop := ltE b a = false
theorem le_iff {a b : It} : le a b ↔ a.2 < b.2 ∨ (b.2 = a.2 ∧ a.1 ≤ b.1) := ltE_no
theorem le_refl (a : It) : le a a := ltE_no.2 (.inr ⟨rfl, Int.le_refl _⟩)
theorem le_trans {a b c : It} (h : le a b) (k : le b c) : le a c := by
  rw [le_iff] at *
  omega
theorem le_of_lt {a b : It} (h : ltE a b = true) : le a b := by
  rw [le_iff]; rw [ltE_iff] at h; omega
theorem le_antisymm {a b : It} (h : le a b) (k : le b a) : a = b := by
  rw [le_iff] at *
  obtain ⟨a1, a2⟩ := a
  obtain ⟨b1, b2⟩ := b
  simp only [Prod.mk.injEq]
  dsimp only at h k
  omega
theorem le_total (a b : It) : le a b ∨ le b a := by
  simp only [le_iff]; omega

def up (i : Nat) : Nat := (i - 1) / 2
theorem up_lt {i : Nat} (h : 0 < i) : up i < i := by unfold up; omega
theorem up_succ {i : Nat} (h : 0 < i) : (i + 1) / 2 = up i + 1 := by unfold up; omega
theorem up_eq {i h : Nat} (h0 : 0 < i) (he : up i = h) : i = 2 * h + 1 ∨ i = 2 * h + 2 := by unfold up at he; omega
theorem up_one (h : Nat) : up (2 * h + 1) = h := by unfold up; omega
theorem up_two (h : Nat) : up (2 * h + 2) = h := by unfold up; omega

abbrev g (L : List It) (i : Nat) : It := L.getD i (0, 0)
theorem g_set_same {L : List It} {i : Nat} (x : It) (h : i < L.length) : g (L.set i x) i = x := by simp [List.getD_eq_getElem?_getD, h]
theorem g_set_ne {L : List It} {i j : Nat} (x : It) (h : i ≠ j) : g (L.set i x) j = g L j := by simp [List.getD_eq_getElem?_getD, List.getElem?_set_ne h]
theorem g_get {L : List It} {i : Nat} (h : i < L.length) : g L i = L[i] := by simp [List.getD_eq_getElem?_getD, h]

/-- Where an entry goes up to. -/
def gUp (L : List It) (e : It) (t : Nat) : Nat := if _h : 0 < t ∧ ltE e (g L (up t)) = true then gUp L e (up t) else t
termination_by t
decreasing_by exact up_lt _h.1
def lessr (L : List It) (t : Nat) : Nat := if 2 * t + 2 < L.length ∧ ltE (g L (2 * t + 2)) (g L (2 * t + 1)) = true then 2 * t + 2 else 2 * t + 1
theorem lessr_or (L : List It) (t : Nat) : lessr L t = 2 * t + 1 ∨ (lessr L t = 2 * t + 2 ∧ 2 * t + 2 < L.length) := by
  unfold lessr
  split
  · next h => exact .inr ⟨rfl, h.1⟩
  · exact .inl rfl
theorem up_lessr (L : List It) (t : Nat) : up (lessr L t) = t ∧ t < lessr L t := by
  rcases lessr_or L t with h | ⟨h, _⟩ <;> rw [h] <;> refine ⟨?_, by omega⟩
  · exact up_one t
  · exact up_two t
theorem lessr_le {L : List It} {t i : Nat} (h0 : 0 < i) (hi : i < L.length) (hu : up i = t) : le (g L (lessr L t)) (g L i) := by
  unfold lessr
  rcases up_eq h0 hu with rfl | rfl
  · split
    · next h => exact le_of_lt h.2
    · exact le_refl _
  · split
    · exact le_refl _
    · next h =>
      have : ¬ ltE (g L (2 * t + 2)) (g L (2 * t + 1)) = true := fun e => h ⟨hi, e⟩
      simpa using this
/-- Where an entry goes down to. -/
def gDn (L : List It) (e : It) (t : Nat) : Nat := if _h : lessr L t < L.length ∧ ltE (g L (lessr L t)) e = true then gDn L e (lessr L t) else t
termination_by L.length - t
decreasing_by have := (up_lessr L t).2; omega
def goal (L : List It) (e : It) (t : Nat) : Nat := if gUp L e t < t then gUp L e t else gDn L e (gUp L e t)
theorem gUp_le (L : List It) (e : It) (t : Nat) : gUp L e t ≤ t := by
  induction t using Nat.strongRecOn with
  | ind t ih =>
    unfold gUp
    split
    · next h => exact Nat.le_trans (ih _ (up_lt h.1)) (Nat.le_of_lt (up_lt h.1))
    · exact Nat.le_refl _

/-- The first, and the second loop of a shift. -/
def sUp (X : List It) (f t : Nat) : List It × Nat := if _h : t < f then sUp (X.set f (g X (up f))) (up f) t else (X, f)
termination_by f
decreasing_by exact up_lt (by omega)
def sDn (X : List It) (f t : Nat) (e : It) : List It := if _h : f < t then sDn (X.set t e) f (up t) (g X t) else X.set t e
termination_by t
decreasing_by exact up_lt (by omega)
def shift (X : List It) (f t : Nat) (e : It) : List It := sDn (sUp X f t).1 (sUp X f t).2 t e
theorem sUp_len (t : Nat) : ∀ (f : Nat) (X : List It), (sUp X f t).1.length = X.length := by
  intro f
  induction f using Nat.strongRecOn with
  | ind f ih =>
    intro X
    unfold sUp
    split
    · next h => rw [ih _ (up_lt (by omega)), List.length_set]
    · rfl
theorem sDn_len (f : Nat) : ∀ (t : Nat) (X : List It) (e : It), (sDn X f t e).length = X.length := by
  intro t
  induction t using Nat.strongRecOn with
  | ind t ih =>
    intro X e
    unfold sDn
    split
    · next h => rw [ih _ (up_lt (by omega)), List.length_set]
    · rw [List.length_set]
theorem shift_len (X : List It) (f t : Nat) (e : It) : (shift X f t e).length = X.length := by unfold shift; rw [sDn_len, sUp_len]

/-- c is t, or above it. -/
inductive Anc (c : Nat) : Nat → Prop
  | refl : Anc c c
  | step {t : Nat} : c < t → Anc c (up t) → Anc c t
theorem Anc.le {c t : Nat} (h : Anc c t) : c ≤ t := by
  cases h with
  | refl => exact Nat.le_refl _
  | step h1 _ => exact Nat.le_of_lt h1
theorem Anc.top {c h t : Nat} (hc : up c = h) (h0 : 0 < c) (ha : Anc c t) : Anc h t := by
  induction ha with
  | refl => exact .step (by rw [← hc]; exact up_lt h0) (by rw [hc]; exact .refl)
  | step h1 _ ih => exact .step (by have := up_lt h0; omega) ih
theorem gDn_anc (L : List It) (e : It) (t : Nat) : Anc t (gDn L e t) := by
  generalize hk : L.length - t = k
  induction k using Nat.strongRecOn generalizing t with
  | ind k ih =>
    unfold gDn
    split
    · next h =>
      obtain ⟨h1, h2⟩ := up_lessr L t
      exact Anc.top h1 (by omega) (ih (L.length - lessr L t) (by omega) _ rfl)
    · exact .refl
theorem gDn_lt (L : List It) (e : It) (t : Nat) (ht : t < L.length) : gDn L e t < L.length := by
  generalize hk : L.length - t = k
  induction k using Nat.strongRecOn generalizing t with
  | ind k ih =>
    unfold gDn
    split
    · next h =>
      obtain ⟨h1, h2⟩ := up_lessr L t
      exact ih (L.length - lessr L t) (by omega) _ h.1 rfl
    · exact ht
theorem sUp_end (L : List It) (e : It) : ∀ (f : Nat) (X : List It), (sUp X f (gUp L e f)).2 = gUp L e f := by
  intro f
  induction f using Nat.strongRecOn with
  | ind f ih =>
    intro X
    by_cases h : 0 < f ∧ ltE e (g L (up f)) = true
    · have hg : gUp L e f = gUp L e (up f) := by rw [gUp, dif_pos h]
      have hl := gUp_le L e (up f)
      have hu := up_lt h.1
      rw [hg, sUp, dif_pos (by omega)]
      exact ih _ hu _
    · have hg : gUp L e f = f := by rw [gUp, dif_neg h]
      rw [hg, sUp, dif_neg (Nat.lt_irrefl _)]
theorem sDn_top {h c t : Nat} (hc : up c = h) (h0 : 0 < c) (ha : Anc c t) : ∀ (X : List It) (e : It), sDn X h t e = sDn (X.set h (g X c)) c t e := by
  have hlt : h < c := by rw [← hc]; exact up_lt h0
  induction ha with
  | refl =>
    intro X e
    rw [sDn, dif_pos hlt, hc, sDn, dif_neg (Nat.lt_irrefl _), sDn, dif_neg (Nat.lt_irrefl _)]
    exact List.set_comm _ _ (by omega)
  | step h1 _ ih =>
    intro X e
    rw [sDn, dif_pos (by omega), ih, sDn.eq_def (X.set h (g X c)), dif_pos h1, g_set_ne _ (by omega), g_set_ne _ (by omega)]
    rw [List.set_comm _ _ (by omega)]

theorem swap_perm {X : List It} {i j : Nat} (hi : i < X.length) (hj : j < X.length) (hne : i ≠ j) (e : It) : ((X.set i (g X j)).set j e).Perm (X.set i e) := by
  have h := List.set_set_perm (as := X.set i e) (i := i) (j := j) (by simpa using hi) (by simpa using hj)
  have e1 : (X.set i e)[j]'(by simpa using hj) = g X j := by rw [List.getElem_set_ne hne, g_get hj]
  have e2 : (X.set i e)[i]'(by simpa using hi) = e := List.getElem_set_self _
  rw [e1, e2, List.set_set] at h
  exact h
theorem sUp_perm (t : Nat) (e : It) : ∀ (f : Nat) (X : List It), f < X.length → ((sUp X f t).1.set (sUp X f t).2 e).Perm (X.set f e) := by
  intro f
  induction f using Nat.strongRecOn with
  | ind f ih =>
    intro X hf
    unfold sUp
    split
    · next h =>
      have hu := up_lt (i := f) (by omega)
      exact (ih _ hu _ (by rw [List.length_set]; omega)).trans (swap_perm hf (by omega) (by omega) e)
    · exact .refl _
theorem sDn_perm {f t : Nat} (ha : Anc f t) : ∀ (X : List It) (e : It), t < X.length → (sDn X f t e).Perm (X.set f e) := by
  induction ha with
  | refl => intro X e _; rw [sDn, dif_neg (Nat.lt_irrefl _)]
  | @step t h1 ha ih =>
    intro X e ht
    have hu := up_lt (i := t) (by omega)
    rw [sDn, dif_pos h1]
    refine (ih _ _ (by rw [List.length_set]; omega)).trans ?_
    have h := List.set_set_perm (as := X.set f e) (i := f) (j := t) (by simp; omega) (by simpa using ht)
    have e1 : (X.set f e)[t]'(by simpa using ht) = g X t := by rw [List.getElem_set_ne (by omega), g_get ht]
    have e2 : (X.set f e)[f]'(by simp; omega) = e := List.getElem_set_self _
    rw [e1, e2, List.set_set] at h
    rw [List.set_comm _ _ (by omega)]
    exact h

/-- Each is not greater than those below it. -/
def Ord (L : List It) : Prop := ∀ i, 0 < i → i < L.length → le (g L (up i)) (g L i)
structure Hole (T : List It) (h : Nat) : Prop where
  ord : ∀ i, 0 < i → i < T.length → i ≠ h → up i ≠ h → le (g T (up i)) (g T i)
  brd : 0 < h → ∀ i, 0 < i → i < T.length → up i = h → le (g T (up h)) (g T i)
theorem Ord.hole {L : List It} (h : Ord L) (k : Nat) (hk : k < L.length) : Hole L k :=
  ⟨fun i h0 hi _ _ => h i h0 hi, fun h0 i i0 hi hu => le_trans (h k h0 hk) (by rw [← hu]; exact h i i0 hi)⟩
theorem Ord.hole_end {L : List It} (h : Ord L) (e : It) : Hole (L ++ [e]) L.length := by
  have hg : ∀ i, i < L.length → g (L ++ [e]) i = g L i := fun i hi => by simp [List.getD_eq_getElem?_getD, List.getElem?_append_left hi]
  refine ⟨fun i h0 hi hne _ => ?_, fun h0 i i0 hi hu => ?_⟩
  · rw [List.length_append, List.length_singleton] at hi
    have := up_lt h0
    rw [hg i (by omega), hg _ (by omega)]
    exact h i h0 (by omega)
  · rw [List.length_append, List.length_singleton] at hi
    have := up_lt i0
    omega
theorem Hole.fill {T : List It} {h : Nat} (H : Hole T h) (e : It) (hl : h < T.length) (h1 : 0 < h → le (g T (up h)) e) (h2 : ∀ i, 0 < i → i < T.length → up i = h → le e (g T i)) : Ord (T.set h e) := by
  intro i h0 hi
  rw [List.length_set] at hi
  have hu := up_lt h0
  by_cases e1 : i = h
  · subst e1
    rw [g_set_same _ hl, g_set_ne _ (by omega)]
    exact h1 h0
  · rw [g_set_ne (i := h) (j := i) _ (Ne.symm e1)]
    by_cases e2 : up i = h
    · rw [e2, g_set_same _ hl]
      exact h2 i h0 hi e2
    · rw [g_set_ne _ (Ne.symm e2)]
      exact H.ord i h0 hi e1 e2
theorem Hole.rise {T : List It} {h : Nat} (H : Hole T h) (h0 : 0 < h) (hl : h < T.length) : Hole (T.set h (g T (up h))) (up h) := by
  have hu := up_lt h0
  refine ⟨fun i i0 hi n1 n2 => ?_, fun p0 i i0 hi hui => ?_⟩
  · rw [List.length_set] at hi
    have hui := up_lt i0
    have e1 : i ≠ h := fun e => n2 (by rw [e])
    rw [g_set_ne (i := h) (j := i) _ (Ne.symm e1)]
    by_cases e2 : up i = h
    · rw [e2, g_set_same _ hl]
      exact H.brd h0 i i0 hi e2
    · rw [g_set_ne _ (Ne.symm e2)]
      exact H.ord i i0 hi e1 e2
  · rw [List.length_set] at hi
    have huu := up_lt p0
    rw [g_set_ne (i := h) (j := up (up h)) _ (by omega)]
    have hpp : le (g T (up (up h))) (g T (up h)) := H.ord (up h) p0 (by omega) (by omega) (by omega)
    by_cases e1 : i = h
    · subst e1
      rw [g_set_same _ hl]
      exact hpp
    · rw [g_set_ne _ (Ne.symm e1)]
      refine le_trans hpp ?_
      rw [← hui]
      exact H.ord i i0 hi e1 (by omega)
theorem Hole.sink {T : List It} {h c : Nat} (H : Hole T h) (h0 : 0 < c) (hl : c < T.length) (hc : up c = h) (hm : ∀ i, 0 < i → i < T.length → up i = h → le (g T c) (g T i)) : Hole (T.set h (g T c)) c := by
  have hu : h < c := by rw [← hc]; exact up_lt h0
  refine ⟨fun i i0 hi n1 n2 => ?_, fun p0 i i0 hi hui => ?_⟩
  · rw [List.length_set] at hi
    have hui := up_lt i0
    by_cases e1 : i = h
    · subst e1
      rw [g_set_same _ (by omega), g_set_ne _ (by omega)]
      exact H.brd i0 c h0 hl hc
    · rw [g_set_ne (i := h) (j := i) _ (Ne.symm e1)]
      by_cases e2 : up i = h
      · rw [e2, g_set_same _ (by omega)]
        exact hm i i0 hi e2
      · rw [g_set_ne _ (Ne.symm e2)]
        exact H.ord i i0 hi e1 e2
  · rw [List.length_set] at hi
    have hii := up_lt i0
    rw [hc, g_set_same _ (by omega), g_set_ne _ (by omega), ← hui]
    exact H.ord i i0 hi (by omega) (by omega)

theorem up_ok (L : List It) (e : It) : ∀ (h : Nat) (T : List It), Hole T h → (∀ i, i < h → g T i = g L i) → h < T.length → (∀ i, 0 < i → i < T.length → up i = h → le e (g T i)) → Ord ((sUp T h (gUp L e h)).1.set (gUp L e h) e) := by
  intro h
  induction h using Nat.strongRecOn with
  | ind h ih =>
    intro T H hag hl hch
    by_cases hc : 0 < h ∧ ltE e (g L (up h)) = true
    · have hu := up_lt hc.1
      have hg : gUp L e h = gUp L e (up h) := by rw [gUp, dif_pos hc]
      have hgl := gUp_le L e (up h)
      rw [hg, sUp, dif_pos (by omega)]
      have heu : le e (g T (up h)) := by rw [hag _ hu]; exact le_of_lt hc.2
      refine ih _ hu _ (H.rise hc.1 hl) (fun i hi => ?_) (by rw [List.length_set]; omega) (fun i i0 hi hui => ?_)
      · rw [g_set_ne _ (by omega)]; exact hag i (by omega)
      · rw [List.length_set] at hi
        by_cases e1 : i = h
        · subst e1
          rw [g_set_same _ hl]
          exact heu
        · rw [g_set_ne _ (Ne.symm e1)]
          refine le_trans heu ?_
          rw [← hui]
          exact H.ord i i0 hi e1 (by omega)
    · have hg : gUp L e h = h := by rw [gUp, dif_neg hc]
      rw [hg, sUp, dif_neg (Nat.lt_irrefl _)]
      refine H.fill e hl (fun h0 => ?_) hch
      have : ¬ ltE e (g L (up h)) = true := fun k => hc ⟨h0, k⟩
      rw [hag _ (up_lt h0)]
      simpa using this
theorem dn_ok (L : List It) (e : It) (h : Nat) : ∀ (T : List It), Hole T h → T.length = L.length → (∀ i, h < i → g T i = g L i) → h < T.length → (0 < h → le (g T (up h)) e) → Ord (sDn T h (gDn L e h) e) := by
  generalize hk : L.length - h = k
  induction k using Nat.strongRecOn generalizing h with
  | ind k ih =>
    intro T H hlen hag hl hp
    obtain ⟨u1, u2⟩ := up_lessr L h
    by_cases hc : lessr L h < L.length ∧ ltE (g L (lessr L h)) e = true
    · have hg : gDn L e h = gDn L e (lessr L h) := by rw [gDn, dif_pos hc]
      rw [hg, sDn_top u1 (by omega) (gDn_anc L e _)]
      have hm : ∀ i, 0 < i → i < T.length → up i = h → le (g T (lessr L h)) (g T i) := fun i i0 hi hui => by
        have := up_lt i0
        rw [hag _ u2, hag i (by omega)]
        exact lessr_le i0 (by omega) hui
      refine ih (L.length - lessr L h) (by omega) _ rfl _ (H.sink (by omega) (by omega) u1 hm) (by rw [List.length_set]; exact hlen) (fun i hi => ?_) (by rw [List.length_set]; omega) (fun _ => ?_)
      · rw [g_set_ne _ (by omega)]; exact hag i (by omega)
      · rw [u1, g_set_same _ hl, hag _ u2]
        exact le_of_lt hc.2
    · have hg : gDn L e h = h := by rw [gDn, dif_neg hc]
      rw [hg, sDn, dif_neg (Nat.lt_irrefl _)]
      refine H.fill e hl hp (fun i i0 hi hui => ?_)
      have := up_lt i0
      rw [hag i (by omega)]
      refine le_trans ?_ (lessr_le i0 (by omega) hui)
      have hb : lessr L h < L.length := by
        rcases lessr_or L h with k | ⟨k, k2⟩
        · rcases up_eq i0 hui with e1 | e1 <;> omega
        · omega
      have : ¬ ltE (g L (lessr L h)) e = true := fun k => hc ⟨hb, k⟩
      simpa using this

/-- The places that are gone by on the way up, counted from 1. -/
def vis (lo k i : Nat) : Prop := if _h : lo < k then i + 1 = k ∨ vis lo (k / 2) i else False
termination_by k
decreasing_by omega
theorem sDn_off {f t : Nat} (ha : Anc f t) : ∀ (X : List It) (e : It) (i : Nat), ¬ vis f (t + 1) i → g (sDn X f t e) i = g X i := by
  induction ha with
  | refl =>
    intro X e i hv
    rw [sDn, dif_neg (Nat.lt_irrefl _)]
    rw [vis, dif_pos (by omega)] at hv
    exact g_set_ne _ (by omega)
  | @step t h1 ha ih =>
    intro X e i hv
    rw [vis, dif_pos (by omega), up_succ (by omega)] at hv
    rw [sDn, dif_pos h1, ih _ _ _ (fun h => hv (.inr h)), g_set_ne _ (by omega)]
theorem sUp_off (t : Nat) : ∀ (f : Nat) (X : List It) (i : Nat), ¬ vis t (f + 1) i → g (sUp X f t).1 i = g X i := by
  intro f
  induction f using Nat.strongRecOn with
  | ind f ih =>
    intro X i hv
    unfold sUp
    split
    · next h =>
      rw [vis, dif_pos (by omega), up_succ (by omega)] at hv
      rw [ih _ (up_lt (by omega)) _ _ (fun h => hv (.inr h)), g_set_ne _ (by omega)]
    · rfl
theorem vis_end (L : List It) (e : It) : ∀ f, vis (gUp L e f) (f + 1) (gUp L e f) := by
  intro f
  induction f using Nat.strongRecOn with
  | ind f ih =>
    by_cases h : 0 < f ∧ ltE e (g L (up f)) = true
    · have hg : gUp L e f = gUp L e (up f) := by rw [gUp, dif_pos h]
      have := gUp_le L e f
      rw [vis, dif_pos (by omega), up_succ h.1, hg]
      exact .inr (ih _ (up_lt h.1))
    · have hg : gUp L e f = f := by rw [gUp, dif_neg h]
      rw [vis, dif_pos (by omega), hg]
      exact .inl rfl

/-- WHAT COMES OF IT. -/
theorem goal_shift (S : List It) (e : It) (f : Nat) (H : Hole S f) (hf : f < S.length) :
    goal S e f < S.length ∧ Ord (shift S f (goal S e f) e) ∧ (shift S f (goal S e f) e).Perm (S.set f e) ∧ ∀ i, ¬ vis (min f (goal S e f)) (max f (goal S e f) + 1) i → g (shift S f (goal S e f) e) i = g S i := by
  have hle := gUp_le S e f
  unfold goal
  by_cases hlt : gUp S e f < f
  · rw [if_pos hlt]
    have hs : shift S f (gUp S e f) e = (sUp S f (gUp S e f)).1.set (gUp S e f) e := by
      unfold shift
      rw [sUp_end, sDn, dif_neg (Nat.lt_irrefl _)]
    have hc : 0 < f ∧ ltE e (g S (up f)) = true := by
      apply Classical.byContradiction
      intro hc
      have hg : gUp S e f = f := by rw [gUp, dif_neg hc]
      omega
    have hu := up_lt hc.1
    refine ⟨by omega, ?_, ?_, fun i hv => ?_⟩
    · rw [hs]
      have hg : gUp S e f = gUp S e (up f) := by rw [gUp, dif_pos hc]
      rw [hg]
      have hgl := gUp_le S e (up f)
      rw [sUp, dif_pos (by omega)]
      refine up_ok S e _ _ (H.rise hc.1 hf) (fun i hi => g_set_ne _ (by omega)) (by rw [List.length_set]; omega) (fun i i0 hi hui => ?_)
      rw [List.length_set] at hi
      by_cases e1 : i = f
      · subst e1
        rw [g_set_same _ hf]
        exact le_of_lt hc.2
      · rw [g_set_ne _ (Ne.symm e1)]
        refine le_trans (le_of_lt hc.2) ?_
        rw [← hui]
        exact H.ord i i0 hi e1 (by omega)
    · rw [hs]
      have := sUp_perm (gUp S e f) e f S hf
      rwa [sUp_end] at this
    · rw [Nat.min_eq_right (by omega), Nat.max_eq_left (by omega)] at hv
      rw [hs, g_set_ne, sUp_off _ _ _ _ hv]
      intro e1
      subst e1
      exact hv (vis_end S e f)
  · rw [if_neg hlt]
    have he : gUp S e f = f := by omega
    rw [he]
    have ha := gDn_anc S e f
    have hl := ha.le
    have hs : shift S f (gDn S e f) e = sDn S f (gDn S e f) e := by
      unfold shift
      rw [sUp, dif_neg (by omega)]
    have hp : 0 < f → le (g S (up f)) e := fun h0 => by
      have hc : ¬ (0 < f ∧ ltE e (g S (up f)) = true) := fun hc => by
        have hg : gUp S e f = gUp S e (up f) := by rw [gUp, dif_pos hc]
        have := gUp_le S e (up f)
        have := up_lt hc.1
        omega
      have : ¬ ltE e (g S (up f)) = true := fun k => hc ⟨h0, k⟩
      simpa using this
    refine ⟨gDn_lt S e f hf, ?_, ?_, fun i hv => ?_⟩
    · rw [hs]; exact dn_ok S e f S H rfl (fun _ _ => rfl) hf hp
    · rw [hs]; exact sDn_perm ha S e (gDn_lt S e f hf)
    · rw [Nat.min_eq_left hl, Nat.max_eq_right hl] at hv
      rw [hs, sDn_off ha _ _ _ hv]

/-- The places of keys. -/
abbrev Tab := Int → Option Nat
def ins (m : Tab) (k : Int) (i : Nat) : Tab := fun x => if x = k then some i else m x
def cut (m : Tab) (k : Int) : Tab := fun x => if x = k then none else m x
def mkF (F : List It) (lo k : Nat) (m : Tab) : Tab := if _h : lo < k then mkF F lo (k / 2) (ins m (g F (k - 1)).1 (k - 1)) else m
termination_by k
decreasing_by omega
def Dist (L : List It) : Prop := ∀ i j, i < L.length → j < L.length → (g L i).1 = (g L j).1 → i = j
theorem mkF_in {F : List It} (hd : Dist F) (lo : Nat) : ∀ (k : Nat) (m : Tab), k ≤ F.length → ∀ i, i < F.length → (vis lo k i ∨ m (g F i).1 = some i) → mkF F lo k m (g F i).1 = some i := by
  intro k
  induction k using Nat.strongRecOn with
  | ind k ih =>
    intro m hk i hi h
    unfold mkF
    split
    · next hlt =>
      refine ih _ (by omega) _ (by omega) i hi ?_
      by_cases e1 : i = k - 1
      · right
        subst e1
        exact if_pos rfl
      · rcases h with h | h
        · rw [vis, dif_pos hlt] at h
          rcases h with h | h
          · omega
          · exact .inl h
        · right
          unfold ins
          rw [if_neg (fun e => e1 (hd _ _ hi (by omega) e))]
          exact h
    · next hlt =>
      rcases h with h | h
      · rw [vis, dif_neg hlt] at h; exact h.elim
      · exact h
theorem mkF_out {F : List It} (lo : Nat) (x : Int) (hx : ∀ i, i < F.length → (g F i).1 ≠ x) : ∀ (k : Nat) (m : Tab), k ≤ F.length → mkF F lo k m x = m x := by
  intro k
  induction k using Nat.strongRecOn with
  | ind k ih =>
    intro m hk
    unfold mkF
    split
    · next hlt =>
      rw [ih _ (by omega) _ (by omega)]
      exact if_neg fun e => hx (k - 1) (by omega) e.symm
    · rfl
/-- The table of a list. -/
structure TabOf (L : List It) (m : Tab) : Prop where
  here : ∀ i, i < L.length → m (g L i).1 = some i
  none : ∀ x, (∀ i, i < L.length → (g L i).1 ≠ x) → m x = none
theorem TabOf.dist {L : List It} {m : Tab} (h : TabOf L m) : Dist L := fun i j hi hj e => by
  have h1 := h.here i hi
  rw [e, h.here j hj] at h1
  simpa using h1.symm
theorem TabOf.some {L : List It} {m : Tab} (h : TabOf L m) {x : Int} {i : Nat} (hx : m x = .some i) : i < L.length ∧ (g L i).1 = x := by
  by_cases hc : ∃ j, j < L.length ∧ (g L j).1 = x
  · obtain ⟨j, hj, rfl⟩ := hc
    rw [h.here j hj] at hx
    cases hx
    exact ⟨hj, rfl⟩
  · rw [h.none x fun i hi e => hc ⟨i, hi, e⟩] at hx
    cases hx
theorem dist_iff {L : List It} : Dist L ↔ (L.map Prod.fst).Nodup := by
  unfold Dist List.Nodup
  rw [List.pairwise_iff_getElem]
  constructor
  · intro h i j hi hj hij e
    rw [List.length_map] at hi hj
    have := h i j hi hj (by rw [g_get hi, g_get hj]; simpa using e)
    omega
  · intro h i j hi hj e
    rw [g_get hi, g_get hj] at e
    rcases Nat.lt_trichotomy i j with k | k | k
    · exact absurd (by rw [List.getElem_map, List.getElem_map]; exact e) (h i j (by simpa using hi) (by simpa using hj) k)
    · exact k
    · exact absurd (by rw [List.getElem_map, List.getElem_map]; exact e.symm) (h j i (by simpa using hj) (by simpa using hi) k)
theorem mem_g {L : List It} {x : It} : x ∈ L ↔ ∃ i, i < L.length ∧ g L i = x := by
  constructor
  · intro h
    obtain ⟨i, hi, e⟩ := List.getElem_of_mem h
    exact ⟨i, hi, by rw [g_get hi]; exact e⟩
  · rintro ⟨i, hi, rfl⟩
    rw [g_get hi]
    exact List.getElem_mem hi
end Go.Proofs.Ytngeinmpnjfhfaa.Hp
