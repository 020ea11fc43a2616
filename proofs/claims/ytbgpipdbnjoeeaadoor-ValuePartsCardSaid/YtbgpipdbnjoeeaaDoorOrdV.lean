/-
  The contracts of package value's Cmp and Same over this seat's translation. Conditions: those that each theorem states.
-/
import Derived.Test.YtbgpipdbnjoeeaaDoorOrdT
import Derived.Test.YtbgpipdbnjoeeaaDoorRightB
namespace Go.Proofs.YtbgpipdbnjoeeaaDoor
open Go.RowKit Go.ChangeShapes Go.WideShapes Go.ChangeAt Go.Deep
attribute [local go_sem ↓] Go.wp_at_zero Go.wp_at_succ


/-! ### Bytes in their order -/
abbrev strL (a b : List UInt8) : Int := Lib.compareBytes a b
theorem strL_zero : ∀ {a b : List UInt8}, strL a b = 0 ↔ a = b
  | [], [] => ⟨fun _ => rfl, fun _ => rfl⟩
  | [], _ :: _ => by simp [strL, Lib.compareBytes]
  | _ :: _, [] => by simp [strL, Lib.compareBytes]
  | x :: a, y :: b => by
    unfold strL Lib.compareBytes
    by_cases h : x < y
    · rw [if_pos h]
      constructor
      · intro e; exact absurd e (by decide)
      · intro e; injection e with e1 _; subst e1; exact absurd h (UInt8.lt_irrefl _)
    · rw [if_neg h]
      by_cases h2 : y < x
      · rw [if_pos h2]
        constructor
        · intro e; exact absurd e (by decide)
        · intro e; injection e with e1 _; subst e1; exact absurd h2 (UInt8.lt_irrefl _)
      · rw [if_neg h2]
        have e : x = y := UInt8.le_antisymm (UInt8.not_lt.1 h2) (UInt8.not_lt.1 h)
        subst e
        have := strL_zero (a := a) (b := b)
        constructor
        · intro k; rw [this.1 k]
        · intro k; injection k with _ k; exact this.2 k
theorem strL_three : ∀ (a b : List UInt8), strL a b = -1 ∨ strL a b = 0 ∨ strL a b = 1
  | [], [] => .inr (.inl rfl)
  | [], _ :: _ => .inl rfl
  | _ :: _, [] => .inr (.inr rfl)
  | x :: a, y :: b => by
    unfold strL Lib.compareBytes
    by_cases h : x < y
    · rw [if_pos h]; exact .inl rfl
    · rw [if_neg h]
      by_cases h2 : y < x
      · rw [if_pos h2]; exact .inr (.inr rfl)
      · rw [if_neg h2]; exact strL_three a b
theorem strL_less : ∀ (a b : List UInt8), Op.bytesLess a b = decide (strL a b = -1)
  | [], [] => rfl
  | [], _ :: _ => rfl
  | _ :: _, [] => rfl
  | x :: a, y :: b => by
    show (decide (x < y) || (x == y && Op.bytesLess a b)) = _
    unfold strL Lib.compareBytes
    by_cases h : x < y
    · rw [if_pos h, decide_eq_true h]; rfl
    · rw [if_neg h, decide_eq_false h]
      by_cases h2 : y < x
      · rw [if_pos h2]
        have e : (x == y) = false := by
          rw [beq_eq_false_iff_ne]
          intro e; subst e; exact UInt8.lt_irrefl _ h2
        rw [e]; rfl
      · rw [if_neg h2]
        have e : x = y := UInt8.le_antisymm (UInt8.not_lt.1 h2) (UInt8.not_lt.1 h)
        subst e
        rw [strL_less a b]
        simp
def or3 (a b c : Int) : Int := if a = 0 then (if b = 0 then c else b) else a
theorem or3_zero {a b c : Int} : or3 a b c = 0 ↔ a = 0 ∧ b = 0 ∧ c = 0 := by unfold or3; (repeat' split) <;> omega

namespace VT
/-- The order of the roots alone. -/
def cmpR (x y : VT) : Int := or3 (sgnI x.k y.k) (sgnI x.n y.n) (strL x.s.toList y.s.toList)
/-- The order of values. -/
def cmp : VT → VT → Int
  | .mk k n s len kids, y => if or3 (sgnI k y.k) (sgnI n y.n) (strL s.toList y.s.toList) ≠ 0 then or3 (sgnI k y.k) (sgnI n y.n) (strL s.toList y.s.toList) else
      if firstNZ (fun i => if h : i < len then cmp (kids ⟨i, h⟩) (y.kid i) else 0) (min len y.len) = 0 then sgnI len y.len else firstNZ (fun i => if h : i < len then cmp (kids ⟨i, h⟩) (y.kid i) else 0) (min len y.len)
/-- How two lists of items stand to each other. -/
def cmpL (x y : VT) : Int := if firstNZ (fun i => cmp (x.kid i) (y.kid i)) (min x.len y.len) = 0 then sgnI x.len y.len else firstNZ (fun i => cmp (x.kid i) (y.kid i)) (min x.len y.len)
theorem cmpL_at {x y : VT} {k : Nat} (hu : ∀ i, i < k → cmp (x.kid i) (y.kid i) = 0) (h1 : k < x.len) (h2 : k < y.len) (h : cmp (x.kid k) (y.kid k) ≠ 0) : cmpL x y = cmp (x.kid k) (y.kid k) := by
  have e := firstNZ_at (f := fun i => cmp (x.kid i) (y.kid i)) hu h (n := min x.len y.len) (by omega)
  unfold cmpL
  rw [e, if_neg h]
theorem cmpL_zero {x y : VT} {k : Nat} (hu : ∀ i, i < k → cmp (x.kid i) (y.kid i) = 0) (hk : k = min x.len y.len) : cmpL x y = sgnI x.len y.len := by
  unfold cmpL
  rw [if_pos (firstNZ_zero.2 fun i hi => hu i (by omega))]
theorem cmp_eq (x y : VT) : cmp x y = if cmpR x y ≠ 0 then cmpR x y else cmpL x y := by
  cases x with
  | mk k n s len kids =>
    have e : firstNZ (fun i => if h : i < len then cmp (kids ⟨i, h⟩) (y.kid i) else 0) (min len y.len) = firstNZ (fun i => cmp ((mk k n s len kids).kid i) (y.kid i)) (min len y.len) :=
      firstNZ_congr fun i hi => by have hil : i < len := by omega
                                   rw [dif_pos hil, kid_mk hil]
    show (if or3 _ _ _ ≠ 0 then _ else if firstNZ _ _ = 0 then _ else _) = _
    rw [e]
    rfl
/-- Alike? -/
def sameB : VT → VT → Bool
  | .mk k n s len kids, y => (decide (k = y.k) && (decide (n = y.n) && decide (s.toList = y.s.toList))) && (decide (len = y.len) && allTo (fun i => if h : i < len then sameB (kids ⟨i, h⟩) (y.kid i) else false) len)
theorem sameB_eq (x y : VT) : sameB x y = ((decide (x.k = y.k) && (decide (x.n = y.n) && decide (x.s.toList = y.s.toList))) && (decide (x.len = y.len) && allTo (fun i => sameB (x.kid i) (y.kid i)) x.len)) := by
  cases x with
  | mk k n s len kids =>
    have e : allTo (fun i => if h : i < len then sameB (kids ⟨i, h⟩) (y.kid i) else false) len = allTo (fun i => sameB ((mk k n s len kids).kid i) (y.kid i)) len :=
      allTo_congr fun i hi => by rw [dif_pos hi, kid_mk hi]
    show ((decide (k = y.k) && (decide (n = y.n) && decide (s.toList = y.s.toList))) && (decide (len = y.len) && allTo _ len)) = _
    rw [e]
    rfl
theorem cmpL_sgn (x y : VT) : cmpL x y = 0 ↔ x.len = y.len ∧ ∀ i, i < x.len → cmp (x.kid i) (y.kid i) = 0 := by
  unfold cmpL
  by_cases h : firstNZ (fun i => cmp (x.kid i) (y.kid i)) (min x.len y.len) = 0
  · rw [if_pos h, sgnI_zero]
    constructor
    · intro e
      have e : x.len = y.len := by omega
      exact ⟨e, fun i hi => firstNZ_zero.1 h i (by omega)⟩
    · intro e; omega
  · rw [if_neg h]
    constructor
    · intro e; exact absurd e h
    · rintro ⟨e, hk⟩; exact absurd (firstNZ_zero.2 fun i hi => hk i (by omega)) h
theorem cmpR_zero (x y : VT) : cmpR x y = 0 ↔ x.k = y.k ∧ x.n = y.n ∧ x.s.toList = y.s.toList := by
  unfold cmpR
  rw [or3_zero, sgnI_zero, sgnI_zero, strL_zero]
theorem cmp_zero : ∀ x y : VT, cmp x y = 0 ↔ sameB x y = true := by
  intro x
  induction x using ind with
  | h x ih =>
    intro y
    rw [cmp_eq, sameB_eq]
    by_cases hk : cmpR x y = 0
    · rw [if_neg (by simp [hk]), cmpL_sgn]
      obtain ⟨h1, h2, h3⟩ := (cmpR_zero x y).1 hk
      simp only [h1, h2, h3, decide_true, Bool.true_and, Bool.and_eq_true, decide_eq_true_eq, allTo_true]
      constructor
      · rintro ⟨h1, h2⟩; exact ⟨h1, fun i hi => (ih i hi _).1 (h2 i hi)⟩
      · rintro ⟨h1, h2⟩; exact ⟨h1, fun i hi => (ih i hi _).2 (h2 i hi)⟩
    · rw [if_pos hk]
      constructor
      · intro e; exact absurd e hk
      · intro e
        simp only [Bool.and_eq_true, decide_eq_true_eq] at e
        exact absurd ((cmpR_zero x y).2 ⟨e.1.1, e.1.2.1, e.1.2.2⟩) hk
theorem sameB_refl : ∀ x : VT, sameB x x = true := by
  intro x
  induction x using ind with
  | h x ih =>
    rw [sameB_eq, allTo_true.2 ih]
    simp
end VT

/-- What Cmp answers. -/
def VT.cmpB (x y : VT) : Int := if x.okB = true ∧ y.okB = true then VT.cmp x y else 0

end Go.Proofs.YtbgpipdbnjoeeaaDoor
