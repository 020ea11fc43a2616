/-
  The contracts of package value's SameType and of the given package gavotteref02's SameType over this seat's translation: whether two trees of types are alike. Conditions: those that each theorem states.
-/
import Derived.Test.YtbgpipdbnjoeeaaDoorTRightA
import Derived.Test.YtbgpipdbnjoeeaaDoorShelfV
namespace Go.Proofs.YtbgpipdbnjoeeaaDoor
open Go.RowKit Go.ChangeShapes Go.WideShapes Go.ChangeAt Go.Deep
attribute [local go_sem ↓] Go.wp_at_zero Go.wp_at_succ

/-- How one number stands to another. -/
def sgnI (x y : Int) : Int := if x < y then -1 else if y < x then 1 else 0
theorem sgnI_lt {x y : Int} (h : x < y) : sgnI x y = -1 := by unfold sgnI; rw [if_pos h]
theorem sgnI_gt {x y : Int} (h : y < x) : sgnI x y = 1 := by unfold sgnI; rw [if_neg (by omega), if_pos h]
theorem sgnI_eq {x y : Int} (h : x = y) : sgnI x y = 0 := by unfold sgnI; rw [if_neg (by omega), if_neg (by omega)]
theorem sgnI_zero {x y : Int} : sgnI x y = 0 ↔ x = y := by unfold sgnI; (repeat' split) <;> omega
theorem rint {k : IntKind} {a b : Int} (h : a = b) : Ending.returned (.int k a) = .returned (.int k b) := by rw [h]
/-- The first that isn't nought of those below n; nought, if there is none. -/
def firstNZ (f : Nat → Int) : Nat → Int
  | 0 => 0
  | n + 1 => if firstNZ f n = 0 then f n else firstNZ f n
theorem firstNZ_zero {f : Nat → Int} : ∀ {n : Nat}, firstNZ f n = 0 ↔ ∀ i, i < n → f i = 0
  | 0 => ⟨fun _ i h => by omega, fun _ => rfl⟩
  | n + 1 => by
    show (if firstNZ f n = 0 then f n else firstNZ f n) = 0 ↔ _
    constructor
    · intro h i hi
      by_cases h0 : firstNZ f n = 0
      · rw [if_pos h0] at h
        by_cases e : i = n
        · rw [e]; exact h
        · exact firstNZ_zero.1 h0 i (by omega)
      · rw [if_neg h0] at h; exact absurd h h0
    · intro h
      rw [if_pos (firstNZ_zero.2 fun i hi => h i (by omega))]
      exact h n (by omega)
theorem firstNZ_at {f : Nat → Int} {k : Nat} (hu : ∀ i, i < k → f i = 0) (hk : f k ≠ 0) : ∀ {n : Nat}, k < n → firstNZ f n = f k
  | 0, h => by omega
  | n + 1, h => by
    show (if firstNZ f n = 0 then f n else firstNZ f n) = f k
    by_cases e : k = n
    · subst e
      rw [if_pos (firstNZ_zero.2 hu)]
    · rw [firstNZ_at hu hk (n := n) (by omega), if_neg hk]
theorem firstNZ_congr {f g : Nat → Int} : ∀ {n : Nat}, (∀ i, i < n → f i = g i) → firstNZ f n = firstNZ g n
  | 0, _ => rfl
  | n + 1, h => by
    show (if firstNZ f n = 0 then f n else firstNZ f n) = (if firstNZ g n = 0 then g n else firstNZ g n)
    rw [firstNZ_congr (n := n) fun i hi => h i (by omega), h n (by omega)]
theorem allTo_congr {f g : Nat → Bool} : ∀ {n : Nat}, (∀ i, i < n → f i = g i) → allTo f n = allTo g n
  | 0, _ => rfl
  | n + 1, h => by
    show (allTo f n && f n) = (allTo g n && g n)
    rw [allTo_congr (n := n) fun i hi => h i (by omega), h n (by omega)]

namespace TT
/-- The order of types. -/
def cmp : TT → TT → Int
  | .mk k len kids, y => if sgnI k y.k ≠ 0 then sgnI k y.k else
      if firstNZ (fun i => if h : i < len then cmp (kids ⟨i, h⟩) (y.kid i) else 0) (min len y.len) = 0 then sgnI len y.len else firstNZ (fun i => if h : i < len then cmp (kids ⟨i, h⟩) (y.kid i) else 0) (min len y.len)
/-- How two lists of items stand to each other. -/
def cmpL (x y : TT) : Int := if firstNZ (fun i => cmp (x.kid i) (y.kid i)) (min x.len y.len) = 0 then sgnI x.len y.len else firstNZ (fun i => cmp (x.kid i) (y.kid i)) (min x.len y.len)
theorem cmpL_at {x y : TT} {k : Nat} (hu : ∀ i, i < k → cmp (x.kid i) (y.kid i) = 0) (h1 : k < x.len) (h2 : k < y.len) (h : cmp (x.kid k) (y.kid k) ≠ 0) : cmpL x y = cmp (x.kid k) (y.kid k) := by
  have e := firstNZ_at (f := fun i => cmp (x.kid i) (y.kid i)) hu h (n := min x.len y.len) (by omega)
  unfold cmpL
  rw [e, if_neg h]
theorem cmpL_zero {x y : TT} {k : Nat} (hu : ∀ i, i < k → cmp (x.kid i) (y.kid i) = 0) (hk : k = min x.len y.len) : cmpL x y = sgnI x.len y.len := by
  unfold cmpL
  rw [if_pos (firstNZ_zero.2 fun i hi => hu i (by omega))]
theorem cmp_eq (x y : TT) : cmp x y = if sgnI x.k y.k ≠ 0 then sgnI x.k y.k else cmpL x y := by
  cases x with
  | mk k len kids =>
    have e : firstNZ (fun i => if h : i < len then cmp (kids ⟨i, h⟩) (y.kid i) else 0) (min len y.len) = firstNZ (fun i => cmp ((mk k len kids).kid i) (y.kid i)) (min len y.len) :=
      firstNZ_congr fun i hi => by have hil : i < len := by omega
                                   rw [dif_pos hil, kid_mk hil]
    show (if sgnI k y.k ≠ 0 then sgnI k y.k else if firstNZ _ _ = 0 then _ else _) = _
    rw [e]
    rfl
/-- Alike? -/
def sameB : TT → TT → Bool
  | .mk k len kids, y => decide (k = y.k) && (decide (len = y.len) && allTo (fun i => if h : i < len then sameB (kids ⟨i, h⟩) (y.kid i) else false) len)
theorem sameB_eq (x y : TT) : sameB x y = (decide (x.k = y.k) && (decide (x.len = y.len) && allTo (fun i => sameB (x.kid i) (y.kid i)) x.len)) := by
  cases x with
  | mk k len kids =>
    have e : allTo (fun i => if h : i < len then sameB (kids ⟨i, h⟩) (y.kid i) else false) len = allTo (fun i => sameB ((mk k len kids).kid i) (y.kid i)) len :=
      allTo_congr fun i hi => by rw [dif_pos hi, kid_mk hi]
    show (decide (k = y.k) && (decide (len = y.len) && allTo _ len)) = _
    rw [e]
    rfl
theorem cmpL_sgn (x y : TT) : cmpL x y = 0 ↔ x.len = y.len ∧ ∀ i, i < x.len → cmp (x.kid i) (y.kid i) = 0 := by
  unfold cmpL
  by_cases h : firstNZ (fun i => cmp (x.kid i) (y.kid i)) (min x.len y.len) = 0
  · rw [if_pos h, sgnI_zero]
    constructor
    · intro e
      have e : x.len = y.len := by omega
      exact ⟨e, fun i hi => firstNZ_zero.1 h i (by omega)⟩
    · intro e; omega
  · rw [if_neg h]
    constructor
    · intro e; exact absurd e h
    · rintro ⟨e, hk⟩; exact absurd (firstNZ_zero.2 fun i hi => hk i (by omega)) h
theorem cmp_zero : ∀ x y : TT, cmp x y = 0 ↔ sameB x y = true := by
  intro x
  induction x using ind with
  | h x ih =>
    intro y
    rw [cmp_eq, sameB_eq]
    by_cases hk : x.k = y.k
    · rw [if_neg (by rw [sgnI_eq hk]; simp), cmpL_sgn]
      simp only [hk, decide_true, Bool.true_and, Bool.and_eq_true, decide_eq_true_eq, allTo_true]
      constructor
      · rintro ⟨h1, h2⟩; exact ⟨h1, fun i hi => (ih i hi _).1 (h2 i hi)⟩
      · rintro ⟨h1, h2⟩; exact ⟨h1, fun i hi => (ih i hi _).2 (h2 i hi)⟩
    · have hs : sgnI x.k y.k ≠ 0 := fun e => hk (sgnI_zero.1 e)
      rw [if_pos hs]
      constructor
      · intro e; exact absurd e hs
      · simp [hk]
theorem sameB_refl : ∀ x : TT, sameB x x = true := by
  intro x
  induction x using ind with
  | h x ih =>
    rw [sameB_eq, allTo_true.2 ih]
    simp
end TT

end Go.Proofs.YtbgpipdbnjoeeaaDoor
