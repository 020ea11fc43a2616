/-
  Plain mathematics of the order of values: it is one order. No condition but those that each theorem states.
-/
import Derived.Test.YtjkmgmcgbpnjhaaDoorOrdV
namespace Go.Proofs.YtjkmgmcgbpnjhaaDoor
open Go.RowKit Go.ChangeShapes Go.WideShapes Go.ChangeAt Go.Deep

def lex (a b : Int) : Int := if a = 0 then b else a
/-- What three answers of an order have to do with each other. -/
def Tri (a b d : Int) : Prop := (a ≤ 0 → b ≤ 0 → d ≤ 0 ∧ (d = 0 → a = 0 ∧ b = 0)) ∧ (a = 0 → b = 0 → d = 0)
theorem tri_lex {a b d a' b' d' : Int} (h : Tri a b d) (h' : Tri a' b' d') : Tri (lex a a') (lex b b') (lex d d') := by
  obtain ⟨h1, h2⟩ := h
  obtain ⟨h3, h4⟩ := h'
  unfold lex
  by_cases ea : a = 0 <;> by_cases eb : b = 0
  · have ed := h2 ea eb
    simp only [ea, eb, ed, if_true]
    exact ⟨h3, h4⟩
  · simp only [ea, eb, if_true, if_false]
    refine ⟨fun _ hb => ?_, fun _ hb => absurd hb eb⟩
    have h5 := h1 (by omega) hb
    have ed : d ≠ 0 := fun e => eb (h5.2 e).2
    rw [if_neg ed]
    exact ⟨h5.1, fun e => absurd e ed⟩
  · simp only [ea, eb, if_true, if_false]
    refine ⟨fun ha hb => ?_, fun ha _ => absurd ha ea⟩
    have h5 := h1 ha (by omega)
    have ed : d ≠ 0 := fun e => ea (h5.2 e).1
    rw [if_neg ed]
    exact ⟨h5.1, fun e => absurd e ed⟩
  · simp only [ea, eb, if_false]
    refine ⟨fun ha hb => ?_, fun ha _ => absurd ha ea⟩
    have h5 := h1 ha hb
    have ed : d ≠ 0 := fun e => ea (h5.2 e).1
    rw [if_neg ed]
    exact ⟨h5.1, fun e => absurd e ed⟩
theorem sgnI_tri (x y z : Int) : Tri (sgnI x y) (sgnI y z) (sgnI x z) := by
  unfold Tri sgnI
  (repeat' split) <;> omega
theorem sgnI_neg (x y : Int) : sgnI x y = -sgnI y x := by unfold sgnI; (repeat' split) <;> omega
theorem sgnI_three (x y : Int) : -1 ≤ sgnI x y ∧ sgnI x y ≤ 1 := by unfold sgnI; (repeat' split) <;> omega
theorem strL_neg : ∀ a b : List UInt8, strL a b = -strL b a
  | [], [] => rfl
  | [], _ :: _ => rfl
  | _ :: _, [] => rfl
  | x :: a, y :: b => by
    unfold strL Lib.compareBytes
    by_cases h : x < y
    · rw [if_pos h, if_neg (fun h2 => UInt8.lt_irrefl _ (UInt8.lt_trans h h2)), if_pos h]
    · rw [if_neg h]
      by_cases h2 : y < x
      · rw [if_pos h2, if_pos h2]; rfl
      · rw [if_neg h2, if_neg h2, if_neg h]; exact strL_neg a b
theorem strL_cons (x y : UInt8) (a b : List UInt8) : strL (x :: a) (y :: b) = lex (sgnI x.toNat y.toNat) (strL a b) := by
  unfold strL
  rw [Lib.compareBytes]
  unfold lex
  by_cases h : x < y
  · have : x.toNat < y.toNat := h
    rw [if_pos h, sgnI_lt (by omega)]; rfl
  · rw [if_neg h]
    by_cases h2 : y < x
    · have : y.toNat < x.toNat := h2
      rw [if_pos h2, sgnI_gt (by omega)]; rfl
    · have h3 : ¬ x.toNat < y.toNat := h
      have h4 : ¬ y.toNat < x.toNat := h2
      rw [if_neg h2, sgnI_eq (by omega)]; rfl
theorem strL_tri : ∀ a b c : List UInt8, Tri (strL a b) (strL b c) (strL a c)
  | [], [], [] => by unfold Tri strL; simp [Lib.compareBytes]
  | [], [], _ :: _ => by unfold Tri strL; simp [Lib.compareBytes]
  | [], _ :: _, [] => by unfold Tri strL; simp [Lib.compareBytes]
  | _ :: _, [], [] => by unfold Tri strL; simp [Lib.compareBytes]
  | [], _ :: _, _ :: _ => by
    show Tri (-1) _ (-1)
    unfold Tri; omega
  | _ :: _, [], _ :: _ => by
    show Tri 1 (-1) _
    unfold Tri; omega
  | _ :: _, _ :: _, [] => by
    show Tri _ 1 1
    unfold Tri; omega
  | x :: a, y :: b, z :: c => by
    rw [strL_cons, strL_cons, strL_cons]
    exact tri_lex (sgnI_tri _ _ _) (strL_tri a b c)
theorem strL_b (a b : List UInt8) : -1 ≤ strL a b ∧ strL a b ≤ 1 := by rcases strL_three a b with h | h | h <;> rw [h] <;> decide
theorem lex_neg (a b : Int) : lex (-a) (-b) = -lex a b := by unfold lex; (repeat' split) <;> omega
theorem lex_b {a b : Int} (h : -1 ≤ a ∧ a ≤ 1) (h2 : -1 ≤ b ∧ b ≤ 1) : -1 ≤ lex a b ∧ lex a b ≤ 1 := by unfold lex; split <;> omega
theorem or3_lex (a b c : Int) : or3 a b c = lex a (lex b c) := rfl

namespace VT
/-- How the first n things of f stand to the first m of g. -/
def fl : (n m : Nat) → (f g : Nat → VT) → Int
  | 0, 0, _, _ => 0
  | 0, _ + 1, _, _ => -1
  | _ + 1, 0, _, _ => 1
  | n + 1, m + 1, f, g => lex (cmp (f 0) (g 0)) (fl n m (fun i => f (i + 1)) (fun i => g (i + 1)))
theorem firstNZ_shift (h : Nat → Int) : ∀ n, firstNZ h (n + 1) = lex (h 0) (firstNZ (fun i => h (i + 1)) n)
  | 0 => by
    show (if (0 : Int) = 0 then h 0 else 0) = lex (h 0) 0
    unfold lex
    rw [if_pos rfl]
    split
    · assumption
    · rfl
  | n + 1 => by
    show (if firstNZ h (n + 1) = 0 then h (n + 1) else firstNZ h (n + 1)) = lex (h 0) (if firstNZ (fun i => h (i + 1)) n = 0 then h (n + 1) else firstNZ (fun i => h (i + 1)) n)
    rw [firstNZ_shift h n]
    unfold lex
    by_cases e : h 0 = 0
    · rw [if_pos e, if_pos e]
    · rw [if_neg e, if_neg e, if_neg e]
theorem fl_eq : ∀ (n m : Nat) (f g : Nat → VT), lex (firstNZ (fun i => cmp (f i) (g i)) (min n m)) (sgnI n m) = fl n m f g
  | 0, 0, _, _ => rfl
  | 0, m + 1, _, _ => by
    rw [Nat.min_eq_left (by omega)]
    show lex 0 (sgnI (0 : Nat) ((m + 1 : Nat) : Int)) = -1
    rw [sgnI_lt (by omega)]; rfl
  | n + 1, 0, _, _ => by
    rw [Nat.min_eq_right (by omega)]
    show lex 0 (sgnI ((n + 1 : Nat) : Int) (0 : Nat)) = 1
    rw [sgnI_gt (by omega)]; rfl
  | n + 1, m + 1, f, g => by
    rw [show min (n + 1) (m + 1) = min n m + 1 from by omega, firstNZ_shift]
    show _ = lex (cmp (f 0) (g 0)) (fl n m (fun i => f (i + 1)) (fun i => g (i + 1)))
    rw [← fl_eq n m]
    have e : sgnI ((n + 1 : Nat) : Int) ((m + 1 : Nat) : Int) = sgnI n m := by unfold sgnI; (repeat' split) <;> omega
    rw [e]
    unfold lex
    by_cases h0 : cmp (f 0) (g 0) = 0
    · simp only [h0, if_true]
    · simp only [h0, if_false]
theorem cmpL_fl (x y : VT) : cmpL x y = fl x.len y.len x.kid y.kid := (show cmpL x y = lex (firstNZ (fun i => cmp (x.kid i) (y.kid i)) (min x.len y.len)) (sgnI x.len y.len) from rfl).trans (fl_eq _ _ _ _)
theorem cmp_lex (x y : VT) : cmp x y = lex (cmpR x y) (fl x.len y.len x.kid y.kid) := by
  rw [cmp_eq, cmpL_fl]
  unfold lex
  by_cases h : cmpR x y = 0
  · rw [if_neg (by simp [h]), if_pos h]
  · rw [if_pos h, if_neg h]
theorem fl_tri : ∀ (n m k : Nat) (f g h : Nat → VT), (∀ i, i < n → Tri (cmp (f i) (g i)) (cmp (g i) (h i)) (cmp (f i) (h i))) → Tri (fl n m f g) (fl m k g h) (fl n k f h)
  | 0, 0, 0, _, _, _, _ => by unfold Tri fl; omega
  | 0, 0, k + 1, _, _, _, _ => by unfold Tri fl; omega
  | 0, m + 1, 0, _, _, _, _ => by unfold Tri fl; omega
  | n + 1, 0, 0, _, _, _, _ => by unfold Tri fl; omega
  | 0, m + 1, k + 1, f, g, h, _ => by
    show Tri (-1) _ (-1)
    unfold Tri; omega
  | n + 1, 0, k + 1, f, g, h, _ => by
    show Tri 1 (-1) _
    unfold Tri; omega
  | n + 1, m + 1, 0, f, g, h, _ => by
    show Tri _ 1 1
    unfold Tri; omega
  | n + 1, m + 1, k + 1, f, g, h, H => tri_lex (H 0 (by omega)) (fl_tri n m k _ _ _ fun i hi => H (i + 1) (by omega))
theorem fl_neg : ∀ (n m : Nat) (f g : Nat → VT), (∀ i, i < n → cmp (f i) (g i) = -cmp (g i) (f i)) → fl n m f g = -fl m n g f
  | 0, 0, _, _, _ => rfl
  | 0, _ + 1, _, _, _ => rfl
  | _ + 1, 0, _, _, _ => rfl
  | n + 1, m + 1, f, g, H => by
    show lex _ _ = -lex _ _
    rw [H 0 (by omega), fl_neg n m _ _ fun i hi => H (i + 1) (by omega), lex_neg]
theorem fl_b : ∀ (n m : Nat) (f g : Nat → VT), (∀ i, i < n → -1 ≤ cmp (f i) (g i) ∧ cmp (f i) (g i) ≤ 1) → -1 ≤ fl n m f g ∧ fl n m f g ≤ 1
  | 0, 0, _, _, _ => by unfold fl; decide
  | 0, _ + 1, _, _, _ => by unfold fl; decide
  | _ + 1, 0, _, _, _ => by unfold fl; decide
  | n + 1, m + 1, f, g, H => lex_b (H 0 (by omega)) (fl_b n m _ _ fun i hi => H (i + 1) (by omega))
theorem cmpR_tri (x y z : VT) : Tri (cmpR x y) (cmpR y z) (cmpR x z) := by
  unfold cmpR
  rw [or3_lex, or3_lex, or3_lex]
  exact tri_lex (sgnI_tri _ _ _) (tri_lex (sgnI_tri _ _ _) (strL_tri _ _ _))
theorem cmp_tri : ∀ x y z : VT, Tri (cmp x y) (cmp y z) (cmp x z) := by
  intro x
  induction x using ind with
  | h x ih =>
    intro y z
    rw [cmp_lex, cmp_lex, cmp_lex]
    exact tri_lex (cmpR_tri x y z) (fl_tri _ _ _ _ _ _ fun i hi => ih i hi _ _)
theorem cmp_neg : ∀ x y : VT, cmp x y = -cmp y x := by
  intro x
  induction x using ind with
  | h x ih =>
    intro y
    rw [cmp_lex, cmp_lex, fl_neg _ _ _ _ fun i hi => ih i hi _]
    have e : cmpR x y = -cmpR y x := by
      unfold cmpR
      rw [or3_lex, or3_lex, sgnI_neg x.k, sgnI_neg x.n, strL_neg x.s.toList, lex_neg, lex_neg]
    rw [e, lex_neg]
theorem cmp_b : ∀ x y : VT, -1 ≤ cmp x y ∧ cmp x y ≤ 1 := by
  intro x
  induction x using ind with
  | h x ih =>
    intro y
    rw [cmp_lex]
    refine lex_b ?_ (fl_b _ _ _ _ fun i hi => ih i hi _)
    unfold cmpR
    rw [or3_lex]
    exact lex_b (sgnI_three _ _) (lex_b (sgnI_three _ _) (strL_b _ _))
end VT
end Go.Proofs.YtjkmgmcgbpnjhaaDoor
