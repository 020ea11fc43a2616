/-
  The mathematics of a ring: a list that lies in a list of greater length, from a place on, round about. No condition but those that each theorem states.
-/
import Derived.Test.YtgolbeoaomgmcaaRows
namespace Qu
/-- What lies in a ring, from its first place on. -/
structure Ring (R : List Int) (f : Nat) (xs : List Int) : Prop where
  fit : xs.length ≤ R.length
  first : 0 < R.length → f < R.length
  zero : R.length = 0 → f = 0
  is : ∀ i (h : i < xs.length), R[(f + i) % R.length]? = some xs[i]
theorem mod_ne {L f i j : Nat} (h1 : i < j) (h2 : j < i + L) : (f + i) % L ≠ (f + j) % L := by
  intro h
  have h3 := Nat.sub_mod_eq_zero_of_mod_eq h.symm
  rw [show f + j - (f + i) = j - i from by omega, Nat.mod_eq_of_lt (by omega)] at h3
  omega
theorem Ring.push {R : List Int} {f : Nat} {xs : List Int} (h : Ring R f xs) (hn : xs.length < R.length) (x : Int) : Ring (R.set ((f + xs.length) % R.length) x) f (xs ++ [x]) := by
  refine ⟨by simp; omega, fun h0 => by simpa using h.first (by simpa using h0), fun h0 => h.zero (by simpa using h0), fun i hi => ?_⟩
  rw [List.length_set]
  by_cases e : i = xs.length
  · subst e
    rw [List.getElem?_set_self (Nat.mod_lt _ (by omega))]
    simp
  · have hlt : i < xs.length := by
      rw [List.length_append, List.length_singleton] at hi
      omega
    rw [List.getElem?_set_ne (Ne.symm (mod_ne hlt (by omega))), h.is i hlt, List.getElem_append_left hlt]
theorem Ring.pop {R : List Int} {f : Nat} {x : Int} {xs : List Int} (h : Ring R f (x :: xs)) : Ring (R.set f 0) ((f + 1) % R.length) xs := by
  have hf := h.fit
  rw [List.length_cons] at hf
  refine ⟨by rw [List.length_set]; omega, fun _ => by rw [List.length_set]; exact Nat.mod_lt _ (by omega), fun h0 => by rw [List.length_set] at h0; omega, fun i hi => ?_⟩
  have hlt := h.first (by omega)
  have h1 := h.is (i + 1) (by rw [List.length_cons]; omega)
  have h2 := mod_ne (L := R.length) (f := f) (i := 0) (j := i + 1) (by omega) (by omega)
  rw [Nat.add_zero, Nat.mod_eq_of_lt hlt] at h2
  rw [List.length_set, Nat.mod_add_mod, show f + 1 + i = f + (i + 1) from by omega, List.getElem?_set_ne h2, h1]
  rfl
theorem Ring.head {R : List Int} {f : Nat} {x : Int} {xs : List Int} (h : Ring R f (x :: xs)) : R[f]? = some x ∧ f < R.length ∧ 0 < R.length := by
  have hf := h.fit
  rw [List.length_cons] at hf
  have hlt := h.first (by omega)
  have h1 := h.is 0 (by rw [List.length_cons]; omega)
  rw [Nat.add_zero, Nat.mod_eq_of_lt hlt] at h1
  exact ⟨h1, hlt, by omega⟩
/-- A list straightened so far. -/
def str (xs : List Int) (n k : Nat) : List Int := xs.take k ++ List.replicate (n - k) 0
theorem str_len {xs : List Int} {n k : Nat} (h1 : xs.length ≤ n) (h2 : k ≤ xs.length) : (str xs n k).length = n := by
  unfold str
  rw [List.length_append, List.length_take, List.length_replicate]
  omega
theorem str_zero (xs : List Int) (n : Nat) : str xs n 0 = List.replicate n 0 := by simp [str]
theorem str_step {xs : List Int} {n k : Nat} (h1 : xs.length ≤ n) (h2 : k < xs.length) : (str xs n k).set k xs[k] = str xs n (k + 1) := by
  apply List.ext_getElem?
  intro i
  have m1 : min k xs.length = k := by omega
  have m2 : min (k + 1) xs.length = k + 1 := by omega
  unfold str
  rw [List.getElem?_set]
  simp only [List.length_append, List.length_take, List.length_replicate, List.getElem?_append, List.getElem?_take, List.getElem?_replicate, m1, m2]
  by_cases e : k = i
  · subst e
    rw [List.getElem?_eq_getElem h2]
    repeat' split
    all_goals first | rfl | (exfalso; omega)
  · rw [if_neg e]
    repeat' split
    all_goals first | rfl | (exfalso; omega)
theorem str_ring {xs : List Int} {n : Nat} (h1 : xs.length ≤ n) : Ring (str xs n xs.length) 0 xs := by
  have hl := str_len h1 (Nat.le_refl xs.length)
  refine ⟨by omega, fun h => h, fun _ => rfl, fun i hi => ?_⟩
  rw [hl, Nat.zero_add, Nat.mod_eq_of_lt (by omega)]
  unfold str
  rw [List.take_length, List.getElem?_append_left hi, List.getElem?_eq_getElem hi]
end Qu
