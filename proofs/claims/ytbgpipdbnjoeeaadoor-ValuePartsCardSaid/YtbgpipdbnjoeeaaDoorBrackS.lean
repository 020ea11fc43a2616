/-
  The contracts of package value's brackets over this seat's translation: a tuple's text, of the texts of its items. Conditions: those that each theorem states.
-/
import Derived.Test.YtbgpipdbnjoeeaaDoorEachS
import Derived.Test.YtbgpipdbnjoeeaaDoorShelfV
namespace Go.Proofs.YtbgpipdbnjoeeaaDoor
open Go.RowKit Go.ChangeShapes Go.WideShapes Go.ChangeAt Go.Deep
attribute [local go_sem ↓] Go.wp_at_zero Go.wp_at_succ

/-- A text of bytes. -/
abbrev bs (l : List UInt8) : ByteArray := ⟨l.toArray⟩
theorem bs_app (a l : List UInt8) : bs a ++ bs l = bs (a ++ l) := by
  apply ByteArray.ext
  rw [ByteArray.data_append]
  simp
theorem bs_list (l : List UInt8) : (bs l).data.toList = l := rfl
theorem bs_size (l : List UInt8) : (bs l).size = l.length := by simp [ByteArray.size]

/-- What stands between a tuple's brackets, but for the comma of one alone. -/
def joinL (S : Nat → List UInt8) (n : Nat) : List UInt8 := Lib.join ((List.range n).map S) [44, 32]
theorem joinTail_len (sep : List UInt8) (B : Nat) : ∀ (r : List (List UInt8)), (∀ x ∈ r, x.length ≤ B) → (Lib.joinTail sep r).length ≤ r.length * (sep.length + B)
  | [], _ => by simp [Lib.joinTail]
  | y :: r, h => by
    have e : Lib.joinTail sep (y :: r) = (sep ++ y) ++ Lib.joinTail sep r := by simp [Lib.joinTail]
    rw [e, List.length_append, List.length_append, List.length_cons, Nat.succ_mul]
    have h1 := joinTail_len sep B r (fun x hx => h x (List.mem_cons_of_mem _ hx))
    have h2 := h y (List.mem_cons_self ..)
    omega
theorem joinL_len (S : Nat → List UInt8) (n B : Nat) (h : ∀ i, i < n → (S i).length ≤ B) : (joinL S n).length ≤ n * (B + 2) := by
  unfold joinL
  cases n with
  | zero => simp [Lib.join_nil]
  | succ n =>
    rw [List.range_succ_eq_map, List.map_cons, Lib.join_cons, List.length_append]
    have h1 := joinTail_len [44, 32] B ((List.range n).map (S ∘ Nat.succ)) (fun x hx => by
      obtain ⟨i, hi, rfl⟩ := List.mem_map.1 hx
      exact h (i + 1) (by have := List.mem_range.1 hi; omega))
    have h2 := h 0 (by omega)
    simp only [List.map_map, List.length_map, List.length_range, List.length_cons, List.length_nil] at h1 ⊢
    rw [Nat.succ_mul]
    have e : n * (0 + 1 + 1 + B) = n * (B + 2) := by congr 1; omega
    omega
def tupL (S : Nat → List UInt8) (n : Nat) : List UInt8 := 40 :: (joinL S n ++ ((if n = 1 then [44] else []) ++ [41]))
theorem tupL_len (S : Nat → List UInt8) (n B : Nat) (h : ∀ i, i < n → (S i).length ≤ B) : (tupL S n).length ≤ n * (B + 2) + 3 := by
  have := joinL_len S n B h
  unfold tupL
  rw [List.length_cons, List.length_append, List.length_append]
  split <;> simp <;> omega

theorem join_row (bk n : Nat) (S : Nat → List UInt8) (w : World) (hr : w.rowIs bk 9 n (fun i => .string (bs (S i)))) (hn : n ≤ 1000) (hl : (joinL S n).length ≤ 100000000) :
    Calls Tryd.prog 43 #[.slice (some ⟨bk, 0, none⟩) n n, .string ⟨#[44, 32]⟩] w fun e w' => e = .returned (.string (bs (joinL S n))) ∧ Below w.heap.size w w' := by
  have h := Tryd.strings_Join bk 0 n ((List.range n).map fun i => bs (S i)) ⟨#[44, 32]⟩ w (fun j x hx => by
    rw [List.getElem?_map] at hx
    by_cases hj : j < n
    · rw [List.getElem?_eq_getElem (by simpa using hj)] at hx
      simp at hx
      subst hx
      simpa using hr.cell hj
    · rw [List.getElem?_eq_none (by simpa using hj)] at hx
      cases hx) hr.lt (by simp; omega) (by simp) (by
    rw [List.map_map]
    have : (Lib.join ((List.range n).map ((fun x : ByteArray => x.data.toList) ∘ fun i => bs (S i))) [44, 32]).length ≤ 100000000 := hl
    exact Nat.le_trans this (by omega))
  rw [List.map_map, List.length_map, List.length_range] at h
  exact h
theorem rstr {a b : ByteArray} (h : a = b) : Ending.returned (.string a) = .returned (.string b) := by rw [h]

set_option maxHeartbeats 1000000 in
theorem bracketsV_c (E : World → Prop) (hE : Stays E) (t : VT) (h1 : 1 ≤ t.len) (h4 : t.len ≤ 20) (S : Nat → List UInt8) (hS : ∀ i, i < t.len → (S i).length ≤ 10000)
    (ih : ∀ i, i < t.len → ∀ (sl : Value) (w : World), E w → VT.In w (t.kid i) sl → Calls Tryd.prog 24 #[(t.kid i).val sl] w fun e w' => e = .returned (.string (bs (S i))) ∧ Below w.heap.size w w')
    (sl : Value) (w : World) (he : E w) (hin : VT.In w t sl) :
    Calls Tryd.prog 36 #[sl, .func (.func 24) #[] #[]] w fun e w' => e = .returned (.string (bs (tupL S t.len))) ∧ Below w.heap.size w w' := by
  have ke := eachVS_c E hE t h1 h4 (fun i => bs (S i)) ih sl w he hin
  have KE := Lib.hid ke
  obtain ⟨_, _, _, hl, p, cap, rfl, hlc, hcap, hk⟩ := hin.out
  have hj := joinL_len S t.len 10000 hS
  have hjl : (joinL S t.len).length ≤ 100000000 := by
    have : t.len * (10000 + 2) ≤ 20 * (10000 + 2) := Nat.mul_le_mul_right _ h4
    omega
  have KJ := fun bk w hr => Lib.hid (join_row bk t.len S w hr (by omega) hjl)
  have HJ := Lib.hid KJ
  clear ke hk hin ih he KJ hj hS
  have hl1 : ¬ 9223372036854775807 < (joinL S t.len).length := by omega
  have hl2 : ¬ 9223372036854775807 < (joinL S t.len).length + 1 := by omega
  have hl3 : ¬ 9223372036854775807 < 1 + (joinL S t.len).length := by omega
  have hl4 : ¬ 9223372036854775807 < 1 + (joinL S t.len).length + 1 := by omega
  have hl5 : ¬ 9223372036854775807 < 1 + ((joinL S t.len).length + 1) := by omega
  have hl6 : ¬ 9223372036854775807 < 1 + ((joinL S t.len).length + 1) + 1 := by omega
  by_cases h : t.len = 1
  · have hz : ((t.len : Int) == 1) = true := by simp [h]
    have ht : bs (tupL S t.len) = bs [40] ++ (bs (joinL S t.len) ++ bs [44]) ++ bs [41] := by rw [bs_app, bs_app, bs_app]; unfold tupL; rw [if_pos h]; simp
    have HT := Lib.hid ht
    clear ht h
    generalize joinL S t.len = L at *
    go_enter Tryd.func36, Tryd.ntmps36
    go_wp2_with (first
      | (go_at_call 44; go_must (refine KE.out.mono ?_); rintro e w3 ⟨bk, rfl, hrow, hb⟩; have HR := Lib.hid hrow; clear hrow)
      | (go_at_call 43; go_must (refine (HJ.out _ _ HR.out).out.mono ?_); rintro e w4 ⟨rfl, hb2⟩))
    go_ret
    exact ⟨rstr HT.out.symm, bT hb hb2⟩
  · have hz : ((t.len : Int) == 1) = false := by simp; omega
    have ht : bs (tupL S t.len) = bs [40] ++ bs (joinL S t.len) ++ bs [41] := by rw [bs_app, bs_app]; unfold tupL; rw [if_neg h]; simp
    have HT := Lib.hid ht
    clear ht h
    generalize joinL S t.len = L at *
    go_enter Tryd.func36, Tryd.ntmps36
    go_wp2_with (first
      | (go_at_call 44; go_must (refine KE.out.mono ?_); rintro e w3 ⟨bk, rfl, hrow, hb⟩; have HR := Lib.hid hrow; clear hrow)
      | (go_at_call 43; go_must (refine (HJ.out _ _ HR.out).out.mono ?_); rintro e w4 ⟨rfl, hb2⟩))
    go_ret
    exact ⟨rstr HT.out.symm, bT hb hb2⟩
end Go.Proofs.YtbgpipdbnjoeeaaDoor
