/-
  A bag of ints: Count over this seat's translation. Conditions: those that each theorem states.
-/
import Derived.Test.YtfjipkkhjjpaiaaBagIsT
import Derived.Deep.RegionHeld3
namespace Go.Proofs.Ytfjipkkhjjpaiaa
open Go.Shelf Go.RowKit Go.Lib Go.Sort St

theorem seek_facts_I {b B : Nat} {xs : List Int} {W : World} (h : BagI W b B xs) : ∃ p cap, W.cell? ⟨b, 0, none⟩ = some (.func (.func 11) #[] #[]) ∧ W.cell? ⟨b, 1, none⟩ = some (.slice p xs.length cap) ∧
    (∀ i, i < xs.length → ∃ g, p = some ⟨g, 0, none⟩ ∧ (W.cell? ⟨g, i, none⟩ = some (.int .i64 (xs.getD i default)))) ∧
    (∀ i j, i ≤ j → j < xs.length → (xs.getD i default) ≤ (xs.getD j default)) := by
  obtain ⟨sv, h1, h2⟩ := h.box
  obtain ⟨p, cap, rfl, _, hc⟩ := rowI_at h2
  obtain ⟨c0, c1, _⟩ := cell_two h1
  have hd : ∀ i (hi : i < xs.length), xs.getD i default = xs[i] := fun i hi => by rw [List.getD_eq_getElem?_getD, List.getElem?_eq_getElem hi]; rfl
  refine ⟨p, cap, c0, c1, fun i hi => ?_, fun i j hij hj => ?_⟩
  · rw [hd i hi]; exact hc i hi
  · rw [hd i (by omega), hd j hj]
    by_cases e : i = j
    · subst e; exact Int.le_refl _
    · exact List.pairwise_iff_getElem.1 h.srt i j (by omega) hj (by omega)
theorem count_eq_I {xs : List Int} {x : Int} {p q : Nat} (hp : p ≤ xs.length) (hp1 : ∀ i, i < p → ¬ x < (xs.getD i default)) (hp2 : ∀ i, p ≤ i → i < xs.length → x < (xs.getD i default))
    (hq : q ≤ xs.length) (hq1 : ∀ i, i < q → ¬ x ≤ (xs.getD i default)) (hq2 : ∀ i, q ≤ i → i < xs.length → x ≤ (xs.getD i default)) :
    q ≤ p ∧ xs.countP (fun y => y == x) = p - q := by
  have hqp : q ≤ p := by
    by_cases h : q ≤ p
    · exact h
    · have h1 := hq1 p (by omega)
      have h2 := hp2 p (Nat.le_refl _) (by omega)
      omega
  refine ⟨hqp, ?_⟩
  have hd : ∀ i (hi : i < xs.length), xs.getD i default = xs[i] := fun i hi => by rw [List.getD_eq_getElem?_getD, List.getElem?_eq_getElem hi]; rfl
  have e : xs = xs.take q ++ ((xs.drop q).take (p - q) ++ xs.drop p) := by
    have h := List.take_append_drop (p - q) (xs.drop q)
    rw [List.drop_drop, show q + (p - q) = p from by omega] at h
    rw [h, List.take_append_drop]
  rw [e, List.countP_append, List.countP_append]
  have z1 : (xs.take q).countP (fun y => y == x) = 0 := by
    rw [List.countP_eq_zero]
    intro y hy
    obtain ⟨i, hi, rfl⟩ := List.getElem_of_mem hy
    rw [List.length_take] at hi
    rw [List.getElem_take]
    have := hq1 i (by omega)
    rw [hd i (by omega)] at this
    simp
    omega
  have z2 : (xs.drop p).countP (fun y => y == x) = 0 := by
    rw [List.countP_eq_zero]
    intro y hy
    obtain ⟨i, hi, rfl⟩ := List.getElem_of_mem hy
    rw [List.length_drop] at hi
    rw [List.getElem_drop]
    have := hp2 (p + i) (by omega) (by omega)
    rw [hd _ (by omega)] at this
    simp
    omega
  have z3 : ((xs.drop q).take (p - q)).countP (fun y => y == x) = p - q := by
    have hl : ((xs.drop q).take (p - q)).length = p - q := by rw [List.length_take, List.length_drop]; omega
    conv => rhs; rw [← hl]
    rw [List.countP_eq_length]
    intro y hy
    obtain ⟨i, hi, rfl⟩ := List.getElem_of_mem hy
    rw [hl] at hi
    rw [List.getElem_take, List.getElem_drop]
    have h1 := hp1 (q + i) (by omega)
    have h2 := hq2 (q + i) (by omega) (by omega)
    rw [hd _ (by omega)] at h1 h2
    simp
    omega
  omega

set_option maxHeartbeats 2000000 in
theorem count_I (b B : Nat) (xs : List Int) (x : Int) (W : World) (h : BagI W b B xs) (hn : xs.length ≤ 1000000) :
    Calls Try.prog 16 #[.pointer (some ⟨b, 0, none⟩), .int .i64 x] W fun e w' => e = .returned (.int .i64 (xs.countP (fun y => y == x) : Nat)) ∧ Below W.heap.size W w' := by
  have K1 := Lib.hid fun (W' : World) (hb : Below W.heap.size W W') => by
    obtain ⟨p, cap, c0, c1, hc, hm⟩ := seek_facts_I (h.below hb)
    exact behind_I b xs.length cap p (fun i => xs.getD i default) x W' c0 c1 hn hc hm
  have K2 := Lib.hid fun (W' : World) (hb : Below W.heap.size W W') => by
    obtain ⟨p, cap, c0, c1, hc, hm⟩ := seek_facts_I (h.below hb)
    exact ahead_I b xs.length cap p (fun i => xs.getD i default) x W' c0 c1 hn hc hm
  clear h
  go_enter Try.func16, Try.ntmps16
  go_wp2_with fail
  refine (K1.out W (Below.refl _ _)).mono ?_
  rintro e w1 ⟨⟨p, rfl, p1, p2, p3⟩, hb1⟩
  have HP := Lib.hid (And.intro p1 (And.intro p2 p3))
  have HB1 := Lib.hid hb1
  clear p1 p2 p3 hb1
  go_wp2_with fail
  refine (K2.out w1 HB1.out).mono ?_
  rintro e w2 ⟨⟨q, rfl, q1, q2, q3⟩, hb2⟩
  obtain ⟨hle, hcnt⟩ := count_eq_I (x := x) HP.out.1 (fun i hi => by have := HP.out.2.1 i hi; omega) (fun i i1 i2 => by have := HP.out.2.2 i i1 i2; omega) q1 (fun i hi => by have := q2 i hi; omega) (fun i i1 i2 => by have := q3 i i1 i2; omega)
  have hp1 := HP.out.1
  have hw : IntKind.i64.wrap ((p : Int) - (q : Int)) = ((p - q : Nat) : Int) := by rw [IntKind.wrap_i64] <;> omega
  have HB2 := Lib.hid (bT' HB1.out hb2 HB1.out.size)
  have HC := Lib.hid hcnt
  clear q1 q2 q3 hb2 hcnt
  go_wp2
  go_ret
  exact ⟨by rw [HC.out]; rfl, HB2.out⟩
set_option maxHeartbeats 1000000 in
theorem countNil_I (x : Int) (W : World) : Calls Try.prog 16 #[.pointer none, .int .i64 x] W fun e w' => e = .returned (.int .i64 0) ∧ Below W.heap.size W w' := by
  go_enter Try.func16, Try.ntmps16
  go_wp2
  go_ret
  exact ⟨rfl, Below.refl _ _⟩
end Go.Proofs.Ytfjipkkhjjpaiaa
