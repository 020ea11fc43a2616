/-
  A bag of items: Count over this seat's translation. Conditions: those that each theorem states.
-/
import Derived.Test.YtfjipkkhjjpaiaaBagCntI
import Derived.Deep.RegionHeld3
namespace Go.Proofs.Ytfjipkkhjjpaiaa
open Go.Shelf Go.RowKit Go.Lib Go.Sort St

theorem seek_facts_T {b B : Nat} {xs : List It} {W : World} (h : BagT W b B xs) : ∃ p cap, W.cell? ⟨b, 0, none⟩ = some (.func (.func 18) #[] #[]) ∧ W.cell? ⟨b, 1, none⟩ = some (.slice p xs.length cap) ∧
    (∀ i, i < xs.length → ∃ g, p = some ⟨g, 0, none⟩ ∧ (W.cell? ⟨g, i * 2, none⟩ = some (.int .i64 (xs.getD i default).1) ∧ W.cell? ⟨g, i * 2 + 1, none⟩ = some (.int .i64 (xs.getD i default).2))) ∧
    (∀ i j, i ≤ j → j < xs.length → (xs.getD i default).1 ≤ (xs.getD j default).1) := by
  obtain ⟨sv, h1, h2⟩ := h.box
  obtain ⟨p, cap, rfl, _, hc⟩ := rowT_at h2
  obtain ⟨c0, c1, _⟩ := cell_two h1
  have hd : ∀ i (hi : i < xs.length), xs.getD i default = xs[i] := fun i hi => by rw [List.getD_eq_getElem?_getD, List.getElem?_eq_getElem hi]; rfl
  refine ⟨p, cap, c0, c1, fun i hi => ?_, fun i j hij hj => ?_⟩
  · rw [hd i hi]; exact hc i hi
  · rw [hd i (by omega), hd j hj]
    by_cases e : i = j
    · subst e; exact Int.le_refl _
    · exact List.pairwise_iff_getElem.1 h.srt i j (by omega) hj (by omega)
theorem count_eq_T {xs : List It} {x : It} {p q : Nat} (hp : p ≤ xs.length) (hp1 : ∀ i, i < p → ¬ x.1 < (xs.getD i default).1) (hp2 : ∀ i, p ≤ i → i < xs.length → x.1 < (xs.getD i default).1)
    (hq : q ≤ xs.length) (hq1 : ∀ i, i < q → ¬ x.1 ≤ (xs.getD i default).1) (hq2 : ∀ i, q ≤ i → i < xs.length → x.1 ≤ (xs.getD i default).1) :
    q ≤ p ∧ xs.countP (fun y => y.1 == x.1) = p - q := by
  have hqp : q ≤ p := by
    by_cases h : q ≤ p
    · exact h
    · have h1 := hq1 p (by omega)
      have h2 := hp2 p (Nat.le_refl _) (by omega)
      omega
  refine ⟨hqp, ?_⟩
  have hd : ∀ i (hi : i < xs.length), xs.getD i default = xs[i] := fun i hi => by rw [List.getD_eq_getElem?_getD, List.getElem?_eq_getElem hi]; rfl
  have e : xs = xs.take q ++ ((xs.drop q).take (p - q) ++ xs.drop p) := by
    have h := List.take_append_drop (p - q) (xs.drop q)
    rw [List.drop_drop, show q + (p - q) = p from by omega] at h
    rw [h, List.take_append_drop]
  rw [e, List.countP_append, List.countP_append]
  have z1 : (xs.take q).countP (fun y => y.1 == x.1) = 0 := by
    rw [List.countP_eq_zero]
    intro y hy
    obtain ⟨i, hi, rfl⟩ := List.getElem_of_mem hy
    rw [List.length_take] at hi
    rw [List.getElem_take]
    have := hq1 i (by omega)
    rw [hd i (by omega)] at this
    simp
    omega
  have z2 : (xs.drop p).countP (fun y => y.1 == x.1) = 0 := by
    rw [List.countP_eq_zero]
    intro y hy
    obtain ⟨i, hi, rfl⟩ := List.getElem_of_mem hy
    rw [List.length_drop] at hi
    rw [List.getElem_drop]
    have := hp2 (p + i) (by omega) (by omega)
    rw [hd _ (by omega)] at this
    simp
    omega
  have z3 : ((xs.drop q).take (p - q)).countP (fun y => y.1 == x.1) = p - q := by
    have hl : ((xs.drop q).take (p - q)).length = p - q := by rw [List.length_take, List.length_drop]; omega
    conv => rhs; rw [← hl]
    rw [List.countP_eq_length]
    intro y hy
    obtain ⟨i, hi, rfl⟩ := List.getElem_of_mem hy
    rw [hl] at hi
    rw [List.getElem_take, List.getElem_drop]
    have h1 := hp1 (q + i) (by omega)
    have h2 := hq2 (q + i) (by omega) (by omega)
    rw [hd _ (by omega)] at h1 h2
    simp
    omega
  omega


set_option maxHeartbeats 4000000 in
theorem count_T (b B : Nat) (xs : List It) (x : It) (W : World) (h : BagT W b B xs) (hn : xs.length ≤ 1000000) :
    Calls Try.prog 23 #[.pointer (some ⟨b, 0, none⟩), .agg #[.int .i64 x.1, .int .i64 x.2]] W fun e w' => e = .returned (.int .i64 (xs.countP (fun y => y.1 == x.1) : Nat)) ∧ Below W.heap.size W w' := by
  have K1 := Lib.hid fun (W' : World) (hb : Below W.heap.size W W') => by
    obtain ⟨p, cap, c0, c1, hc, hm⟩ := seek_facts_T (h.below hb)
    exact behind_T b xs.length cap p (fun i => xs.getD i default) x W' c0 c1 hn hc hm
  have K2 := Lib.hid fun (W' : World) (hb : Below W.heap.size W W') => by
    obtain ⟨p, cap, c0, c1, hc, hm⟩ := seek_facts_T (h.below hb)
    exact ahead_T b xs.length cap p (fun i => xs.getD i default) x W' c0 c1 hn hc hm
  clear h
  have WB : Below W.heap.size W (W.alloc (.cells #[.int .i64 x.1, .int .i64 x.2] 41)) := bA' (Below.refl _ _) (Nat.le_refl _) _
  have q0 : (W.alloc (.cells #[.int .i64 x.1, .int .i64 x.2] 41)).cell? ⟨W.heap.size, 0, none⟩ = some (.int .i64 x.1) := by go_simp
  have q1 : (W.alloc (.cells #[.int .i64 x.1, .int .i64 x.2] 41)).cell? ⟨W.heap.size, 1, none⟩ = some (.int .i64 x.2) := by go_simp
  go_enter Try.func23, Try.ntmps23
  go_wp2_with fail
  generalize W.alloc (.cells #[.int .i64 x.1, .int .i64 x.2] 41) = W1 at *
  go_region_held3 (fun w' => w'.cell? ⟨W.heap.size, 0, none⟩ = some (.int .i64 x.1) ∧ w'.cell? ⟨W.heap.size, 1, none⟩ = some (.int .i64 x.2) ∧ Below W.heap.size W w')
    (first | exact ⟨q0, q1, Below.drew WB⟩ | (go_split_ands; exact ⟨kc' hb (by assumption), kc' hb (by assumption), bT2 (by assumption) hb⟩) | go_keep)
    (first
      | (go_at_call 44; refine (K1.out _ (by repeat (first | with_reducible assumption | with_reducible exact Below.refl _ _ | with_reducible refine Below.drew ?_ | with_reducible refine bT2 ?_ (by assumption)))).mono ?_; rintro e w8 ⟨⟨p, rfl, p1, p2, p3⟩, hb⟩; have HP := Lib.hid (And.intro p1 (And.intro p2 p3)); clear p1 p2 p3)
      | (go_at_call 46; refine (K2.out _ (by repeat (first | with_reducible assumption | with_reducible exact Below.refl _ _ | with_reducible refine Below.drew ?_ | with_reducible refine bT2 ?_ (by assumption)))).mono ?_; rintro e w8 ⟨⟨q, rfl, q1, q2, q3⟩, hb⟩; have HQ := Lib.hid (And.intro q1 (And.intro q2 q3)); clear q1 q2 q3))
  all_goals go_split_ands
  all_goals clear WB
  all_goals have WB : Below W.heap.size W w8 := by assumption
  all_goals have HW := Lib.hid WB
  all_goals obtain ⟨hle, hcnt⟩ := count_eq_T (x := x) HP.out.1 (fun i hi => by have := HP.out.2.1 i hi; omega) (fun i i1 i2 => by have := HP.out.2.2 i i1 i2; omega) HQ.out.1 (fun i hi => by have := HQ.out.2.1 i hi; omega) (fun i i1 i2 => by have := HQ.out.2.2 i i1 i2; omega)
  all_goals have hp1 := HP.out.1
  all_goals have hw : IntKind.i64.wrap ((p : Int) - (q : Int)) = ((p - q : Nat) : Int) := by rw [IntKind.wrap_i64] <;> omega
  all_goals rw [hw]
  all_goals have HC := Lib.hid hcnt
  all_goals clear hcnt
  all_goals go_wp2
  all_goals go_ret
  all_goals exact ⟨by rw [HC.out]; rfl, HW.out⟩
set_option maxHeartbeats 1000000 in
theorem countNil_T (x : It) (W : World) : Calls Try.prog 23 #[.pointer none, .agg #[.int .i64 x.1, .int .i64 x.2]] W fun e w' => e = .returned (.int .i64 0) ∧ Below W.heap.size W w' := by
  go_enter Try.func23, Try.ntmps23
  go_wp2
  go_ret
  exact ⟨rfl, bA' (Below.refl _ _) (Nat.le_refl _) _⟩
end Go.Proofs.Ytfjipkkhjjpaiaa
