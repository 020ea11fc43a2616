/-
  What a bag of ints looks like in memory, and its Len and At over this seat's translation. Conditions: those that each theorem states.
-/
import Derived.Test.YtfjipkkhjjpaiaaBagSeekT
import Derived.Laws.OwnMore
namespace Go.Proofs.Ytfjipkkhjjpaiaa
open Go.Shelf Go.RowKit Go.Lib Go.Sort St

/-- A bag in block b: its row is one of the blocks from B on. -/
structure BagI (W : World) (b B : Nat) (xs : List Int) : Prop where
  box : ∃ sv, W.heap[b]? = some (.cells #[.func (.func 11) #[] #[], sv] 71 (0, 0)) ∧ W.ownsRow B 3 1 sv xs.length (xs.map (Value.int .i64))
  base : B ≤ b
  srt : xs.Pairwise (fun x y => x ≤ y)
theorem BagI.below {W W' : World} {b B : Nat} {xs : List Int} (h : BagI W b B xs) (hb : Below W.heap.size W W') : BagI W' b B xs := by
  obtain ⟨sv, h1, h2⟩ := h.box
  refine ⟨⟨sv, (hb.block b (Array.getElem?_eq_some_iff.1 h1).1).trans h1, h2.1, ?_⟩, h.base, h.srt⟩
  rcases h2.2 with h3 | ⟨g, cap, cur, e, hB, hg, rest⟩
  · exact .inl h3
  · exact .inr ⟨g, cap, cur, e, hB, (hb.block g (Array.getElem?_eq_some_iff.1 hg).1).trans hg, rest⟩
theorem cell_two {W : World} {b : Nat} {u v : Value} {t : TypeId} (h : W.heap[b]? = some (.cells #[u, v] t (0, 0))) : W.cell? ⟨b, 0, none⟩ = some u ∧ W.cell? ⟨b, 1, none⟩ = some v ∧ W.frozen? ⟨b, 1, none⟩ = false := by
  refine ⟨?_, ?_, by simp [World.frozen?, h]⟩
  · unfold World.cell?; rw [h]; rfl
  · unfold World.cell?; rw [h]; rfl
theorem rowI_at {W : World} {B : Nat} {sv : Value} {xs : List Int} (h : W.ownsRow B 3 1 sv xs.length (xs.map (Value.int .i64))) : ∃ p cap, sv = .slice p xs.length cap ∧ xs.length ≤ maxLen ∧ ∀ i (hi : i < xs.length), ∃ g, p = some ⟨g, 0, none⟩ ∧ W.cell? ⟨g, i, none⟩ = some (.int .i64 xs[i]) := by
  rcases id h.2 with ⟨rfl, e⟩ | ⟨g, cap, cur, rfl, _, _, h1, h2, _⟩
  · exact ⟨none, 0, by rw [e], by rw [e]; exact Nat.zero_le _, fun i hi => by omega⟩
  · refine ⟨_, cap, rfl, by omega, fun i hi => ⟨g, rfl, ?_⟩⟩
    rw [h.cellAt i (by omega), List.getElem?_map, List.getElem?_eq_getElem hi]
    rfl

set_option maxHeartbeats 1000000 in
theorem len_I (b B : Nat) (xs : List Int) (W : World) (h : BagI W b B xs) : Calls Try.prog 14 #[.pointer (some ⟨b, 0, none⟩)] W fun e w' => e = .returned (.int .i64 xs.length) ∧ w' = W := by
  obtain ⟨sv, h1, h2⟩ := h.box
  obtain ⟨p, cap, rfl, _, _⟩ := rowI_at h2
  obtain ⟨_, c1, _⟩ := cell_two h1
  clear h h1 h2
  go_enter Try.func14, Try.ntmps14
  go_wp2
  go_ret
  exact ⟨rfl, rfl⟩
set_option maxHeartbeats 1000000 in
theorem lenNil_I (W : World) : Calls Try.prog 14 #[.pointer none] W fun e w' => e = .returned (.int .i64 0) ∧ w' = W := by
  go_enter Try.func14, Try.ntmps14
  go_wp2
  go_ret
  exact ⟨rfl, rfl⟩

set_option maxHeartbeats 2000000 in
theorem at_I (b B : Nat) (xs : List Int) (i : Nat) (hi : i < xs.length) (W : World) (h : BagI W b B xs) : Calls Try.prog 34 #[.pointer (some ⟨b, 0, none⟩), .int .i64 i] W fun e w' => e = .returned (.tuple #[.int .i64 xs[i], .bool true]) ∧ w' = W := by
  have K := len_I b B xs W h
  obtain ⟨sv, h1, h2⟩ := h.box
  obtain ⟨p, cap, rfl, _, hc⟩ := rowI_at h2
  obtain ⟨g, rfl, hc⟩ := hc i hi
  obtain ⟨_, c1, _⟩ := cell_two h1
  have hiz : (i : Int) < (xs.length : Int) := by omega
  have hd1 : decide ((i : Int) < 0) = false := decide_eq_false (by omega)
  have hd2 : decide ((xs.length : Int) ≤ (i : Int)) = false := decide_eq_false (by omega)
  have hd3 : ¬ xs.length ≤ i := by omega
  clear h h1 h2
  go_enter Try.func34, Try.ntmps34
  go_wp2_with fail
  refine K.mono ?_
  rintro e w1 ⟨rfl, rfl⟩
  go_wp2
  go_ret2
  exact ⟨rfl, rfl⟩
set_option maxHeartbeats 2000000 in
/-- Where there is none, and of a nil bag. -/
theorem atOut_I (b B : Nat) (xs : List Int) (i : Int) (hi : i < 0 ∨ (xs.length : Int) ≤ i) (W : World) (h : BagI W b B xs) : Calls Try.prog 34 #[.pointer (some ⟨b, 0, none⟩), .int .i64 i] W fun e w' => e = .returned (.tuple #[.int .i64 0, .bool false]) ∧ w' = W := by
  have K := len_I b B xs W h
  clear h
  go_enter Try.func34, Try.ntmps34
  by_cases h0 : i < 0
  · have hd1 : decide (i < 0) = true := decide_eq_true h0
    go_wp2
    go_ret2
    exact ⟨rfl, rfl⟩
  · have hd1 : decide (i < 0) = false := decide_eq_false h0
    have hd2 : decide ((xs.length : Int) ≤ i) = true := decide_eq_true (by omega)
    have hd3 : (xs.length : Int) ≤ i := by omega
    go_wp2_with fail
    refine K.mono ?_
    rintro e w1 ⟨rfl, rfl⟩
    go_wp2
    go_ret2
    exact ⟨rfl, rfl⟩
set_option maxHeartbeats 2000000 in
theorem atNil_I (i : Int) (W : World) : Calls Try.prog 34 #[.pointer none, .int .i64 i] W fun e w' => e = .returned (.tuple #[.int .i64 0, .bool false]) ∧ w' = W := by
  have K := lenNil_I W
  go_enter Try.func34, Try.ntmps34
  by_cases h0 : i < 0
  · have hd1 : decide (i < 0) = true := decide_eq_true h0
    go_wp2
    go_ret2
    exact ⟨rfl, rfl⟩
  · have hd1 : decide (i < 0) = false := decide_eq_false h0
    have hd2 : decide ((0 : Int) ≤ i) = true := decide_eq_true (by omega)
    have hd3 : (0 : Int) ≤ i := by omega
    go_wp2_with fail
    refine K.mono ?_
    rintro e w1 ⟨rfl, rfl⟩
    go_wp2
    go_ret2
    exact ⟨rfl, rfl⟩
end Go.Proofs.Ytfjipkkhjjpaiaa
