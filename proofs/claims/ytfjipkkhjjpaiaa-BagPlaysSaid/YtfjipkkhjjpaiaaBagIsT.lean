/-
  What a bag of items looks like in memory, and its Len and At over this seat's translation. Conditions: those that each theorem states.
-/
import Derived.Test.YtfjipkkhjjpaiaaBagIsI
import Derived.Laws.OwnMore
namespace Go.Proofs.Ytfjipkkhjjpaiaa
open Go.Shelf Go.RowKit Go.Lib Go.Sort St

/-- A bag in block b: its row is one of the blocks from B on. -/
structure BagT (W : World) (b B : Nat) (xs : List It) : Prop where
  box : ∃ sv, W.heap[b]? = some (.cells #[.func (.func 18) #[] #[], sv] 76 (0, 0)) ∧ W.ownsRow B 41 2 sv xs.length (xs.flatMap It.cells)
  base : B ≤ b
  srt : xs.Pairwise (fun x y => x.1 ≤ y.1)
theorem BagT.below {W W' : World} {b B : Nat} {xs : List It} (h : BagT W b B xs) (hb : Below W.heap.size W W') : BagT W' b B xs := by
  obtain ⟨sv, h1, h2⟩ := h.box
  refine ⟨⟨sv, (hb.block b (Array.getElem?_eq_some_iff.1 h1).1).trans h1, h2.1, ?_⟩, h.base, h.srt⟩
  rcases h2.2 with h3 | ⟨g, cap, cur, e, hB, hg, rest⟩
  · exact .inl h3
  · exact .inr ⟨g, cap, cur, e, hB, (hb.block g (Array.getElem?_eq_some_iff.1 hg).1).trans hg, rest⟩
theorem flat_at : ∀ (xs : List It) (i : Nat) (hi : i < xs.length), (xs.flatMap It.cells)[i * 2]? = some (.int .i64 xs[i].1) ∧ (xs.flatMap It.cells)[i * 2 + 1]? = some (.int .i64 xs[i].2)
  | [], i, hi => by simp at hi
  | x :: xs, 0, _ => ⟨rfl, rfl⟩
  | x :: xs, i + 1, hi => by
    have := flat_at xs i (by simpa using hi)
    rw [List.flatMap_cons, show (i + 1) * 2 = i * 2 + 1 + 1 from by omega]
    exact this
theorem rowT_at {W : World} {B : Nat} {sv : Value} {xs : List It} (h : W.ownsRow B 41 2 sv xs.length (xs.flatMap It.cells)) : ∃ p cap, sv = .slice p xs.length cap ∧ xs.length ≤ maxLen ∧ ∀ i (hi : i < xs.length), ∃ g, p = some ⟨g, 0, none⟩ ∧ W.cell? ⟨g, i * 2, none⟩ = some (.int .i64 xs[i].1) ∧ W.cell? ⟨g, i * 2 + 1, none⟩ = some (.int .i64 xs[i].2) := by
  rcases id h.2 with ⟨rfl, e⟩ | ⟨g, cap, cur, rfl, _, _, h1, h2, _⟩
  · exact ⟨none, 0, by rw [e], by rw [e]; exact Nat.zero_le _, fun i hi => by omega⟩
  · refine ⟨_, cap, rfl, by omega, fun i hi => ⟨g, rfl, ?_, ?_⟩⟩
    · rw [h.cellAt _ (by omega)]; exact (flat_at xs i hi).1
    · rw [h.cellAt _ (by omega)]; exact (flat_at xs i hi).2

set_option maxHeartbeats 1000000 in
theorem len_T (b B : Nat) (xs : List It) (W : World) (h : BagT W b B xs) : Calls Try.prog 30 #[.pointer (some ⟨b, 0, none⟩)] W fun e w' => e = .returned (.int .i64 xs.length) ∧ w' = W := by
  obtain ⟨sv, h1, h2⟩ := h.box
  obtain ⟨p, cap, rfl, _, _⟩ := rowT_at h2
  obtain ⟨_, c1, _⟩ := cell_two h1
  clear h h1 h2
  go_enter Try.func30, Try.ntmps30
  go_wp2
  go_ret
  exact ⟨rfl, rfl⟩
set_option maxHeartbeats 1000000 in
theorem lenNil_T (W : World) : Calls Try.prog 30 #[.pointer none] W fun e w' => e = .returned (.int .i64 0) ∧ w' = W := by
  go_enter Try.func30, Try.ntmps30
  go_wp2
  go_ret
  exact ⟨rfl, rfl⟩

set_option maxHeartbeats 4000000 in
theorem at_T (b B : Nat) (xs : List It) (i : Nat) (hi : i < xs.length) (W : World) (h : BagT W b B xs) : Calls Try.prog 25 #[.pointer (some ⟨b, 0, none⟩), .int .i64 i] W fun e w' => e = .returned (.tuple #[.agg #[.int .i64 xs[i].1, .int .i64 xs[i].2], .bool true]) ∧ Below W.heap.size W w' := by
  obtain ⟨W1, hW1⟩ : ∃ W1, W.alloc (.cells #[.int .i64 0, .int .i64 0] 41) = W1 := ⟨_, rfl⟩
  have WB : Below W.heap.size W W1 := hW1 ▸ bA' (Below.refl _ _) (Nat.le_refl _) _
  have hnew : W1.heap[W.heap.size]? = some (.cells #[.int .i64 0, .int .i64 0] 41 (0, 0)) := hW1 ▸ heap_alloc_new W _
  obtain ⟨z0, z1, zf1⟩ := cell_two hnew
  have zf0 : W1.frozen? ⟨W.heap.size, 0, none⟩ = false := by simp [World.frozen?, hnew]
  have h' := h.below WB
  have K := len_T b B xs W1 h'
  obtain ⟨sv, h1, h2⟩ := h'.box
  obtain ⟨p, cap, rfl, _, hc⟩ := rowT_at h2
  obtain ⟨g, rfl, hca, hcb⟩ := hc i hi
  obtain ⟨_, c1, _⟩ := cell_two h1
  have hiz : (i : Int) < (xs.length : Int) := by omega
  have hd1 : decide ((i : Int) < 0) = false := decide_eq_false (by omega)
  have hd2 : decide ((xs.length : Int) ≤ (i : Int)) = false := decide_eq_false (by omega)
  have hd3 : ¬ xs.length ≤ i := by omega
  have HW := Lib.hid (And.intro WB hW1)
  clear h h' h1 h2 WB hc
  go_enter Try.func25, Try.ntmps25
  go_wp2_with fail
  refine K.mono ?_
  rintro e w1 ⟨rfl, rfl⟩
  clear K
  go_wp2
  have e0 : ((w1.setCell ⟨W.heap.size, 0, none⟩ (.int .i64 xs[i].1)).setCell ⟨W.heap.size, 1, none⟩ (.int .i64 xs[i].2)).cell? ⟨W.heap.size, 0, none⟩ = some (.int .i64 xs[i].1) := by
    rw [World.cell?_setCell_other _ _ _ _ (by simp)]
    exact World.cell?_setCell_same _ _ _ z0
  have e1 : ((w1.setCell ⟨W.heap.size, 0, none⟩ (.int .i64 xs[i].1)).setCell ⟨W.heap.size, 1, none⟩ (.int .i64 xs[i].2)).cell? ⟨W.heap.size, 1, none⟩ = some (.int .i64 xs[i].2) :=
    World.cell?_setCell_same' _ _ _ (by rw [World.cell?_setCell_other _ _ _ _ (by simp), z1]; rfl)
  have HB := Lib.hid (show Below W.heap.size W ((w1.setCell ⟨W.heap.size, 0, none⟩ (.int .i64 xs[i].1)).setCell ⟨W.heap.size, 1, none⟩ (.int .i64 xs[i].2)) from (HW.out.1.setCell (Nat.le_refl _) _).setCell (Nat.le_refl _) _)
  generalize (w1.setCell ⟨W.heap.size, 0, none⟩ (.int .i64 xs[i].1)).setCell ⟨W.heap.size, 1, none⟩ (.int .i64 xs[i].2) = w2 at *
  refine bodyPost_ret (v := .tuple #[.agg #[.int .i64 xs[i].1, .int .i64 xs[i].2], .bool true]) ?_ rfl ⟨rfl, HB.out⟩
  have hres : Try.f25.results = #[.cell 4 41, .tmp 5] := rfl
  simp only [results, hres]
  go_simp
end Go.Proofs.Ytfjipkkhjjpaiaa
