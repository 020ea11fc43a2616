/-
  heap's calls on a nil heap over this seat's translation. No condition but those that each theorem states.
-/
import Derived.Test.YtngeinmpnjfhfaaHpAwake
namespace Go.Proofs.Ytngeinmpnjfhfaa
open Go.RowKit Go.Shelf Go.Lib Go.Sort Hp Go.Maps

set_option maxHeartbeats 2000000 in
theorem findNil_c (k : Int) (w : World) : Calls Try.prog 29 #[.pointer none, .int .i64 k] w fun r w' => r = .returned (.tuple #[.int .i64 (-1), .bool false]) ∧ Below w.heap.size w w' := by
  have hB : Below w.heap.size w ((w.alloc (.cells #[.int .i64 (-1)] 3)).alloc (.cells #[.bool false] 4)) := bA' (bA' (Below.refl _ _) (Nat.le_refl _) _) (by simp) _
  have HB := Lib.hid hB
  clear hB
  go_enter_defers Try.func29, Try.ntmps29
  go_wp2
  simp [Leaves, results, Try.results29, go_sem, bodyPostD]
  exact HB.out
set_option maxHeartbeats 2000000 in
theorem setNil_c (k b : Int) (w : World) : Calls Try.prog 17 #[.pointer none, .int .i64 k, .int .i64 b] w fun r w' => r = .returned (.tuple #[]) ∧ Below w.heap.size w w' := by
  have KF := findNil_c k w
  go_enter Try.func17, Try.ntmps17
  go_wp2_with fail
  refine KF.mono ?_
  rintro e w1 ⟨rfl, hb1⟩
  have HB := Lib.hid hb1
  clear hb1 KF
  go_wp2
  refine bodyPost_ret (results_none rfl _ _ _) rfl ?_
  exact ⟨rfl, HB.out⟩
set_option maxHeartbeats 2000000 in
theorem getNil_c (k : Int) (w : World) : Calls Try.prog 13 #[.pointer none, .int .i64 k] w fun r w' => r = .returned (.tuple #[.int .i64 0, .bool false]) ∧ Below w.heap.size w w' := by
  have KF := findNil_c k w
  go_enter Try.func13, Try.ntmps13
  go_wp2_with fail
  refine KF.mono ?_
  rintro e w1 ⟨rfl, hb1⟩
  have HB := Lib.hid hb1
  clear hb1 KF
  go_wp2
  refine bodyPost_ret (results_tmp2 rfl _ _ _) rfl ?_
  exact ⟨rfl, HB.out⟩
set_option maxHeartbeats 2000000 in
theorem delNil_c (k : Int) (w : World) : Calls Try.prog 20 #[.pointer none, .int .i64 k] w fun r w' => r = .returned (.bool false) ∧ Below w.heap.size w w' := by
  have KF := findNil_c k w
  go_enter Try.func20, Try.ntmps20
  go_wp2_with fail
  refine KF.mono ?_
  rintro e w1 ⟨rfl, hb1⟩
  have HB := Lib.hid hb1
  clear hb1 KF
  go_wp2
  go_ret
  exact ⟨rfl, HB.out⟩
set_option maxHeartbeats 2000000 in
theorem minNil_c (w : World) : Calls Try.prog 23 #[.pointer none] w fun r w' => r = .returned (.tuple #[.agg #[.int .i64 0, .int .i64 0], .bool false]) ∧ Below w.heap.size w w' := by
  have KL := lenNil_c (w.alloc (.cells #[.int .i64 0, .int .i64 0] 33))
  have HB := Lib.hid (bA' (Below.refl w.heap.size w) (Nat.le_refl _) (.cells #[.int .i64 0, .int .i64 0] 33))
  go_enter Try.func23, Try.ntmps23
  go_wp2_with fail
  refine KL.mono ?_
  rintro e w2 ⟨rfl, rfl⟩
  go_wp2
  exact bodyPost_ret (v := .tuple #[.agg #[.int .i64 0, .int .i64 0], .bool false]) (by simp [results, Try.results23, go_sem]) rfl ⟨rfl, HB.out⟩
set_option maxHeartbeats 2000000 in
theorem popNil_c (w : World) : Calls Try.prog 15 #[.pointer none] w fun r w' => r = .returned (.tuple #[.agg #[.int .i64 0, .int .i64 0], .bool false]) ∧ Below w.heap.size w w' := by
  have KM := minNil_c (w.alloc (.cells #[.int .i64 0, .int .i64 0] 33))
  have HB := Lib.hid (bA' (Below.refl w.heap.size w) (Nat.le_refl _) (.cells #[.int .i64 0, .int .i64 0] 33))
  go_enter Try.func15, Try.ntmps15
  go_wp2_with fail
  refine KM.mono ?_
  rintro e w1 ⟨rfl, hb1⟩
  have hb2 : Below w1.heap.size w1 (w1.alloc (.cells #[.int .i64 0, .int .i64 0] 33)) := bA' (Below.refl _ _) (Nat.le_refl _) _
  have hr1 : w.heap.size < w1.heap.size := by have := hb1.size; rw [World.size_alloc] at this; omega
  have f2 : (w1.alloc (.cells #[.int .i64 0, .int .i64 0] 33)).heap[w.heap.size]? = some (.cells #[.int .i64 0, .int .i64 0] 33 (0, 0)) := (Below.heap_alloc _ _ _ hr1).trans ((hb1.block w.heap.size (by simp)).trans (World.alloc_heap_new w _))
  obtain ⟨b1, b2, b3⟩ := cell_two f2
  have b4 := frozen_of_row _ w.heap.size 0 _ _ f2
  have g1 := heap_setCell_same _ w.heap.size 1 _ _ (.int .i64 0) (heap_setCell_same _ w.heap.size 0 _ _ (.int .i64 0) f2)
  obtain ⟨d1, d2, _⟩ := cell_two g1
  have HB2 := Lib.hid (And.intro hb1 hb2)
  clear hb1 hb2 hr1 f2 g1 KM
  go_wp2
  refine bodyPost_ret (v := .tuple #[.agg #[.int .i64 0, .int .i64 0], .bool false]) (by simp [results, Try.results15, go_sem, d1, d2]) rfl ⟨rfl, ?_⟩
  have hbw : Below w.heap.size w (w1.alloc (.cells #[.int .i64 0, .int .i64 0] 33)) := bT2 (bT' HB.out HB2.out.1 (by simp)) HB2.out.2
  exact (hbw.setCell (p := ⟨w.heap.size, 0, none⟩) (Nat.le_refl _) (.int .i64 0)).setCell (p := ⟨w.heap.size, 1, none⟩) (Nat.le_refl _) (.int .i64 0)
end Go.Proofs.Ytngeinmpnjfhfaa
