/-
  gavottelaw03's level and order over this seat's translation: how two items, or two numbers, stand to each other. No condition but those that each theorem states.
-/
import Derived.Test.YtfjipkkhjjpaiaaRows
import Derived.Shelf.SlSortCmp.Kit1
import Derived.Shelf.SlSortCmp.KitK
import Derived.Tactics2
import Derived.WalkKit
import Derived.Lib.Hide
namespace Go.Proofs.Ytfjipkkhjjpaiaa
open Go.RowKit Go.Shelf Go.Lib Go.Sort

/-- An item: its number, its mark. -/
abbrev It := Int × Int
def It.cells (x : It) : List Value := [.int .i64 x.1, .int .i64 x.2]
/-- How two numbers stand to each other. -/
def cmpI (a b : Int) : Int := if a < b then -1 else if a > b then 1 else 0
theorem cmpI_lt (a b : Int) : cmpI a b < 0 ↔ a < b := by
  unfold cmpI
  by_cases h : a < b
  · simp [h]
  · by_cases h2 : a > b <;> simp [h, h2] <;> omega
def It.cmp (x y : It) : Int := cmpI x.1 y.1

set_option maxHeartbeats 1000000 in
theorem level_c (x y : It) (w : World) : Calls Try.prog 18 #[.agg #[.int .i64 x.1, .int .i64 x.2], .agg #[.int .i64 y.1, .int .i64 y.2]] w fun e w' =>
    e = .returned (.int .i64 (cmpI x.1 y.1)) ∧ w' = (w.alloc (.cells #[.int .i64 x.1, .int .i64 x.2] 41)).alloc (.cells #[.int .i64 y.1, .int .i64 y.2] 41) := by
  obtain ⟨a, ma⟩ := x
  obtain ⟨b, mb⟩ := y
  have q0 : ((w.alloc (.cells #[.int .i64 a, .int .i64 ma] 41)).alloc (.cells #[.int .i64 b, .int .i64 mb] 41)).cell? ⟨w.heap.size, 0, none⟩ = some (.int .i64 a) := by go_simp
  have q1 : ((w.alloc (.cells #[.int .i64 a, .int .i64 ma] 41)).alloc (.cells #[.int .i64 b, .int .i64 mb] 41)).cell? ⟨w.heap.size + 1, 0, none⟩ = some (.int .i64 b) := by go_simp
  go_enter Try.func18, Try.ntmps18
  unfold cmpI
  by_cases h : a < b
  · have h1 : decide (a < b) = true := decide_eq_true h
    go_wp2
    go_ret
    exact ⟨rfl, rfl⟩
  · have h1 : decide (a < b) = false := decide_eq_false h
    by_cases h2 : a > b
    · have h3 : decide (a > b) = true := decide_eq_true h2
      go_wp2
      go_ret
      exact ⟨rfl, rfl⟩
    · have h3 : decide (a > b) = false := decide_eq_false h2
      go_wp2
      go_ret
      exact ⟨rfl, rfl⟩

set_option maxHeartbeats 1000000 in
theorem order_c (a b : Int) (w : World) : Calls Try.prog 11 #[.int .i64 a, .int .i64 b] w fun e w' =>
    e = .returned (.int .i64 (cmpI a b)) ∧ w' = (w.alloc (.cells #[.int .i64 a, .int .i64 0] 41)).alloc (.cells #[.int .i64 b, .int .i64 0] 41) := by
  have K := fun w => level_c (a, 0) (b, 0) w
  go_enter Try.func11, Try.ntmps11
  go_wp2_with fail
  refine (K _).mono ?_
  rintro e w1 ⟨rfl, rfl⟩
  go_wp2
  go_ret
  exact ⟨rfl, rfl⟩

theorem grow_two (w : World) (o o' : Obj) : ∃ q os', (w.alloc o).alloc o' = grow (w.drewN q) os' := ⟨0, #[o] ++ #[o'], by rw [alloc_eq_grow, alloc_eq_grow, grow_grow]; rfl⟩
theorem cmp_order (blk off size : Nat) (w : World) : CmpLays1 Try.prog 11 #[] (Value.int .i64) cmpI blk off size w := fun m os dk _ x y => (order_c x y _).mono fun e w' ⟨he, hw⟩ => ⟨he, by rw [hw]; exact grow_two _ _ _⟩
theorem cmp_level (blk off size : Nat) (w : World) : CmpLays Try.prog 18 #[] It.cells 2 It.cmp blk off size w := fun m os dk _ x y => (level_c x y _).mono fun e w' ⟨he, hw⟩ => ⟨he, by rw [hw]; exact grow_two _ _ _⟩
end Go.Proofs.Ytfjipkkhjjpaiaa
