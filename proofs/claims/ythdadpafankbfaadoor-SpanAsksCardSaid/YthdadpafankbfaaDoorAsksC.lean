/-
  The contract of the law SpanAsks over this seat's translation: whatever two times it is handed, it answers true. Conditions: the numbers are ints.
-/
import Derived.Test.YthdadpafankbfaaDoorRefS
namespace Go.Proofs.YthdadpafankbfaaDoor
open Go.RowKit
attribute [local go_sem ↓] Go.wp_at_zero Go.wp_at_succ

set_option maxHeartbeats 40000000 in
theorem asks_w (an ad bn bd : Int) (r : Bool) (c : Int)
    (k1 : ∀ w : World, Calls Tryd.prog 15 #[.agg #[.int .i64 an, .int .i64 ad]] w fun e w' => e = .returned (.bool r) ∧ Below w.heap.size w w')
    (k2 : ∀ w : World, Calls Tryd.prog 24 #[.agg #[.int .i64 an, .int .i64 ad]] w fun e w' => e = .returned (.bool r) ∧ Below w.heap.size w w')
    (k3 : ∀ w : World, Calls Tryd.prog 13 #[.agg #[.int .i64 an, .int .i64 ad], .agg #[.int .i64 bn, .int .i64 bd]] w fun e w' => e = .returned (.int .i64 c) ∧ Below w.heap.size w w')
    (k4 : ∀ w : World, Calls Tryd.prog 25 #[.agg #[.int .i64 an, .int .i64 ad], .agg #[.int .i64 bn, .int .i64 bd]] w fun e w' => e = .returned (.int .i64 c) ∧ Below w.heap.size w w') (w : World) :
    Calls Tryd.prog 7 #[.agg #[.int .i64 an, .int .i64 ad], .agg #[.int .i64 bn, .int .i64 bd]] w fun e w' => e = .returned (.bool true) ∧ Below w.heap.size w w' := by
  have K1 := Lib.hid k1
  have K2 := Lib.hid k2
  have K3 := Lib.hid k3
  have K4 := Lib.hid k4
  clear k1 k2 k3 k4
  go_enter Tryd.func7, Tryd.ntmps7
  go_wp2_with fail
  go_region_held3 (fun w' => w'.cell? ⟨w.heap.size, 0, none⟩ = some (.int .i64 an) ∧ w'.cell? ⟨w.heap.size, 1, none⟩ = some (.int .i64 ad) ∧ w'.cell? ⟨w.heap.size + 1, 0, none⟩ = some (.int .i64 bn) ∧ w'.cell? ⟨w.heap.size + 1, 1, none⟩ = some (.int .i64 bd))
    (first | (go_split_ands; exact ⟨keepc hb (by assumption), keepc hb (by assumption), keepc hb (by assumption), keepc hb (by assumption)⟩) | go_keep)
    (first
      | (go_at_call 14; refine (awake_c _).mono ?_; rintro e w6 ⟨rfl, hb⟩)
      | (go_at_call 15; refine (K1.out _).mono ?_; rintro e w6 ⟨rfl, hb⟩)
      | (go_at_call 24; refine (K2.out _).mono ?_; rintro e w6 ⟨rfl, hb⟩)
      | (go_at_call 13; refine (K3.out _).mono ?_; rintro e w6 ⟨rfl, hb⟩)
      | (go_at_call 25; refine (K4.out _).mono ?_; rintro e w6 ⟨rfl, hb⟩))
  all_goals go_wp2
  all_goals go_ret
  all_goals exact ⟨ret_bool (by simp), (by repeat (first | with_reducible assumption | with_reducible exact Below.refl _ _ | with_reducible refine belowN ?_ _ | with_reducible refine Below.drew ?_ | with_reducible refine belowA ?_ _ | with_reducible refine belowT ?_ (by assumption)))⟩

theorem asks_c (an ad bn bd : Int) (ha : In64 an ∧ In64 ad) (hb : In64 bn ∧ In64 bd) (w : World) :
    Calls Tryd.prog 7 #[.agg #[.int .i64 an, .int .i64 ad], .agg #[.int .i64 bn, .int .i64 bd]] w fun e w' => e = .returned (.bool true) ∧ Below w.heap.size w w' :=
  asks_w an ad bn bd _ _ (right_c an ad ha.1 ha.2) (rright_c an ad ha.1 ha.2) (cmp_c an ad bn bd ha hb) (rcmp_c an ad bn bd ha hb) w
end Go.Proofs.YthdadpafankbfaaDoor
