/-
  The contract of package span's Min over this seat's translation, at a slice without times. No condition.
-/
import Derived.Test.YthdadpafankbfaaDoorMinC
namespace Go.Proofs.YthdadpafankbfaaDoor
open Go.RowKit
attribute [local go_sem ↓] Go.wp_at_zero Go.wp_at_succ

set_option maxHeartbeats 1000000 in
theorem min_zero (x : Option Addr) (cap : Nat) (w : World) :
    Calls Tryd.prog 26 #[.slice x 0 cap] w fun e w' => e = .returned (.agg #[.int .i64 1, .int .i64 0]) ∧ Below w.heap.size w w' := by
  go_enter Tryd.func26, Tryd.ntmps26
  go_wp2_with fail
  refine (never_c _).mono ?_
  rintro e w1 ⟨rfl, hb1⟩
  have hq := belowA (Below.refl _ w1) (.cells #[.int .i64 1, .int .i64 0] 23)
  have r0 := keepc hb1 (p := ⟨w.heap.size, 0, none⟩) (v := .int .i64 0) (by go_simp)
  have r1 := keepc hb1 (p := ⟨w.heap.size, 1, none⟩) (v := .int .i64 0) (by go_simp)
  have z0 : w1.frozen? ⟨w.heap.size, 0, none⟩ = false := keepf hb1 (p := ⟨w.heap.size, 0, none⟩) (v := .int .i64 0) (by go_simp) (by go_simp)
  have z1 : w1.frozen? ⟨w.heap.size, 1, none⟩ = false := keepf hb1 (p := ⟨w.heap.size, 1, none⟩) (v := .int .i64 0) (by go_simp) (by go_simp)
  have hw := belowT (belowA (Below.refl _ w) _) hb1
  have r0' := keepc hq r0
  have r1' := keepc hq r1
  have z0' := keepf hq r0 z0
  have z1' := keepf hq r1 z1
  clear hb1 r0 r1 z0 z1
  go_wp2_with fail
  refine wp_loop_rounds 1 ?_
  rw [rounds_succ]
  go_wp2
  exact bodyPost_ret (v := .agg #[.int .i64 1, .int .i64 0]) (by simp [results, Tryd.results26, go_sem, r0', r1']) rfl ⟨rfl, by (repeat (first | exact Below.refl _ _ | refine belowN ?_ _ | refine Below.drew ?_ | refine belowA ?_ _ | refine belowS ?_ (by omega) _ | assumption | refine belowT ?_ (by assumption)))⟩
end Go.Proofs.YthdadpafankbfaaDoor
