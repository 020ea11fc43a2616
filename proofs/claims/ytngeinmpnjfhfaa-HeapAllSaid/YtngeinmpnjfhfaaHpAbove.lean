/-
  heap's above over this seat's translation. No condition but those that each theorem states.
-/
import Derived.Test.YtngeinmpnjfhfaaHpCmp
namespace Go.Proofs.Ytngeinmpnjfhfaa
open Go.Shelf Go.RowKit Go.Lib Go.Sort Hp

set_option maxHeartbeats 1000000 in
theorem above_c (t : Nat) (ht : t ≤ 1000000) (w : World) : Calls Try.prog 42 #[.int .i64 t] w fun e w' => e = .returned (.int .i64 ((((t + 1) / 2 : Nat) : Int) - 1)) ∧ w' = w := by
  have r1 : IntKind.i64.wrap ((t : Int) + 1) = (t : Int) + 1 := by rw [IntKind.wrap_i64]; omega
  have r2 : IntKind.i64.wrap (((t : Int) + 1).tdiv 2) = (((t + 1) / 2 : Nat) : Int) := by rw [IntKind.wrap_i64, Int.tdiv_eq_ediv_of_nonneg (by omega)]; omega
  have r3 : IntKind.i64.wrap ((((t + 1) / 2 : Nat) : Int) - 1) = (((t + 1) / 2 : Nat) : Int) - 1 := by rw [IntKind.wrap_i64]; omega
  go_enter Try.func42, Try.ntmps42
  go_wp2
  go_ret
  exact ⟨rfl, rfl⟩
theorem above_pos (t : Nat) (h0 : 0 < t) (ht : t ≤ 1000000) (w : World) : Calls Try.prog 42 #[.int .i64 t] w fun e w' => e = .returned (.int .i64 (up t : Nat)) ∧ w' = w := by
  have h := above_c t ht w
  rw [show ((((t + 1) / 2 : Nat) : Int) - 1) = ((up t : Nat) : Int) from by rw [up_succ h0]; omega] at h
  exact h
end Go.Proofs.Ytngeinmpnjfhfaa
