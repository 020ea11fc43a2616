/-
  The stable sort of no ints over this seat's translation. Conditions: those that each theorem states.
-/
import Derived.Test.YtfjipkkhjjpaiaaBagCntT
namespace Go.Proofs.Ytfjipkkhjjpaiaa
open Go.Shelf Go.RowKit Go.Lib Go.Sort St

set_option maxHeartbeats 1000000 in
theorem insNil_I (p : Option Addr) (cap : Nat) (fn : Fn) (w : World) : Calls Try.prog 65 #[.slice p 0 cap, .int .i64 0, .int .i64 0, .func fn #[] #[]] w fun e w' => e = .returned (.tuple #[]) ∧ w' = w := by
  go_enter Try.func65, Try.ntmps65
  go_wp2
  go_loopw [8] (fun v wr => v = .int .i64 1 ∧ wr = w) (fun _ _ => 0)
  case atStart => exact ⟨by first | rfl | go_num, rfl⟩
  case round =>
    obtain ⟨rfl, rfl⟩ := hrel
    go_wp2
    go_end0
    exact ⟨rfl, rfl⟩

set_option maxHeartbeats 1000000 in
theorem stableNil_I (p : Option Addr) (cap : Nat) (fn : Fn) (w : World) : Calls Try.prog 61 #[.slice p 0 cap, .int .i64 0, .func fn #[] #[]] w fun e w' => e = .returned (.tuple #[]) ∧ w' = w := by
  have K := Lib.hid fun w => insNil_I p cap fn w
  go_enter Try.func61, Try.ntmps61
  go_wp2
  go_loopw [7, 8] (fun a v wr => a = .int .i64 0 ∧ v = .int .i64 20 ∧ wr = w) (fun _ _ _ => 0)
  case atStart => exact ⟨rfl, rfl, rfl⟩
  case round =>
    obtain ⟨rfl, rfl, rfl⟩ := hrel
    go_wp2_with fail
    refine (K.out _).mono ?_
    rintro e w1 ⟨rfl, rfl⟩
    go_wp2
    go_loopw [6] (fun v wr => v = .int .i64 20 ∧ wr = w1) (fun _ _ => 0)
    case atStart => exact ⟨rfl, rfl⟩
    case round =>
      obtain ⟨rfl, rfl⟩ := hrel
      go_wp2
      go_end0
      exact ⟨rfl, rfl⟩

set_option maxHeartbeats 1000000 in
theorem sortNil_I (p : Option Addr) (cap : Nat) (fn : Fn) (w : World) : Calls Try.prog 51 #[.slice p 0 cap, .func fn #[] #[]] w fun e w' => e = .returned (.tuple #[]) ∧ w' = w := by
  have K := Lib.hid fun w => stableNil_I p cap fn w
  go_enter Try.func51, Try.ntmps51
  go_wp2_with fail
  refine (K.out _).mono ?_
  rintro e w1 ⟨rfl, rfl⟩
  go_wp2
  go_end0
  exact ⟨rfl, rfl⟩
end Go.Proofs.Ytfjipkkhjjpaiaa
