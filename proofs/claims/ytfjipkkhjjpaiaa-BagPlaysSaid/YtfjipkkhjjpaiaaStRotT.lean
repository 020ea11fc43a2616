/-
  The rotation of a stretch of a row (slices.rotateCmpFunc at items) over this seat's translation. Conditions: those that each theorem states.
-/
import Derived.Test.YtfjipkkhjjpaiaaStSwapT
import Derived.Test.YtfjipkkhjjpaiaaStRotI
namespace Go.Proofs.Ytfjipkkhjjpaiaa
open Go.Shelf Go.RowKit Go.Lib Go.Sort St

set_option maxHeartbeats 8000000 in
set_option maxRecDepth 1000000 in
theorem rotate_T (g : Nat) (cb : Array Value) (blk off cap a m b : Nat) (d0 d : Array It) (w0 w : World) (R : RowK It.cells 2 w0 blk off d0) (hs : d0.size = d.size) (S : SWK It.cells 2 w0 blk off d w)
    (ham : a < m) (hmb : m < b) (hb : b ≤ d.size) (hsz : d.size < 4611686018427387904) :
    Calls Try.prog 67 #[.slice (some ⟨blk, off, none⟩) d.size cap, .int .i64 a, .int .i64 m, .int .i64 b, .func (.func g) #[] cb] w fun e w' => e = .returned (.tuple #[]) ∧ ∃ d', IsRot a m b d d' ∧ SWK It.cells 2 w0 blk off d' w' := by
  have S0 : Aside (SWK It.cells 2 w0 blk off d w) := S
  clear S
  have HC := Lib.hid fun (x y n : Nat) (dk : Array It) (h1 : d.size = dk.size) (W : World) (h : SWK It.cells 2 w0 blk off dk W) (h0 : x + n ≤ y) (h2 : x + n ≤ dk.size) (h3 : y + n ≤ dk.size) => h1 ▸ swapRange_T g cb blk off cap x y n d0 dk w0 W R (hs.trans h1) h h0 h2 h3 (h1 ▸ hsz)
  go_enter Try.func67, Try.ntmps67
  have hw1 : IntKind.i64.wrap ((m : Int) - (a : Int)) = ((m - a : Nat) : Int) := by rw [IntKind.wrap_i64] <;> omega
  have hw2 : IntKind.i64.wrap ((b : Int) - (m : Int)) = ((b - m : Nat) : Int) := by rw [IntKind.wrap_i64] <;> omega
  go_wp2
  go_loopg [10, 11] (b - a) (fun kx vi vj wr => ∃ (i j : Nat) (dk : Array It), vi = .int .i64 i ∧ vj = .int .i64 j ∧ 0 < i ∧ 0 < j ∧ i ≤ m ∧ m + j ≤ d.size ∧ i + j ≤ kx ∧ dk.size = d.size ∧ Aside (SWK It.cells 2 w0 blk off dk wr) ∧ Hid (∀ d', IsRot (m - i) m (m + j) dk d' → IsRot a m b d d'))
  case atStart => exact ⟨m - a, b - m, d, by go_num, by go_num, by omega, by omega, by omega, by omega, by omega, rfl, S0, (show Hid _ from fun d' h => by rw [show m - (m - a) = a from by omega, show m + (b - m) = b from by omega] at h; exact h)⟩
  case round =>
    clear S0
    obtain ⟨i, j, dk, rfl, rfl, hi0, hj0, him, hjs, hkx, hds, S1, HI⟩ := hrel
    have hw3 : IntKind.i64.wrap ((m : Int) - (i : Int)) = ((m - i : Nat) : Int) := by rw [IntKind.wrap_i64] <;> omega
    have hw4 : IntKind.i64.wrap ((m : Int) + (j : Int)) = (m : Int) + (j : Int) := by rw [IntKind.wrap_i64] <;> omega
    rcases Nat.lt_trichotomy i j with hij | hij | hij
    · have e1 : ¬ ((i : Int) = (j : Int)) := by omega
      have e2 : decide ((i : Int) > (j : Int)) = false := decide_eq_false (by omega)
      have e3 : ¬ (j : Int) < (i : Int) := by omega
      have hw5 : IntKind.i64.wrap ((m : Int) + (j : Int) - (i : Int)) = ((m + (j - i) : Nat) : Int) := by rw [IntKind.wrap_i64] <;> omega
      have hw6 : IntKind.i64.wrap ((j : Int) - (i : Int)) = ((j - i : Nat) : Int) := by rw [IntKind.wrap_i64] <;> omega
      have K := HC.out (m - i) (m + (j - i)) i dk hds.symm wr S1.out (by omega) (by omega) (by omega)
      clear S1
      go_wp2_with fail
      refine K.mono ?_
      rintro e w2 ⟨rfl, S⟩
      have S2 : Aside _ := S
      clear S K
      go_wp2
      go_roundg (i + (j - i))
      case measure => omega
      case rel => exact ⟨i, j - i, _, rfl, by go_num, hi0, by omega, him, by omega, by omega, by rw [size_swapR]; exact hds, S2, (show Hid _ from fun d' h => HI.out d' (rot_lt him hij (by omega) h))⟩
    · subst hij
      go_wp2_with fail
      have K := HC.out (m - i) m i dk hds.symm wr S1.out (by omega) (by omega) (by omega)
      clear S1
      refine K.mono ?_
      rintro e w2 ⟨rfl, S⟩
      go_wp2
      go_end0
      exact ⟨rfl, _, HI.out _ (rot_eq him (by omega)), S⟩
    · have e1 : ¬ ((i : Int) = (j : Int)) := by omega
      have e2 : decide ((i : Int) > (j : Int)) = true := decide_eq_true (by omega)
      have e3 : (j : Int) < (i : Int) := by omega
      have hw6 : IntKind.i64.wrap ((i : Int) - (j : Int)) = ((i - j : Nat) : Int) := by rw [IntKind.wrap_i64] <;> omega
      have K := HC.out (m - i) m j dk hds.symm wr S1.out (by omega) (by omega) (by omega)
      clear S1
      go_wp2_with fail
      refine K.mono ?_
      rintro e w2 ⟨rfl, S⟩
      have S2 : Aside _ := S
      clear S K
      go_wp2
      go_roundg (i - j + j)
      case measure => omega
      case rel => exact ⟨i - j, j, _, by go_num, rfl, by omega, hj0, by omega, by omega, by omega, by rw [size_swapR]; exact hds, S2, (show Hid _ from fun d' h => HI.out d' (rot_gt him hij (by omega) (by rw [show m - i + j = m - (i - j) from by omega]; exact h)))⟩
end Go.Proofs.Ytfjipkkhjjpaiaa
