/-
  The exchange of two stretches of a row (slices.swapRangeCmpFunc at items) over this seat's translation. Conditions: those that each theorem states.
-/
import Derived.Test.YtfjipkkhjjpaiaaBagCmp
import Derived.Test.YtfjipkkhjjpaiaaStabM
import Derived.Shelf.SlSortCmp.Insertion1
import Derived.Test.YtfjipkkhjjpaiaaStSwapI
import Derived.Test.YtfjipkkhjjpaiaaStKitT
namespace Go.Proofs.Ytfjipkkhjjpaiaa
open Go.Shelf Go.RowKit Go.Lib Go.Sort St

set_option maxHeartbeats 8000000 in
set_option maxRecDepth 1000000 in
theorem swapRange_T (g : Nat) (cb : Array Value) (blk off cap a b n : Nat) (d0 d : Array It) (w0 w : World) (R : RowK It.cells 2 w0 blk off d0) (hs : d0.size = d.size) (S : SWK It.cells 2 w0 blk off d w)
    (hn0 : a + n ≤ b) (hn1 : a + n ≤ d.size) (hn2 : b + n ≤ d.size) (hsz : d.size < 4611686018427387904) :
    Calls Try.prog 69 #[.slice (some ⟨blk, off, none⟩) d.size cap, .int .i64 a, .int .i64 b, .int .i64 n, .func (.func g) #[] cb] w fun e w' => e = .returned (.tuple #[]) ∧ SWK It.cells 2 w0 blk off (swapR d a b n) w' := by
  have mixed : Try.prog.follows .mixedOrders = true := by kernel_rfl
  have S0 : Aside (SWK It.cells 2 w0 blk off d w) := S
  clear S
  go_enter Try.func69, Try.ntmps69
  go_wp2
  go_loopg [10] n (fun kx vi wr => ∃ (i : Nat) (dk : Array It), vi = .int .i64 i ∧ i ≤ n ∧ n - i ≤ kx ∧ dk.size = d.size ∧ Aside (SWK It.cells 2 w0 blk off dk wr) ∧ Hid (dk = swapR d a b i))
  case atStart => exact ⟨0, d, rfl, by omega, by omega, rfl, S0, rfl⟩
  case round =>
    clear S0
    obtain ⟨i, dk, rfl, hin, hkx, hds, S1, HD⟩ := hrel
    by_cases hlt : i < n
    · have hltz : (i : Int) < (n : Int) := by omega
      go_wp2_with fail
      obtain ⟨iN111, hiN111⟩ : ∃ q, q = a + i := ⟨_, rfl⟩
      obtain ⟨jN111, hjN111⟩ : ∃ q, q = b + i := ⟨_, rfl⟩
      have ea111 : ((a : Int) + (i : Int)).toNat = iN111 := by omega
      have pa111 : (0 : Int) ≤ (a : Int) + (i : Int) := by omega
      have ba111 : (a : Int) + (i : Int) < (d.size : Int) := by omega
      have ra111 : IntKind.i64.wrap ((a : Int) + (i : Int)) = (a : Int) + (i : Int) := by rw [IntKind.wrap_i64]; omega
      have ec111 : ((b : Int) + (i : Int)).toNat = jN111 := by omega
      have pc111 : (0 : Int) ≤ (b : Int) + (i : Int) := by omega
      have bc111 : (b : Int) + (i : Int) < (d.size : Int) := by omega
      have rc111 : IntKind.i64.wrap ((b : Int) + (i : Int)) = (b : Int) + (i : Int) := by rw [IntKind.wrap_i64]; omega
      obtain ⟨oI111, hoI111⟩ : ∃ q, off + iN111 * 2 = q := ⟨_, rfl⟩
      obtain ⟨oJ111, hoJ111⟩ : ∃ q, off + jN111 * 2 = q := ⟨_, rfl⟩
      obtain ⟨xa111, hxa111⟩ : ∃ x, x = dk[a + i]!.1 := ⟨_, rfl⟩
      obtain ⟨xb111, hxb111⟩ : ∃ x, x = dk[a + i]!.2 := ⟨_, rfl⟩
      obtain ⟨ya111, hya111⟩ : ∃ x, x = dk[b + i]!.1 := ⟨_, rfl⟩
      obtain ⟨yb111, hyb111⟩ : ∃ x, x = dk[b + i]!.2 := ⟨_, rfl⟩
      have S2 : Aside (SWK It.cells 2 w0 blk off (swp dk (a + i) (b + i)) (((((wr.setCell ⟨blk, oI111, none⟩ (.int .i64 ya111)).setCell ⟨blk, oI111 + 1, none⟩ (.int .i64 yb111)).setCell ⟨blk, oJ111, none⟩ (.int .i64 xa111)).setCell ⟨blk, oJ111 + 1, none⟩ (.int .i64 xb111)).drew)) := by rw [← hoI111, ← hoJ111, hiN111, hjN111, hxa111, hxb111, hya111, hyb111]; exact it_swapped S1.out R (a + i) (b + i) (by omega) (by omega)
      obtain ⟨⟨c111a, c111b⟩, f111a, f111b⟩ := it_cells S1.out R (by omega) (a + i) (by omega)
      obtain ⟨⟨c111c, c111d⟩, f111c, f111d⟩ := it_cells S1.out R (by omega) (b + i) (by omega)
      rw [← hxa111] at c111a
      rw [← hxb111] at c111b
      rw [← hya111] at c111c
      rw [← hyb111] at c111d
      rw [← hiN111, hoI111] at c111a c111b f111a f111b
      rw [← hjN111, hoJ111] at c111c c111d f111c f111d
      have n111a : ¬ oI111 = oJ111 := by omega
      have n111b : ¬ oI111 + 1 = oJ111 := by omega
      have n111c : ¬ oI111 = oJ111 + 1 := by omega
      have n111d : ¬ oJ111 = oI111 := by omega
      have n111e : ¬ oJ111 + 1 = oI111 := by omega
      have n111f : ¬ oJ111 = oI111 + 1 := by omega
      clear S1 hxa111 hxb111 hya111 hyb111 hiN111 hjN111
      go_wp2_with fail
      go_big_region_o
      clear c111a c111b c111c c111d f111a f111b f111c f111d n111a n111b n111c n111d n111e n111f
      generalize (((((wr.setCell ⟨blk, oI111, none⟩ (.int .i64 ya111)).setCell ⟨blk, oI111 + 1, none⟩ (.int .i64 yb111)).setCell ⟨blk, oJ111, none⟩ (.int .i64 xa111)).setCell ⟨blk, oJ111 + 1, none⟩ (.int .i64 xb111)).drew) = w2 at S2 ⊢
      clear ea111 ec111 hoI111 hoJ111
      go_wp2
      go_roundg (n - (i + 1))
      case measure => omega
      case rel => exact ⟨i + 1, swp dk (a + i) (b + i), by go_num, by omega, Nat.le_refl _, by rw [size_swp]; exact hds, S2, (show Hid _ from by rw [HD.out]; exact rfl)⟩
    · have hltz : ¬ (i : Int) < (n : Int) := by omega
      obtain rfl : i = n := by omega
      go_wp2
      go_end0
      exact ⟨rfl, by rw [← HD.out]; exact S1.out⟩
end Go.Proofs.Ytfjipkkhjjpaiaa
