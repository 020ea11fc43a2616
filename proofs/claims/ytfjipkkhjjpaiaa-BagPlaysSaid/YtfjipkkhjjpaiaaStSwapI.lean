/-
  The exchange of two stretches of a row (slices.swapRangeCmpFunc at ints) over this seat's translation. Conditions: those that each theorem states.
-/
import Derived.Test.YtfjipkkhjjpaiaaBagCmp
import Derived.Test.YtfjipkkhjjpaiaaStabM
import Derived.Shelf.SlSortCmp.Insertion1
namespace Go.Proofs.Ytfjipkkhjjpaiaa
open Go.Shelf Go.RowKit Go.Lib Go.Sort St

/-- n places from a on and n from b on change places, one by one. -/
def swapR {α : Type} [Inhabited α] (d : Array α) (a b : Nat) : Nat → Array α
  | 0 => d
  | n + 1 => swp (swapR d a b n) (a + n) (b + n)
theorem size_swapR {α : Type} [Inhabited α] (d : Array α) (a b : Nat) : ∀ n, (swapR d a b n).size = d.size
  | 0 => rfl
  | n + 1 => by rw [swapR, size_swp, size_swapR d a b n]
theorem swapR_at {α : Type} [Inhabited α] (d : Array α) (a b : Nat) : ∀ n, a + n ≤ b → b + n ≤ d.size → ∀ i, (swapR d a b n)[i]! = if a ≤ i ∧ i < a + n then d[i - a + b]! else if b ≤ i ∧ i < b + n then d[i - b + a]! else d[i]!
  | 0, _, _, i => by rw [swapR, if_neg (by omega), if_neg (by omega)]
  | n + 1, h1, h2, i => by
    have ih := swapR_at d a b n (by omega) (by omega)
    have hs := size_swapR d a b n
    rw [swapR, swp_at _ (by omega) (by omega), ih, ih, ih]
    by_cases c1 : i = b + n
    · subst c1
      rw [if_pos rfl, if_neg (by omega), if_neg (by omega), if_neg (by omega), if_pos ⟨by omega, by omega⟩]
      congr 1
      omega
    · rw [if_neg c1]
      by_cases c2 : i = a + n
      · subst c2
        rw [if_pos rfl, if_neg (by omega), if_neg (by omega), if_pos ⟨by omega, by omega⟩]
        congr 1
        omega
      · rw [if_neg c2]
        by_cases c3 : a ≤ i ∧ i < a + n
        · rw [if_pos c3, if_pos ⟨by omega, by omega⟩]
        · rw [if_neg c3]
          by_cases c4 : b ≤ i ∧ i < b + n
          · rw [if_pos c4, if_neg (by omega), if_pos ⟨by omega, by omega⟩]
          · rw [if_neg c4, if_neg (by omega), if_neg (by omega)]

set_option maxHeartbeats 8000000 in
set_option maxRecDepth 1000000 in
theorem swapRange_I (g : Nat) (cb : Array Value) (blk off cap a b n : Nat) (d0 d : Array Int) (w0 w : World) (R : Row1 (Value.int .i64) w0 blk off d0) (hs : d0.size = d.size) (S : SW (Value.int .i64) w0 blk off d w)
    (hn0 : a + n ≤ b) (hn1 : a + n ≤ d.size) (hn2 : b + n ≤ d.size) (hsz : d.size < 4611686018427387904) :
    Calls Try.prog 70 #[.slice (some ⟨blk, off, none⟩) d.size cap, .int .i64 a, .int .i64 b, .int .i64 n, .func (.func g) #[] cb] w fun e w' => e = .returned (.tuple #[]) ∧ SW (Value.int .i64) w0 blk off (swapR d a b n) w' := by
  have mixed : Try.prog.follows .mixedOrders = true := by kernel_rfl
  have S0 : Aside (SW (Value.int .i64) w0 blk off d w) := S
  clear S
  go_enter Try.func70, Try.ntmps70
  go_wp2
  go_loopg [10] n (fun kx vi wr => ∃ (i : Nat) (dk : Array Int), vi = .int .i64 i ∧ i ≤ n ∧ n - i ≤ kx ∧ dk.size = d.size ∧ Aside (SW (Value.int .i64) w0 blk off dk wr) ∧ Hid (dk = swapR d a b i))
  case atStart => exact ⟨0, d, rfl, by omega, by omega, rfl, S0, rfl⟩
  case round =>
    clear S0
    obtain ⟨i, dk, rfl, hin, hkx, hds, S1, HD⟩ := hrel
    by_cases hlt : i < n
    · have hltz : (i : Int) < (n : Int) := by omega
      go_wp2_with fail
      obtain ⟨iN100, hiN100⟩ : ∃ q, q = a + i := ⟨_, rfl⟩
      obtain ⟨jN100, hjN100⟩ : ∃ q, q = b + i := ⟨_, rfl⟩
      have ea100 : ((a : Int) + (i : Int)).toNat = iN100 := by omega
      have pa100 : (0 : Int) ≤ (a : Int) + (i : Int) := by omega
      have ba100 : (a : Int) + (i : Int) < (d.size : Int) := by omega
      have ra100 : IntKind.i64.wrap ((a : Int) + (i : Int)) = (a : Int) + (i : Int) := by rw [IntKind.wrap_i64]; omega
      have ec100 : ((b : Int) + (i : Int)).toNat = jN100 := by omega
      have pc100 : (0 : Int) ≤ (b : Int) + (i : Int) := by omega
      have bc100 : (b : Int) + (i : Int) < (d.size : Int) := by omega
      have rc100 : IntKind.i64.wrap ((b : Int) + (i : Int)) = (b : Int) + (i : Int) := by rw [IntKind.wrap_i64]; omega
      obtain ⟨x100, hx100⟩ : ∃ x, x = dk[a + i]! := ⟨_, rfl⟩
      obtain ⟨y100, hy100⟩ : ∃ x, x = dk[b + i]! := ⟨_, rfl⟩
      have S2 : Aside (SW (Value.int .i64) w0 blk off (swp dk (a + i) (b + i)) ((wr.setCell ⟨blk, off + iN100, none⟩ (.int .i64 y100)).setCell ⟨blk, off + jN100, none⟩ (.int .i64 x100)).drew) := by rw [hiN100, hjN100, hx100, hy100]; exact S1.out.swapped R (a + i) (b + i) (by omega) (by omega)
      have c100a := S1.out.c1 R (by omega) (a + i) (by omega)
      have c100b := S1.out.c1 R (by omega) (b + i) (by omega)
      have f100a := S1.out.f1 R (by omega) (a + i) (by omega)
      have f100b := S1.out.f1 R (by omega) (b + i) (by omega)
      obtain ⟨u100, c100c⟩ := S1.out.c2 R (by omega) (a + i) (b + i) (by omega) (by omega) (.int .i64 y100)
      rw [← hjN100, ← hiN100] at c100c
      rw [← hx100, ← hiN100] at c100a
      rw [← hy100, ← hjN100] at c100b
      rw [← hiN100] at f100a
      rw [← hjN100] at f100b
      clear S1 hx100 hy100 hiN100 hjN100
      go_wp2_with fail
      go_big_region_o
      clear c100a c100b c100c f100a f100b
      generalize ((wr.setCell ⟨blk, off + iN100, none⟩ (.int .i64 y100)).setCell ⟨blk, off + jN100, none⟩ (.int .i64 x100)).drew = w2 at S2 ⊢
      clear ea100 ec100
      go_wp2
      go_roundg (n - (i + 1))
      case measure => omega
      case rel => exact ⟨i + 1, swp dk (a + i) (b + i), by go_num, by omega, Nat.le_refl _, by rw [size_swp]; exact hds, S2, (show Hid _ from by rw [HD.out]; exact rfl)⟩
    · have hltz : ¬ (i : Int) < (n : Int) := by omega
      obtain rfl : i = n := by omega
      go_wp2
      go_end0
      exact ⟨rfl, by rw [← HD.out]; exact S1.out⟩
end Go.Proofs.Ytfjipkkhjjpaiaa
