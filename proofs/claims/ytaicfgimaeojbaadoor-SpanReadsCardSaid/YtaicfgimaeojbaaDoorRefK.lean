/-
  The contracts of the given package gavotteref01's Gcd, Num.Int, most and plain over this seat's translation. Conditions: those that each theorem states.
-/
import Derived.Test.YtaicfgimaeojbaaDoorRefJ
import Derived.Deep.LoopGhost
namespace Go.Proofs.YtaicfgimaeojbaaDoor
open Go.RowKit
attribute [local go_sem ↓] Go.wp_at_zero Go.wp_at_succ

theorem lt_m {x : Int} (h : x < 10000000000000000000000000000000000000000) : x < 10000 ^ 300 := by
  have h1 := pow_mono 10 300 (by omega)
  have h2 : (10000 : Int) ^ 10 = 10000000000000000000000000000000000000000 := by decide
  generalize (10000 : Int) ^ 300 = M at *
  omega

def GcdRel (A B : Int) (w : World) (k : Nat) (va vb : Value) (wr : World) : Prop :=
  ∃ (X Y : Int), NumIs wr va X ∧ NumIs wr vb Y ∧ X < 10000 ^ 20 ∧ Y < 10000 ^ 20 ∧ Int.gcd X Y = Int.gcd A B ∧ Y.toNat = k ∧ Below w.heap.size w wr
def NumPost (w : World) (N : Int) (e : Ending) (w' : World) : Prop := (∃ v, e = .returned v ∧ NumIs w' v N) ∧ Below w.heap.size w w'

set_option maxHeartbeats 2000000 in
theorem ngcd_c (va vb : Value) (A B : Int) (w : World) (na : NumIs w va A) (nb : NumIs w vb B) (hA : A < 10000 ^ 20) (hB : B < 10000 ^ 20) :
    Calls Tryd.prog 16 #[va, vb] w (NumPost w (Int.gcd A B)) := by
  have NA := Lib.hid na
  have NB := Lib.hid nb
  have HA := Lib.hid hA
  have HB := Lib.hid hB
  clear na nb hA hB
  go_enter Tryd.func16, Tryd.ntmps16
  go_wp2
  go_loopg [0, 1, 5, 6] B.toNat (fun k va vb _ _ wr => GcdRel A B w k va vb wr)
  case atStart => exact ⟨A, B, NA.out, NB.out, HA.out, HB.out, rfl, rfl, Below.refl _ _⟩
  case round =>
    clear NA NB HA HB
    obtain ⟨X, Y, n1, n2, h1, h2, hg, hk, hbl⟩ := hrel
    have hY0 := n2.nonneg
    have hX0 := n1.nonneg
    have N1 := Lib.hid n1
    have N2 := Lib.hid n2
    have H1 := Lib.hid h1
    have H2 := Lib.hid h2
    have HG := Lib.hid hg
    have HK := Lib.hid hk
    obtain ⟨l, ⟨x, c, rfl, hx⟩, d1, d2, rfl, _⟩ := n2
    have hnl := can_nil l d1 d2
    by_cases hl : l = []
    · have hl0 : l.length = 0 := by rw [hl]; rfl
      have hy : val l = 0 := hnl.2 hl
      rw [hy, Int.gcd_zero_right] at hg
      have e : X = (Int.gcd A B : Int) := by rw [← hg]; omega
      have E := Lib.hid e
      clear hg hk h1 h2 n1 hx d1 d2 hnl hl hy e hY0 H2 HG HK
      go_wp2
      go_ret
      exact ⟨⟨_, rfl, E.out ▸ N1.out⟩, hbl⟩
    · have hl0 : 0 < l.length := List.length_pos_iff.2 hl
      have hl1 : (0 : Int) < (l.length : Int) := by omega
      have hy : 0 < val l := by
        have : ¬ val l = 0 := fun e => hl (hnl.1 e)
        omega
      clear hg hk h1 h2 n1 hx d1 d2 hnl hl
      go_wp2_with fail
      refine (ndiv_c _ _ X (val l) wr N1.out N2.out H1.out hy H2.out).mono ?_
      rintro e w1 ⟨⟨v1, u1, rfl, hv1, hu1⟩, hb1⟩
      have HU := Lib.hid hu1
      have hr0 := Int.emod_nonneg X (b := val l) (by omega)
      have hr1 := Int.emod_lt_of_pos X hy
      clear hv1 hu1
      go_wp2
      go_roundg ((X % val l).toNat)
      case measure => rw [← HK.out]; omega
      case rel => exact ⟨val l, X % val l, N2.out.keep hb1, HU.out, H2.out, Int.lt_trans hr1 H2.out, by rw [gcd_step X (val l) hX0 hY0]; exact HG.out, rfl, belowT hbl hb1⟩

def IntRel (la : List Int) (vn vi : Value) : Prop := ∃ (k : Nat) (n : Int), vi = .int .i64 ((k : Int) - 1) ∧ vn = .int .i64 n ∧ k ≤ la.length ∧ 0 ≤ n ∧ val (la.take k) + 10000 ^ k * n = val la

theorem num_one (w : World) : NumIs (w.alloc (.cells #[.int .i64 1] 3)) (.slice (some ⟨w.heap.size, 0, none⟩) 1 1) 1 := by
  have h : OwnL (w.alloc (.cells #[.int .i64 1] 3)) w.heap.size (.slice (some ⟨w.heap.size, 0, none⟩) 1 1) [1] := World.ownsRow_lit w #[.int .i64 1] 1 (Nat.le_refl _) (by unfold maxLen; omega) rfl
  exact h.is (Dig.one (by omega) (by omega)) (by simp [Can])

end Go.Proofs.YtaicfgimaeojbaaDoor
