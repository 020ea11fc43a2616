/-
  The contract of the given package gavotteref01's Never over this seat's translation, and bounds. Conditions: those that each theorem states.
-/
import Derived.Test.YtaicfgimaeojbaaDoorRefL
import Derived.Deep.RegionHeld3
namespace Go.Proofs.YtaicfgimaeojbaaDoor
open Go.RowKit
attribute [local go_sem ↓] Go.wp_at_zero Go.wp_at_succ

theorem rnever_yes (w : World) :
    Calls Tryd.prog 15 #[.agg #[.int .i64 1, .int .i64 0]] w fun e w' => e = .returned (.bool true) ∧ Below w.heap.size w w' := by
  go_enter Tryd.func15, Tryd.ntmps15
  go_wp2
  go_ret
  exact ⟨rfl, belowA (Below.refl _ _) _⟩

theorem rnever_no (n d : Int) (h : ¬ isNever n d) (w : World) :
    Calls Tryd.prog 15 #[.agg #[.int .i64 n, .int .i64 d]] w fun e w' => e = .returned (.bool false) ∧ Below w.heap.size w w' := by
  by_cases hn : n = 1
  · subst hn
    have hd : (d == 0) = false := by
      unfold isNever at h
      simpa using h
    clear h
    go_enter Tryd.func15, Tryd.ntmps15
    go_wp2
    go_ret
    exact ⟨rfl, belowA (Below.refl _ _) _⟩
  · have hd : (n == 1) = false := by simpa using hn
    clear h
    go_enter Tryd.func15, Tryd.ntmps15
    go_wp2
    go_ret
    exact ⟨rfl, belowA (Below.refl _ _) _⟩

theorem right_dn (n d : Int) (h : ¬ isNever n d) (hd : ¬ 0 < d ∨ ¬ 0 ≤ n) : rightB n d = false := by
  rcases hd with hd | hd
  · exact right_d n d h hd
  · exact right_n n d h hd

theorem lt_i {n : Int} (h : n ≤ 9223372036854775807) : n < 10000 ^ 20 := by
  have h1 := pow_mono 5 20 (by omega)
  have h2 : (10000 : Int) ^ 5 = 100000000000000000000 := by decide
  generalize (10000 : Int) ^ 20 = M at *
  omega
theorem gcd_i {n d : Int} (hd : 0 < d) (h : d ≤ 9223372036854775807) : (Int.gcd n d : Int) < 10000 ^ 100 := by
  have h1 : (Int.gcd n d : Int) ≤ d := Int.le_of_dvd hd (Int.gcd_dvd_right ..)
  exact lt_b (lt_i (Int.le_trans h1 h))
theorem NumIs.drew {w : World} {v : Value} {N : Int} (h : NumIs w v N) : NumIs w.drew v N := h
theorem NumIs.alloc {w : World} {v : Value} {N : Int} (h : NumIs w v N) (o : Obj) : NumIs (w.alloc o) v N := h.keep (belowA (Below.refl _ _) _)

end Go.Proofs.YtaicfgimaeojbaaDoor
