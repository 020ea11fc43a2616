/-
  The contract of the given package gavotteref01's Right over this seat's translation, where it does not reckon. Conditions: those that the theorem states.
-/
import Derived.Test.YtaicfgimaeojbaaDoorRefNa
import Derived.BigQuiet
namespace Go.Proofs.YtaicfgimaeojbaaDoor
open Go.RowKit
attribute [local go_sem ↓] Go.wp_at_zero Go.wp_at_succ

theorem rright_never (w : World) :
    Calls Tryd.prog 7 #[.agg #[.int .i64 1, .int .i64 0]] w fun e w' => e = .returned (.bool true) ∧ Below w.heap.size w w' := by
  go_enter Tryd.func7, Tryd.ntmps7
  go_wp2_with fail
  refine (rnever_yes _).mono ?_
  rintro e w1 ⟨rfl, hb⟩
  go_wp2
  go_ret
  exact ⟨rfl, belowT (belowA (Below.refl _ _) _) hb⟩

set_option maxHeartbeats 2000000 in
theorem rright_no (n d : Int) (hn : In64 n) (hd : In64 d) (h : ¬ isNever n d) (hdn : ¬ 0 < d ∨ ¬ 0 ≤ n) (w : World) :
    Calls Tryd.prog 7 #[.agg #[.int .i64 n, .int .i64 d]] w fun e w' => e = .returned (.bool (rightB n d)) ∧ Below w.heap.size w w' := by
  rw [right_dn n d h hdn]
  have K := Lib.hid (rnever_no n d h)
  obtain ⟨hn1, hn2⟩ := hn
  obtain ⟨hd1, hd2⟩ := hd
  clear h
  by_cases hdp : 0 < d
  · have hnp : decide (0 ≤ n) = false := by simp; omega
    clear hdn
    go_enter Tryd.func7, Tryd.ntmps7
    go_wp2_with fail
    refine (K.out _).mono ?_
    rintro e w1 ⟨rfl, hb⟩
    have c0 := keepc hb (p := ⟨w.heap.size, 0, none⟩) (v := .int .i64 n) (by go_simp)
    have c1 := keepc hb (p := ⟨w.heap.size, 1, none⟩) (v := .int .i64 d) (by go_simp)
    have W1 := belowT (belowA (Below.refl _ w) _) hb
    clear hb
    go_wp2_with fail
    go_quiet (fail)
    go_wp2
    go_ret
    exact ⟨rfl, (by repeat (first | assumption | exact Below.refl _ _ | refine belowN ?_ _ | refine Below.drew ?_ | refine belowA ?_ _ | refine belowT ?_ (by assumption)))⟩
  · have hdz : decide (0 < d) = false := by simp; omega
    clear hdn
    go_enter Tryd.func7, Tryd.ntmps7
    go_wp2_with fail
    refine (K.out _).mono ?_
    rintro e w1 ⟨rfl, hb⟩
    have c0 := keepc hb (p := ⟨w.heap.size, 0, none⟩) (v := .int .i64 n) (by go_simp)
    have c1 := keepc hb (p := ⟨w.heap.size, 1, none⟩) (v := .int .i64 d) (by go_simp)
    have W1 := belowT (belowA (Below.refl _ w) _) hb
    clear hb
    go_wp2_with fail
    go_quiet (fail)
    go_wp2
    go_ret
    exact ⟨rfl, (by repeat (first | assumption | exact Below.refl _ _ | refine belowN ?_ _ | refine Below.drew ?_ | refine belowA ?_ _ | refine belowT ?_ (by assumption)))⟩

end Go.Proofs.YtaicfgimaeojbaaDoor
