/-
  The contracts of package span over this seat's translation, fifth part: size, fit, Make, Whole. No condition but the bounds that each theorem states.
-/
import Derived.Test.YtaicfgimaeojbaaDoorSpanD
namespace Go.Proofs.YtaicfgimaeojbaaDoor
open Go.RowKit
attribute [local go_sem ↓] Go.wp_at_zero Go.wp_at_succ

theorem size_c (n : Int) (hn : In64 n) (w : World) :
    Calls Tryd.prog 28 #[.int .i64 n] w fun e w' => e = .returned (.int .u64 (n.natAbs : Int)) ∧ w = w' := by
  obtain ⟨h1, h2⟩ := hn
  by_cases h : n < 0
  · go_enter Tryd.func28, Tryd.ntmps28
    go_wp2
    go_ret
    refine ⟨ret_int ?_, rfl⟩
    simp only [IntKind.wrap_u64]
    omega
  · go_enter Tryd.func28, Tryd.ntmps28
    go_wp2
    go_ret
    refine ⟨ret_int ?_, rfl⟩
    omega

/-- What fit answers: the time and the error's number. -/
def fitT (nh nl dh dl : Int) : Int × Int × Int := if 0 < nh ∨ 0 < dh ∨ 9223372036854775807 < nl ∨ 9223372036854775807 < dl then (0, 0, 2) else (nl, dl, 0)
def timeV (t : Int × Int × Int) : Value := .tuple #[.agg #[.int .i64 t.1, .int .i64 t.2.1], .int .i64 t.2.2]

set_option maxHeartbeats 1000000 in
theorem fit_c (nh nl dh dl : Int) (h0 : 0 ≤ nh) (h1 : 0 ≤ nl) (h2 : 0 ≤ dh) (h3 : 0 ≤ dl) (w : World) :
    Calls Tryd.prog 29 #[.agg #[.int .u64 nh, .int .u64 nl], .agg #[.int .u64 dh, .int .u64 dl]] w fun e w' => e = .returned (timeV (fitT nh nl dh dl)) ∧ Below w.heap.size w w' := by
  by_cases h : 0 < nh ∨ 0 < dh ∨ 9223372036854775807 < nl ∨ 9223372036854775807 < dl
  · have e : timeV (fitT nh nl dh dl) = .tuple #[.agg #[.int .i64 0, .int .i64 0], .int .i64 2] := by unfold fitT; rw [if_pos h]; rfl
    rw [e]
    clear e
    by_cases a : 0 < nh
    · clear h
      go_enter Tryd.func29, Tryd.ntmps29
      go_wp2
      exact bodyPost_ret (v := .tuple #[.agg #[.int .i64 0, .int .i64 0], .int .i64 2]) (by simp [results, Tryd.results29, go_sem]) rfl ⟨rfl, (by repeat (first | exact Below.refl _ _ | refine belowN ?_ _ | refine Below.drew ?_ | refine belowA ?_ _ | refine belowT ?_ (by assumption)))⟩
    · by_cases b : 0 < dh
      · clear h
        go_enter Tryd.func29, Tryd.ntmps29
        go_wp2
        exact bodyPost_ret (v := .tuple #[.agg #[.int .i64 0, .int .i64 0], .int .i64 2]) (by simp [results, Tryd.results29, go_sem]) rfl ⟨rfl, (by repeat (first | exact Below.refl _ _ | refine belowN ?_ _ | refine Below.drew ?_ | refine belowA ?_ _ | refine belowT ?_ (by assumption)))⟩
      · by_cases c : 9223372036854775807 < nl
        · clear h
          go_enter Tryd.func29, Tryd.ntmps29
          go_wp2
          exact bodyPost_ret (v := .tuple #[.agg #[.int .i64 0, .int .i64 0], .int .i64 2]) (by simp [results, Tryd.results29, go_sem]) rfl ⟨rfl, (by repeat (first | exact Below.refl _ _ | refine belowN ?_ _ | refine Below.drew ?_ | refine belowA ?_ _ | refine belowT ?_ (by assumption)))⟩
        · have d : 9223372036854775807 < dl := by omega
          clear h
          go_enter Tryd.func29, Tryd.ntmps29
          go_wp2
          exact bodyPost_ret (v := .tuple #[.agg #[.int .i64 0, .int .i64 0], .int .i64 2]) (by simp [results, Tryd.results29, go_sem]) rfl ⟨rfl, (by repeat (first | exact Below.refl _ _ | refine belowN ?_ _ | refine Below.drew ?_ | refine belowA ?_ _ | refine belowT ?_ (by assumption)))⟩
  · have e : timeV (fitT nh nl dh dl) = .tuple #[.agg #[.int .i64 nl, .int .i64 dl], .int .i64 0] := by unfold fitT; rw [if_neg h]; rfl
    rw [e]
    clear e
    have a : ¬ 0 < nh := by omega
    have b : ¬ 0 < dh := by omega
    have c : nl ≤ 9223372036854775807 := by omega
    have d : dl ≤ 9223372036854775807 := by omega
    clear h
    go_enter Tryd.func29, Tryd.ntmps29
    go_wp2
    exact bodyPost_ret (v := .tuple #[.agg #[.int .i64 nl, .int .i64 dl], .int .i64 0]) (by simp [results, Tryd.results29, go_sem]) rfl ⟨rfl, (by repeat (first | exact Below.refl _ _ | refine belowN ?_ _ | refine Below.drew ?_ | refine belowA ?_ _ | refine belowT ?_ (by assumption)))⟩
end Go.Proofs.YtaicfgimaeojbaaDoor
