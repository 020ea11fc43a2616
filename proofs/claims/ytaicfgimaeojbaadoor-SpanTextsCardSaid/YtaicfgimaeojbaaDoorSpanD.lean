/-
  The contracts of package span over this seat's translation, fourth part: Cmp. No condition but the bounds that each theorem states.
-/
import Derived.Test.YtaicfgimaeojbaaDoorSpanC
namespace Go.Proofs.YtaicfgimaeojbaaDoor
open Go.RowKit
attribute [local go_sem ↓] Go.wp_at_zero Go.wp_at_succ

theorem compare_m (p q : Int) (w : World) :
    Calls Tryd.prog 30 #[.agg #[.int .u64 (p / 18446744073709551616), .int .u64 (p % 18446744073709551616)], .agg #[.int .u64 (q / 18446744073709551616), .int .u64 (q % 18446744073709551616)]] w fun e w' => e = .returned (.int .i64 (sgn p q)) ∧ Below w.heap.size w w' := by
  have h := compare_c (p / 18446744073709551616) (p % 18446744073709551616) (q / 18446744073709551616) (q % 18446744073709551616) (by omega) (by omega) w
  have e1 : p / 18446744073709551616 * 18446744073709551616 + p % 18446744073709551616 = p := by omega
  have e2 : q / 18446744073709551616 * 18446744073709551616 + q % 18446744073709551616 = q := by omega
  rw [e1, e2] at h
  exact h

theorem times_w (x y : Int) (hx0 : 0 ≤ x) (hx : x ≤ 9223372036854775807) (hy0 : 0 ≤ y) (hy : y ≤ 9223372036854775807) (w : World) :
    Calls Tryd.prog 31 #[.int .u64 (IntKind.u64.wrap x), .int .u64 (IntKind.u64.wrap y)] w fun e w' => e = .returned (.agg #[.int .u64 (x * y / 18446744073709551616), .int .u64 (x * y % 18446744073709551616)]) ∧ Below w.heap.size w w' := by
  have ex : IntKind.u64.wrap x = x := by rw [IntKind.wrap_u64]; omega
  have ey : IntKind.u64.wrap y = y := by rw [IntKind.wrap_u64]; omega
  rw [ex, ey]
  exact times_c x y hx0 (by omega) hy0 (by omega) w

def cmpS (an ad bn bd : Int) : Int := if rightB an ad = true ∧ rightB bn bd = true then sgn (an * bd) (bn * ad) else 0

theorem right_bd {n d : Int} (h : rightB n d = true) : 0 ≤ n ∧ 0 ≤ d := by
  unfold rightB isNever plainR at h
  simp at h
  omega

theorem boxes {w : World} {o1 o2 : Obj} {w1 : World} (hb : Below ((w.alloc o1).alloc o2).heap.size ((w.alloc o1).alloc o2) w1) : Below w.heap.size w w1 := belowT (belowA (belowA (Below.refl _ _) _) _) hb

set_option maxHeartbeats 1000000 in
theorem cmp_no (an ad bn bd : Int) (ha : In64 an ∧ In64 ad) (hb : In64 bn ∧ In64 bd) (h : ¬ (rightB an ad = true ∧ rightB bn bd = true)) (w : World) :
    Calls Tryd.prog 20 #[.agg #[.int .i64 an, .int .i64 ad], .agg #[.int .i64 bn, .int .i64 bd]] w fun e w' => e = .returned (.int .i64 (cmpS an ad bn bd)) ∧ Below w.heap.size w w' := by
  have hz : cmpS an ad bn bd = 0 := by unfold cmpS; rw [if_neg h]
  have Hz := Lib.hid hz
  clear hz
  by_cases hra : rightB an ad = true
  · have hrb : rightB bn bd = false := by simpa [hra] using h
    clear h
    go_enter Tryd.func20, Tryd.ntmps20
    go_wp2_with fail
    refine (right_c an ad ha.1 ha.2 _).mono ?_
    rintro e w1 ⟨rfl, hb1⟩
    have c0 := keepc hb1 (p := ⟨w.heap.size + 1, 0, none⟩) (v := .int .i64 bn) (by go_simp)
    have c1 := keepc hb1 (p := ⟨w.heap.size + 1, 1, none⟩) (v := .int .i64 bd) (by go_simp)
    go_wp2_with fail
    refine (right_c bn bd hb.1 hb.2 _).mono ?_
    rintro e w2 ⟨rfl, hb2⟩
    go_wp2
    go_ret
    exact ⟨ret_int Hz.out.symm, belowT (boxes hb1) hb2⟩
  · have hra' : rightB an ad = false := by simpa using hra
    clear h hra
    go_enter Tryd.func20, Tryd.ntmps20
    go_wp2_with fail
    refine (right_c an ad ha.1 ha.2 _).mono ?_
    rintro e w1 ⟨rfl, hb1⟩
    go_wp2
    go_ret
    exact ⟨ret_int Hz.out.symm, boxes hb1⟩

set_option maxHeartbeats 2000000 in
theorem cmp_yes (an ad bn bd : Int) (ha : In64 an ∧ In64 ad) (hb : In64 bn ∧ In64 bd) (hra : rightB an ad = true) (hrb : rightB bn bd = true) (w : World) :
    Calls Tryd.prog 20 #[.agg #[.int .i64 an, .int .i64 ad], .agg #[.int .i64 bn, .int .i64 bd]] w fun e w' => e = .returned (.int .i64 (sgn (an * bd) (bn * ad))) ∧ Below w.heap.size w w' := by
  obtain ⟨⟨a1, a2⟩, ⟨a3, a4⟩⟩ := ha
  obtain ⟨⟨b1, b2⟩, ⟨b3, b4⟩⟩ := hb
  obtain ⟨a0, d0⟩ := right_bd hra
  obtain ⟨b0, e0⟩ := right_bd hrb
  go_enter Tryd.func20, Tryd.ntmps20
  go_wp2_with fail
  refine (right_c an ad ⟨a1, a2⟩ ⟨a3, a4⟩ _).mono ?_
  rintro e w1 ⟨rfl, hb1⟩
  have c0 := keepc hb1 (p := ⟨w.heap.size + 1, 0, none⟩) (v := .int .i64 bn) (by go_simp)
  have c1 := keepc hb1 (p := ⟨w.heap.size + 1, 1, none⟩) (v := .int .i64 bd) (by go_simp)
  have c2 := keepc hb1 (p := ⟨w.heap.size, 0, none⟩) (v := .int .i64 an) (by go_simp)
  have c3 := keepc hb1 (p := ⟨w.heap.size, 1, none⟩) (v := .int .i64 ad) (by go_simp)
  go_wp2_with fail
  refine (right_c bn bd ⟨b1, b2⟩ ⟨b3, b4⟩ _).mono ?_
  rintro e w2 ⟨rfl, hb2⟩
  have g0 := keepc hb2 c0
  have g1 := keepc hb2 c1
  have g2 := keepc hb2 c2
  have g3 := keepc hb2 c3
  have hw := belowT (boxes hb1) hb2
  clear c0 c1 c2 c3 hb1 hb2 w1
  go_wp2_with fail
  go_region_held3 (fun w' => w'.cell? ⟨w.heap.size, 0, none⟩ = some (.int .i64 an) ∧ w'.cell? ⟨w.heap.size, 1, none⟩ = some (.int .i64 ad) ∧ w'.cell? ⟨w.heap.size + 1, 0, none⟩ = some (.int .i64 bn) ∧ w'.cell? ⟨w.heap.size + 1, 1, none⟩ = some (.int .i64 bd))
    (first | (go_split_ands; (repeat' apply And.intro) <;> exact keepc hb (by assumption)) | go_keep)
    (first
      | (go_at_call 31; refine (times_w _ _ (by assumption) (by assumption) (by assumption) (by assumption) _).mono ?_; rintro e w1 ⟨rfl, hb⟩)
      | (go_at_call 30; refine (compare_m _ _ _).mono ?_; rintro e w1 ⟨rfl, hb⟩))
  all_goals go_wp2
  all_goals (go_ret; exact ⟨rfl, (by repeat (first | exact Below.refl _ _ | refine belowN ?_ _ | refine Below.drew ?_ | refine belowA ?_ _ | refine belowT ?_ (by assumption)))⟩)

theorem cmp_c (an ad bn bd : Int) (ha : In64 an ∧ In64 ad) (hb : In64 bn ∧ In64 bd) (w : World) :
    Calls Tryd.prog 20 #[.agg #[.int .i64 an, .int .i64 ad], .agg #[.int .i64 bn, .int .i64 bd]] w fun e w' => e = .returned (.int .i64 (cmpS an ad bn bd)) ∧ Below w.heap.size w w' := by
  by_cases h : rightB an ad = true ∧ rightB bn bd = true
  · have e : cmpS an ad bn bd = sgn (an * bd) (bn * ad) := by unfold cmpS; rw [if_pos h]
    rw [e]
    exact cmp_yes an ad bn bd ha hb h.1 h.2 w
  · exact cmp_no an ad bn bd ha hb h w
end Go.Proofs.YtaicfgimaeojbaaDoor
