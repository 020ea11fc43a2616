/-
  The walk of the law SpanThirds over this seat's translation: whatever three times it is handed, it answers true. Conditions: the numbers are ints.
-/
import Derived.Test.YthdadpafankbfaaDoorSpanR
import Derived.Test.YthdadpafankbfaaDoorSpanG
namespace Go.Proofs.YthdadpafankbfaaDoor
open Go.RowKit
attribute [local go_sem ↓] Go.wp_at_zero Go.wp_at_succ

/-- What a law's frame holds of three times in their boxes. -/
def Box3 (B : Nat) (an ad bn bd cn cd : Int) (w : World) : Prop :=
  w.cell? ⟨B, 0, none⟩ = some (.int .i64 an) ∧ w.cell? ⟨B, 1, none⟩ = some (.int .i64 ad) ∧ w.cell? ⟨B + 1, 0, none⟩ = some (.int .i64 bn) ∧ w.cell? ⟨B + 1, 1, none⟩ = some (.int .i64 bd) ∧
  w.cell? ⟨B + 1 + 1, 0, none⟩ = some (.int .i64 cn) ∧ w.cell? ⟨B + 1 + 1, 1, none⟩ = some (.int .i64 cd)
theorem Box3.keep {B : Nat} {an ad bn bd cn cd : Int} {w w' : World} (k : Box3 B an ad bn bd cn cd w) (h : Below w.heap.size w w') : Box3 B an ad bn bd cn cd w' := by
  obtain ⟨c0, c1, c2, c3, c4, c5⟩ := k
  exact ⟨keepc h c0, keepc h c1, keepc h c2, keepc h c3, keepc h c4, keepc h c5⟩

set_option maxHeartbeats 2000000 in
theorem thirds_e1 (an ad bn bd cn cd xn xd xe yn yd ye : Int)
    (k1 : ∀ w : World, Calls Tryd.prog 16 #[.agg #[.int .i64 an, .int .i64 ad], .agg #[.int .i64 bn, .int .i64 bd]] w fun e w' => e = .returned (.tuple #[.agg #[.int .i64 xn, .int .i64 xd], .int .i64 xe]) ∧ Below w.heap.size w w')
    (k2 : ∀ w : World, Calls Tryd.prog 16 #[.agg #[.int .i64 bn, .int .i64 bd], .agg #[.int .i64 cn, .int .i64 cd]] w fun e w' => e = .returned (.tuple #[.agg #[.int .i64 yn, .int .i64 yd], .int .i64 ye]) ∧ Below w.heap.size w w')
    (hx : xe ≠ 0 ∨ xe = 0 ∧ ye ≠ 0) (w : World) :
    Calls Tryd.prog 12 #[.agg #[.int .i64 an, .int .i64 ad], .agg #[.int .i64 bn, .int .i64 bd], .agg #[.int .i64 cn, .int .i64 cd]] w fun e w' => e = .returned (.bool true) ∧ Below w.heap.size w w' := by
  have K1 := Lib.hid k1
  have K2 := Lib.hid k2
  clear k1 k2
  rcases hx with hx | ⟨rfl, hx⟩
  all_goals (
    go_enter Tryd.func12, Tryd.ntmps12
    go_wp2_with fail
    refine (K1.out _).mono ?_
    rintro e w1 ⟨rfl, hb1⟩
    have F1 : Box3 w.heap.size an ad bn bd cn cd w1 := Box3.keep ⟨by go_simp, by go_simp, by go_simp, by go_simp, by go_simp, by go_simp⟩ hb1
    have hw := box3 hb1
    clear hb1
    have F2 := F1.keep (belowA (Below.refl _ w1) (.cells #[.int .i64 xn, .int .i64 xd] 23))
    obtain ⟨f0, f1, f2, f3, f4, f5⟩ := F2
    go_wp2_with fail
    refine (K2.out _).mono ?_
    rintro e w2 ⟨rfl, hb2⟩
    go_wp2_with fail
    refine (awake_c _).mono ?_
    rintro e w3 ⟨rfl, hb3⟩
    go_wp2_with fail
    refine (awake_c _).mono ?_
    rintro e w4 ⟨rfl, hb4⟩
    go_wp2
    go_ret
    exact ⟨ret_bool rfl, by repeat (first | exact Below.refl _ _ | refine belowN ?_ _ | refine Below.drew ?_ | refine belowA ?_ _ | assumption | refine belowT ?_ (by assumption))⟩)

set_option maxHeartbeats 2000000 in
theorem thirds_ok (an ad bn bd cn cd xn xd yn yd sn sd se : Int)
    (k1 : ∀ w : World, Calls Tryd.prog 16 #[.agg #[.int .i64 an, .int .i64 ad], .agg #[.int .i64 bn, .int .i64 bd]] w fun e w' => e = .returned (.tuple #[.agg #[.int .i64 xn, .int .i64 xd], .int .i64 0]) ∧ Below w.heap.size w w')
    (k2 : ∀ w : World, Calls Tryd.prog 16 #[.agg #[.int .i64 bn, .int .i64 bd], .agg #[.int .i64 cn, .int .i64 cd]] w fun e w' => e = .returned (.tuple #[.agg #[.int .i64 yn, .int .i64 yd], .int .i64 0]) ∧ Below w.heap.size w w')
    (k3 : ∀ w : World, Calls Tryd.prog 16 #[.agg #[.int .i64 xn, .int .i64 xd], .agg #[.int .i64 cn, .int .i64 cd]] w fun e w' => e = .returned (.tuple #[.agg #[.int .i64 sn, .int .i64 sd], .int .i64 se]) ∧ Below w.heap.size w w')
    (k4 : ∀ w : World, Calls Tryd.prog 16 #[.agg #[.int .i64 an, .int .i64 ad], .agg #[.int .i64 yn, .int .i64 yd]] w fun e w' => e = .returned (.tuple #[.agg #[.int .i64 sn, .int .i64 sd], .int .i64 se]) ∧ Below w.heap.size w w') (w : World) :
    Calls Tryd.prog 12 #[.agg #[.int .i64 an, .int .i64 ad], .agg #[.int .i64 bn, .int .i64 bd], .agg #[.int .i64 cn, .int .i64 cd]] w fun e w' => e = .returned (.bool true) ∧ Below w.heap.size w w' := by
  have K1 := Lib.hid k1
  have K2 := Lib.hid k2
  have K3 := Lib.hid k3
  have K4 := Lib.hid k4
  clear k1 k2 k3 k4
  go_enter Tryd.func12, Tryd.ntmps12
  go_wp2_with fail
  refine (K1.out _).mono ?_
  rintro e w1 ⟨rfl, hb1⟩
  have F1 : Box3 w.heap.size an ad bn bd cn cd w1 := Box3.keep ⟨by go_simp, by go_simp, by go_simp, by go_simp, by go_simp, by go_simp⟩ hb1
  have hw := box3 hb1
  clear hb1
  have F2 := F1.keep (belowA (Below.refl _ w1) (.cells #[.int .i64 xn, .int .i64 xd] 23))
  obtain ⟨f0, f1, f2, f3, f4, f5⟩ := F2
  go_wp2_with fail
  refine (K2.out _).mono ?_
  rintro e w2 ⟨rfl, hb2⟩
  have x0 := keepc hb2 (p := ⟨w1.heap.size, 0, none⟩) (v := .int .i64 xn) (by go_simp)
  have x1 := keepc hb2 (p := ⟨w1.heap.size, 1, none⟩) (v := .int .i64 xd) (by go_simp)
  have F3 := F1.keep (belowT (belowA (Below.refl _ _) _) hb2)
  have hw2 := belowT (belowA hw _) hb2
  clear hb2 hw F1 f0 f1 f2 f3 f4 f5
  go_wp2_with fail
  refine (awake_c _).mono ?_
  rintro e w3 ⟨rfl, hb3⟩
  have y0 := keepc hb3 (p := ⟨w2.heap.size, 0, none⟩) (v := .int .i64 yn) (by go_simp)
  have y1 := keepc hb3 (p := ⟨w2.heap.size, 1, none⟩) (v := .int .i64 yd) (by go_simp)
  have hx := belowT (belowA (Below.refl _ w2) _) hb3
  replace x0 := keepc hx x0
  replace x1 := keepc hx x1
  replace F3 := F3.keep hx
  replace hw2 := belowT hw2 hx
  clear hb3 hx
  have F2 := F3
  obtain ⟨f0, f1, f2, f3, f4, f5⟩ := F2
  go_wp2_with fail
  refine (K3.out _).mono ?_
  rintro e w4 ⟨rfl, hb4⟩
  replace y0 := keepc hb4 y0
  replace y1 := keepc hb4 y1
  replace F3 := F3.keep hb4
  replace hw2 := belowT hw2 hb4
  clear hb4 f0 f1 f2 f3 f4 f5 x0 x1
  have F2 := F3.keep (belowA (Below.refl _ w4) (.cells #[.int .i64 sn, .int .i64 sd] 23))
  replace y0 := keepc (belowA (Below.refl _ w4) (.cells #[.int .i64 sn, .int .i64 sd] 23)) y0
  replace y1 := keepc (belowA (Below.refl _ w4) (.cells #[.int .i64 sn, .int .i64 sd] 23)) y1
  obtain ⟨f0, f1, f2, f3, f4, f5⟩ := F2
  go_wp2_with fail
  refine (K4.out _).mono ?_
  rintro e w5 ⟨rfl, hb5⟩
  have s0 := keepc hb5 (p := ⟨w4.heap.size, 0, none⟩) (v := .int .i64 sn) (by go_simp)
  have s1 := keepc hb5 (p := ⟨w4.heap.size, 1, none⟩) (v := .int .i64 sd) (by go_simp)
  replace hw2 := belowT (belowA hw2 _) hb5
  clear hb5 f0 f1 f2 f3 f4 f5 y0 y1 F3
  replace s0 := keepc (belowA (Below.refl _ w5) (.cells #[.int .i64 sn, .int .i64 sd] 23)) s0
  replace s1 := keepc (belowA (Below.refl _ w5) (.cells #[.int .i64 sn, .int .i64 sd] 23)) s1
  go_wp2
  go_ret
  exact ⟨ret_bool (by simp), by repeat (first | exact Below.refl _ _ | refine belowN ?_ _ | refine Below.drew ?_ | refine belowA ?_ _ | assumption | refine belowT ?_ (by assumption))⟩
end Go.Proofs.YthdadpafankbfaaDoor
