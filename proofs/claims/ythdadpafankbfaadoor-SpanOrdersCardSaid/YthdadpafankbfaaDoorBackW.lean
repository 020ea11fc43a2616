/-
  The walk of the law SpanBack over this seat's translation: whatever two times it is handed, it answers true. Conditions: the numbers are ints.
-/
import Derived.Test.YthdadpafankbfaaDoorSpanR
import Derived.Test.YthdadpafankbfaaDoorSpanG
namespace Go.Proofs.YthdadpafankbfaaDoor
open Go.RowKit
attribute [local go_sem ↓] Go.wp_at_zero Go.wp_at_succ

/-- What a law's frame holds of two times in their boxes. -/
def Box2 (B : Nat) (an ad bn bd : Int) (w : World) : Prop :=
  w.cell? ⟨B, 0, none⟩ = some (.int .i64 an) ∧ w.cell? ⟨B, 1, none⟩ = some (.int .i64 ad) ∧ w.cell? ⟨B + 1, 0, none⟩ = some (.int .i64 bn) ∧ w.cell? ⟨B + 1, 1, none⟩ = some (.int .i64 bd)
theorem Box2.keep {B : Nat} {an ad bn bd : Int} {w w' : World} (k : Box2 B an ad bn bd w) (h : Below w.heap.size w w') : Box2 B an ad bn bd w' := by
  obtain ⟨c0, c1, c2, c3⟩ := k
  exact ⟨keepc h c0, keepc h c1, keepc h c2, keepc h c3⟩

set_option maxHeartbeats 2000000 in
/-- The sum is refused: by an argument that isn't right, or since it is too large. -/
theorem back_err (an ad bn bd xe : Int) (hxe : xe = 1 ∨ xe = 2)
    (k1 : ∀ w : World, Calls Tryd.prog 16 #[.agg #[.int .i64 an, .int .i64 ad], .agg #[.int .i64 bn, .int .i64 bd]] w fun e w' => e = .returned (.tuple #[.agg #[.int .i64 0, .int .i64 0], .int .i64 xe]) ∧ Below w.heap.size w w')
    (k2 : ∀ w : World, Calls Tryd.prog 16 #[.agg #[.int .i64 bn, .int .i64 bd], .agg #[.int .i64 an, .int .i64 ad]] w fun e w' => e = .returned (.tuple #[.agg #[.int .i64 0, .int .i64 0], .int .i64 xe]) ∧ Below w.heap.size w w') (w : World) :
    Calls Tryd.prog 4 #[.agg #[.int .i64 an, .int .i64 ad], .agg #[.int .i64 bn, .int .i64 bd]] w fun e w' => e = .returned (.bool true) ∧ Below w.heap.size w w' := by
  have K1 := Lib.hid k1
  have K2 := Lib.hid k2
  clear k1 k2
  rcases hxe with rfl | rfl
  all_goals (
    go_enter Tryd.func4, Tryd.ntmps4
    go_wp2_with fail
    refine (K1.out _).mono ?_
    rintro e w1 ⟨rfl, hb1⟩
    have F1 : Box2 w.heap.size an ad bn bd w1 := Box2.keep ⟨by go_simp, by go_simp, by go_simp, by go_simp⟩ hb1
    have hw := boxes hb1
    clear hb1
    have F2 := F1.keep (belowA (Below.refl _ w1) (.cells #[.int .i64 0, .int .i64 0] 23))
    obtain ⟨f0, f1, f2, f3⟩ := F2
    go_wp2_with fail
    refine (K2.out _).mono ?_
    rintro e w2 ⟨rfl, hb2⟩
    have x0 := keepc hb2 (p := ⟨w1.heap.size, 0, none⟩) (v := .int .i64 0) (by go_simp)
    have x1 := keepc hb2 (p := ⟨w1.heap.size, 1, none⟩) (v := .int .i64 0) (by go_simp)
    have hw2 := belowT (belowA hw _) hb2
    clear hb2 hw F1 f0 f1 f2 f3
    go_wp2_with fail
    refine (awake_c _).mono ?_
    rintro e w3 ⟨rfl, hb3⟩
    have y0 := keepc hb3 (p := ⟨w2.heap.size, 0, none⟩) (v := .int .i64 0) (by go_simp)
    have y1 := keepc hb3 (p := ⟨w2.heap.size, 1, none⟩) (v := .int .i64 0) (by go_simp)
    have hx := belowT (belowA (Below.refl _ w2) _) hb3
    replace x0 := keepc hx x0
    replace x1 := keepc hx x1
    replace hw2 := belowT hw2 hx
    clear hb3 hx
    go_wp2
    go_ret
    exact ⟨ret_bool (by simp), hw2⟩)

set_option maxHeartbeats 2000000 in
theorem back_ok0 (an ad xn xd gn gd : Int) (hi : In64 xn ∧ In64 xd) (hrx : rightB xn xd = true)
    (k1 : ∀ w : World, Calls Tryd.prog 16 #[.agg #[.int .i64 an, .int .i64 ad], .agg #[.int .i64 1, .int .i64 0]] w fun e w' => e = .returned (.tuple #[.agg #[.int .i64 xn, .int .i64 xd], .int .i64 0]) ∧ Below w.heap.size w w')
    (k2 : ∀ w : World, Calls Tryd.prog 16 #[.agg #[.int .i64 1, .int .i64 0], .agg #[.int .i64 an, .int .i64 ad]] w fun e w' => e = .returned (.tuple #[.agg #[.int .i64 xn, .int .i64 xd], .int .i64 0]) ∧ Below w.heap.size w w')
    (k3 : ∀ w : World, Calls Tryd.prog 18 #[.agg #[.int .i64 xn, .int .i64 xd], .agg #[.int .i64 1, .int .i64 0]] w fun e w' => e = .returned (.tuple #[.agg #[.int .i64 gn, .int .i64 gd], .int .i64 4]) ∧ Below w.heap.size w w') (w : World) :
    Calls Tryd.prog 4 #[.agg #[.int .i64 an, .int .i64 ad], .agg #[.int .i64 1, .int .i64 0]] w fun e w' => e = .returned (.bool true) ∧ Below w.heap.size w w' := by
  have K1 := Lib.hid k1
  have K2 := Lib.hid k2
  have K3 := Lib.hid k3
  have kr : ∀ w : World, Calls Tryd.prog 15 #[.agg #[.int .i64 xn, .int .i64 xd]] w fun e w' => e = .returned (.bool true) ∧ Below w.heap.size w w' := fun w => by
    have := right_c xn xd hi.1 hi.2 w
    rw [hrx] at this
    exact this
  have KR := Lib.hid kr
  clear k1 k2 k3 kr hi hrx
  go_enter Tryd.func4, Tryd.ntmps4
  go_wp2_with fail
  refine (K1.out _).mono ?_
  rintro e w1 ⟨rfl, hb1⟩
  have F1 : Box2 w.heap.size an ad 1 0 w1 := Box2.keep ⟨by go_simp, by go_simp, by go_simp, by go_simp⟩ hb1
  have hw := boxes hb1
  clear hb1
  have F2 := F1.keep (belowA (Below.refl _ w1) (.cells #[.int .i64 xn, .int .i64 xd] 23))
  obtain ⟨f0, f1, f2, f3⟩ := F2
  go_wp2_with fail
  refine (K2.out _).mono ?_
  rintro e w2 ⟨rfl, hb2⟩
  have x0 := keepc hb2 (p := ⟨w1.heap.size, 0, none⟩) (v := .int .i64 xn) (by go_simp)
  have x1 := keepc hb2 (p := ⟨w1.heap.size, 1, none⟩) (v := .int .i64 xd) (by go_simp)
  replace F1 := F1.keep (belowT (belowA (Below.refl _ _) _) hb2)
  have hw2 := belowT (belowA hw _) hb2
  clear hb2 hw f0 f1 f2 f3
  go_wp2_with fail
  refine (awake_c _).mono ?_
  rintro e w3 ⟨rfl, hb3⟩
  have y0 := keepc hb3 (p := ⟨w2.heap.size, 0, none⟩) (v := .int .i64 xn) (by go_simp)
  have y1 := keepc hb3 (p := ⟨w2.heap.size, 1, none⟩) (v := .int .i64 xd) (by go_simp)
  have hx := belowT (belowA (Below.refl _ w2) _) hb3
  replace x0 := keepc hx x0
  replace x1 := keepc hx x1
  replace F1 := F1.keep hx
  replace hw2 := belowT hw2 hx
  clear hb3 hx
  go_wp2_with fail
  refine (KR.out _).mono ?_
  rintro e w4 ⟨rfl, hb4⟩
  replace x0 := keepc hb4 x0
  replace x1 := keepc hb4 x1
  replace F1 := F1.keep hb4
  replace hw2 := belowT hw2 hb4
  clear hb4 y0 y1
  have F2 := F1
  obtain ⟨f0, f1, f2, f3⟩ := F2
  go_wp2_with fail
  refine (K3.out _).mono ?_
  rintro e w5 ⟨rfl, hb5⟩
  replace F1 := F1.keep hb5
  replace hw2 := belowT hw2 hb5
  clear hb5 x0 x1 f0 f1 f2 f3
  have F2 := F1.keep (belowA (Below.refl _ w5) (.cells #[.int .i64 gn, .int .i64 gd] 23))
  obtain ⟨f0, f1, f2, f3⟩ := F2
  go_wp2_with fail
  go_region_held3 (fun w' => w'.cell? ⟨w.heap.size, 0, none⟩ = some (.int .i64 an) ∧ w'.cell? ⟨w.heap.size, 1, none⟩ = some (.int .i64 ad) ∧ w'.cell? ⟨w.heap.size + 1, 0, none⟩ = some (.int .i64 1) ∧ w'.cell? ⟨w.heap.size + 1, 1, none⟩ = some (.int .i64 0) ∧
      w'.cell? ⟨w5.heap.size, 0, none⟩ = some (.int .i64 gn) ∧ w'.cell? ⟨w5.heap.size, 1, none⟩ = some (.int .i64 gd))
    (first | (go_split_ands; exact ⟨keepc hb (by assumption), keepc hb (by assumption), keepc hb (by assumption), keepc hb (by assumption), keepc hb (by assumption), keepc hb (by assumption)⟩) | go_keep)
    (first | (go_at_call 17; refine (never_c _).mono ?_; rintro e w6 ⟨rfl, hb⟩))
  go_wp2
  go_ret
  exact ⟨ret_bool (by simp), by repeat (first | exact Below.refl _ _ | refine belowN ?_ _ | refine Below.drew ?_ | refine belowA ?_ _ | assumption | refine belowT ?_ (by assumption))⟩

set_option maxHeartbeats 2000000 in
theorem back_ok1 (an ad bn bd xn xd : Int) (hi : In64 xn ∧ In64 xd) (hrx : rightB xn xd = true)
    (k1 : ∀ w : World, Calls Tryd.prog 16 #[.agg #[.int .i64 an, .int .i64 ad], .agg #[.int .i64 bn, .int .i64 bd]] w fun e w' => e = .returned (.tuple #[.agg #[.int .i64 xn, .int .i64 xd], .int .i64 0]) ∧ Below w.heap.size w w')
    (k2 : ∀ w : World, Calls Tryd.prog 16 #[.agg #[.int .i64 bn, .int .i64 bd], .agg #[.int .i64 an, .int .i64 ad]] w fun e w' => e = .returned (.tuple #[.agg #[.int .i64 xn, .int .i64 xd], .int .i64 0]) ∧ Below w.heap.size w w')
    (k3 : ∀ w : World, Calls Tryd.prog 18 #[.agg #[.int .i64 xn, .int .i64 xd], .agg #[.int .i64 bn, .int .i64 bd]] w fun e w' => e = .returned (.tuple #[.agg #[.int .i64 an, .int .i64 ad], .int .i64 0]) ∧ Below w.heap.size w w') (hn : (bn == 1) = false) (w : World) :
    Calls Tryd.prog 4 #[.agg #[.int .i64 an, .int .i64 ad], .agg #[.int .i64 bn, .int .i64 bd]] w fun e w' => e = .returned (.bool true) ∧ Below w.heap.size w w' := by
  have K1 := Lib.hid k1
  have K2 := Lib.hid k2
  have K3 := Lib.hid k3
  have kr : ∀ w : World, Calls Tryd.prog 15 #[.agg #[.int .i64 xn, .int .i64 xd]] w fun e w' => e = .returned (.bool true) ∧ Below w.heap.size w w' := fun w => by
    have := right_c xn xd hi.1 hi.2 w
    rw [hrx] at this
    exact this
  have KR := Lib.hid kr
  clear k1 k2 k3 kr hi hrx
  go_enter Tryd.func4, Tryd.ntmps4
  go_wp2_with fail
  refine (K1.out _).mono ?_
  rintro e w1 ⟨rfl, hb1⟩
  have F1 : Box2 w.heap.size an ad bn bd w1 := Box2.keep ⟨by go_simp, by go_simp, by go_simp, by go_simp⟩ hb1
  have hw := boxes hb1
  clear hb1
  have F2 := F1.keep (belowA (Below.refl _ w1) (.cells #[.int .i64 xn, .int .i64 xd] 23))
  obtain ⟨f0, f1, f2, f3⟩ := F2
  go_wp2_with fail
  refine (K2.out _).mono ?_
  rintro e w2 ⟨rfl, hb2⟩
  have x0 := keepc hb2 (p := ⟨w1.heap.size, 0, none⟩) (v := .int .i64 xn) (by go_simp)
  have x1 := keepc hb2 (p := ⟨w1.heap.size, 1, none⟩) (v := .int .i64 xd) (by go_simp)
  replace F1 := F1.keep (belowT (belowA (Below.refl _ _) _) hb2)
  have hw2 := belowT (belowA hw _) hb2
  clear hb2 hw f0 f1 f2 f3
  go_wp2_with fail
  refine (awake_c _).mono ?_
  rintro e w3 ⟨rfl, hb3⟩
  have y0 := keepc hb3 (p := ⟨w2.heap.size, 0, none⟩) (v := .int .i64 xn) (by go_simp)
  have y1 := keepc hb3 (p := ⟨w2.heap.size, 1, none⟩) (v := .int .i64 xd) (by go_simp)
  have hx := belowT (belowA (Below.refl _ w2) _) hb3
  replace x0 := keepc hx x0
  replace x1 := keepc hx x1
  replace F1 := F1.keep hx
  replace hw2 := belowT hw2 hx
  clear hb3 hx
  go_wp2_with fail
  refine (KR.out _).mono ?_
  rintro e w4 ⟨rfl, hb4⟩
  replace x0 := keepc hb4 x0
  replace x1 := keepc hb4 x1
  replace F1 := F1.keep hb4
  replace hw2 := belowT hw2 hb4
  clear hb4 y0 y1
  have F2 := F1
  obtain ⟨f0, f1, f2, f3⟩ := F2
  go_wp2_with fail
  refine (K3.out _).mono ?_
  rintro e w5 ⟨rfl, hb5⟩
  replace F1 := F1.keep hb5
  replace hw2 := belowT hw2 hb5
  clear hb5 x0 x1 f0 f1 f2 f3
  have F2 := F1.keep (belowA (Below.refl _ w5) (.cells #[.int .i64 an, .int .i64 ad] 23))
  obtain ⟨f0, f1, f2, f3⟩ := F2
  go_wp2_with fail
  go_region_held3 (fun w' => w'.cell? ⟨w.heap.size, 0, none⟩ = some (.int .i64 an) ∧ w'.cell? ⟨w.heap.size, 1, none⟩ = some (.int .i64 ad) ∧ w'.cell? ⟨w.heap.size + 1, 0, none⟩ = some (.int .i64 bn) ∧ w'.cell? ⟨w.heap.size + 1, 1, none⟩ = some (.int .i64 bd) ∧
      w'.cell? ⟨w5.heap.size, 0, none⟩ = some (.int .i64 an) ∧ w'.cell? ⟨w5.heap.size, 1, none⟩ = some (.int .i64 ad))
    (first | (go_split_ands; exact ⟨keepc hb (by assumption), keepc hb (by assumption), keepc hb (by assumption), keepc hb (by assumption), keepc hb (by assumption), keepc hb (by assumption)⟩) | go_keep)
    (first | (go_at_call 17; refine (never_c _).mono ?_; rintro e w6 ⟨rfl, hb⟩))
  go_wp2
  go_ret
  exact ⟨ret_bool (by simp), by repeat (first | exact Below.refl _ _ | refine belowN ?_ _ | refine Below.drew ?_ | refine belowA ?_ _ | assumption | refine belowT ?_ (by assumption))⟩

set_option maxHeartbeats 2000000 in
theorem back_ok2 (an ad bd xn xd : Int) (hi : In64 xn ∧ In64 xd) (hrx : rightB xn xd = true)
    (k1 : ∀ w : World, Calls Tryd.prog 16 #[.agg #[.int .i64 an, .int .i64 ad], .agg #[.int .i64 1, .int .i64 bd]] w fun e w' => e = .returned (.tuple #[.agg #[.int .i64 xn, .int .i64 xd], .int .i64 0]) ∧ Below w.heap.size w w')
    (k2 : ∀ w : World, Calls Tryd.prog 16 #[.agg #[.int .i64 1, .int .i64 bd], .agg #[.int .i64 an, .int .i64 ad]] w fun e w' => e = .returned (.tuple #[.agg #[.int .i64 xn, .int .i64 xd], .int .i64 0]) ∧ Below w.heap.size w w')
    (k3 : ∀ w : World, Calls Tryd.prog 18 #[.agg #[.int .i64 xn, .int .i64 xd], .agg #[.int .i64 1, .int .i64 bd]] w fun e w' => e = .returned (.tuple #[.agg #[.int .i64 an, .int .i64 ad], .int .i64 0]) ∧ Below w.heap.size w w') (hn : (bd == 0) = false) (w : World) :
    Calls Tryd.prog 4 #[.agg #[.int .i64 an, .int .i64 ad], .agg #[.int .i64 1, .int .i64 bd]] w fun e w' => e = .returned (.bool true) ∧ Below w.heap.size w w' := by
  have K1 := Lib.hid k1
  have K2 := Lib.hid k2
  have K3 := Lib.hid k3
  have kr : ∀ w : World, Calls Tryd.prog 15 #[.agg #[.int .i64 xn, .int .i64 xd]] w fun e w' => e = .returned (.bool true) ∧ Below w.heap.size w w' := fun w => by
    have := right_c xn xd hi.1 hi.2 w
    rw [hrx] at this
    exact this
  have KR := Lib.hid kr
  clear k1 k2 k3 kr hi hrx
  go_enter Tryd.func4, Tryd.ntmps4
  go_wp2_with fail
  refine (K1.out _).mono ?_
  rintro e w1 ⟨rfl, hb1⟩
  have F1 : Box2 w.heap.size an ad 1 bd w1 := Box2.keep ⟨by go_simp, by go_simp, by go_simp, by go_simp⟩ hb1
  have hw := boxes hb1
  clear hb1
  have F2 := F1.keep (belowA (Below.refl _ w1) (.cells #[.int .i64 xn, .int .i64 xd] 23))
  obtain ⟨f0, f1, f2, f3⟩ := F2
  go_wp2_with fail
  refine (K2.out _).mono ?_
  rintro e w2 ⟨rfl, hb2⟩
  have x0 := keepc hb2 (p := ⟨w1.heap.size, 0, none⟩) (v := .int .i64 xn) (by go_simp)
  have x1 := keepc hb2 (p := ⟨w1.heap.size, 1, none⟩) (v := .int .i64 xd) (by go_simp)
  replace F1 := F1.keep (belowT (belowA (Below.refl _ _) _) hb2)
  have hw2 := belowT (belowA hw _) hb2
  clear hb2 hw f0 f1 f2 f3
  go_wp2_with fail
  refine (awake_c _).mono ?_
  rintro e w3 ⟨rfl, hb3⟩
  have y0 := keepc hb3 (p := ⟨w2.heap.size, 0, none⟩) (v := .int .i64 xn) (by go_simp)
  have y1 := keepc hb3 (p := ⟨w2.heap.size, 1, none⟩) (v := .int .i64 xd) (by go_simp)
  have hx := belowT (belowA (Below.refl _ w2) _) hb3
  replace x0 := keepc hx x0
  replace x1 := keepc hx x1
  replace F1 := F1.keep hx
  replace hw2 := belowT hw2 hx
  clear hb3 hx
  go_wp2_with fail
  refine (KR.out _).mono ?_
  rintro e w4 ⟨rfl, hb4⟩
  replace x0 := keepc hb4 x0
  replace x1 := keepc hb4 x1
  replace F1 := F1.keep hb4
  replace hw2 := belowT hw2 hb4
  clear hb4 y0 y1
  have F2 := F1
  obtain ⟨f0, f1, f2, f3⟩ := F2
  go_wp2_with fail
  refine (K3.out _).mono ?_
  rintro e w5 ⟨rfl, hb5⟩
  replace F1 := F1.keep hb5
  replace hw2 := belowT hw2 hb5
  clear hb5 x0 x1 f0 f1 f2 f3
  have F2 := F1.keep (belowA (Below.refl _ w5) (.cells #[.int .i64 an, .int .i64 ad] 23))
  obtain ⟨f0, f1, f2, f3⟩ := F2
  go_wp2_with fail
  go_region_held3 (fun w' => w'.cell? ⟨w.heap.size, 0, none⟩ = some (.int .i64 an) ∧ w'.cell? ⟨w.heap.size, 1, none⟩ = some (.int .i64 ad) ∧ w'.cell? ⟨w.heap.size + 1, 0, none⟩ = some (.int .i64 1) ∧ w'.cell? ⟨w.heap.size + 1, 1, none⟩ = some (.int .i64 bd) ∧
      w'.cell? ⟨w5.heap.size, 0, none⟩ = some (.int .i64 an) ∧ w'.cell? ⟨w5.heap.size, 1, none⟩ = some (.int .i64 ad))
    (first | (go_split_ands; exact ⟨keepc hb (by assumption), keepc hb (by assumption), keepc hb (by assumption), keepc hb (by assumption), keepc hb (by assumption), keepc hb (by assumption)⟩) | go_keep)
    (first | (go_at_call 17; refine (never_c _).mono ?_; rintro e w6 ⟨rfl, hb⟩))
  go_wp2
  go_ret
  exact ⟨ret_bool (by simp), by repeat (first | exact Below.refl _ _ | refine belowN ?_ _ | refine Below.drew ?_ | refine belowA ?_ _ | assumption | refine belowT ?_ (by assumption))⟩

end Go.Proofs.YthdadpafankbfaaDoor
