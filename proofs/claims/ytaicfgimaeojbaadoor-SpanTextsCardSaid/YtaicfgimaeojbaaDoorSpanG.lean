/-
  The contracts of package span over this seat's translation, seventh part: the text of 3/2, and what every statement of layer 1 asks first: the document's examples (awake). No condition.
-/
import Derived.Test.YtaicfgimaeojbaaDoorSpanF
import Derived.Test.YtaicfgimaeojbaaDoorShelfA
namespace Go.Proofs.YtaicfgimaeojbaaDoor
open Go.RowKit
attribute [local go_sem ↓] Go.wp_at_zero Go.wp_at_succ

theorem ret_str {a b : ByteArray} (h : a = b) : Ending.returned (.string a) = .returned (.string b) := by rw [h]
theorem itoa_3 (w : World) : Calls Tryd.prog 13 #[.int .i64 3] w fun e w' => e = .returned (.string ⟨#[51]⟩) ∧ w = w' :=
  (Tryd.strconv_Itoa_small 3 (by decide) w).mono fun _ _ ⟨he, hw⟩ => ⟨he.trans (by unfold Lib.decDigits; rfl), hw.symm⟩
theorem itoa_2 (w : World) : Calls Tryd.prog 13 #[.int .i64 2] w fun e w' => e = .returned (.string ⟨#[50]⟩) ∧ w = w' :=
  (Tryd.strconv_Itoa_small 2 (by decide) w).mono fun _ _ ⟨he, hw⟩ => ⟨he.trans (by unfold Lib.decDigits; rfl), hw.symm⟩

theorem right32 : rightB 3 2 = true := by decide +kernel
theorem make64 : makeS 6 4 = (3, 2, 0) := by decide +kernel
theorem cmp32 : cmpS 3 2 1 0 = -1 := by decide +kernel
theorem right_32 (w : World) : Calls Tryd.prog 11 #[.agg #[.int .i64 3, .int .i64 2]] w fun e w' => e = .returned (.bool true) ∧ Below w.heap.size w w' := by
  have h := right_c 3 2 ⟨by omega, by omega⟩ ⟨by omega, by omega⟩ w
  rw [right32] at h
  exact h
theorem make_64 (w : World) : Calls Tryd.prog 19 #[.int .i64 6, .int .i64 4] w fun e w' => e = .returned (.tuple #[.agg #[.int .i64 3, .int .i64 2], .int .i64 0]) ∧ Below w.heap.size w w' := by
  have h := make_c 6 4 ⟨by omega, by omega⟩ ⟨by omega, by omega⟩ w
  rw [make64] at h
  exact h
theorem cmp_32 (w : World) : Calls Tryd.prog 20 #[.agg #[.int .i64 3, .int .i64 2], .agg #[.int .i64 1, .int .i64 0]] w fun e w' => e = .returned (.int .i64 (-1)) ∧ Below w.heap.size w w' := by
  have h := cmp_c 3 2 1 0 ⟨⟨by omega, by omega⟩, ⟨by omega, by omega⟩⟩ ⟨⟨by omega, by omega⟩, ⟨by omega, by omega⟩⟩ w
  rw [cmp32] at h
  exact h

set_option maxHeartbeats 1000000 in
theorem text_32 (w : World) : Calls Tryd.prog 5 #[.agg #[.int .i64 3, .int .i64 2]] w fun e w' => e = .returned (.string ⟨#[51, 47, 50]⟩) ∧ Below w.heap.size w w' := by
  go_enter Tryd.func5, Tryd.ntmps5
  go_wp2_with fail
  refine (right_32 _).mono ?_
  rintro e w1 ⟨rfl, hb1⟩
  have c0 := keepc hb1 (p := ⟨w.heap.size, 0, none⟩) (v := .int .i64 3) (by go_simp)
  have c1 := keepc hb1 (p := ⟨w.heap.size, 1, none⟩) (v := .int .i64 2) (by go_simp)
  have hw := belowT (belowA (Below.refl _ w) _) hb1
  clear hb1
  go_wp2_with fail
  go_region_held3 (fun w' => w'.cell? ⟨w.heap.size, 0, none⟩ = some (.int .i64 3) ∧ w'.cell? ⟨w.heap.size, 1, none⟩ = some (.int .i64 2))
    (first | (go_split_ands; (repeat' apply And.intro) <;> exact keepc hb (by assumption)) | go_keep)
    (first | (go_at_call 12; refine (never_c _).mono ?_; rintro e w1 ⟨rfl, hb⟩))
  go_wp2_with fail
  go_region_held3 (fun w' => w'.cell? ⟨w.heap.size, 0, none⟩ = some (.int .i64 3) ∧ w'.cell? ⟨w.heap.size, 1, none⟩ = some (.int .i64 2))
    (go_keep)
    (first | (go_at_call_of 13 (Value.int .i64 3); refine (itoa_3 _).mono ?_; rintro e w1 ⟨rfl, rfl⟩) | (go_at_call_of 13 (Value.int .i64 2); refine (itoa_2 _).mono ?_; rintro e w1 ⟨rfl, rfl⟩))
  all_goals go_wp2
  all_goals (go_ret; exact ⟨ret_str (by rfl), (by repeat (first | exact Below.refl _ _ | refine belowN ?_ _ | refine Below.drew ?_ | refine belowA ?_ _ | refine belowS ?_ (Nat.le_refl _) _ | refine belowT ?_ (by assumption)))⟩)

set_option maxHeartbeats 1000000 in
theorem awake_c (w : World) : Calls Tryd.prog 8 #[] w fun e w' => e = .returned (.bool true) ∧ Below w.heap.size w w' := by
  go_enter Tryd.func8, Tryd.ntmps8
  go_wp2_with fail
  refine (make_64 _).mono ?_
  rintro e w1 ⟨rfl, hb1⟩
  go_wp2_with fail
  have hw := hb1
  go_region_held3 (fun w' => w'.cell? ⟨w1.heap.size, 0, none⟩ = some (.int .i64 3) ∧ w'.cell? ⟨w1.heap.size, 1, none⟩ = some (.int .i64 2))
    (first | (go_split_ands; (repeat' apply And.intro) <;> exact keepc hb (by assumption)) | go_keep)
    (first
      | (go_at_call 12; refine (never_c _).mono ?_; rintro e w1 ⟨rfl, hb⟩)
      | (go_at_call 5; refine (text_32 _).mono ?_; rintro e w1 ⟨rfl, hb⟩)
      | (go_at_call 11; refine (right_32 _).mono ?_; rintro e w1 ⟨rfl, hb⟩)
      | (go_at_call 20; refine (cmp_32 _).mono ?_; rintro e w1 ⟨rfl, hb⟩))
  all_goals go_wp2
  all_goals (go_ret; exact ⟨ret_bool rfl, (by repeat (first | exact Below.refl _ _ | refine belowN ?_ _ | refine Below.drew ?_ | refine belowA ?_ _ | refine belowS ?_ (Nat.le_refl _) _ | refine belowT ?_ (by assumption)))⟩)
end Go.Proofs.YtaicfgimaeojbaaDoor
