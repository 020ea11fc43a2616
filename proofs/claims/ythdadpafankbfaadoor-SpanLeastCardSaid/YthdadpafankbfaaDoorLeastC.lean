/-
  The contract of the law SpanLeast over this seat's translation: whatever slice of times it is handed, it answers true. Conditions: those that each theorem states.
-/
import Derived.Test.YthdadpafankbfaaDoorLeastW
import Derived.Test.YthdadpafankbfaaDoorMinD
namespace Go.Proofs.YthdadpafankbfaaDoor
open Go.RowKit
attribute [local go_sem ↓] Go.wp_at_zero Go.wp_at_succ

theorem right_never_c (w : World) : Calls Tryd.prog 15 #[.agg #[.int .i64 1, .int .i64 0]] w fun e w' => e = .returned (.bool true) ∧ Below w.heap.size w w' := by
  have h := right_c 1 0 ⟨by omega, by omega⟩ ⟨by omega, by omega⟩ w
  rw [right_never] at h
  exact h

set_option maxHeartbeats 1000000 in
theorem least_zero (x : Option Addr) (cap : Nat) (w : World) :
    Calls Tryd.prog 11 #[.slice x 0 cap] w fun e w' => e = .returned (.bool true) ∧ Below w.heap.size w w' := by
  go_enter Tryd.func11, Tryd.ntmps11
  go_wp2_with fail
  refine (awake_c _).mono ?_
  rintro e w1 ⟨rfl, hb1⟩
  go_wp2_with fail
  refine (min_zero _ _ _).mono ?_
  rintro e w2 ⟨rfl, hb2⟩
  have hw2 := belowT hb1 hb2
  clear hb1 hb2
  go_wp2_with fail
  go_region_held3 (fun w' => w'.cell? ⟨w2.heap.size, 0, none⟩ = some (.int .i64 1) ∧ w'.cell? ⟨w2.heap.size, 1, none⟩ = some (.int .i64 0))
    (first | (go_split_ands; exact ⟨keepc hb (by assumption), keepc hb (by assumption)⟩) | go_keep)
    (first | (go_at_call 17; refine (never_c _).mono ?_; rintro e w3 ⟨rfl, hb⟩))
  go_split_ands
  have hw3 : Below w.heap.size w w3 := by repeat (first | exact Below.refl _ _ | refine belowN ?_ _ | refine Below.drew ?_ | refine belowA ?_ _ | assumption | refine belowT ?_ (by assumption))
  clear hw2
  go_wp2_with fail
  refine wp_loop_rounds 1 ?_
  rw [rounds_succ]
  go_wp2_with fail
  refine (right_never_c _).mono ?_
  rintro e w4 ⟨rfl, hb4⟩
  go_wp2
  go_ret
  exact ⟨ret_bool rfl, belowT hw3 hb4⟩

theorem least_c (b off len cap : Nat) (f : Nat → Int × Int) (hl2 : len ≤ 9223372036854775807) (hf : ∀ i, i < len → In64 (f i).1 ∧ In64 (f i).2) (w : World) (hT : TimesAt w b off len f) :
    Calls Tryd.prog 11 #[.slice (some ⟨b, off, none⟩) len cap] w fun e w' => e = .returned (.bool true) ∧ Below w.heap.size w w' := by
  by_cases hl : len ≤ 1000
  · have hin := minTo_in f len hf len (Nat.le_refl _)
    have hr := min_right f len
    have hle := min_le f len
    have hone := min_one f len
    have km : ∀ w : World, TimesAt w b off len f → Calls Tryd.prog 26 #[.slice (some ⟨b, off, none⟩) len cap] w fun e w' => e = .returned (.agg #[.int .i64 (minTo f len).1, .int .i64 (minTo f len).2]) ∧ Below w.heap.size w w' :=
      fun w h => min_c b off len cap f hl2 hf w h
    generalize minTo f len = mm at hin hr hle hone km
    obtain ⟨mn, md⟩ := mm
    simp only at hin hr hle hone km
    have hone2 : mn = 1 ∧ md = 0 ∨ ∃ j, j < len ∧ f j = (mn, md) := by
      rcases hone with h | h
      · exact .inl (by simpa using h)
      · exact .inr h
    by_cases h1 : mn = 1
    · by_cases h2 : md = 0
      · subst h1 h2
        exact least_0 b off len cap f hl hin hf hr hle hone2 km w hT
      · subst h1
        exact least_2 b off len cap f md hl hin hf hr hle hone2 (by simpa using h2) km w hT
    · exact least_1 b off len cap f mn md hl hin hf hr hle hone2 (by simpa using h1) km w hT
  · exact least_long b off len cap (by omega) hl2 w
end Go.Proofs.YthdadpafankbfaaDoor
