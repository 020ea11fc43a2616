/-
  The contracts of package span's Add over this seat's translation, where both times are right, way by way. No condition but the bounds that each theorem states.
-/
import Derived.Test.YthdadpafankbfaaDoorSpanO
namespace Go.Proofs.YthdadpafankbfaaDoor
open Go.RowKit
attribute [local go_sem ↓] Go.wp_at_zero Go.wp_at_succ

set_option maxHeartbeats 2000000 in
theorem add_03 (bn bd : Int) (ha : In64 1 ∧ In64 0) (hb : In64 bn ∧ In64 bd) (hra : rightB 1 0 = true) (hrb : rightB bn bd = true) (w : World) :
    Calls Tryd.prog 16 #[.agg #[.int .i64 1, .int .i64 0], .agg #[.int .i64 bn, .int .i64 bd]] w fun e w' => e = .returned ((.tuple #[.agg #[.int .i64 1, .int .i64 0], .int .i64 0])) ∧ Below w.heap.size w w' := by
  obtain ⟨⟨a1, a2⟩, ⟨a3, a4⟩⟩ := ha
  obtain ⟨⟨b1, b2⟩, ⟨b3, b4⟩⟩ := hb
  go_enter Tryd.func16, Tryd.ntmps16
  go_wp2_with fail
  refine (right_c 1 0 ⟨a1, a2⟩ ⟨a3, a4⟩ _).mono ?_
  rintro e w1 ⟨rfl, hb1⟩
  have F1 : TogF w.heap.size 1 0 bn bd w1 := TogF.keep ⟨by go_simp, by go_simp, by go_simp, by go_simp, by go_simp, by go_simp, by go_simp, by go_simp⟩ hb1
  have F2 := F1
  obtain ⟨f0, f1, f2, f3, f4, f5, f6, f7⟩ := F2
  have hw := box3 hb1
  go_wp2_with fail
  refine (right_c bn bd ⟨b1, b2⟩ ⟨b3, b4⟩ _).mono ?_
  rintro e w2 ⟨rfl, hb2⟩
  have hw2 := belowT hw hb2
  have F3 := F1.keep hb2
  clear f0 f1 f2 f3 f4 f5 f6 f7 hb1 hb2 hw F1
  have F2 := F3
  obtain ⟨f0, f1, f2, f3, f4, f5, f6, f7⟩ := F2
  go_wp2_with fail
  go_region_with (first | (go_at_call 17; refine (never_c _).mono ?_; rintro e w3 ⟨rfl, hb⟩; have F4 := F3.drew.keep hb; obtain ⟨h0, h1, h2, h3, h4, h5, h6, h7⟩ := F4))
  all_goals go_wp2_with fail
  all_goals (
    refine (never_c _).mono ?_
    rintro e w4 ⟨rfl, hb4⟩
    have hx : Below w2.heap.size w2 w4 := (by repeat (first | exact Below.refl _ _ | refine belowN ?_ _ | refine Below.drew ?_ | refine belowA ?_ _ | refine belowS ?_ (by omega) _ | assumption | refine belowT ?_ (by assumption)))
    have F4 := F3.keep hx
    obtain ⟨g0, g1, g2, g3, g4, g5, g6, g7⟩ := F4
    go_wp2
    exact bodyPost_ret (v := .tuple #[.agg #[.int .i64 1, .int .i64 0], .int .i64 0]) (by simp [results, Tryd.results16, go_sem, g4, g5]) rfl ⟨rfl, (by repeat (first | exact Below.refl _ _ | refine belowN ?_ _ | refine Below.drew ?_ | refine belowA ?_ _ | refine belowS ?_ (by omega) _ | assumption | refine belowT ?_ (by assumption)))⟩)

set_option maxHeartbeats 2000000 in
theorem add_10 (an ad : Int) (ha : In64 an ∧ In64 ad) (hb : In64 1 ∧ In64 0) (hra : rightB an ad = true) (hrb : rightB 1 0 = true) (aq : (an == 1) = false) (w : World) :
    Calls Tryd.prog 16 #[.agg #[.int .i64 an, .int .i64 ad], .agg #[.int .i64 1, .int .i64 0]] w fun e w' => e = .returned ((.tuple #[.agg #[.int .i64 1, .int .i64 0], .int .i64 0])) ∧ Below w.heap.size w w' := by
  obtain ⟨⟨a1, a2⟩, ⟨a3, a4⟩⟩ := ha
  obtain ⟨⟨b1, b2⟩, ⟨b3, b4⟩⟩ := hb
  go_enter Tryd.func16, Tryd.ntmps16
  go_wp2_with fail
  refine (right_c an ad ⟨a1, a2⟩ ⟨a3, a4⟩ _).mono ?_
  rintro e w1 ⟨rfl, hb1⟩
  have F1 : TogF w.heap.size an ad 1 0 w1 := TogF.keep ⟨by go_simp, by go_simp, by go_simp, by go_simp, by go_simp, by go_simp, by go_simp, by go_simp⟩ hb1
  have F2 := F1
  obtain ⟨f0, f1, f2, f3, f4, f5, f6, f7⟩ := F2
  have hw := box3 hb1
  go_wp2_with fail
  refine (right_c 1 0 ⟨b1, b2⟩ ⟨b3, b4⟩ _).mono ?_
  rintro e w2 ⟨rfl, hb2⟩
  have hw2 := belowT hw hb2
  have F3 := F1.keep hb2
  clear f0 f1 f2 f3 f4 f5 f6 f7 hb1 hb2 hw F1
  have F2 := F3
  obtain ⟨f0, f1, f2, f3, f4, f5, f6, f7⟩ := F2
  go_wp2_with fail
  go_region_held3 (fun w' => w'.cell? ⟨w.heap.size, 0, none⟩ = some (.int .i64 an) ∧ w'.cell? ⟨w.heap.size, 1, none⟩ = some (.int .i64 ad) ∧ w'.cell? ⟨w.heap.size + 1, 0, none⟩ = some (.int .i64 1) ∧ w'.cell? ⟨w.heap.size + 1, 1, none⟩ = some (.int .i64 0) ∧
      w'.cell? ⟨w.heap.size + 1 + 1, 0, none⟩ = some (.int .i64 0) ∧ w'.cell? ⟨w.heap.size + 1 + 1, 1, none⟩ = some (.int .i64 0) ∧ w'.frozen? ⟨w.heap.size + 1 + 1, 0, none⟩ = false ∧ w'.frozen? ⟨w.heap.size + 1 + 1, 1, none⟩ = false)
    (first | (go_split_ands; exact ⟨keepc hb (by assumption), keepc hb (by assumption), keepc hb (by assumption), keepc hb (by assumption), keepc hb (by assumption), keepc hb (by assumption), keepf hb (v := .int .i64 0) (by assumption) (by assumption), keepf hb (v := .int .i64 0) (by assumption) (by assumption)⟩) | go_keep)
    (first
      | (go_at_call 17; refine (never_c _).mono ?_; rintro e w3 ⟨rfl, hb⟩)
      | (go_at_call 13; refine (cmp_c _ _ _ _ ⟨⟨a1, a2⟩, ⟨a3, a4⟩⟩ ⟨⟨b1, b2⟩, ⟨b3, b4⟩⟩ _).mono ?_; rintro e w3 ⟨rfl, hb⟩))
  go_wp2_with fail
  refine (never_c _).mono ?_
  rintro e w4 ⟨rfl, hb4⟩
  have hx : Below w2.heap.size w2 w4 := (by repeat (first | exact Below.refl _ _ | refine belowN ?_ _ | refine Below.drew ?_ | refine belowA ?_ _ | refine belowS ?_ (by omega) _ | assumption | refine belowT ?_ (by assumption)))
  have F4 := F3.keep hx
  obtain ⟨g0, g1, g2, g3, g4, g5, g6, g7⟩ := F4
  go_wp2
  exact bodyPost_ret (v := .tuple #[.agg #[.int .i64 1, .int .i64 0], .int .i64 0]) (by simp [results, Tryd.results16, go_sem, g4, g5]) rfl ⟨rfl, (by repeat (first | exact Below.refl _ _ | refine belowN ?_ _ | refine Below.drew ?_ | refine belowA ?_ _ | refine belowS ?_ (by omega) _ | assumption | refine belowT ?_ (by assumption)))⟩

set_option maxHeartbeats 2000000 in
theorem add_20 (ad : Int) (ha : In64 1 ∧ In64 ad) (hb : In64 1 ∧ In64 0) (hra : rightB 1 ad = true) (hrb : rightB 1 0 = true) (aq : (ad == 0) = false) (w : World) :
    Calls Tryd.prog 16 #[.agg #[.int .i64 1, .int .i64 ad], .agg #[.int .i64 1, .int .i64 0]] w fun e w' => e = .returned ((.tuple #[.agg #[.int .i64 1, .int .i64 0], .int .i64 0])) ∧ Below w.heap.size w w' := by
  obtain ⟨⟨a1, a2⟩, ⟨a3, a4⟩⟩ := ha
  obtain ⟨⟨b1, b2⟩, ⟨b3, b4⟩⟩ := hb
  go_enter Tryd.func16, Tryd.ntmps16
  go_wp2_with fail
  refine (right_c 1 ad ⟨a1, a2⟩ ⟨a3, a4⟩ _).mono ?_
  rintro e w1 ⟨rfl, hb1⟩
  have F1 : TogF w.heap.size 1 ad 1 0 w1 := TogF.keep ⟨by go_simp, by go_simp, by go_simp, by go_simp, by go_simp, by go_simp, by go_simp, by go_simp⟩ hb1
  have F2 := F1
  obtain ⟨f0, f1, f2, f3, f4, f5, f6, f7⟩ := F2
  have hw := box3 hb1
  go_wp2_with fail
  refine (right_c 1 0 ⟨b1, b2⟩ ⟨b3, b4⟩ _).mono ?_
  rintro e w2 ⟨rfl, hb2⟩
  have hw2 := belowT hw hb2
  have F3 := F1.keep hb2
  clear f0 f1 f2 f3 f4 f5 f6 f7 hb1 hb2 hw F1
  have F2 := F3
  obtain ⟨f0, f1, f2, f3, f4, f5, f6, f7⟩ := F2
  go_wp2_with fail
  go_region_held3 (fun w' => w'.cell? ⟨w.heap.size, 0, none⟩ = some (.int .i64 1) ∧ w'.cell? ⟨w.heap.size, 1, none⟩ = some (.int .i64 ad) ∧ w'.cell? ⟨w.heap.size + 1, 0, none⟩ = some (.int .i64 1) ∧ w'.cell? ⟨w.heap.size + 1, 1, none⟩ = some (.int .i64 0) ∧
      w'.cell? ⟨w.heap.size + 1 + 1, 0, none⟩ = some (.int .i64 0) ∧ w'.cell? ⟨w.heap.size + 1 + 1, 1, none⟩ = some (.int .i64 0) ∧ w'.frozen? ⟨w.heap.size + 1 + 1, 0, none⟩ = false ∧ w'.frozen? ⟨w.heap.size + 1 + 1, 1, none⟩ = false)
    (first | (go_split_ands; exact ⟨keepc hb (by assumption), keepc hb (by assumption), keepc hb (by assumption), keepc hb (by assumption), keepc hb (by assumption), keepc hb (by assumption), keepf hb (v := .int .i64 0) (by assumption) (by assumption), keepf hb (v := .int .i64 0) (by assumption) (by assumption)⟩) | go_keep)
    (first
      | (go_at_call 17; refine (never_c _).mono ?_; rintro e w3 ⟨rfl, hb⟩)
      | (go_at_call 13; refine (cmp_c _ _ _ _ ⟨⟨a1, a2⟩, ⟨a3, a4⟩⟩ ⟨⟨b1, b2⟩, ⟨b3, b4⟩⟩ _).mono ?_; rintro e w3 ⟨rfl, hb⟩))
  go_wp2_with fail
  refine (never_c _).mono ?_
  rintro e w4 ⟨rfl, hb4⟩
  have hx : Below w2.heap.size w2 w4 := (by repeat (first | exact Below.refl _ _ | refine belowN ?_ _ | refine Below.drew ?_ | refine belowA ?_ _ | refine belowS ?_ (by omega) _ | assumption | refine belowT ?_ (by assumption)))
  have F4 := F3.keep hx
  obtain ⟨g0, g1, g2, g3, g4, g5, g6, g7⟩ := F4
  go_wp2
  exact bodyPost_ret (v := .tuple #[.agg #[.int .i64 1, .int .i64 0], .int .i64 0]) (by simp [results, Tryd.results16, go_sem, g4, g5]) rfl ⟨rfl, (by repeat (first | exact Below.refl _ _ | refine belowN ?_ _ | refine Below.drew ?_ | refine belowA ?_ _ | refine belowS ?_ (by omega) _ | assumption | refine belowT ?_ (by assumption)))⟩

set_option maxHeartbeats 2000000 in
theorem add_11 (an ad : Int) (bn bd : Int) (ha : In64 an ∧ In64 ad) (hb : In64 bn ∧ In64 bd) (hra : rightB an ad = true) (hrb : rightB bn bd = true) (aq : (an == 1) = false) (bq : (bn == 1) = false) (tn td te : Int) (hT : ∀ w : World, Calls Tryd.prog 34 #[.agg #[.int .i64 an, .int .i64 ad], .agg #[.int .i64 bn, .int .i64 bd], .func (.func 35) #[] #[]] w fun e w' => e = .returned (.tuple #[.agg #[.int .i64 tn, .int .i64 td], .int .i64 te]) ∧ Below w.heap.size w w') (w : World) :
    Calls Tryd.prog 16 #[.agg #[.int .i64 an, .int .i64 ad], .agg #[.int .i64 bn, .int .i64 bd]] w fun e w' => e = .returned ((.tuple #[.agg #[.int .i64 tn, .int .i64 td], .int .i64 te])) ∧ Below w.heap.size w w' := by
  obtain ⟨⟨a1, a2⟩, ⟨a3, a4⟩⟩ := ha
  obtain ⟨⟨b1, b2⟩, ⟨b3, b4⟩⟩ := hb
  go_enter Tryd.func16, Tryd.ntmps16
  go_wp2_with fail
  refine (right_c an ad ⟨a1, a2⟩ ⟨a3, a4⟩ _).mono ?_
  rintro e w1 ⟨rfl, hb1⟩
  have F1 : TogF w.heap.size an ad bn bd w1 := TogF.keep ⟨by go_simp, by go_simp, by go_simp, by go_simp, by go_simp, by go_simp, by go_simp, by go_simp⟩ hb1
  have F2 := F1
  obtain ⟨f0, f1, f2, f3, f4, f5, f6, f7⟩ := F2
  have hw := box3 hb1
  go_wp2_with fail
  refine (right_c bn bd ⟨b1, b2⟩ ⟨b3, b4⟩ _).mono ?_
  rintro e w2 ⟨rfl, hb2⟩
  have hw2 := belowT hw hb2
  have F3 := F1.keep hb2
  clear f0 f1 f2 f3 f4 f5 f6 f7 hb1 hb2 hw F1
  have F2 := F3
  obtain ⟨f0, f1, f2, f3, f4, f5, f6, f7⟩ := F2
  go_wp2_with fail
  go_region_held3 (fun w' => w'.cell? ⟨w.heap.size, 0, none⟩ = some (.int .i64 an) ∧ w'.cell? ⟨w.heap.size, 1, none⟩ = some (.int .i64 ad) ∧ w'.cell? ⟨w.heap.size + 1, 0, none⟩ = some (.int .i64 bn) ∧ w'.cell? ⟨w.heap.size + 1, 1, none⟩ = some (.int .i64 bd) ∧
      w'.cell? ⟨w.heap.size + 1 + 1, 0, none⟩ = some (.int .i64 0) ∧ w'.cell? ⟨w.heap.size + 1 + 1, 1, none⟩ = some (.int .i64 0) ∧ w'.frozen? ⟨w.heap.size + 1 + 1, 0, none⟩ = false ∧ w'.frozen? ⟨w.heap.size + 1 + 1, 1, none⟩ = false)
    (first | (go_split_ands; exact ⟨keepc hb (by assumption), keepc hb (by assumption), keepc hb (by assumption), keepc hb (by assumption), keepc hb (by assumption), keepc hb (by assumption), keepf hb (v := .int .i64 0) (by assumption) (by assumption), keepf hb (v := .int .i64 0) (by assumption) (by assumption)⟩) | go_keep)
    (first
      | (go_at_call 17; refine (never_c _).mono ?_; rintro e w3 ⟨rfl, hb⟩)
      | (go_at_call 13; refine (cmp_c _ _ _ _ ⟨⟨a1, a2⟩, ⟨a3, a4⟩⟩ ⟨⟨b1, b2⟩, ⟨b3, b4⟩⟩ _).mono ?_; rintro e w3 ⟨rfl, hb⟩))
  go_wp2_with fail
  refine (hT _).mono ?_
  rintro e w4 ⟨rfl, hb4⟩
  have hx : Below w2.heap.size w2 w4 := (by repeat (first | exact Below.refl _ _ | refine belowN ?_ _ | refine Below.drew ?_ | refine belowA ?_ _ | refine belowS ?_ (by omega) _ | assumption | refine belowT ?_ (by assumption)))
  have F4 := F3.keep hx
  obtain ⟨g0, g1, g2, g3, g4, g5, g6, g7⟩ := F4
  go_wp2
  exact bodyPost_ret (v := .tuple #[.agg #[.int .i64 tn, .int .i64 td], .int .i64 te]) (by simp [results, Tryd.results16, go_sem, g4, g5]) rfl ⟨rfl, (by repeat (first | exact Below.refl _ _ | refine belowN ?_ _ | refine Below.drew ?_ | refine belowA ?_ _ | refine belowS ?_ (by omega) _ | assumption | refine belowT ?_ (by assumption)))⟩

set_option maxHeartbeats 2000000 in
theorem add_12 (an ad : Int) (bd : Int) (ha : In64 an ∧ In64 ad) (hb : In64 1 ∧ In64 bd) (hra : rightB an ad = true) (hrb : rightB 1 bd = true) (aq : (an == 1) = false) (bq : (bd == 0) = false) (tn td te : Int) (hT : ∀ w : World, Calls Tryd.prog 34 #[.agg #[.int .i64 an, .int .i64 ad], .agg #[.int .i64 1, .int .i64 bd], .func (.func 35) #[] #[]] w fun e w' => e = .returned (.tuple #[.agg #[.int .i64 tn, .int .i64 td], .int .i64 te]) ∧ Below w.heap.size w w') (w : World) :
    Calls Tryd.prog 16 #[.agg #[.int .i64 an, .int .i64 ad], .agg #[.int .i64 1, .int .i64 bd]] w fun e w' => e = .returned ((.tuple #[.agg #[.int .i64 tn, .int .i64 td], .int .i64 te])) ∧ Below w.heap.size w w' := by
  obtain ⟨⟨a1, a2⟩, ⟨a3, a4⟩⟩ := ha
  obtain ⟨⟨b1, b2⟩, ⟨b3, b4⟩⟩ := hb
  go_enter Tryd.func16, Tryd.ntmps16
  go_wp2_with fail
  refine (right_c an ad ⟨a1, a2⟩ ⟨a3, a4⟩ _).mono ?_
  rintro e w1 ⟨rfl, hb1⟩
  have F1 : TogF w.heap.size an ad 1 bd w1 := TogF.keep ⟨by go_simp, by go_simp, by go_simp, by go_simp, by go_simp, by go_simp, by go_simp, by go_simp⟩ hb1
  have F2 := F1
  obtain ⟨f0, f1, f2, f3, f4, f5, f6, f7⟩ := F2
  have hw := box3 hb1
  go_wp2_with fail
  refine (right_c 1 bd ⟨b1, b2⟩ ⟨b3, b4⟩ _).mono ?_
  rintro e w2 ⟨rfl, hb2⟩
  have hw2 := belowT hw hb2
  have F3 := F1.keep hb2
  clear f0 f1 f2 f3 f4 f5 f6 f7 hb1 hb2 hw F1
  have F2 := F3
  obtain ⟨f0, f1, f2, f3, f4, f5, f6, f7⟩ := F2
  go_wp2_with fail
  go_region_held3 (fun w' => w'.cell? ⟨w.heap.size, 0, none⟩ = some (.int .i64 an) ∧ w'.cell? ⟨w.heap.size, 1, none⟩ = some (.int .i64 ad) ∧ w'.cell? ⟨w.heap.size + 1, 0, none⟩ = some (.int .i64 1) ∧ w'.cell? ⟨w.heap.size + 1, 1, none⟩ = some (.int .i64 bd) ∧
      w'.cell? ⟨w.heap.size + 1 + 1, 0, none⟩ = some (.int .i64 0) ∧ w'.cell? ⟨w.heap.size + 1 + 1, 1, none⟩ = some (.int .i64 0) ∧ w'.frozen? ⟨w.heap.size + 1 + 1, 0, none⟩ = false ∧ w'.frozen? ⟨w.heap.size + 1 + 1, 1, none⟩ = false)
    (first | (go_split_ands; exact ⟨keepc hb (by assumption), keepc hb (by assumption), keepc hb (by assumption), keepc hb (by assumption), keepc hb (by assumption), keepc hb (by assumption), keepf hb (v := .int .i64 0) (by assumption) (by assumption), keepf hb (v := .int .i64 0) (by assumption) (by assumption)⟩) | go_keep)
    (first
      | (go_at_call 17; refine (never_c _).mono ?_; rintro e w3 ⟨rfl, hb⟩)
      | (go_at_call 13; refine (cmp_c _ _ _ _ ⟨⟨a1, a2⟩, ⟨a3, a4⟩⟩ ⟨⟨b1, b2⟩, ⟨b3, b4⟩⟩ _).mono ?_; rintro e w3 ⟨rfl, hb⟩))
  go_wp2_with fail
  refine (hT _).mono ?_
  rintro e w4 ⟨rfl, hb4⟩
  have hx : Below w2.heap.size w2 w4 := (by repeat (first | exact Below.refl _ _ | refine belowN ?_ _ | refine Below.drew ?_ | refine belowA ?_ _ | refine belowS ?_ (by omega) _ | assumption | refine belowT ?_ (by assumption)))
  have F4 := F3.keep hx
  obtain ⟨g0, g1, g2, g3, g4, g5, g6, g7⟩ := F4
  go_wp2
  exact bodyPost_ret (v := .tuple #[.agg #[.int .i64 tn, .int .i64 td], .int .i64 te]) (by simp [results, Tryd.results16, go_sem, g4, g5]) rfl ⟨rfl, (by repeat (first | exact Below.refl _ _ | refine belowN ?_ _ | refine Below.drew ?_ | refine belowA ?_ _ | refine belowS ?_ (by omega) _ | assumption | refine belowT ?_ (by assumption)))⟩

set_option maxHeartbeats 2000000 in
theorem add_21 (ad : Int) (bn bd : Int) (ha : In64 1 ∧ In64 ad) (hb : In64 bn ∧ In64 bd) (hra : rightB 1 ad = true) (hrb : rightB bn bd = true) (aq : (ad == 0) = false) (bq : (bn == 1) = false) (tn td te : Int) (hT : ∀ w : World, Calls Tryd.prog 34 #[.agg #[.int .i64 1, .int .i64 ad], .agg #[.int .i64 bn, .int .i64 bd], .func (.func 35) #[] #[]] w fun e w' => e = .returned (.tuple #[.agg #[.int .i64 tn, .int .i64 td], .int .i64 te]) ∧ Below w.heap.size w w') (w : World) :
    Calls Tryd.prog 16 #[.agg #[.int .i64 1, .int .i64 ad], .agg #[.int .i64 bn, .int .i64 bd]] w fun e w' => e = .returned ((.tuple #[.agg #[.int .i64 tn, .int .i64 td], .int .i64 te])) ∧ Below w.heap.size w w' := by
  obtain ⟨⟨a1, a2⟩, ⟨a3, a4⟩⟩ := ha
  obtain ⟨⟨b1, b2⟩, ⟨b3, b4⟩⟩ := hb
  go_enter Tryd.func16, Tryd.ntmps16
  go_wp2_with fail
  refine (right_c 1 ad ⟨a1, a2⟩ ⟨a3, a4⟩ _).mono ?_
  rintro e w1 ⟨rfl, hb1⟩
  have F1 : TogF w.heap.size 1 ad bn bd w1 := TogF.keep ⟨by go_simp, by go_simp, by go_simp, by go_simp, by go_simp, by go_simp, by go_simp, by go_simp⟩ hb1
  have F2 := F1
  obtain ⟨f0, f1, f2, f3, f4, f5, f6, f7⟩ := F2
  have hw := box3 hb1
  go_wp2_with fail
  refine (right_c bn bd ⟨b1, b2⟩ ⟨b3, b4⟩ _).mono ?_
  rintro e w2 ⟨rfl, hb2⟩
  have hw2 := belowT hw hb2
  have F3 := F1.keep hb2
  clear f0 f1 f2 f3 f4 f5 f6 f7 hb1 hb2 hw F1
  have F2 := F3
  obtain ⟨f0, f1, f2, f3, f4, f5, f6, f7⟩ := F2
  go_wp2_with fail
  go_region_held3 (fun w' => w'.cell? ⟨w.heap.size, 0, none⟩ = some (.int .i64 1) ∧ w'.cell? ⟨w.heap.size, 1, none⟩ = some (.int .i64 ad) ∧ w'.cell? ⟨w.heap.size + 1, 0, none⟩ = some (.int .i64 bn) ∧ w'.cell? ⟨w.heap.size + 1, 1, none⟩ = some (.int .i64 bd) ∧
      w'.cell? ⟨w.heap.size + 1 + 1, 0, none⟩ = some (.int .i64 0) ∧ w'.cell? ⟨w.heap.size + 1 + 1, 1, none⟩ = some (.int .i64 0) ∧ w'.frozen? ⟨w.heap.size + 1 + 1, 0, none⟩ = false ∧ w'.frozen? ⟨w.heap.size + 1 + 1, 1, none⟩ = false)
    (first | (go_split_ands; exact ⟨keepc hb (by assumption), keepc hb (by assumption), keepc hb (by assumption), keepc hb (by assumption), keepc hb (by assumption), keepc hb (by assumption), keepf hb (v := .int .i64 0) (by assumption) (by assumption), keepf hb (v := .int .i64 0) (by assumption) (by assumption)⟩) | go_keep)
    (first
      | (go_at_call 17; refine (never_c _).mono ?_; rintro e w3 ⟨rfl, hb⟩)
      | (go_at_call 13; refine (cmp_c _ _ _ _ ⟨⟨a1, a2⟩, ⟨a3, a4⟩⟩ ⟨⟨b1, b2⟩, ⟨b3, b4⟩⟩ _).mono ?_; rintro e w3 ⟨rfl, hb⟩))
  go_wp2_with fail
  refine (hT _).mono ?_
  rintro e w4 ⟨rfl, hb4⟩
  have hx : Below w2.heap.size w2 w4 := (by repeat (first | exact Below.refl _ _ | refine belowN ?_ _ | refine Below.drew ?_ | refine belowA ?_ _ | refine belowS ?_ (by omega) _ | assumption | refine belowT ?_ (by assumption)))
  have F4 := F3.keep hx
  obtain ⟨g0, g1, g2, g3, g4, g5, g6, g7⟩ := F4
  go_wp2
  exact bodyPost_ret (v := .tuple #[.agg #[.int .i64 tn, .int .i64 td], .int .i64 te]) (by simp [results, Tryd.results16, go_sem, g4, g5]) rfl ⟨rfl, (by repeat (first | exact Below.refl _ _ | refine belowN ?_ _ | refine Below.drew ?_ | refine belowA ?_ _ | refine belowS ?_ (by omega) _ | assumption | refine belowT ?_ (by assumption)))⟩

set_option maxHeartbeats 2000000 in
theorem add_22 (ad : Int) (bd : Int) (ha : In64 1 ∧ In64 ad) (hb : In64 1 ∧ In64 bd) (hra : rightB 1 ad = true) (hrb : rightB 1 bd = true) (aq : (ad == 0) = false) (bq : (bd == 0) = false) (tn td te : Int) (hT : ∀ w : World, Calls Tryd.prog 34 #[.agg #[.int .i64 1, .int .i64 ad], .agg #[.int .i64 1, .int .i64 bd], .func (.func 35) #[] #[]] w fun e w' => e = .returned (.tuple #[.agg #[.int .i64 tn, .int .i64 td], .int .i64 te]) ∧ Below w.heap.size w w') (w : World) :
    Calls Tryd.prog 16 #[.agg #[.int .i64 1, .int .i64 ad], .agg #[.int .i64 1, .int .i64 bd]] w fun e w' => e = .returned ((.tuple #[.agg #[.int .i64 tn, .int .i64 td], .int .i64 te])) ∧ Below w.heap.size w w' := by
  obtain ⟨⟨a1, a2⟩, ⟨a3, a4⟩⟩ := ha
  obtain ⟨⟨b1, b2⟩, ⟨b3, b4⟩⟩ := hb
  go_enter Tryd.func16, Tryd.ntmps16
  go_wp2_with fail
  refine (right_c 1 ad ⟨a1, a2⟩ ⟨a3, a4⟩ _).mono ?_
  rintro e w1 ⟨rfl, hb1⟩
  have F1 : TogF w.heap.size 1 ad 1 bd w1 := TogF.keep ⟨by go_simp, by go_simp, by go_simp, by go_simp, by go_simp, by go_simp, by go_simp, by go_simp⟩ hb1
  have F2 := F1
  obtain ⟨f0, f1, f2, f3, f4, f5, f6, f7⟩ := F2
  have hw := box3 hb1
  go_wp2_with fail
  refine (right_c 1 bd ⟨b1, b2⟩ ⟨b3, b4⟩ _).mono ?_
  rintro e w2 ⟨rfl, hb2⟩
  have hw2 := belowT hw hb2
  have F3 := F1.keep hb2
  clear f0 f1 f2 f3 f4 f5 f6 f7 hb1 hb2 hw F1
  have F2 := F3
  obtain ⟨f0, f1, f2, f3, f4, f5, f6, f7⟩ := F2
  go_wp2_with fail
  go_region_held3 (fun w' => w'.cell? ⟨w.heap.size, 0, none⟩ = some (.int .i64 1) ∧ w'.cell? ⟨w.heap.size, 1, none⟩ = some (.int .i64 ad) ∧ w'.cell? ⟨w.heap.size + 1, 0, none⟩ = some (.int .i64 1) ∧ w'.cell? ⟨w.heap.size + 1, 1, none⟩ = some (.int .i64 bd) ∧
      w'.cell? ⟨w.heap.size + 1 + 1, 0, none⟩ = some (.int .i64 0) ∧ w'.cell? ⟨w.heap.size + 1 + 1, 1, none⟩ = some (.int .i64 0) ∧ w'.frozen? ⟨w.heap.size + 1 + 1, 0, none⟩ = false ∧ w'.frozen? ⟨w.heap.size + 1 + 1, 1, none⟩ = false)
    (first | (go_split_ands; exact ⟨keepc hb (by assumption), keepc hb (by assumption), keepc hb (by assumption), keepc hb (by assumption), keepc hb (by assumption), keepc hb (by assumption), keepf hb (v := .int .i64 0) (by assumption) (by assumption), keepf hb (v := .int .i64 0) (by assumption) (by assumption)⟩) | go_keep)
    (first
      | (go_at_call 17; refine (never_c _).mono ?_; rintro e w3 ⟨rfl, hb⟩)
      | (go_at_call 13; refine (cmp_c _ _ _ _ ⟨⟨a1, a2⟩, ⟨a3, a4⟩⟩ ⟨⟨b1, b2⟩, ⟨b3, b4⟩⟩ _).mono ?_; rintro e w3 ⟨rfl, hb⟩))
  go_wp2_with fail
  refine (hT _).mono ?_
  rintro e w4 ⟨rfl, hb4⟩
  have hx : Below w2.heap.size w2 w4 := (by repeat (first | exact Below.refl _ _ | refine belowN ?_ _ | refine Below.drew ?_ | refine belowA ?_ _ | refine belowS ?_ (by omega) _ | assumption | refine belowT ?_ (by assumption)))
  have F4 := F3.keep hx
  obtain ⟨g0, g1, g2, g3, g4, g5, g6, g7⟩ := F4
  go_wp2
  exact bodyPost_ret (v := .tuple #[.agg #[.int .i64 tn, .int .i64 td], .int .i64 te]) (by simp [results, Tryd.results16, go_sem, g4, g5]) rfl ⟨rfl, (by repeat (first | exact Below.refl _ _ | refine belowN ?_ _ | refine Below.drew ?_ | refine belowA ?_ _ | refine belowS ?_ (by omega) _ | assumption | refine belowT ?_ (by assumption)))⟩
end Go.Proofs.YthdadpafankbfaaDoor
