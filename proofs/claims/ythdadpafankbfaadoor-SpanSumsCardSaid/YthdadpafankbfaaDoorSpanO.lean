/-
  The contracts of package span's Add and Sub over this seat's translation. No condition but the bounds that each theorem states.
-/
import Derived.Test.YthdadpafankbfaaDoorSpanN
namespace Go.Proofs.YthdadpafankbfaaDoor
open Go.RowKit
attribute [local go_sem ↓] Go.wp_at_zero Go.wp_at_succ

/-- What Add answers: the time and the error's number. -/
def addS (an ad bn bd : Int) : Int × Int × Int :=
  if rightB an ad = true ∧ rightB bn bd = true then
    if isNever an ad ∨ isNever bn bd then (1, 0, 0) else ofRat (M.qOf an.toNat ad.toNat + M.qOf bn.toNat bd.toNat)
  else (0, 0, 1)
/-- What Sub answers: the time and the error's number. -/
def subS (an ad bn bd : Int) : Int × Int × Int :=
  if rightB an ad = true ∧ rightB bn bd = true then
    if isNever bn bd ∨ cmpS an ad bn bd < 0 then (0, 0, 4) else if isNever an ad then (1, 0, 0) else ofRat (M.qOf an.toNat ad.toNat - M.qOf bn.toNat bd.toNat)
  else (0, 0, 1)

theorem box3 {w : World} {o1 o2 o3 : Obj} {w1 : World} (hb : Below (((w.alloc o1).alloc o2).alloc o3).heap.size (((w.alloc o1).alloc o2).alloc o3) w1) : Below w.heap.size w w1 := belowT (belowA (belowA (belowA (Below.refl _ _) _) _) _) hb

set_option maxHeartbeats 1000000 in
theorem add_no (an ad bn bd : Int) (ha : In64 an ∧ In64 ad) (hb : In64 bn ∧ In64 bd) (h : ¬ (rightB an ad = true ∧ rightB bn bd = true)) (w : World) :
    Calls Tryd.prog 16 #[.agg #[.int .i64 an, .int .i64 ad], .agg #[.int .i64 bn, .int .i64 bd]] w fun e w' => e = .returned (.tuple #[.agg #[.int .i64 0, .int .i64 0], .int .i64 1]) ∧ Below w.heap.size w w' := by
  by_cases hra : rightB an ad = true
  · have hrb : rightB bn bd = false := by simpa [hra] using h
    clear h
    go_enter Tryd.func16, Tryd.ntmps16
    go_wp2_with fail
    refine (right_c an ad ha.1 ha.2 _).mono ?_
    rintro e w1 ⟨rfl, hb1⟩
    have F1 : TogF w.heap.size an ad bn bd w1 := TogF.keep ⟨by go_simp, by go_simp, by go_simp, by go_simp, by go_simp, by go_simp, by go_simp, by go_simp⟩ hb1
    have F2 := F1
    obtain ⟨f0, f1, f2, f3, f4, f5, f6, f7⟩ := F2
    have hw := box3 hb1
    go_wp2_with fail
    refine (right_c bn bd hb.1 hb.2 _).mono ?_
    rintro e w2 ⟨rfl, hb2⟩
    have hw2 := belowT hw hb2
    have F2 := F1.keep hb2
    clear f0 f1 f2 f3 f4 f5 f6 f7 hb1 hb2 hw F1
    obtain ⟨f0, f1, f2, f3, f4, f5, f6, f7⟩ := F2
    go_wp2
    exact bodyPost_ret (v := .tuple #[.agg #[.int .i64 0, .int .i64 0], .int .i64 1]) (by simp [results, Tryd.results16, go_sem, f4, f5]) rfl ⟨rfl, (by repeat (first | exact Below.refl _ _ | refine belowN ?_ _ | refine Below.drew ?_ | refine belowA ?_ _ | refine belowS ?_ (by omega) _ | assumption | refine belowT ?_ (by assumption)))⟩
  · have hra' : rightB an ad = false := by simpa using hra
    clear h hra
    go_enter Tryd.func16, Tryd.ntmps16
    go_wp2_with fail
    refine (right_c an ad ha.1 ha.2 _).mono ?_
    rintro e w1 ⟨rfl, hb1⟩
    have F1 : TogF w.heap.size an ad bn bd w1 := TogF.keep ⟨by go_simp, by go_simp, by go_simp, by go_simp, by go_simp, by go_simp, by go_simp, by go_simp⟩ hb1
    obtain ⟨f0, f1, f2, f3, f4, f5, f6, f7⟩ := F1
    have hw := box3 hb1
    go_wp2
    exact bodyPost_ret (v := .tuple #[.agg #[.int .i64 0, .int .i64 0], .int .i64 1]) (by simp [results, Tryd.results16, go_sem, f4, f5]) rfl ⟨rfl, (by repeat (first | exact Below.refl _ _ | refine belowN ?_ _ | refine Below.drew ?_ | refine belowA ?_ _ | refine belowS ?_ (by omega) _ | assumption | refine belowT ?_ (by assumption)))⟩

set_option maxHeartbeats 1000000 in
theorem sub_no (an ad bn bd : Int) (ha : In64 an ∧ In64 ad) (hb : In64 bn ∧ In64 bd) (h : ¬ (rightB an ad = true ∧ rightB bn bd = true)) (w : World) :
    Calls Tryd.prog 18 #[.agg #[.int .i64 an, .int .i64 ad], .agg #[.int .i64 bn, .int .i64 bd]] w fun e w' => e = .returned (.tuple #[.agg #[.int .i64 0, .int .i64 0], .int .i64 1]) ∧ Below w.heap.size w w' := by
  by_cases hra : rightB an ad = true
  · have hrb : rightB bn bd = false := by simpa [hra] using h
    clear h
    go_enter Tryd.func18, Tryd.ntmps18
    go_wp2_with fail
    refine (right_c an ad ha.1 ha.2 _).mono ?_
    rintro e w1 ⟨rfl, hb1⟩
    have F1 : TogF w.heap.size an ad bn bd w1 := TogF.keep ⟨by go_simp, by go_simp, by go_simp, by go_simp, by go_simp, by go_simp, by go_simp, by go_simp⟩ hb1
    have F2 := F1
    obtain ⟨f0, f1, f2, f3, f4, f5, f6, f7⟩ := F2
    have hw := box3 hb1
    go_wp2_with fail
    refine (right_c bn bd hb.1 hb.2 _).mono ?_
    rintro e w2 ⟨rfl, hb2⟩
    have hw2 := belowT hw hb2
    have F2 := F1.keep hb2
    clear f0 f1 f2 f3 f4 f5 f6 f7 hb1 hb2 hw F1
    obtain ⟨f0, f1, f2, f3, f4, f5, f6, f7⟩ := F2
    go_wp2
    exact bodyPost_ret (v := .tuple #[.agg #[.int .i64 0, .int .i64 0], .int .i64 1]) (by simp [results, Tryd.results18, go_sem, f4, f5]) rfl ⟨rfl, (by repeat (first | exact Below.refl _ _ | refine belowN ?_ _ | refine Below.drew ?_ | refine belowA ?_ _ | refine belowS ?_ (by omega) _ | assumption | refine belowT ?_ (by assumption)))⟩
  · have hra' : rightB an ad = false := by simpa using hra
    clear h hra
    go_enter Tryd.func18, Tryd.ntmps18
    go_wp2_with fail
    refine (right_c an ad ha.1 ha.2 _).mono ?_
    rintro e w1 ⟨rfl, hb1⟩
    have F1 : TogF w.heap.size an ad bn bd w1 := TogF.keep ⟨by go_simp, by go_simp, by go_simp, by go_simp, by go_simp, by go_simp, by go_simp, by go_simp⟩ hb1
    obtain ⟨f0, f1, f2, f3, f4, f5, f6, f7⟩ := F1
    have hw := box3 hb1
    go_wp2
    exact bodyPost_ret (v := .tuple #[.agg #[.int .i64 0, .int .i64 0], .int .i64 1]) (by simp [results, Tryd.results18, go_sem, f4, f5]) rfl ⟨rfl, (by repeat (first | exact Below.refl _ _ | refine belowN ?_ _ | refine Below.drew ?_ | refine belowA ?_ _ | refine belowS ?_ (by omega) _ | assumption | refine belowT ?_ (by assumption)))⟩
end Go.Proofs.YthdadpafankbfaaDoor
