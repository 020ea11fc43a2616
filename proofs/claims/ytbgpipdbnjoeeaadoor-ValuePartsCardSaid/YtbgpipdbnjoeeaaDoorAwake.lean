/-
  The contract of awake of gavottelaw02 over this seat's translation: the document's example is met. Conditions: those that each theorem states.
-/
import Derived.Test.YtbgpipdbnjoeeaaDoorTypeOfB
namespace Go.Proofs.YtbgpipdbnjoeeaaDoor
open Go.RowKit Go.ChangeShapes Go.WideShapes Go.ChangeAt Go.Deep
attribute [local go_sem ↓] Go.wp_at_zero Go.wp_at_succ

/-- The example's tree: the tuple of 1 and the symbol a. -/
def exKid : Nat → VT := fun i => if i = 0 then .mk 0 1 ⟨#[]⟩ 0 nofun else .mk 2 0 ⟨#[97]⟩ 0 nofun
def exV : VT := .mk 3 0 ⟨#[]⟩ 2 (fun i => exKid i.val)
theorem ex_ok : exV.okB = true := by kernel_rfl
theorem ex_text : exV.textB = [40, 49, 44, 32, 39, 97, 41] := by kernel_rfl
theorem ex_type : exV.typeB.textB = [40, 105, 110, 116, 44, 32, 115, 121, 109, 41] := by kernel_rfl
theorem a1_name : nameB ⟨#[97, 49]⟩ = true := by kernel_rfl
theorem n1a_name : nameB ⟨#[49, 97]⟩ = false := by kernel_rfl

theorem ex_in (w : World) (b : Nat) (h : ∀ i, i < 2 → ∃ sl, VT.Cell4 w b (i * 4) (exKid i) sl ∧ sl = .slice none 0 0) : VT.In w exV (.slice (some ⟨b, 0, none⟩) 2 2) := by
  refine VT.In.mk (t := exV) (by decide) (by decide) (by decide) (by decide) rfl (by decide) (by decide) fun _ => ⟨b, 0, rfl, fun i hi => ?_⟩
  have hi : i < 2 := hi
  obtain ⟨sl, c, rfl⟩ := h i hi
  have e : exV.kid i = exKid i := VT.kid_mk hi
  rw [e, Nat.zero_add]
  refine ⟨_, c, ?_⟩
  unfold exKid
  split <;> exact VT.In.mk (by decide) (by decide) (by decide) (by decide) rfl (by decide) (by decide) (fun h => absurd h (by decide))

theorem ex_right (b : Nat) (w : World) (h : VT.In w exV (.slice (some ⟨b, 0, none⟩) 2 2)) :
    Calls Tryd.prog 11 #[.agg #[.int .i64 3, .int .i64 0, .string ⟨#[]⟩, .slice (some ⟨b, 0, none⟩) 2 2]] w fun e w' => e = .returned (.bool true) ∧ Below w.heap.size w w' := by
  have k := right_cv exV _ w h
  rw [ex_ok] at k
  exact k
theorem ex_textc (b : Nat) (w : World) (he : Tab w) (h : VT.In w exV (.slice (some ⟨b, 0, none⟩) 2 2)) :
    Calls Tryd.prog 12 #[.agg #[.int .i64 3, .int .i64 0, .string ⟨#[]⟩, .slice (some ⟨b, 0, none⟩) 2 2]] w fun e w' => e = .returned (.string ⟨#[40, 49, 44, 32, 39, 97, 41]⟩) ∧ Below w.heap.size w w' := by
  have k := text_cv exV _ w he h
  rw [ex_text] at k
  exact k
theorem ex_typec (b : Nat) (w : World) (h : VT.In w exV (.slice (some ⟨b, 0, none⟩) 2 2)) :
    Calls Tryd.prog 14 #[.agg #[.int .i64 3, .int .i64 0, .string ⟨#[]⟩, .slice (some ⟨b, 0, none⟩) 2 2]] w (RetT w exV.typeB) := typeOf_cv exV _ w h
theorem ex_ttext (sl : Value) (w : World) (h : TT.In w exV.typeB sl) :
    Calls Tryd.prog 13 #[exV.typeB.val sl] w fun e w' => e = .returned (.string ⟨#[40, 105, 110, 116, 44, 32, 115, 121, 109, 41]⟩) ∧ Below w.heap.size w w' := by
  have k := ttext_cv exV.typeB sl w h
  rw [ex_type] at k
  exact k
theorem ex_a1 (w : World) : Calls Tryd.prog 15 #[.string ⟨#[97, 49]⟩] w fun e w' => e = .returned (.bool true) ∧ w = w' := by
  have k := name_c ⟨#[97, 49]⟩ (by decide) w
  rw [a1_name] at k
  exact k
theorem ex_n1a (w : World) : Calls Tryd.prog 15 #[.string ⟨#[49, 97]⟩] w fun e w' => e = .returned (.bool false) ∧ w = w' := by
  have k := name_c ⟨#[49, 97]⟩ (by decide) w
  rw [n1a_name] at k
  exact k

set_option maxHeartbeats 1000000 in
theorem awake_c (w : World) (he : Tab w) : Calls Tryd.prog 4 #[] w fun e w' => e = .returned (.bool true) ∧ Below w.heap.size w w' := by
  have WB : Below w.heap.size w ((w.alloc (.cells #[.int .i64 0, .int .i64 1, .string ⟨#[]⟩, .slice none 0 0, .int .i64 2, .int .i64 0, .string ⟨#[97]⟩, .slice none 0 0] 24)).alloc (.cells #[.int .i64 3, .int .i64 0, .string ⟨#[]⟩, .slice (some ⟨w.heap.size, 0, none⟩) 2 2] 24)) := bA (bA (Below.refl _ _) _) _
  have he0 := tab_stays _ _ WB he
  have hin : VT.In ((w.alloc (.cells #[.int .i64 0, .int .i64 1, .string ⟨#[]⟩, .slice none 0 0, .int .i64 2, .int .i64 0, .string ⟨#[97]⟩, .slice none 0 0] 24)).alloc (.cells #[.int .i64 3, .int .i64 0, .string ⟨#[]⟩, .slice (some ⟨w.heap.size, 0, none⟩) 2 2] 24)) exV (.slice (some ⟨w.heap.size, 0, none⟩) 2 2) := ex_in _ _ fun i hi => by
    rcases (by omega : i = 0 ∨ i = 1) with rfl | rfl
    · exact ⟨_, ⟨by go_simp; rfl, by go_simp; rfl, by go_simp; rfl, by go_simp⟩, rfl⟩
    · exact ⟨_, ⟨by go_simp; rfl, by go_simp; rfl, by go_simp; rfl, by go_simp⟩, rfl⟩
  have q0 : ((w.alloc (.cells #[.int .i64 0, .int .i64 1, .string ⟨#[]⟩, .slice none 0 0, .int .i64 2, .int .i64 0, .string ⟨#[97]⟩, .slice none 0 0] 24)).alloc (.cells #[.int .i64 3, .int .i64 0, .string ⟨#[]⟩, .slice (some ⟨w.heap.size, 0, none⟩) 2 2] 24)).cell? ⟨w.heap.size + 1, 0, none⟩ = some (.int .i64 3) := by go_simp
  have q1 : ((w.alloc (.cells #[.int .i64 0, .int .i64 1, .string ⟨#[]⟩, .slice none 0 0, .int .i64 2, .int .i64 0, .string ⟨#[97]⟩, .slice none 0 0] 24)).alloc (.cells #[.int .i64 3, .int .i64 0, .string ⟨#[]⟩, .slice (some ⟨w.heap.size, 0, none⟩) 2 2] 24)).cell? ⟨w.heap.size + 1, 1, none⟩ = some (.int .i64 0) := by go_simp
  have q2 : ((w.alloc (.cells #[.int .i64 0, .int .i64 1, .string ⟨#[]⟩, .slice none 0 0, .int .i64 2, .int .i64 0, .string ⟨#[97]⟩, .slice none 0 0] 24)).alloc (.cells #[.int .i64 3, .int .i64 0, .string ⟨#[]⟩, .slice (some ⟨w.heap.size, 0, none⟩) 2 2] 24)).cell? ⟨w.heap.size + 1, 2, none⟩ = some (.string ⟨#[]⟩) := by go_simp
  have q3 : ((w.alloc (.cells #[.int .i64 0, .int .i64 1, .string ⟨#[]⟩, .slice none 0 0, .int .i64 2, .int .i64 0, .string ⟨#[97]⟩, .slice none 0 0] 24)).alloc (.cells #[.int .i64 3, .int .i64 0, .string ⟨#[]⟩, .slice (some ⟨w.heap.size, 0, none⟩) 2 2] 24)).cell? ⟨w.heap.size + 1, 3, none⟩ = some (.slice (some ⟨w.heap.size, 0, none⟩) 2 2) := by go_simp
  have HE := Lib.hid he0
  have HN := Lib.hid hin
  clear he he0 hin
  go_enter Tryd.func4, Tryd.ntmps4
  go_wp2_with fail
  generalize ((w.alloc (.cells #[.int .i64 0, .int .i64 1, .string ⟨#[]⟩, .slice none 0 0, .int .i64 2, .int .i64 0, .string ⟨#[97]⟩, .slice none 0 0] 24)).alloc (.cells #[.int .i64 3, .int .i64 0, .string ⟨#[]⟩, .slice (some ⟨w.heap.size, 0, none⟩) 2 2] 24)) = w0 at *
  refine (ex_right _ _ HN.out).mono ?_
  rintro e w1 ⟨rfl, hb⟩
  replace q0 := kc hb q0
  replace q1 := kc hb q1
  replace q2 := kc hb q2
  replace q3 := kc hb q3
  replace WB := bT WB hb
  have HN1 := Lib.hid (inK hb HN.out)
  have HE1 := Lib.hid (tab_stays _ _ hb HE.out)
  clear hb HN HE
  go_wp2_with fail
  refine (ex_textc _ _ HE1.out HN1.out).mono ?_
  rintro e w2 ⟨rfl, hb⟩
  replace q0 := kc hb q0
  replace q1 := kc hb q1
  replace q2 := kc hb q2
  replace q3 := kc hb q3
  replace WB := bT WB hb
  have HN2 := Lib.hid (inK hb HN1.out)
  clear hb HN1 HE1
  go_wp2_with fail
  refine (ex_typec _ _ HN2.out).mono ?_
  rintro e w3 hret
  obtain ⟨p3, cap3, rfl, hfr, hb⟩ := hret
  replace WB := bT WB hb
  have HF := Lib.hid hfr.into
  clear hb HN2 q0 q1 q2 q3 hfr
  go_wp2_with fail
  refine (ex_ttext _ _ HF.out).mono ?_
  rintro e w4 ⟨rfl, hb⟩
  replace WB := bT WB hb
  clear hb HF
  go_wp2_with fail
  refine (ex_a1 _).mono ?_
  rintro e w5 ⟨rfl, rfl⟩
  go_wp2_with fail
  refine (ex_n1a _).mono ?_
  rintro e w5 ⟨rfl, rfl⟩
  go_wp2
  go_ret
  exact ⟨rfl, WB⟩
end Go.Proofs.YtbgpipdbnjoeeaaDoor
