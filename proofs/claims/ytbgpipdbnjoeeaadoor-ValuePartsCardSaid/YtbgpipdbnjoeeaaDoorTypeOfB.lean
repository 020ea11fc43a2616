/-
  The contracts of package value's TypeOf over this seat's translation: the type of a right value. Conditions: those that each theorem states.
-/
import Derived.Test.YtbgpipdbnjoeeaaDoorTypeOfA
namespace Go.Proofs.YtbgpipdbnjoeeaaDoor
open Go.RowKit Go.ChangeShapes Go.WideShapes Go.ChangeAt Go.Deep
attribute [local go_sem ↓] Go.wp_at_zero Go.wp_at_succ

theorem keepset2 {w : World} {b o g : Nat} {v x y : Value} (h : b ≠ g) (hc : w.cell? ⟨b, o, none⟩ = some v) : ((w.setCell ⟨g, 0, none⟩ x).setCell ⟨g, 1, none⟩ y).cell? ⟨b, o, none⟩ = some v := by
  rw [World.cell?_setCell_far _ _ _ _ (fun e => h e.symm), World.cell?_setCell_far _ _ _ _ (fun e => h e.symm)]
  exact hc

set_option maxHeartbeats 1000000 in
theorem typeOf_c (t : VT) (h4 : t.len ≤ 20) (ty : Nat → TT)
    (ih : ∀ i, i < t.len → ∀ (sl : Value) (w : World), VT.In w (t.kid i) sl → Calls Tryd.prog 27 #[(t.kid i).val sl] w (RetT w (ty i)))
    (sl : Value) (w : World) (hin : VT.In w t sl) :
    Calls Tryd.prog 27 #[t.val sl] w (RetT w (.mk t.k t.len (fun i => ty i.val))) := by
  have HN := Lib.hid hin
  have ke := eachVT_c t.k hin.out.1 t h4 ty ih sl
  obtain ⟨p, cap, rfl⟩ := hin.slice
  have KE := Lib.hid ke
  clear hin ih ke
  unfold VT.val
  go_enter Tryd.func27, Tryd.ntmps27
  go_wp2_with fail
  have q0 : ((w.alloc (.cells #[.int .i64 t.k, .int .i64 t.n, .string t.s, .slice p t.len cap] 24)).alloc (.cells #[.int .i64 0, .slice none 0 0] 40)).cell? ⟨w.heap.size, 0, none⟩ = some (.int .i64 t.k) := by go_simp
  have q3 : ((w.alloc (.cells #[.int .i64 t.k, .int .i64 t.n, .string t.s, .slice p t.len cap] 24)).alloc (.cells #[.int .i64 0, .slice none 0 0] 40)).cell? ⟨w.heap.size, 3, none⟩ = some (.slice p t.len cap) := by go_simp
  have r0 : ((w.alloc (.cells #[.int .i64 t.k, .int .i64 t.n, .string t.s, .slice p t.len cap] 24)).alloc (.cells #[.int .i64 0, .slice none 0 0] 40)).cell? ⟨w.heap.size + 1, 0, none⟩ = some (.int .i64 0) := by go_simp
  have r1 : ((w.alloc (.cells #[.int .i64 t.k, .int .i64 t.n, .string t.s, .slice p t.len cap] 24)).alloc (.cells #[.int .i64 0, .slice none 0 0] 40)).cell? ⟨w.heap.size + 1, 1, none⟩ = some (.slice none 0 0) := by go_simp
  have f0 : ((w.alloc (.cells #[.int .i64 t.k, .int .i64 t.n, .string t.s, .slice p t.len cap] 24)).alloc (.cells #[.int .i64 0, .slice none 0 0] 40)).frozen? ⟨w.heap.size + 1, 0, none⟩ = false := by go_simp
  have f1 : ((w.alloc (.cells #[.int .i64 t.k, .int .i64 t.n, .string t.s, .slice p t.len cap] 24)).alloc (.cells #[.int .i64 0, .slice none 0 0] 40)).frozen? ⟨w.heap.size + 1, 1, none⟩ = false := by go_simp
  have WB : Below w.heap.size w ((w.alloc (.cells #[.int .i64 t.k, .int .i64 t.n, .string t.s, .slice p t.len cap] 24)).alloc (.cells #[.int .i64 0, .slice none 0 0] 40)) := bA (bA (Below.refl _ _) _) _
  generalize ((w.alloc (.cells #[.int .i64 t.k, .int .i64 t.n, .string t.s, .slice p t.len cap] 24)).alloc (.cells #[.int .i64 0, .slice none 0 0] 40)) = w0 at *
  have R0 := Lib.hid r0
  have R1 := Lib.hid r1
  have F0 := Lib.hid f0
  have F1 := Lib.hid f1
  clear r0 r1 f0 f1
  go_region_held3 (fun w' => w'.cell? ⟨w.heap.size, 0, none⟩ = some (.int .i64 t.k) ∧ w'.cell? ⟨w.heap.size, 3, none⟩ = some (.slice p t.len cap) ∧ Below w.heap.size w w')
    (first | exact ⟨q0, q3, Below.drew WB⟩ | (go_split_ands; exact ⟨kc hb (by assumption), kc hb (by assumption), bT (by assumption) hb⟩) | (go_split_ands; exact ⟨keepset2 (by omega) (by assumption), keepset2 (by omega) (by assumption), bS (bS (by assumption) (by simp) _) (by simp) _⟩) | go_keep)
    (first | (go_at_call 39; refine (KE.out _ (inK (by repeat (first | with_reducible assumption | with_reducible exact Below.refl _ _ | with_reducible refine bN ?_ _ | with_reducible refine Below.drew ?_ | with_reducible refine bA ?_ _ | with_reducible refine bS ?_ (by simp) _ | with_reducible refine bT ?_ (by assumption))) HN.out)).mono ?_; rintro e w3 hret; obtain ⟨p3, cap3, rfl, hfr, hb⟩ := hret; have Q : Below w0.heap.size w0 w3 := (by repeat (first | with_reducible assumption | with_reducible exact Below.refl _ _ | with_reducible refine bN ?_ _ | with_reducible refine Below.drew ?_ | with_reducible refine bA ?_ _ | with_reducible refine bS ?_ (by simp) _ | with_reducible refine bT ?_ (by assumption))); have r0 := kc Q R0.out; have r1 := kc Q R1.out; have f0 := kf Q R0.out F0.out; have f1 := kf Q R1.out F1.out))
  have H0 := World.block_lt_of_cell? w0 _ R0.out
  have HF : TT.Fresh w.heap.size ((w3.setCell ⟨w.heap.size + 1, 0, none⟩ (.int .i64 t.k)).setCell ⟨w.heap.size + 1, 1, none⟩ (.slice p3 (TT.mk t.k t.len fun i => ty i.val).len cap3)) (TT.mk t.k t.len fun i => ty i.val) (.slice p3 (TT.mk t.k t.len fun i => ty i.val).len cap3) :=
    hfr.keep WB.size fun b o v hb c => keepset2 (by have : w0.heap.size ≤ b := hb; have h2 : w.heap.size + 1 < w0.heap.size := H0; omega) c
  have HB : Below w.heap.size w ((w3.setCell ⟨w.heap.size + 1, 0, none⟩ (.int .i64 t.k)).setCell ⟨w.heap.size + 1, 1, none⟩ (.slice p3 (TT.mk t.k t.len fun i => ty i.val).len cap3)) := bS (bS (bT WB Q) (by simp) _) (by simp) _
  have HF2 := Lib.hid HF
  have HB2 := Lib.hid HB
  clear hfr HF HB hb Q WB
  go_wp2
  exact bodyPost_ret (v := .agg #[.int .i64 t.k, .slice p3 t.len cap3]) (by simp [results, Tryd.results27, go_sem, r0, r1]; rfl) rfl ⟨p3, cap3, rfl, HF2.out, HB2.out⟩

namespace VT
/-- The type of a right value with at most m tuples within one another. -/
def typeM : Nat → VT → TT
  | 0, t => .mk t.k t.len (fun _ => .leaf)
  | m + 1, t => .mk t.k t.len (fun i => typeM m (t.kid i.val))
theorem leafB_len {t : VT} (h : leafB t = true) : t.len = 0 := by
  by_cases h0 : t.k = 0
  · rw [leaf0 h0] at h; simp at h; exact h.2
  · by_cases h1 : t.k = 1
    · rw [leaf1 h1] at h; simp at h; exact h.2.2
    · by_cases h2 : t.k = 2
      · rw [leaf2 h2] at h; simp at h; exact h.2.2
      · rw [leaf9 h0 h1 h2] at h; cases h
theorem rightB_kid {t : VT} {m : Nat} (h : rightB (m + 1) t = true) : t.len ≤ 4 ∧ ∀ i, i < t.len → rightB m (t.kid i) = true := by
  by_cases h3 : t.k = 3
  · exact (rightB_kids h h3).2
  · rw [rightB_leaf h3] at h
    have := leafB_len h
    exact ⟨by omega, fun i hi => by omega⟩
theorem rightB_kid0 {t : VT} (h : rightB 0 t = true) : t.len = 0 := leafB_len (by rwa [rightB_leaf (rightB_zero h)] at h)
end VT

theorem typeOf_v : ∀ (m : Nat) (t : VT), VT.rightB m t = true → ∀ (sl : Value) (w : World), VT.In w t sl →
    Calls Tryd.prog 27 #[t.val sl] w (RetT w (VT.typeM m t)) := by
  intro m
  induction m with
  | zero =>
    intro t hr sl w hin
    have h0 := VT.rightB_kid0 hr
    exact typeOf_c t (by omega) (fun _ => .leaf) (fun i hi => by omega) sl w hin
  | succ m ih =>
    intro t hr sl w hin
    obtain ⟨h4, hk⟩ := VT.rightB_kid hr
    exact typeOf_c t (by omega) (fun i => VT.typeM m (t.kid i)) (fun i hi sl w hin => ih (t.kid i) (hk i hi) sl w hin) sl w hin

/-- The type of a value; a zero one of one that isn't right. -/
def VT.typeB (t : VT) : TT := if t.okB = true then VT.typeM 3 t else .mk 0 0 nofun

set_option maxHeartbeats 1000000 in
theorem typeOf_cv (t : VT) (sl : Value) (w : World) (hin : VT.In w t sl) :
    Calls Tryd.prog 14 #[t.val sl] w (RetT w t.typeB) := by
  have HN := Lib.hid hin
  obtain ⟨p, cap, rfl⟩ := hin.slice
  have kr := right_cv t (.slice p t.len cap)
  have KT := Lib.hid fun h => typeOf_v 3 t h (.slice p t.len cap)
  clear hin
  cases hr : t.okB with
  | true =>
    rw [hr] at kr
    have e : t.typeB = VT.typeM 3 t := by unfold VT.typeB; rw [if_pos hr]
    have kt := KT.out hr
    rw [← e] at kt
    have KR := Lib.hid kr
    have KT2 := Lib.hid kt
    clear kr hr e KT kt
    unfold VT.val at KR KT2 ⊢
    go_enter Tryd.func14, Tryd.ntmps14
    go_wp2_with fail
    have q : VT.Cell4 ((w.alloc (.cells #[.int .i64 t.k, .int .i64 t.n, .string t.s, .slice p t.len cap] 24)).alloc (.cells #[.int .i64 0, .slice none 0 0] 40)) w.heap.size 0 t (.slice p t.len cap) := ⟨by go_simp, by go_simp, by go_simp, by go_simp⟩
    have r0 : ((w.alloc (.cells #[.int .i64 t.k, .int .i64 t.n, .string t.s, .slice p t.len cap] 24)).alloc (.cells #[.int .i64 0, .slice none 0 0] 40)).cell? ⟨w.heap.size + 1, 0, none⟩ = some (.int .i64 0) := by go_simp
    have r1 : ((w.alloc (.cells #[.int .i64 t.k, .int .i64 t.n, .string t.s, .slice p t.len cap] 24)).alloc (.cells #[.int .i64 0, .slice none 0 0] 40)).cell? ⟨w.heap.size + 1, 1, none⟩ = some (.slice none 0 0) := by go_simp
    have f0 : ((w.alloc (.cells #[.int .i64 t.k, .int .i64 t.n, .string t.s, .slice p t.len cap] 24)).alloc (.cells #[.int .i64 0, .slice none 0 0] 40)).frozen? ⟨w.heap.size + 1, 0, none⟩ = false := by go_simp
    have f1 : ((w.alloc (.cells #[.int .i64 t.k, .int .i64 t.n, .string t.s, .slice p t.len cap] 24)).alloc (.cells #[.int .i64 0, .slice none 0 0] 40)).frozen? ⟨w.heap.size + 1, 1, none⟩ = false := by go_simp
    have WB : Below w.heap.size w ((w.alloc (.cells #[.int .i64 t.k, .int .i64 t.n, .string t.s, .slice p t.len cap] 24)).alloc (.cells #[.int .i64 0, .slice none 0 0] 40)) := bA (bA (Below.refl _ _) _) _
    refine (KR.out _ (inK WB HN.out)).mono ?_
    rintro e w3 ⟨rfl, hb⟩
    have H3 : w.heap.size + 1 < w3.heap.size := World.block_lt_of_cell? w3 _ (kc hb r0)
    replace q := q.keep hb
    obtain ⟨q0, q1, q2, q3⟩ := q
    replace f0 := kf hb r0 f0
    replace f1 := kf hb r1 f1
    replace r0 := kc hb r0
    replace r1 := kc hb r1
    replace WB := bT WB hb
    clear hb
    go_wp2_with fail
    refine (KT2.out _ (inK WB HN.out)).mono ?_
    rintro e w4 hret
    obtain ⟨p3, cap3, rfl, hfr, hb⟩ := hret
    replace f0 := kf hb r0 f0
    replace f1 := kf hb r1 f1
    replace r0 := kc hb r0
    replace r1 := kc hb r1
    have HF : TT.Fresh w.heap.size ((w4.setCell ⟨w.heap.size + 1, 0, none⟩ (.int .i64 t.typeB.k)).setCell ⟨w.heap.size + 1, 1, none⟩ (.slice p3 t.typeB.len cap3)) t.typeB (.slice p3 t.typeB.len cap3) :=
      hfr.keep WB.size fun b o v hb c => keepset2 (by omega) c
    have HF2 := Lib.hid HF
    have HB2 := Lib.hid (bS (bS (bT WB hb) (p := ⟨w.heap.size + 1, 0, none⟩) (by simp) (.int .i64 t.typeB.k)) (p := ⟨w.heap.size + 1, 1, none⟩) (by simp) (.slice p3 t.typeB.len cap3))
    clear hfr HF hb WB q0 q1 q2 q3
    go_wp2
    exact bodyPost_ret (v := .agg #[.int .i64 t.typeB.k, .slice p3 t.typeB.len cap3]) (by simp [results, Tryd.results14, go_sem, r0, r1]) rfl ⟨p3, cap3, rfl, HF2.out, HB2.out⟩
  | false =>
    rw [hr] at kr
    have e : t.typeB = .mk 0 0 nofun := by unfold VT.typeB; rw [hr]; simp
    rw [e]
    have KR := Lib.hid kr
    clear kr hr KT e
    unfold VT.val at KR ⊢
    go_enter Tryd.func14, Tryd.ntmps14
    go_wp2_with fail
    have r0 : ((w.alloc (.cells #[.int .i64 t.k, .int .i64 t.n, .string t.s, .slice p t.len cap] 24)).alloc (.cells #[.int .i64 0, .slice none 0 0] 40)).cell? ⟨w.heap.size + 1, 0, none⟩ = some (.int .i64 0) := by go_simp
    have r1 : ((w.alloc (.cells #[.int .i64 t.k, .int .i64 t.n, .string t.s, .slice p t.len cap] 24)).alloc (.cells #[.int .i64 0, .slice none 0 0] 40)).cell? ⟨w.heap.size + 1, 1, none⟩ = some (.slice none 0 0) := by go_simp
    have f0 : ((w.alloc (.cells #[.int .i64 t.k, .int .i64 t.n, .string t.s, .slice p t.len cap] 24)).alloc (.cells #[.int .i64 0, .slice none 0 0] 40)).frozen? ⟨w.heap.size + 1, 0, none⟩ = false := by go_simp
    have f1 : ((w.alloc (.cells #[.int .i64 t.k, .int .i64 t.n, .string t.s, .slice p t.len cap] 24)).alloc (.cells #[.int .i64 0, .slice none 0 0] 40)).frozen? ⟨w.heap.size + 1, 1, none⟩ = false := by go_simp
    have WB : Below w.heap.size w ((w.alloc (.cells #[.int .i64 t.k, .int .i64 t.n, .string t.s, .slice p t.len cap] 24)).alloc (.cells #[.int .i64 0, .slice none 0 0] 40)) := bA (bA (Below.refl _ _) _) _
    refine (KR.out _ (inK WB HN.out)).mono ?_
    rintro e w3 ⟨rfl, hb⟩
    replace f0 := kf hb r0 f0
    replace f1 := kf hb r1 f1
    replace r0 := kc hb r0
    replace r1 := kc hb r1
    replace WB := bT WB hb
    clear hb
    go_wp2
    exact bodyPost_ret (v := .agg #[.int .i64 0, .slice none 0 0]) (by simp [results, Tryd.results14, go_sem, r0, r1]) rfl ⟨none, 0, rfl, ⟨by omega, by omega, none, 0, rfl, by omega, by omega, by omega⟩, bS (bS WB (by simp) _) (by simp) _⟩
end Go.Proofs.YtbgpipdbnjoeeaaDoor
