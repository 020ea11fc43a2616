/-
  The contracts of package value's Right over this seat's translation: whether a tree is a right value. Conditions: those that each theorem states.
-/
import Derived.Test.YtbgpipdbnjoeeaaDoorRightA
namespace Go.Proofs.YtbgpipdbnjoeeaaDoor
open Go.RowKit Go.ChangeShapes Go.WideShapes Go.ChangeAt Go.Deep
attribute [local go_sem ↓] Go.wp_at_zero Go.wp_at_succ

theorem ret_and {a b c : Bool} (h : a = (b && c)) : (b = true → a = c) ∧ (b = false → a = false) := by subst h; exact ⟨fun h => by rw [h]; rfl, fun h => by rw [h]; rfl⟩
theorem len_eq (n : Nat) : ((n : Int) == 0) = decide (n = 0) := by by_cases h : n = 0 <;> simp [h]

set_option maxHeartbeats 1000000 in
theorem right_0 (m : Int) (t : VT) (h : t.k = 0) (sl : Value) (w : World) (hin : VT.In w t sl) :
    Calls Tryd.prog 23 #[t.val sl, .int .i64 m] w fun e w' => e = .returned (.bool (VT.leafB t)) ∧ Below w.heap.size w w' := by
  obtain ⟨_, _, hs, hl, p, cap, rfl, hlc, hcap, hk⟩ := hin.out
  clear hk hin
  have HL := Lib.hid (ret_and (VT.leaf0 h))
  unfold VT.val
  rw [h]
  clear h
  go_enter Tryd.func23, Tryd.ntmps23
  go_wp2
  all_goals go_ret
  · exact ⟨rbool (by rw [HL.out.1 (decide_eq_true (by assumption))]; exact len_eq _), bA (Below.refl _ _) _⟩
  · exact ⟨rbool (by rw [HL.out.2 (decide_eq_false (by assumption))]), bA (Below.refl _ _) _⟩

set_option maxHeartbeats 1000000 in
theorem right_1 (m : Int) (t : VT) (h : t.k = 1) (sl : Value) (w : World) (hin : VT.In w t sl) :
    Calls Tryd.prog 23 #[t.val sl, .int .i64 m] w fun e w' => e = .returned (.bool (VT.leafB t)) ∧ Below w.heap.size w w' := by
  obtain ⟨_, _, hs, hl, p, cap, rfl, hlc, hcap, hk⟩ := hin.out
  clear hk hin
  have HL := Lib.hid (VT.leaf1 h)
  unfold VT.val
  rw [h]
  clear h
  generalize t.n = n at *
  by_cases h0 : n = 0
  · subst h0
    by_cases hE : t.s.toList = []
    · have hE2 : (!t.s.toList.isEmpty) = false := by simp [hE]
      go_enter Tryd.func23, Tryd.ntmps23
      go_wp2
      all_goals (go_ret; exact ⟨rbool (by rw [HL.out, len_eq, decide_eq_true hE]; simp), bA (Below.refl _ _) _⟩)
    · go_enter Tryd.func23, Tryd.ntmps23
      go_wp2
      all_goals (go_ret; exact ⟨rbool (by rw [HL.out, decide_eq_false hE]; simp [*]), bA (Below.refl _ _) _⟩)
  · have hz : (n == 0) = false := by simpa using h0
    by_cases h1 : n = 1
    · subst h1
      by_cases hE : t.s.toList = []
      · go_enter Tryd.func23, Tryd.ntmps23
        go_wp2
        all_goals (go_ret; exact ⟨rbool (by rw [HL.out, len_eq, decide_eq_true hE]; simp), bA (Below.refl _ _) _⟩)
      · go_enter Tryd.func23, Tryd.ntmps23
        go_wp2
        all_goals (go_ret; exact ⟨rbool (by rw [HL.out, decide_eq_false hE]; simp [*]), bA (Below.refl _ _) _⟩)
    · have hz1 : (n == 1) = false := by simpa using h1
      have hd : decide (n = 0 ∨ n = 1) = false := by simp [h0, h1]
      rw [hd] at HL
      clear hd h0 h1
      go_enter Tryd.func23, Tryd.ntmps23
      go_wp2
      all_goals (go_ret; exact ⟨rbool (by rw [HL.out]; simp), bA (Below.refl _ _) _⟩)

set_option maxHeartbeats 1000000 in
theorem right_2 (m : Int) (t : VT) (h : t.k = 2) (sl : Value) (w : World) (hin : VT.In w t sl) :
    Calls Tryd.prog 23 #[t.val sl, .int .i64 m] w fun e w' => e = .returned (.bool (VT.leafB t)) ∧ Below w.heap.size w w' := by
  obtain ⟨_, _, hs, hl, p, cap, rfl, hlc, hcap, hk⟩ := hin.out
  clear hk hin
  have HL := Lib.hid (VT.leaf2 h)
  unfold VT.val
  rw [h]
  clear h
  have kn := name_c t.s hs
  generalize t.n = n at *
  by_cases h0 : n = 0
  · subst h0
    cases hN : nameB t.s with
    | true =>
      rw [hN] at kn HL
      have KN := Lib.hid kn
      clear kn hN
      go_enter Tryd.func23, Tryd.ntmps23
      go_wp2_with (go_at_call 15; go_must (refine (KN.out _).mono ?_); rintro e w3 ⟨rfl, rfl⟩)
      all_goals (go_ret; exact ⟨rbool (by rw [HL.out, len_eq]; simp), bA (Below.refl _ _) _⟩)
    | false =>
      rw [hN] at kn HL
      have KN := Lib.hid kn
      clear kn hN
      go_enter Tryd.func23, Tryd.ntmps23
      go_wp2_with (go_at_call 15; go_must (refine (KN.out _).mono ?_); rintro e w3 ⟨rfl, rfl⟩)
      all_goals (go_ret; exact ⟨rbool (by rw [HL.out]; simp), bA (Below.refl _ _) _⟩)
  · have hz : (n == 0) = false := by simpa using h0
    rw [decide_eq_false h0] at HL
    clear h0 kn
    go_enter Tryd.func23, Tryd.ntmps23
    go_wp2
    all_goals (go_ret; exact ⟨rbool (by rw [HL.out]; simp), bA (Below.refl _ _) _⟩)

set_option maxHeartbeats 1000000 in
theorem right_9 (m : Int) (t : VT) (h0 : t.k ≠ 0) (h1 : t.k ≠ 1) (h2 : t.k ≠ 2) (h3 : t.k ≠ 3) (sl : Value) (w : World) (hin : VT.In w t sl) :
    Calls Tryd.prog 23 #[t.val sl, .int .i64 m] w fun e w' => e = .returned (.bool (VT.leafB t)) ∧ Below w.heap.size w w' := by
  obtain ⟨_, _, hs, hl, p, cap, rfl, hlc, hcap, hk⟩ := hin.out
  clear hk hin
  have HL := Lib.hid (VT.leaf9 h0 h1 h2)
  unfold VT.val
  generalize t.k = k at *
  have z0 : (k == 0) = false := by simpa using h0
  have z1 : (k == 1) = false := by simpa using h1
  have z2 : (k == 2) = false := by simpa using h2
  have z3 : (k == 3) = false := by simpa using h3
  clear h0 h1 h2 h3
  go_enter Tryd.func23, Tryd.ntmps23
  go_wp2
  all_goals (go_ret; exact ⟨rbool HL.out.symm, bA (Below.refl _ _) _⟩)

set_option maxHeartbeats 1000000 in
theorem right_3 (m : Int) (b : Bool) (t : VT) (h : t.k = 3) (sl : Value) (w : World) (hin : VT.In w t sl)
    (ih : ∀ w, VT.In w t sl → Calls Tryd.prog 33 #[sl, .int .i64 m, .func (.func 23) #[] #[]] w fun e w' => e = .returned (.bool b) ∧ Below w.heap.size w w') :
    Calls Tryd.prog 23 #[t.val sl, .int .i64 m] w fun e w' => e = .returned (.bool (decide (t.n = 0) && (decide (t.s.toList = []) && b))) ∧ Below w.heap.size w w' := by
  have HN := Lib.hid hin
  obtain ⟨_, _, hs, hl, p, cap, rfl, hlc, hcap, hk⟩ := hin.out
  clear hk hin
  have HI := Lib.hid ih
  clear ih
  unfold VT.val
  rw [h]
  clear h
  generalize t.n = n at *
  by_cases h0 : n = 0
  · subst h0
    by_cases hE : t.s.toList = []
    · go_enter Tryd.func23, Tryd.ntmps23
      go_wp2_with (go_at_call 33; go_must (refine (HI.out _ (inK (bA (Below.refl _ _) _) HN.out)).mono ?_); rintro e w3 ⟨rfl, hb⟩)
      all_goals (go_ret; exact ⟨rbool (by rw [decide_eq_true hE]; simp), bT (bA (Below.refl _ _) _) hb⟩)
    · go_enter Tryd.func23, Tryd.ntmps23
      go_wp2
      all_goals (go_ret; exact ⟨rbool (by rw [decide_eq_false hE]; simp [*]), bA (Below.refl _ _) _⟩)
  · have hz : (n == 0) = false := by simpa using h0
    have hd := decide_eq_false h0
    have HD := Lib.hid hd
    clear h0 hd
    go_enter Tryd.func23, Tryd.ntmps23
    go_wp2
    all_goals (go_ret; exact ⟨rbool (by rw [HD.out]; simp), bA (Below.refl _ _) _⟩)

theorem right_v : ∀ (m : Nat), m ≤ 3 → ∀ (t : VT) (sl : Value) (w : World), VT.In w t sl →
    Calls Tryd.prog 23 #[t.val sl, .int .i64 m] w fun e w' => e = .returned (.bool (VT.rightB m t)) ∧ Below w.heap.size w w' := by
  intro m
  induction m with
  | zero =>
    intro _ t sl w hin
    by_cases h3 : t.k = 3
    · rw [VT.rightB_tup h3]
      exact right_3 0 _ t h3 sl w hin fun w hin => itemsV_0 t sl w hin
    · rw [VT.rightB_leaf h3]
      by_cases h0 : t.k = 0
      · exact right_0 _ t h0 sl w hin
      · by_cases h1 : t.k = 1
        · exact right_1 _ t h1 sl w hin
        · by_cases h2 : t.k = 2
          · exact right_2 _ t h2 sl w hin
          · exact right_9 _ t h0 h1 h2 h3 sl w hin
  | succ m ih =>
    intro hm t sl w hin
    by_cases h3 : t.k = 3
    · rw [VT.rightB_tup h3]
      exact right_3 _ _ t h3 sl w hin fun w hin => itemsV_c m (by omega) t (fun i _ sl w hin => ih (by omega) (t.kid i) sl w hin) sl w hin
    · rw [VT.rightB_leaf h3]
      by_cases h0 : t.k = 0
      · exact right_0 _ t h0 sl w hin
      · by_cases h1 : t.k = 1
        · exact right_1 _ t h1 sl w hin
        · by_cases h2 : t.k = 2
          · exact right_2 _ t h2 sl w hin
          · exact right_9 _ t h0 h1 h2 h3 sl w hin

/-- Is the tree a right value? -/
def VT.okB (t : VT) : Bool := VT.rightB 3 t

theorem right_cv (t : VT) (sl : Value) (w : World) (hin : VT.In w t sl) :
    Calls Tryd.prog 11 #[t.val sl] w fun e w' => e = .returned (.bool t.okB) ∧ Below w.heap.size w w' := by
  have HN := Lib.hid hin
  obtain ⟨p, cap, rfl⟩ := hin.slice
  clear hin
  have k := right_v 3 (by omega) t
  rw [show VT.rightB 3 t = t.okB from rfl] at k
  have HK := Lib.hid k
  clear k
  unfold VT.val at HK ⊢
  go_enter Tryd.func11, Tryd.ntmps11
  go_wp2_with (go_at_call 23; go_must (refine (HK.out _ _ (inK (bA (Below.refl _ _) _) HN.out)).mono ?_); rintro e w3 ⟨rfl, hb⟩)
  go_ret
  exact ⟨rfl, bT (bA (Below.refl _ _) _) hb⟩
end Go.Proofs.YtbgpipdbnjoeeaaDoor
