/-
  The contracts of the given package gavotteref02's Right over this seat's translation: whether a tree is a right value. Conditions: those that each theorem states.
-/
import Derived.Test.YtbgpipdbnjoeeaaDoorRightB
namespace Go.Proofs.YtbgpipdbnjoeeaaDoor
open Go.RowKit Go.ChangeShapes Go.WideShapes Go.ChangeAt Go.Deep
attribute [local go_sem ↓] Go.wp_at_zero Go.wp_at_succ

set_option maxHeartbeats 1000000 in
theorem rright_0 (m : Int) (t : VT) (h : t.k = 0) (sl : Value) (w : World) (hin : VT.In w t sl) :
    Calls Tryd.prog 6 #[t.val sl, .int .i64 m] w fun e w' => e = .returned (.bool (VT.leafB t)) ∧ Below w.heap.size w w' := by
  obtain ⟨_, _, hs, hl, p, cap, rfl, hlc, hcap, hk⟩ := hin.out
  clear hk hin
  have HL := Lib.hid (ret_and (VT.leaf0 h))
  unfold VT.val
  rw [h]
  clear h
  go_enter Tryd.func6, Tryd.ntmps6
  go_wp2
  all_goals go_ret
  · exact ⟨rbool (by rw [HL.out.1 (decide_eq_true (by assumption))]; exact len_eq _), bA (Below.refl _ _) _⟩
  · exact ⟨rbool (by rw [HL.out.2 (decide_eq_false (by assumption))]), bA (Below.refl _ _) _⟩

set_option maxHeartbeats 1000000 in
theorem rright_1 (m : Int) (t : VT) (h : t.k = 1) (sl : Value) (w : World) (hin : VT.In w t sl) :
    Calls Tryd.prog 6 #[t.val sl, .int .i64 m] w fun e w' => e = .returned (.bool (VT.leafB t)) ∧ Below w.heap.size w w' := by
  obtain ⟨_, _, hs, hl, p, cap, rfl, hlc, hcap, hk⟩ := hin.out
  clear hk hin
  have HL := Lib.hid (VT.leaf1 h)
  unfold VT.val
  rw [h]
  clear h
  generalize t.n = n at *
  by_cases hE : t.s.toList = []
  · by_cases hZ : t.len = 0
    · have hz : ((t.len : Int) == 0) = true := by simp [hZ]
      by_cases h0 : 0 ≤ n
      · by_cases h1 : n ≤ 1
        · have hd : decide (n = 0 ∨ n = 1) = true := by simp; omega
          rw [hd, decide_eq_true hE, decide_eq_true hZ] at HL
          clear hd hZ
          go_enter Tryd.func6, Tryd.ntmps6
          go_wp2
          all_goals (go_ret; exact ⟨rbool (by rw [HL.out]; simp), bA (Below.refl _ _) _⟩)
        · have hd : decide (n = 0 ∨ n = 1) = false := by simp; omega
          rw [hd] at HL
          clear hd hZ
          go_enter Tryd.func6, Tryd.ntmps6
          go_wp2
          all_goals (go_ret; exact ⟨rbool (by rw [HL.out]; simp), bA (Below.refl _ _) _⟩)
      · have hd : decide (n = 0 ∨ n = 1) = false := by simp; omega
        rw [hd] at HL
        clear hd hZ
        go_enter Tryd.func6, Tryd.ntmps6
        go_wp2
        all_goals (go_ret; exact ⟨rbool (by rw [HL.out]; simp), bA (Below.refl _ _) _⟩)
    · have hz : ((t.len : Int) == 0) = false := by simp [hZ]
      rw [decide_eq_false hZ] at HL
      clear hZ
      go_enter Tryd.func6, Tryd.ntmps6
      go_wp2
      all_goals (go_ret; exact ⟨rbool (by rw [HL.out]; simp), bA (Below.refl _ _) _⟩)
  · rw [decide_eq_false hE] at HL
    go_enter Tryd.func6, Tryd.ntmps6
    go_wp2
    all_goals (go_ret; exact ⟨rbool (by rw [HL.out]; simp), bA (Below.refl _ _) _⟩)

set_option maxHeartbeats 1000000 in
theorem rright_2 (m : Int) (t : VT) (h : t.k = 2) (sl : Value) (w : World) (hin : VT.In w t sl) :
    Calls Tryd.prog 6 #[t.val sl, .int .i64 m] w fun e w' => e = .returned (.bool (VT.leafB t)) ∧ Below w.heap.size w w' := by
  obtain ⟨_, _, hs, hl, p, cap, rfl, hlc, hcap, hk⟩ := hin.out
  clear hk hin
  have HL := Lib.hid (VT.leaf2 h)
  unfold VT.val
  rw [h]
  clear h
  have kn := rname_c t.s hs
  cases hN : nameB t.s with
  | true =>
    rw [hN] at kn HL
    have KN := Lib.hid kn
    clear kn hN
    generalize t.n = n at *
    by_cases h0 : n = 0
    · subst h0
      go_enter Tryd.func6, Tryd.ntmps6
      go_wp2_with (go_at_call 17; go_must (refine (KN.out _).mono ?_); rintro e w3 ⟨rfl, rfl⟩)
      all_goals (go_ret; exact ⟨rbool (by rw [HL.out, len_eq]; simp), bA (Below.refl _ _) _⟩)
    · have hz : (n == 0) = false := by simpa using h0
      rw [decide_eq_false h0] at HL
      clear h0
      go_enter Tryd.func6, Tryd.ntmps6
      go_wp2_with (go_at_call 17; go_must (refine (KN.out _).mono ?_); rintro e w3 ⟨rfl, rfl⟩)
      all_goals (go_ret; exact ⟨rbool (by rw [HL.out]; simp), bA (Below.refl _ _) _⟩)
  | false =>
    rw [hN] at kn HL
    have KN := Lib.hid kn
    clear kn hN
    go_enter Tryd.func6, Tryd.ntmps6
    go_wp2_with (go_at_call 17; go_must (refine (KN.out _).mono ?_); rintro e w3 ⟨rfl, rfl⟩)
    all_goals (go_ret; exact ⟨rbool (by rw [HL.out]; simp), bA (Below.refl _ _) _⟩)

set_option maxHeartbeats 1000000 in
theorem rright_9 (m : Int) (t : VT) (h0 : t.k ≠ 0) (h1 : t.k ≠ 1) (h2 : t.k ≠ 2) (h3 : t.k ≠ 3) (sl : Value) (w : World) (hin : VT.In w t sl) :
    Calls Tryd.prog 6 #[t.val sl, .int .i64 m] w fun e w' => e = .returned (.bool (VT.leafB t)) ∧ Below w.heap.size w w' := by
  obtain ⟨_, _, hs, hl, p, cap, rfl, hlc, hcap, hk⟩ := hin.out
  clear hk hin
  have HL := Lib.hid (VT.leaf9 h0 h1 h2)
  unfold VT.val
  generalize t.k = k at *
  have z0 : (k == 0) = false := by simpa using h0
  have z1 : (k == 1) = false := by simpa using h1
  have z2 : (k == 2) = false := by simpa using h2
  have z3 : (k != 3) = true := by simpa using h3
  clear h0 h1 h2 h3
  go_enter Tryd.func6, Tryd.ntmps6
  go_wp2
  all_goals (go_ret; exact ⟨rbool HL.out.symm, bA (Below.refl _ _) _⟩)

set_option maxHeartbeats 1000000 in
theorem rright_no (m : Int) (t : VT) (h : t.k = 3) (hno : ¬ (t.n = 0 ∧ t.s.toList = [] ∧ m ≠ 0 ∧ 1 ≤ t.len ∧ t.len ≤ 4)) (sl : Value) (w : World) (hin : VT.In w t sl) :
    Calls Tryd.prog 6 #[t.val sl, .int .i64 m] w fun e w' => e = .returned (.bool false) ∧ Below w.heap.size w w' := by
  obtain ⟨_, _, hs, hl, p, cap, rfl, hlc, hcap, hk⟩ := hin.out
  clear hk hin
  unfold VT.val
  rw [h]
  clear h
  generalize t.n = n at *
  by_cases h0 : n = 0
  · subst h0
    by_cases hE : t.s.toList = []
    · by_cases hm : m = 0
      · subst hm
        clear hno
        go_enter Tryd.func6, Tryd.ntmps6
        go_wp2
        all_goals (go_ret; exact ⟨rfl, bA (Below.refl _ _) _⟩)
      · have hmz : (m == 0) = false := by simpa using hm
        by_cases h1 : 1 ≤ t.len
        · have h4 : 4 < t.len := by simp [hE, hm] at hno; omega
          clear hno hm
          go_enter Tryd.func6, Tryd.ntmps6
          go_wp2
          all_goals (go_ret; exact ⟨rfl, bA (Below.refl _ _) _⟩)
        · clear hno hm
          go_enter Tryd.func6, Tryd.ntmps6
          go_wp2
          all_goals (go_ret; exact ⟨rfl, bA (Below.refl _ _) _⟩)
    · clear hno
      go_enter Tryd.func6, Tryd.ntmps6
      go_wp2
      all_goals (go_ret; exact ⟨rfl, bA (Below.refl _ _) _⟩)
  · have hz : (n != 0) = true := by simpa using h0
    clear hno h0
    go_enter Tryd.func6, Tryd.ntmps6
    go_wp2
    all_goals (go_ret; exact ⟨rfl, bA (Below.refl _ _) _⟩)

set_option maxHeartbeats 2000000 in
theorem rright_3 (m : Nat) (hm : m ≤ 3) (t : VT) (h : t.k = 3) (h0 : t.n = 0) (hE : t.s.toList = []) (h1 : 1 ≤ t.len) (h4 : t.len ≤ 4)
    (ih : ∀ i, i < t.len → ∀ (sl : Value) (w : World), VT.In w (t.kid i) sl → Calls Tryd.prog 6 #[(t.kid i).val sl, .int .i64 m] w fun e w' => e = .returned (.bool (VT.rightB m (t.kid i))) ∧ Below w.heap.size w w')
    (sl : Value) (w : World) (hin : VT.In w t sl) :
    Calls Tryd.prog 6 #[t.val sl, .int .i64 ((m : Int) + 1)] w fun e w' => e = .returned (.bool (allTo (fun i => VT.rightB m (t.kid i)) t.len)) ∧ Below w.heap.size w w' := by
  obtain ⟨_, _, hs, hl, p, cap, rfl, hlc, hcap, hk⟩ := hin.out
  obtain ⟨b, o, rfl, hk2⟩ := hk h1
  have HK : Hid (VT.Kids w t b o) := hk2
  have HI := Lib.hid ih
  clear hk hk2 hin ih
  have hm1 : ((m : Int) + 1 == 0) = false := by simp; omega
  have hd1 : decide ((t.len : Int) < 1) = false := by simp; omega
  have hd4 : decide ((4 : Int) < (t.len : Int)) = false := by simp; omega
  unfold VT.val
  rw [h, h0]
  clear h h0
  go_enter Tryd.func6, Tryd.ntmps6
  go_wp2
  have hB : Below w.heap.size w (w.alloc (.cells #[.int .i64 3, .int .i64 0, .string t.s, .slice (some ⟨b, o, none⟩) t.len cap] 24)) := bA (Below.refl _ _) _
  have HB := Lib.hid hB
  have q3 : (w.alloc (.cells #[.int .i64 3, .int .i64 0, .string t.s, .slice (some ⟨b, o, none⟩) t.len cap] 24)).cell? ⟨w.heap.size, 3, none⟩ = some (.slice (some ⟨b, o, none⟩) t.len cap) := by go_simp
  clear hB
  generalize w.alloc (.cells #[.int .i64 3, .int .i64 0, .string t.s, .slice (some ⟨b, o, none⟩) t.len cap] 24) = w0 at *
  go_loopw [5] (fun vk wr => ∃ k : Nat, vk = .int .i64 k ∧ k ≤ t.len ∧ (∀ i, i < k → VT.rightB m (t.kid i) = true) ∧ Below w0.heap.size w0 wr) (fun vk _ => t.len - (intOf vk).toNat)
  case atStart => exact ⟨0, rfl, Nat.zero_le _, fun i h => by omega, Below.refl _ _⟩
  case round =>
    obtain ⟨k, rfl, hkl, hu, hbl⟩ := hrel
    have HU := Lib.hid hu
    clear hu
    replace q3 := kc hbl q3
    by_cases hlt : k < t.len
    · obtain ⟨sl', ⟨c0, c1, c2, c3⟩, hkin⟩ := (HK.out.keep HB.out).keep hbl k hlt
      obtain ⟨p', cap', rfl⟩ := hkin.slice
      have HN := Lib.hid hkin
      clear hkin
      by_cases hr : VT.rightB m (t.kid k) = true
      · have hr2 := HI.out k hlt
        rw [hr] at hr2
        have HR := Lib.hid hr
        have HC := Lib.hid hr2
        clear hr hr2
        go_wp2_with (go_at_call 6; go_must (refine (HC.out _ _ HN.out).mono ?_); rintro e w3 ⟨rfl, hb⟩)
        go_roundw
        case rel =>
          refine ⟨k + 1, by go_num, by omega, fun i hi => ?_, bT hbl hb⟩
          by_cases e : i = k
          · rw [e]; exact HR.out
          · exact HU.out i (by omega)
        case measure => simp [intOf]; omega
      · have hr' : VT.rightB m (t.kid k) = false := by simpa using hr
        have hr2 := HI.out k hlt
        rw [hr'] at hr2
        have hv : allTo (fun i => VT.rightB m (t.kid i)) t.len = false := allTo_false hlt hr'
        have HV := Lib.hid hv
        have HC := Lib.hid hr2
        clear hr hr2 hr' hv
        go_wp2_with (go_at_call 6; go_must (refine (HC.out _ _ HN.out).mono ?_); rintro e w3 ⟨rfl, hb⟩)
        go_ret
        exact ⟨rbool HV.out.symm, bT HB.out (bT hbl hb)⟩
    · have hv : allTo (fun i => VT.rightB m (t.kid i)) t.len = true := allTo_true.2 fun i hi => HU.out i (by omega)
      have HV := Lib.hid hv
      clear hv
      go_wp2
      go_ret
      exact ⟨rbool HV.out.symm, bT HB.out hbl⟩

theorem rright_v : ∀ (m : Nat), m ≤ 3 → ∀ (t : VT) (sl : Value) (w : World), VT.In w t sl →
    Calls Tryd.prog 6 #[t.val sl, .int .i64 m] w fun e w' => e = .returned (.bool (VT.rightB m t)) ∧ Below w.heap.size w w' := by
  intro m
  induction m with
  | zero =>
    intro _ t sl w hin
    by_cases h3 : t.k = 3
    · rw [VT.rightB_tup h3]
      have h := rright_no 0 t h3 (by simp) sl w hin
      rw [show VT.itemsB 0 t = false from rfl]
      simpa using h
    · rw [VT.rightB_leaf h3]
      by_cases h0 : t.k = 0
      · exact rright_0 _ t h0 sl w hin
      · by_cases h1 : t.k = 1
        · exact rright_1 _ t h1 sl w hin
        · by_cases h2 : t.k = 2
          · exact rright_2 _ t h2 sl w hin
          · exact rright_9 _ t h0 h1 h2 h3 sl w hin
  | succ m ih =>
    intro hm t sl w hin
    by_cases h3 : t.k = 3
    · rw [VT.rightB_tup h3, VT.itemsB_succ]
      by_cases hh : t.n = 0 ∧ t.s.toList = [] ∧ 1 ≤ t.len ∧ t.len ≤ 4
      · have h := rright_3 m (by omega) t h3 hh.1 hh.2.1 hh.2.2.1 hh.2.2.2 (fun i _ sl w hin => ih (by omega) (t.kid i) sl w hin) sl w hin
        rw [decide_eq_true hh.1, decide_eq_true hh.2.1, decide_eq_true hh.2.2]
        exact h
      · have h := rright_no ((m + 1 : Nat) : Int) t h3 (fun hx => hh ⟨hx.1, hx.2.1, hx.2.2.2⟩) sl w hin
        have e : (decide (t.n = 0) && (decide (t.s.toList = []) && (decide (1 ≤ t.len ∧ t.len ≤ 4) && allTo (fun i => VT.rightB m (t.kid i)) t.len))) = false := by
          by_cases g1 : t.n = 0 <;> by_cases g2 : t.s.toList = [] <;> by_cases g3 : 1 ≤ t.len ∧ t.len ≤ 4 <;> simp [g1, g2, g3]
          exact absurd ⟨g1, g2, g3⟩ hh
        rw [e]
        exact h
    · rw [VT.rightB_leaf h3]
      by_cases h0 : t.k = 0
      · exact rright_0 _ t h0 sl w hin
      · by_cases h1 : t.k = 1
        · exact rright_1 _ t h1 sl w hin
        · by_cases h2 : t.k = 2
          · exact rright_2 _ t h2 sl w hin
          · exact rright_9 _ t h0 h1 h2 h3 sl w hin
end Go.Proofs.YtbgpipdbnjoeeaaDoor
