/-
  The contracts of package value's TypeRight and of the given package gavotteref02's TypeRight over this seat's translation: whether a tree is a right type. Conditions: those that each theorem states.
-/
import Derived.Test.YtbgpipdbnjoeeaaDoorRightB
namespace Go.Proofs.YtbgpipdbnjoeeaaDoor
open Go.RowKit Go.ChangeShapes Go.WideShapes Go.ChangeAt Go.Deep
attribute [local go_sem ↓] Go.wp_at_zero Go.wp_at_succ

namespace TT
def leafB (t : TT) : Bool := decide (0 ≤ t.k ∧ t.k ≤ 2) && decide (t.len = 0)
/-- A right type, with at most m tuples within one another. -/
def rightB : Nat → TT → Bool
  | 0, t => leafB t
  | m + 1, t => leafB t || (decide (t.k = 3) && (decide (1 ≤ t.len ∧ t.len ≤ 4) && allTo (fun i => rightB m (t.kid i)) t.len))
def itemsB : Nat → TT → Bool
  | 0, _ => false
  | m + 1, t => decide (1 ≤ t.len ∧ t.len ≤ 4) && allTo (fun i => rightB m (t.kid i)) t.len
theorem itemsB_succ (m : Nat) (t : TT) : itemsB (m + 1) t = (decide (1 ≤ t.len ∧ t.len ≤ 4) && allTo (fun i => rightB m (t.kid i)) t.len) := rfl
theorem leaf_in {t : TT} (h0 : 0 ≤ t.k) (h2 : t.k ≤ 2) : leafB t = decide (t.len = 0) := by unfold leafB; simp [h0, h2]
theorem leaf_out {t : TT} (h : ¬ (0 ≤ t.k ∧ t.k ≤ 2)) : leafB t = false := by unfold leafB; simp; omega
theorem rightB_leaf {t : TT} (h : t.k ≠ 3) : ∀ m, rightB m t = leafB t
  | 0 => rfl
  | m + 1 => by unfold rightB; simp [h]
theorem rightB_tup {t : TT} (h : t.k = 3) (m : Nat) : rightB m t = itemsB m t := by
  have hl : leafB t = false := leaf_out (by omega)
  cases m with
  | zero => unfold rightB itemsB; rw [hl]
  | succ m => unfold rightB itemsB; rw [hl]; simp [h]
def Kids (w : World) (t : TT) (b o : Nat) : Prop := ∀ i, i < t.len → ∃ sl', Cell2 w b (o + i * 2) (t.kid i) sl' ∧ In w (t.kid i) sl'
theorem Kids.keep {w w' : World} (hb : Below w.heap.size w w') {t : TT} {b o : Nat} (h : Kids w t b o) : Kids w' t b o := fun i hi => by
  obtain ⟨sl', c, k⟩ := h i hi
  exact ⟨sl', c.keep hb, TT.keep hb _ _ k⟩
theorem In.slice {w : World} {t : TT} {sl : Value} (h : In w t sl) : ∃ (p : Option Addr) (cap : Nat), sl = .slice p t.len cap := by
  obtain ⟨_, _, p, cap, rfl, _⟩ := h.out
  exact ⟨p, cap, rfl⟩
end TT
theorem inT {w w' : World} {t : TT} {sl : Value} (hb : Below w.heap.size w w') (h : TT.In w t sl) : TT.In w' t sl := TT.keep hb _ _ h

set_option maxHeartbeats 1000000 in
theorem itemsT_c (m : Nat) (hm : m ≤ 3) (t : TT)
    (ih : ∀ i, i < t.len → ∀ (sl : Value) (w : World), TT.In w (t.kid i) sl → Calls Tryd.prog 37 #[(t.kid i).val sl, .int .i64 m] w fun e w' => e = .returned (.bool (TT.rightB m (t.kid i))) ∧ Below w.heap.size w w')
    (sl : Value) (w : World) (hin : TT.In w t sl) :
    Calls Tryd.prog 45 #[sl, .int .i64 ((m : Int) + 1), .func (.func 37) #[] #[]] w fun e w' => e = .returned (.bool (TT.itemsB (m + 1) t)) ∧ Below w.heap.size w w' := by
  obtain ⟨_, hl, p, cap, rfl, hlc, hcap, hk⟩ := hin.out
  have hm1 : ((m : Int) + 1 == 0) = false := by simp; omega
  by_cases h1 : 1 ≤ t.len ∧ t.len ≤ 4
  · obtain ⟨h1, h4⟩ := h1
    obtain ⟨b, o, rfl, hk2⟩ := hk h1
    have HK : Hid (TT.Kids w t b o) := hk2
    have HI := Lib.hid ih
    clear hk hk2 hin ih
    have hz : ((t.len : Int) == 0) = false := by simp; omega
    have hz4 : decide ((4 : Int) < (t.len : Int)) = false := by simp; omega
    go_enter Tryd.func45, Tryd.ntmps45
    go_wp2
    go_loopw [23] (fun vk wr => ∃ k : Nat, vk = .int .i64 k ∧ k ≤ t.len ∧ (∀ i, i < k → TT.rightB m (t.kid i) = true) ∧ Below w.heap.size w wr) (fun vk _ => t.len - (intOf vk).toNat)
    case atStart => exact ⟨0, rfl, Nat.zero_le _, fun i h => by omega, Below.refl _ _⟩
    case round =>
      obtain ⟨k, rfl, hkl, hu, hbl⟩ := hrel
      have HU := Lib.hid hu
      clear hu
      by_cases hlt : k < t.len
      · obtain ⟨sl', ⟨c0, c3⟩, hkin⟩ := HK.out.keep hbl k hlt
        obtain ⟨p', cap', rfl⟩ := hkin.slice
        have HN := Lib.hid hkin
        clear hkin
        by_cases hr : TT.rightB m (t.kid k) = true
        · have hr2 := HI.out k hlt
          rw [hr] at hr2
          have HR := Lib.hid hr
          have HC := Lib.hid hr2
          clear hr hr2
          go_wp2_with (go_at_call 37; go_must (refine (HC.out _ _ (inT (bA (Below.refl _ _) _) HN.out)).mono ?_); rintro e w3 ⟨rfl, hb⟩)
          go_roundw
          case rel =>
            refine ⟨k + 1, by go_num, by omega, fun i hi => ?_, bT hbl (bT (bA (Below.refl _ _) _) hb)⟩
            by_cases e : i = k
            · rw [e]; exact HR.out
            · exact HU.out i (by omega)
          case measure => simp [intOf]; omega
        · have hr' : TT.rightB m (t.kid k) = false := by simpa using hr
          have hr2 := HI.out k hlt
          rw [hr'] at hr2
          have hv : TT.itemsB (m + 1) t = false := by rw [TT.itemsB_succ, allTo_false hlt hr']; simp
          have HV := Lib.hid hv
          have HC := Lib.hid hr2
          clear hr hr2 hr' hv
          go_wp2_with (go_at_call 37; go_must (refine (HC.out _ _ (inT (bA (Below.refl _ _) _) HN.out)).mono ?_); rintro e w3 ⟨rfl, hb⟩)
          go_ret
          exact ⟨rbool HV.out.symm, bT hbl (bT (bA (Below.refl _ _) _) hb)⟩
      · have hv : TT.itemsB (m + 1) t = true := by
          rw [TT.itemsB_succ, allTo_true.2 fun i hi => HU.out i (by omega)]
          simp [h1, h4]
        have HV := Lib.hid hv
        clear hv
        go_wp2
        go_ret
        exact ⟨rbool HV.out.symm, hbl⟩
  · have hv : TT.itemsB (m + 1) t = false := by rw [TT.itemsB_succ]; simp; omega
    have HV := Lib.hid hv
    clear hv hk hin ih
    by_cases h0 : t.len = 0
    · have hz : ((t.len : Int) == 0) = true := by simp [h0]
      clear h1 h0
      go_enter Tryd.func45, Tryd.ntmps45
      go_wp2
      go_ret
      exact ⟨rbool HV.out.symm, Below.refl _ _⟩
    · have hz : ((t.len : Int) == 0) = false := by simp [h0]
      have h5 : 4 < t.len := by omega
      clear h1 h0
      go_enter Tryd.func45, Tryd.ntmps45
      go_wp2
      go_ret
      exact ⟨rbool HV.out.symm, Below.refl _ _⟩

theorem itemsT_0 (t : TT) (sl : Value) (w : World) (hin : TT.In w t sl) :
    Calls Tryd.prog 45 #[sl, .int .i64 0, .func (.func 37) #[] #[]] w fun e w' => e = .returned (.bool (TT.itemsB 0 t)) ∧ Below w.heap.size w w' := by
  obtain ⟨_, hl, p, cap, rfl, hlc, hcap, hk⟩ := hin.out
  clear hk hin
  go_enter Tryd.func45, Tryd.ntmps45
  go_wp2
  go_ret
  exact ⟨rfl, Below.refl _ _⟩

set_option maxHeartbeats 1000000 in
theorem tright_in (m : Int) (t : TT) (h0 : 0 ≤ t.k) (h2 : t.k ≤ 2) (sl : Value) (w : World) (hin : TT.In w t sl) :
    Calls Tryd.prog 37 #[t.val sl, .int .i64 m] w fun e w' => e = .returned (.bool (TT.leafB t)) ∧ Below w.heap.size w w' := by
  obtain ⟨_, hl, p, cap, rfl, hlc, hcap, hk⟩ := hin.out
  clear hk hin
  have HL := Lib.hid ((TT.leaf_in h0 h2).trans (len_eq t.len).symm)
  unfold TT.val
  generalize t.k = k at *
  have hk : k = 0 ∨ k = 1 ∨ k = 2 := by omega
  clear h0 h2
  rcases hk with rfl | rfl | rfl
  all_goals
    go_enter Tryd.func37, Tryd.ntmps37
    go_wp2
    go_ret
    exact ⟨rbool HL.out.symm, bA (Below.refl _ _) _⟩

set_option maxHeartbeats 1000000 in
theorem tright_9 (m : Int) (t : TT) (h : ¬ (0 ≤ t.k ∧ t.k ≤ 2)) (h3 : t.k ≠ 3) (sl : Value) (w : World) (hin : TT.In w t sl) :
    Calls Tryd.prog 37 #[t.val sl, .int .i64 m] w fun e w' => e = .returned (.bool (TT.leafB t)) ∧ Below w.heap.size w w' := by
  obtain ⟨_, hl, p, cap, rfl, hlc, hcap, hk⟩ := hin.out
  clear hk hin
  have HL := Lib.hid (TT.leaf_out h)
  unfold TT.val
  generalize t.k = k at *
  have z0 : (k == 0) = false := by simp; omega
  have z1 : (k == 1) = false := by simp; omega
  have z2 : (k == 2) = false := by simp; omega
  have z3 : (k == 3) = false := by simpa using h3
  clear h h3
  go_enter Tryd.func37, Tryd.ntmps37
  go_wp2
  go_ret
  exact ⟨rbool HL.out.symm, bA (Below.refl _ _) _⟩

set_option maxHeartbeats 1000000 in
theorem tright_3 (m : Int) (b : Bool) (t : TT) (h : t.k = 3) (sl : Value) (w : World) (hin : TT.In w t sl)
    (ih : ∀ w, TT.In w t sl → Calls Tryd.prog 45 #[sl, .int .i64 m, .func (.func 37) #[] #[]] w fun e w' => e = .returned (.bool b) ∧ Below w.heap.size w w') :
    Calls Tryd.prog 37 #[t.val sl, .int .i64 m] w fun e w' => e = .returned (.bool b) ∧ Below w.heap.size w w' := by
  have HN := Lib.hid hin
  obtain ⟨p, cap, rfl⟩ := hin.slice
  clear hin
  have HI := Lib.hid ih
  clear ih
  unfold TT.val
  rw [h]
  clear h
  go_enter Tryd.func37, Tryd.ntmps37
  go_wp2_with (go_at_call 45; go_must (refine (HI.out _ (inT (bA (Below.refl _ _) _) HN.out)).mono ?_); rintro e w3 ⟨rfl, hb⟩)
  go_ret
  exact ⟨rfl, bT (bA (Below.refl _ _) _) hb⟩

theorem tright_v : ∀ (m : Nat), m ≤ 3 → ∀ (t : TT) (sl : Value) (w : World), TT.In w t sl →
    Calls Tryd.prog 37 #[t.val sl, .int .i64 m] w fun e w' => e = .returned (.bool (TT.rightB m t)) ∧ Below w.heap.size w w' := by
  intro m
  induction m with
  | zero =>
    intro _ t sl w hin
    by_cases h3 : t.k = 3
    · rw [TT.rightB_tup h3]
      exact tright_3 0 _ t h3 sl w hin fun w hin => itemsT_0 t sl w hin
    · rw [TT.rightB_leaf h3]
      by_cases h0 : 0 ≤ t.k ∧ t.k ≤ 2
      · exact tright_in _ t h0.1 h0.2 sl w hin
      · exact tright_9 _ t h0 h3 sl w hin
  | succ m ih =>
    intro hm t sl w hin
    by_cases h3 : t.k = 3
    · rw [TT.rightB_tup h3]
      exact tright_3 _ _ t h3 sl w hin fun w hin => itemsT_c m (by omega) t (fun i _ sl w hin => ih (by omega) (t.kid i) sl w hin) sl w hin
    · rw [TT.rightB_leaf h3]
      by_cases h0 : 0 ≤ t.k ∧ t.k ≤ 2
      · exact tright_in _ t h0.1 h0.2 sl w hin
      · exact tright_9 _ t h0 h3 sl w hin

/-- Is the tree a right type? -/
def TT.okB (t : TT) : Bool := TT.rightB 3 t
theorem tright_cv (t : TT) (sl : Value) (w : World) (hin : TT.In w t sl) :
    Calls Tryd.prog 25 #[t.val sl] w fun e w' => e = .returned (.bool t.okB) ∧ Below w.heap.size w w' := by
  have HN := Lib.hid hin
  obtain ⟨p, cap, rfl⟩ := hin.slice
  clear hin
  have k := tright_v 3 (by omega) t
  rw [show TT.rightB 3 t = t.okB from rfl] at k
  have HK := Lib.hid k
  clear k
  unfold TT.val at HK ⊢
  go_enter Tryd.func25, Tryd.ntmps25
  go_wp2_with (go_at_call 37; go_must (refine (HK.out _ _ (inT (bA (Below.refl _ _) _) HN.out)).mono ?_); rintro e w3 ⟨rfl, hb⟩)
  go_ret
  exact ⟨rfl, bT (bA (Below.refl _ _) _) hb⟩
end Go.Proofs.YtbgpipdbnjoeeaaDoor
