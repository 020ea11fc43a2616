/-
  The contracts of package value's Right and of the given package gavotteref02's Right over this seat's translation: whether a tree is a right value. Conditions: those that each theorem states.
-/
import Derived.Test.YtbgpipdbnjoeeaaDoorNameA
namespace Go.Proofs.YtbgpipdbnjoeeaaDoor
open Go.RowKit Go.ChangeShapes Go.WideShapes Go.ChangeAt Go.Deep
attribute [local go_sem ↓] Go.wp_at_zero Go.wp_at_succ

/-- So of all below n. -/
def allTo (f : Nat → Bool) : Nat → Bool
  | 0 => true
  | n + 1 => allTo f n && f n
theorem allTo_true {f : Nat → Bool} : ∀ {n : Nat}, allTo f n = true ↔ ∀ i, i < n → f i = true
  | 0 => ⟨fun _ i h => by omega, fun _ => rfl⟩
  | n + 1 => by
    unfold allTo
    rw [Bool.and_eq_true, allTo_true]
    constructor
    · rintro ⟨h1, h2⟩ i hi
      by_cases e : i = n
      · rw [e]; exact h2
      · exact h1 i (by omega)
    · exact fun h => ⟨fun i hi => h i (by omega), h n (by omega)⟩
theorem allTo_false {f : Nat → Bool} {n i : Nat} (h : i < n) (h2 : f i = false) : allTo f n = false := by
  cases h3 : allTo f n with
  | false => rfl
  | true => rw [allTo_true.1 h3 i h] at h2; cases h2

namespace VT
/-- A right value that is no tuple. -/
def leafB (t : VT) : Bool :=
  if t.k = 0 then decide (t.s.toList = []) && decide (t.len = 0) else if t.k = 1 then decide (t.n = 0 ∨ t.n = 1) && (decide (t.s.toList = []) && decide (t.len = 0)) else
  if t.k = 2 then decide (t.n = 0) && (nameB t.s && decide (t.len = 0)) else false
theorem leaf0 {t : VT} (h : t.k = 0) : leafB t = (decide (t.s.toList = []) && decide (t.len = 0)) := by unfold leafB; simp [h]
theorem leaf1 {t : VT} (h : t.k = 1) : leafB t = (decide (t.n = 0 ∨ t.n = 1) && (decide (t.s.toList = []) && decide (t.len = 0))) := by unfold leafB; simp [h]
theorem leaf2 {t : VT} (h : t.k = 2) : leafB t = (decide (t.n = 0) && (nameB t.s && decide (t.len = 0))) := by unfold leafB; simp [h]
theorem leaf9 {t : VT} (h0 : t.k ≠ 0) (h1 : t.k ≠ 1) (h2 : t.k ≠ 2) : leafB t = false := by unfold leafB; simp [h0, h1, h2]
/-- A tuple, as far as its items aren't asked. -/
def tupB (t : VT) : Bool := decide (t.k = 3 ∧ t.n = 0 ∧ t.s.toList = [] ∧ 1 ≤ t.len ∧ t.len ≤ 4)
/-- A right value, with at most m tuples within one another. -/
def rightB : Nat → VT → Bool
  | 0, t => leafB t
  | m + 1, t => leafB t || (tupB t && allTo (fun i => rightB m (t.kid i)) t.len)
def itemsB : Nat → VT → Bool
  | 0, _ => false
  | m + 1, t => decide (1 ≤ t.len ∧ t.len ≤ 4) && allTo (fun i => rightB m (t.kid i)) t.len
theorem itemsB_succ (m : Nat) (t : VT) : itemsB (m + 1) t = (decide (1 ≤ t.len ∧ t.len ≤ 4) && allTo (fun i => rightB m (t.kid i)) t.len) := rfl
theorem rightB_leaf {t : VT} (h : t.k ≠ 3) : ∀ m, rightB m t = leafB t
  | 0 => rfl
  | m + 1 => by
    have : tupB t = false := by unfold tupB; simp [h]
    unfold rightB
    rw [this]
    simp
theorem rightB_tup {t : VT} (h : t.k = 3) (m : Nat) : rightB m t = (decide (t.n = 0) && (decide (t.s.toList = []) && itemsB m t)) := by
  have hl : leafB t = false := by unfold leafB; simp [h]
  cases m with
  | zero => unfold rightB itemsB; rw [hl]; simp
  | succ m =>
    unfold rightB itemsB tupB
    rw [hl]
    by_cases h1 : t.n = 0 <;> by_cases h2 : t.s.toList = [] <;> simp [h, h1, h2]
/-- The items lie behind the place o of block b. -/
def Kids (w : World) (t : VT) (b o : Nat) : Prop := ∀ i, i < t.len → ∃ sl', Cell4 w b (o + i * 4) (t.kid i) sl' ∧ In w (t.kid i) sl'
theorem Kids.keep {w w' : World} (hb : Below w.heap.size w w') {t : VT} {b o : Nat} (h : Kids w t b o) : Kids w' t b o := fun i hi => by
  obtain ⟨sl', c, k⟩ := h i hi
  exact ⟨sl', c.keep hb, VT.keep hb _ _ k⟩
theorem In.slice {w : World} {t : VT} {sl : Value} (h : In w t sl) : ∃ (p : Option Addr) (cap : Nat), sl = .slice p t.len cap := by
  obtain ⟨_, _, _, _, p, cap, rfl, _⟩ := h.out
  exact ⟨p, cap, rfl⟩
end VT

/-- What lies below stands, whatever was made. -/
theorem inK {w w' : World} {t : VT} {sl : Value} (hb : Below w.heap.size w w') (h : VT.In w t sl) : VT.In w' t sl := VT.keep hb _ _ h

set_option maxHeartbeats 1000000 in
theorem itemsV_c (m : Nat) (hm : m ≤ 3) (t : VT)
    (ih : ∀ i, i < t.len → ∀ (sl : Value) (w : World), VT.In w (t.kid i) sl → Calls Tryd.prog 23 #[(t.kid i).val sl, .int .i64 m] w fun e w' => e = .returned (.bool (VT.rightB m (t.kid i))) ∧ Below w.heap.size w w')
    (sl : Value) (w : World) (hin : VT.In w t sl) :
    Calls Tryd.prog 33 #[sl, .int .i64 ((m : Int) + 1), .func (.func 23) #[] #[]] w fun e w' => e = .returned (.bool (VT.itemsB (m + 1) t)) ∧ Below w.heap.size w w' := by
  obtain ⟨_, _, _, hl, p, cap, rfl, hlc, hcap, hk⟩ := hin.out
  have hm1 : ((m : Int) + 1 == 0) = false := by simp; omega
  by_cases h1 : 1 ≤ t.len ∧ t.len ≤ 4
  · obtain ⟨h1, h4⟩ := h1
    obtain ⟨b, o, rfl, hk2⟩ := hk h1
    have HK : Hid (VT.Kids w t b o) := hk2
    have HI := Lib.hid ih
    clear hk hk2 hin ih
    have hz : ((t.len : Int) == 0) = false := by simp; omega
    have hz4 : decide ((4 : Int) < (t.len : Int)) = false := by simp; omega
    go_enter Tryd.func33, Tryd.ntmps33
    go_wp2
    go_loopw [23] (fun vk wr => ∃ k : Nat, vk = .int .i64 k ∧ k ≤ t.len ∧ (∀ i, i < k → VT.rightB m (t.kid i) = true) ∧ Below w.heap.size w wr) (fun vk _ => t.len - (intOf vk).toNat)
    case atStart => exact ⟨0, rfl, Nat.zero_le _, fun i h => by omega, Below.refl _ _⟩
    case round =>
      obtain ⟨k, rfl, hkl, hu, hbl⟩ := hrel
      have HU := Lib.hid hu
      clear hu
      by_cases hlt : k < t.len
      · obtain ⟨sl', ⟨c0, c1, c2, c3⟩, hkin⟩ := HK.out.keep hbl k hlt
        obtain ⟨p', cap', rfl⟩ := hkin.slice
        have HN := Lib.hid hkin
        clear hkin
        by_cases hr : VT.rightB m (t.kid k) = true
        · have hr2 := HI.out k hlt
          rw [hr] at hr2
          have HR := Lib.hid hr
          have HC := Lib.hid hr2
          clear hr hr2
          go_wp2_with (go_at_call 23; go_must (refine (HC.out _ _ (inK (bA (Below.refl _ _) _) HN.out)).mono ?_); rintro e w3 ⟨rfl, hb⟩)
          go_roundw
          case rel =>
            refine ⟨k + 1, by go_num, by omega, fun i hi => ?_, bT hbl (bT (bA (Below.refl _ _) _) hb)⟩
            by_cases e : i = k
            · rw [e]; exact HR.out
            · exact HU.out i (by omega)
          case measure => simp [intOf]; omega
        · have hr' : VT.rightB m (t.kid k) = false := by simpa using hr
          have hr2 := HI.out k hlt
          rw [hr'] at hr2
          have hv : VT.itemsB (m + 1) t = false := by rw [VT.itemsB_succ, allTo_false hlt hr']; simp
          have HV := Lib.hid hv
          have HC := Lib.hid hr2
          clear hr hr2 hr' hv
          go_wp2_with (go_at_call 23; go_must (refine (HC.out _ _ (inK (bA (Below.refl _ _) _) HN.out)).mono ?_); rintro e w3 ⟨rfl, hb⟩)
          go_ret
          exact ⟨rbool HV.out.symm, bT hbl (bT (bA (Below.refl _ _) _) hb)⟩
      · have hv : VT.itemsB (m + 1) t = true := by
          rw [VT.itemsB_succ, allTo_true.2 fun i hi => HU.out i (by omega)]
          simp [h1, h4]
        have HV := Lib.hid hv
        clear hv
        go_wp2
        go_ret
        exact ⟨rbool HV.out.symm, hbl⟩
  · have hv : VT.itemsB (m + 1) t = false := by rw [VT.itemsB_succ]; simp; omega
    have HV := Lib.hid hv
    clear hv hk hin ih
    by_cases h0 : t.len = 0
    · have hz : ((t.len : Int) == 0) = true := by simp [h0]
      clear h1 h0
      go_enter Tryd.func33, Tryd.ntmps33
      go_wp2
      go_ret
      exact ⟨rbool HV.out.symm, Below.refl _ _⟩
    · have hz : ((t.len : Int) == 0) = false := by simp [h0]
      have h5 : 4 < t.len := by omega
      clear h1 h0
      go_enter Tryd.func33, Tryd.ntmps33
      go_wp2
      go_ret
      exact ⟨rbool HV.out.symm, Below.refl _ _⟩

theorem itemsV_0 (t : VT) (sl : Value) (w : World) (hin : VT.In w t sl) :
    Calls Tryd.prog 33 #[sl, .int .i64 0, .func (.func 23) #[] #[]] w fun e w' => e = .returned (.bool (VT.itemsB 0 t)) ∧ Below w.heap.size w w' := by
  obtain ⟨_, _, _, hl, p, cap, rfl, hlc, hcap, hk⟩ := hin.out
  clear hk hin
  go_enter Tryd.func33, Tryd.ntmps33
  go_wp2
  go_ret
  exact ⟨rfl, Below.refl _ _⟩
end Go.Proofs.YtbgpipdbnjoeeaaDoor
