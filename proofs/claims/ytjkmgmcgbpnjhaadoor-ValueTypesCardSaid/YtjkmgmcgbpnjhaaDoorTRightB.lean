/-
  The contracts of the given package gavotteref02's TypeRight over this seat's translation: whether a tree is a right type. Conditions: those that each theorem states.
-/
import Derived.Test.YtjkmgmcgbpnjhaaDoorTRightA
namespace Go.Proofs.YtjkmgmcgbpnjhaaDoor
open Go.RowKit Go.ChangeShapes Go.WideShapes Go.ChangeAt Go.Deep
attribute [local go_sem ↓] Go.wp_at_zero Go.wp_at_succ

set_option maxHeartbeats 1000000 in
theorem trright_in (m : Int) (t : TT) (h0 : 0 ≤ t.k) (h2 : t.k ≤ 2) (sl : Value) (w : World) (hin : TT.In w t sl) :
    Calls Tryd.prog 33 #[t.val sl, .int .i64 m] w fun e w' => e = .returned (.bool (TT.leafB t)) ∧ Below w.heap.size w w' := by
  obtain ⟨p, cap, rfl⟩ := hin.slice
  clear hin
  have HL := Lib.hid ((TT.leaf_in h0 h2).trans (len_eq t.len).symm)
  unfold TT.val
  generalize t.k = k at *
  go_enter Tryd.func33, Tryd.ntmps33
  go_wp2
  go_ret
  exact ⟨rbool HL.out.symm, bA (Below.refl _ _) _⟩

set_option maxHeartbeats 1000000 in
theorem trright_no (m : Int) (t : TT) (h : ¬ (0 ≤ t.k ∧ t.k ≤ 2)) (hno : ¬ (t.k = 3 ∧ m ≠ 0 ∧ 1 ≤ t.len ∧ t.len ≤ 4)) (sl : Value) (w : World) (hin : TT.In w t sl) :
    Calls Tryd.prog 33 #[t.val sl, .int .i64 m] w fun e w' => e = .returned (.bool false) ∧ Below w.heap.size w w' := by
  obtain ⟨p, cap, rfl⟩ := hin.slice
  clear hin
  unfold TT.val
  generalize t.k = k at *
  by_cases h3 : k = 3
  · subst h3
    clear h
    by_cases hm : m = 0
    · subst hm
      clear hno
      go_enter Tryd.func33, Tryd.ntmps33
      go_wp2
      go_ret
      exact ⟨rfl, bA (Below.refl _ _) _⟩
    · have hmz : (m == 0) = false := by simpa using hm
      by_cases h1 : 1 ≤ t.len
      · have h4 : 4 < t.len := by simp [hm] at hno; omega
        clear hno hm
        go_enter Tryd.func33, Tryd.ntmps33
        go_wp2
        go_ret
        exact ⟨rfl, bA (Below.refl _ _) _⟩
      · clear hno hm
        go_enter Tryd.func33, Tryd.ntmps33
        go_wp2
        go_ret
        exact ⟨rfl, bA (Below.refl _ _) _⟩
  · have hz : (k != 3) = true := by simpa using h3
    clear hno
    by_cases h0 : 0 ≤ k
    · have h2 : ¬ k ≤ 2 := fun e => h ⟨h0, e⟩
      clear h h3
      go_enter Tryd.func33, Tryd.ntmps33
      go_wp2
      go_ret
      exact ⟨rfl, bA (Below.refl _ _) _⟩
    · clear h h3
      go_enter Tryd.func33, Tryd.ntmps33
      go_wp2
      go_ret
      exact ⟨rfl, bA (Below.refl _ _) _⟩

set_option maxHeartbeats 2000000 in
theorem trright_3 (m : Nat) (hm : m ≤ 3) (t : TT) (h : t.k = 3) (h1 : 1 ≤ t.len) (h4 : t.len ≤ 4)
    (ih : ∀ i, i < t.len → ∀ (sl : Value) (w : World), TT.In w (t.kid i) sl → Calls Tryd.prog 33 #[(t.kid i).val sl, .int .i64 m] w fun e w' => e = .returned (.bool (TT.rightB m (t.kid i))) ∧ Below w.heap.size w w')
    (sl : Value) (w : World) (hin : TT.In w t sl) :
    Calls Tryd.prog 33 #[t.val sl, .int .i64 ((m : Int) + 1)] w fun e w' => e = .returned (.bool (allTo (fun i => TT.rightB m (t.kid i)) t.len)) ∧ Below w.heap.size w w' := by
  obtain ⟨_, hl, p, cap, rfl, hlc, hcap, hk⟩ := hin.out
  obtain ⟨b, o, rfl, hk2⟩ := hk h1
  have HK : Hid (TT.Kids w t b o) := hk2
  have HI := Lib.hid ih
  clear hk hk2 hin ih
  have hm1 : ((m : Int) + 1 == 0) = false := by simp; omega
  have hd1 : decide ((t.len : Int) < 1) = false := by simp; omega
  have hd4 : decide ((4 : Int) < (t.len : Int)) = false := by simp; omega
  unfold TT.val
  rw [h]
  clear h
  go_enter Tryd.func33, Tryd.ntmps33
  go_wp2
  have hB : Below w.heap.size w (w.alloc (.cells #[.int .i64 3, .slice (some ⟨b, o, none⟩) t.len cap] 47)) := bA (Below.refl _ _) _
  have HB := Lib.hid hB
  have q3 : (w.alloc (.cells #[.int .i64 3, .slice (some ⟨b, o, none⟩) t.len cap] 47)).cell? ⟨w.heap.size, 1, none⟩ = some (.slice (some ⟨b, o, none⟩) t.len cap) := by go_simp
  clear hB
  generalize w.alloc (.cells #[.int .i64 3, .slice (some ⟨b, o, none⟩) t.len cap] 47) = w0 at *
  go_loopw [5] (fun vk wr => ∃ k : Nat, vk = .int .i64 k ∧ k ≤ t.len ∧ (∀ i, i < k → TT.rightB m (t.kid i) = true) ∧ Below w0.heap.size w0 wr) (fun vk _ => t.len - (intOf vk).toNat)
  case atStart => exact ⟨0, rfl, Nat.zero_le _, fun i h => by omega, Below.refl _ _⟩
  case round =>
    obtain ⟨k, rfl, hkl, hu, hbl⟩ := hrel
    have HU := Lib.hid hu
    clear hu
    replace q3 := kc hbl q3
    by_cases hlt : k < t.len
    · obtain ⟨sl', ⟨c0, c3⟩, hkin⟩ := (HK.out.keep HB.out).keep hbl k hlt
      obtain ⟨p', cap', rfl⟩ := hkin.slice
      have HN := Lib.hid hkin
      clear hkin
      by_cases hr : TT.rightB m (t.kid k) = true
      · have hr2 := HI.out k hlt
        rw [hr] at hr2
        have HR := Lib.hid hr
        have HC := Lib.hid hr2
        clear hr hr2
        go_wp2_with (go_at_call 33; go_must (refine (HC.out _ _ HN.out).mono ?_); rintro e w3 ⟨rfl, hb⟩)
        go_roundw
        case rel =>
          refine ⟨k + 1, by go_num, by omega, fun i hi => ?_, bT hbl hb⟩
          by_cases e : i = k
          · rw [e]; exact HR.out
          · exact HU.out i (by omega)
        case measure => simp [intOf]; omega
      · have hr' : TT.rightB m (t.kid k) = false := by simpa using hr
        have hr2 := HI.out k hlt
        rw [hr'] at hr2
        have hv : allTo (fun i => TT.rightB m (t.kid i)) t.len = false := allTo_false hlt hr'
        have HV := Lib.hid hv
        have HC := Lib.hid hr2
        clear hr hr2 hr' hv
        go_wp2_with (go_at_call 33; go_must (refine (HC.out _ _ HN.out).mono ?_); rintro e w3 ⟨rfl, hb⟩)
        go_ret
        exact ⟨rbool HV.out.symm, bT HB.out (bT hbl hb)⟩
    · have hv : allTo (fun i => TT.rightB m (t.kid i)) t.len = true := allTo_true.2 fun i hi => HU.out i (by omega)
      have HV := Lib.hid hv
      clear hv
      go_wp2
      go_ret
      exact ⟨rbool HV.out.symm, bT HB.out hbl⟩

theorem trright_v : ∀ (m : Nat), m ≤ 3 → ∀ (t : TT) (sl : Value) (w : World), TT.In w t sl →
    Calls Tryd.prog 33 #[t.val sl, .int .i64 m] w fun e w' => e = .returned (.bool (TT.rightB m t)) ∧ Below w.heap.size w w' := by
  intro m
  induction m with
  | zero =>
    intro _ t sl w hin
    by_cases h0 : 0 ≤ t.k ∧ t.k ≤ 2
    · rw [TT.rightB_leaf (by omega)]
      exact trright_in _ t h0.1 h0.2 sl w hin
    · have h := trright_no 0 t h0 (by simp) sl w hin
      have e : TT.rightB 0 t = false := by
        by_cases h3 : t.k = 3
        · rw [TT.rightB_tup h3]; rfl
        · rw [TT.rightB_leaf h3]; exact TT.leaf_out h0
      rw [e]
      exact h
  | succ m ih =>
    intro hm t sl w hin
    by_cases h0 : 0 ≤ t.k ∧ t.k ≤ 2
    · rw [TT.rightB_leaf (by omega)]
      exact trright_in _ t h0.1 h0.2 sl w hin
    · by_cases hh : t.k = 3 ∧ 1 ≤ t.len ∧ t.len ≤ 4
      · rw [TT.rightB_tup hh.1, TT.itemsB_succ, decide_eq_true hh.2]
        exact trright_3 m (by omega) t hh.1 hh.2.1 hh.2.2 (fun i _ sl w hin => ih (by omega) (t.kid i) sl w hin) sl w hin
      · have h := trright_no ((m + 1 : Nat) : Int) t h0 (fun hx => hh ⟨hx.1, hx.2.2⟩) sl w hin
        have e : TT.rightB (m + 1) t = false := by
          by_cases h3 : t.k = 3
          · rw [TT.rightB_tup h3, TT.itemsB_succ, decide_eq_false fun hx => hh ⟨h3, hx⟩]; rfl
          · rw [TT.rightB_leaf h3]; exact TT.leaf_out h0
        rw [e]
        exact h
end Go.Proofs.YtjkmgmcgbpnjhaaDoor
