/-
  The contracts of package value's Name and of the given package gavotteref02's Name over this seat's translation. Conditions: those that each theorem states.
-/
import Derived.Test.YtbgpipdbnjoeeaaDoorValA
namespace Go.Proofs.YtbgpipdbnjoeeaaDoor
open Go.RowKit Go.ChangeShapes Go.WideShapes Go.ChangeAt Go.Deep
attribute [local go_sem ↓] Go.wp_at_zero Go.wp_at_succ

def letB (x : Int) : Bool := decide (97 ≤ x ∧ x ≤ 122)
def digB (x : Int) : Bool := decide (48 ≤ x ∧ x ≤ 57)
theorem rbool {a b : Bool} (h : a = b) : Ending.returned (.bool a) = .returned (.bool b) := by rw [h]

theorem letter_c (x : Int) (w : World) : Calls Tryd.prog 28 #[.int .u8 x] w fun e w' => e = .returned (.bool (letB x)) ∧ w = w' := by
  by_cases h1 : 97 ≤ x
  · go_enter Tryd.func28, Tryd.ntmps28
    go_wp2
    go_ret
    exact ⟨rbool (by unfold letB; simp [h1]), rfl⟩
  · go_enter Tryd.func28, Tryd.ntmps28
    go_wp2
    go_ret
    exact ⟨rbool (by unfold letB; simp; omega), rfl⟩
theorem digit_c (x : Int) (w : World) : Calls Tryd.prog 29 #[.int .u8 x] w fun e w' => e = .returned (.bool (digB x)) ∧ w = w' := by
  by_cases h1 : 48 ≤ x
  · go_enter Tryd.func29, Tryd.ntmps29
    go_wp2
    go_ret
    exact ⟨rbool (by unfold digB; simp [h1]), rfl⟩
  · go_enter Tryd.func29, Tryd.ntmps29
    go_wp2
    go_ret
    exact ⟨rbool (by unfold digB; simp; omega), rfl⟩

/-- May this byte stand at the place i of a name? -/
def atB (s : ByteArray) (i : Nat) : Bool := if h : i < s.size then letB s[i].toNat || (decide (0 < i) && digB s[i].toNat) else false
theorem atB_lt {s : ByteArray} {i : Nat} (h : i < s.size) : atB s i = (letB s[i].toNat || (decide (0 < i) && digB s[i].toNat)) := by unfold atB; rw [dif_pos h]
/-- Is it a name? -/
def isName (s : ByteArray) : Prop := 1 ≤ s.size ∧ s.size ≤ 16 ∧ ∀ i, i < s.size → atB s i = true
instance (s : ByteArray) : Decidable (isName s) := by unfold isName; infer_instance
def nameB (s : ByteArray) : Bool := decide (isName s)
theorem name_yes {s : ByteArray} (h : isName s) : nameB s = true := by unfold nameB; simp [h]
theorem name_no {s : ByteArray} (h : ¬ isName s) : nameB s = false := by unfold nameB; simp [h]
theorem name_at {s : ByteArray} {i : Nat} (h : i < s.size) (h2 : atB s i = false) : nameB s = false := name_no fun ⟨_, _, h3⟩ => by rw [h3 i h] at h2; cases h2

/-- Up to here all bytes may stand. -/
def Upto (s : ByteArray) (k : Nat) : Prop := ∀ j, j < k → atB s j = true
theorem upto_zero (s : ByteArray) : Upto s 0 := fun j h => by omega
theorem upto_succ {s : ByteArray} {k : Nat} (h : Upto s k) (h2 : atB s k = true) : Upto s (k + 1) := fun j hj => by
  by_cases e : j = k
  · rw [e]; exact h2
  · exact h j (by omega)
theorem upto_all {s : ByteArray} {k : Nat} (h : Upto s k) (hk : k = s.size) (h1 : 1 ≤ s.size) (h2 : s.size ≤ 16) : nameB s = true := name_yes ⟨h1, h2, fun i hi => h i (by omega)⟩

set_option maxHeartbeats 1000000 in
theorem name_c (s : ByteArray) (hs : s.size ≤ 9223372036854775807) (w : World) : Calls Tryd.prog 15 #[.string s] w fun e w' => e = .returned (.bool (nameB s)) ∧ w = w' := by
  by_cases h0 : s.size = 0
  · have hn : nameB s = false := name_no fun ⟨h1, _⟩ => by omega
    have HN := Lib.hid hn
    have hb : ((s.size : Int) == 0) = true := by simp [h0]
    clear hn h0
    go_enter Tryd.func15, Tryd.ntmps15
    go_wp2
    go_ret
    exact ⟨rbool HN.out.symm, rfl⟩
  · have hb : ((s.size : Int) == 0) = false := by simp [h0]
    by_cases h16 : 16 < s.size
    · have hn : nameB s = false := name_no fun ⟨_, h1, _⟩ => by omega
      have HN := Lib.hid hn
      clear hn h0
      go_enter Tryd.func15, Tryd.ntmps15
      go_wp2
      go_ret
      exact ⟨rbool HN.out.symm, rfl⟩
    · have h1 : 0 < s.size := by omega
      have k0 := letter_c s[0].toNat
      by_cases hl : letB s[0].toNat = true
      · rw [hl] at k0
        have H0 : atB s 0 = true := by rw [atB_lt h1, hl]; rfl
        clear hl
        have HK := Lib.hid k0
        clear k0 h0
        have HH := Lib.hid H0
        clear H0
        go_enter Tryd.func15, Tryd.ntmps15
        go_wp2_with (go_at_call 28; refine (HK.out _).mono ?_; rintro e w1 ⟨rfl, rfl⟩)
        go_loop [20] (fun i => ∃ k : Nat, k ≤ s.size ∧ i = .int .i64 k ∧ Upto s k) (fun i => s.size - (intOf i).toNat)
        case atStart => exact ⟨0, Nat.zero_le _, rfl, upto_zero s⟩
        case round =>
          obtain ⟨k, hk, rfl, hu⟩ := hrel
          by_cases hlt : k < s.size
          · have k1 := letter_c s[k].toNat
            have k2 := digit_c s[k].toNat
            have ha := atB_lt hlt
            generalize hx : ((s[k].toNat : Nat) : Int) = x at *
            have HX := Lib.hid hx
            have HA := Lib.hid ha
            clear ha
            by_cases hL : letB x = true
            · rw [hL] at k1 HA
              have K1 := Lib.hid k1
              clear k1 k2 hL
              go_wp2_with (go_at_call 28; refine (K1.out _).mono ?_; rintro e w1 ⟨rfl, rfl⟩)
              go_round
              case rel => exact ⟨k + 1, by omega, by go_num, upto_succ hu (by rw [HA.out]; rfl)⟩
              case measure => simp [intOf]; omega
            · have hL2 : letB x = false := by simpa using hL
              rw [hL2] at k1 HA
              have K1 := Lib.hid k1
              clear k1 hL hL2
              by_cases hD : digB x = true
              · rw [hD] at k2 HA
                have K2 := Lib.hid k2
                clear k2 hD
                go_wp2_with (first | (go_at_call 28; refine (K1.out _).mono ?_; rintro e w1 ⟨rfl, rfl⟩) | (go_at_call 29; refine (K2.out _).mono ?_; rintro e w1 ⟨rfl, rfl⟩))
                go_round
                case rel =>
                  refine ⟨k + 1, by omega, by go_num, upto_succ hu ?_⟩
                  by_cases e : k = 0
                  · subst e; exact HH.out
                  · rw [HA.out]; simp; omega
                case measure => simp [intOf]; omega
              · have hD2 : digB x = false := by simpa using hD
                rw [hD2] at k2 HA
                have hn : nameB s = false := name_at hlt (by rw [HA.out]; simp)
                have HN := Lib.hid hn
                have K2 := Lib.hid k2
                clear k2 hD hD2 hn
                go_wp2_with (first | (go_at_call 28; refine (K1.out _).mono ?_; rintro e w1 ⟨rfl, rfl⟩) | (go_at_call 29; refine (K2.out _).mono ?_; rintro e w1 ⟨rfl, rfl⟩))
                go_ret
                exact ⟨rbool HN.out.symm, rfl⟩
          · have hn : nameB s = true := upto_all hu (by omega) (by omega) (by omega)
            have HN := Lib.hid hn
            clear hn
            go_wp2
            go_ret
            exact ⟨rbool HN.out.symm, rfl⟩
      · have hl2 : letB s[0].toNat = false := by simpa using hl
        rw [hl2] at k0
        have hn : nameB s = false := name_at h1 (by rw [atB_lt h1, hl2]; rfl)
        have HN := Lib.hid hn
        have K0 := Lib.hid k0
        clear hn hl hl2 k0
        go_enter Tryd.func15, Tryd.ntmps15
        go_wp2_with (go_at_call 28; refine (K0.out _).mono ?_; rintro e w1 ⟨rfl, rfl⟩)
        go_ret
        exact ⟨rbool HN.out.symm, rfl⟩

set_option maxHeartbeats 1000000 in
theorem rname_c (s : ByteArray) (hs : s.size ≤ 9223372036854775807) (w : World) : Calls Tryd.prog 17 #[.string s] w fun e w' => e = .returned (.bool (nameB s)) ∧ w = w' := by
  by_cases h1 : 1 ≤ s.size ∧ s.size ≤ 16
  · obtain ⟨h1, h2⟩ := h1
    go_enter Tryd.func17, Tryd.ntmps17
    go_wp2
    go_loop [3] (fun i => ∃ k : Nat, k ≤ s.size ∧ i = .int .i64 k ∧ Upto s k) (fun i => s.size - (intOf i).toNat)
    case atStart => exact ⟨0, Nat.zero_le _, rfl, upto_zero s⟩
    case round =>
      obtain ⟨k, hk, rfl, hu⟩ := hrel
      by_cases hlt : k < s.size
      · have ha := atB_lt hlt
        unfold letB digB at ha
        generalize hx : ((s[k].toNat : Nat) : Int) = x at *
        have HX := Lib.hid hx
        have HA := Lib.hid ha
        clear ha
        by_cases h97 : 97 ≤ x
        all_goals by_cases h122 : x ≤ 122
        all_goals by_cases h48 : 48 ≤ x
        all_goals by_cases h57 : x ≤ 57
        all_goals first | (exfalso; omega; done) | skip
        all_goals
          by_cases hk0 : k = 0
          · subst hk0
            go_wp2
            all_goals first
              | (go_round
                 case rel => exact ⟨0 + 1, by omega, by go_num, upto_succ hu (by rw [HA.out]; simp; omega)⟩
                 case measure => simp [intOf]; omega)
              | (go_ret; exact ⟨rbool (name_at hlt (by rw [HA.out]; simp; omega)).symm, rfl⟩)
          · have hk1 : ((k : Int) == 0) = false := by simp [hk0]
            have hk2 : 0 < k := by omega
            clear hk0
            go_wp2
            all_goals first
              | (go_round
                 case rel => exact ⟨k + 1, by omega, by go_num, upto_succ hu (by rw [HA.out]; simp; omega)⟩
                 case measure => simp [intOf]; omega)
              | (go_ret; exact ⟨rbool (name_at hlt (by rw [HA.out]; simp; omega)).symm, rfl⟩)
      · have hn : nameB s = true := upto_all hu (by omega) h1 h2
        have HN := Lib.hid hn
        clear hn
        go_wp2
        go_ret
        exact ⟨rbool HN.out.symm, rfl⟩
  · have hn : nameB s = false := name_no fun ⟨h2, h3, _⟩ => h1 ⟨h2, h3⟩
    have HN := Lib.hid hn
    clear hn
    by_cases h2 : 1 ≤ s.size
    · have h3 : 16 < s.size := by omega
      clear h1
      go_enter Tryd.func17, Tryd.ntmps17
      go_wp2
      go_ret
      exact ⟨rbool HN.out.symm, rfl⟩
    · have h3 : s.size < 1 := by omega
      clear h1 h2
      go_enter Tryd.func17, Tryd.ntmps17
      go_wp2
      go_ret
      exact ⟨rbool HN.out.symm, rfl⟩
end Go.Proofs.YtbgpipdbnjoeeaaDoor
