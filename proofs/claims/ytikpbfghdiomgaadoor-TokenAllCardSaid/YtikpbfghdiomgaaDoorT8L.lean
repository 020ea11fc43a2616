/-
  token's letter, digit, inName, inRemark, stretch over this seat's translation. Conditions: those that each theorem states.
-/
import Derived.Test.YtikpbfghdiomgaaDoorT8K
namespace Go.Proofs.YtikpbfghdiomgaaDoor
open Go.RowKit Go.Lib Tk

theorem pletter_c (c : UInt8) (w : World) : Calls Tryd.prog 22 #[.int .u8 (c.toNat : Int)] w fun e w' => e = .returned (.bool (isL c)) ∧ w = w' := by
  have HL := Lib.hid (show isL c = (decide ((97 : Int) ≤ (c.toNat : Int)) && decide ((c.toNat : Int) ≤ 122)) from by
    unfold isL
    rw [Bool.eq_iff_iff]
    simp
    omega)
  generalize ((c.toNat : Nat) : Int) = x at *
  by_cases h1 : 97 ≤ x
  · go_enter Tryd.func22, Tryd.ntmps22
    go_wp2
    go_ret
    exact ⟨rbool8 (by rw [HL.out]; simp [h1]), rfl⟩
  · go_enter Tryd.func22, Tryd.ntmps22
    go_wp2
    go_ret
    exact ⟨rbool8 (by rw [HL.out]; simp; omega), rfl⟩
theorem pdigit_c (c : UInt8) (w : World) : Calls Tryd.prog 24 #[.int .u8 (c.toNat : Int)] w fun e w' => e = .returned (.bool (isD c)) ∧ w = w' := by
  have HL := Lib.hid (show isD c = (decide ((48 : Int) ≤ (c.toNat : Int)) && decide ((c.toNat : Int) ≤ 57)) from by
    unfold isD
    rw [Bool.eq_iff_iff]
    simp
    omega)
  generalize ((c.toNat : Nat) : Int) = x at *
  by_cases h1 : 48 ≤ x
  · go_enter Tryd.func24, Tryd.ntmps24
    go_wp2
    go_ret
    exact ⟨rbool8 (by rw [HL.out]; simp [h1]), rfl⟩
  · go_enter Tryd.func24, Tryd.ntmps24
    go_wp2
    go_ret
    exact ⟨rbool8 (by rw [HL.out]; simp; omega), rfl⟩
theorem pinName_c (c : UInt8) (w : World) : Calls Tryd.prog 27 #[.int .u8 (c.toNat : Int)] w fun e w' => e = .returned (.bool (isN c)) ∧ w = w' := by
  have HL := Lib.hid (pletter_c c)
  have HD := Lib.hid (pdigit_c c)
  have HN := Lib.hid (show isN c = (isL c || isD c) from rfl)
  generalize ((c.toNat : Nat) : Int) = x at *
  by_cases h : isL c = true
  · rw [h] at HL HN
    go_enter Tryd.func27, Tryd.ntmps27
    go_wp2_with fail
    refine (HL.out _).mono ?_
    rintro e w1 ⟨rfl, rfl⟩
    go_wp2
    go_ret
    exact ⟨rbool8 (by rw [HN.out]; rfl), rfl⟩
  · have hf : isL c = false := by simpa using h
    rw [hf] at HL HN
    go_enter Tryd.func27, Tryd.ntmps27
    go_wp2_with fail
    refine (HL.out _).mono ?_
    rintro e w1 ⟨rfl, rfl⟩
    go_wp2_with fail
    refine (HD.out _).mono ?_
    rintro e w1 ⟨rfl, rfl⟩
    go_wp2
    go_ret
    exact ⟨rbool8 (by rw [HN.out]; rfl), rfl⟩
theorem pinRemark_c (c : UInt8) (w : World) : Calls Tryd.prog 21 #[.int .u8 (c.toNat : Int)] w fun e w' => e = .returned (.bool (isE c)) ∧ w = w' := by
  have HL := Lib.hid (show isE c = ((c.toNat : Int) != 10) from by
    unfold isE
    rw [Bool.eq_iff_iff]
    simp
    omega)
  generalize ((c.toNat : Nat) : Int) = x at *
  go_enter Tryd.func21, Tryd.ntmps21
  go_wp2
  go_ret
  exact ⟨rbool8 HL.out.symm, rfl⟩
set_option maxHeartbeats 2000000 in
theorem stretch_digit_c (s : ByteArray) (hs : s.size ≤ 100000) (w : World) :
    Calls Tryd.prog 20 #[.string s, .func (.func 24) #[] #[]] w fun e w' => e = .returned (.int .i64 (((bs s).takeWhile isD).length : Int)) ∧ w = w' := by
  go_enter Tryd.func20, Tryd.ntmps20
  go_wp2
  go_loopw [5] (fun v wr => ∃ k : Nat, v = .int .i64 (k : Int) ∧ k ≤ s.size ∧ wr = w ∧ Hid (Run isD s 0 k)) (fun v _ => s.size - (intOf v).toNat)
  case atStart => exact ⟨0, rfl, Nat.zero_le _, rfl, Lib.hid (Run.nil _ _ _)⟩
  case round =>
    obtain ⟨k, rfl, hk, rfl, HR⟩ := hrel
    by_cases hlt : k < s.size
    · have hk0 : (0 : Int) ≤ (k : Int) := by omega
      have hkz : (k : Int) < (s.size : Int) := by omega
      have hri : IntKind.i64.wrap ((k : Int) + 1) = ((k + 1 : Nat) : Int) := by rw [IntKind.wrap_i64] <;> omega
      obtain ⟨y, hy⟩ : ∃ y : Int, ((s[k].toNat : Nat) : Int) = y := ⟨_, rfl⟩
      have KY := Lib.hid (show ∀ w1, Calls Tryd.prog 24 #[.int .u8 y] w1 fun e w' => e = .returned (.bool (isD s[k])) ∧ w1 = w' from fun w1 => by rw [← hy]; exact pdigit_c _ w1)
      by_cases hq : isD s[k] = true
      · rw [hq] at KY
        have HQ := Lib.hid (HR.out.next hlt hq)
        clear hq
        go_wp2_with (go_at_call 24; refine (KY.out _).mono ?_; rintro e w6 ⟨rfl, rfl⟩)
        go_roundw
        case rel => exact ⟨k + 1, rfl, by omega, (by first | rfl | trivial), HQ⟩
        case measure => simp [intOf]; omega
      · have hqf : isD s[k] = false := by simpa using hq
        rw [hqf] at KY
        have HE := Lib.hid (Run.len (Nat.zero_le _) hk HR.out (fun _ => hqf))
        clear hq hqf
        go_wp2_with (go_at_call 24; refine (KY.out _).mono ?_; rintro e w6 ⟨rfl, rfl⟩)
        go_ret
        exact ⟨rint8 (by have := HE.out; rw [List.drop_zero] at this; rw [this]; simp), rfl⟩
    · obtain rfl : k = s.size := by omega
      have HE := Lib.hid (Run.len (Nat.zero_le _) hk HR.out (fun h => absurd h hlt))
      go_wp2
      go_ret
      exact ⟨rint8 (by have := HE.out; rw [List.drop_zero] at this; rw [this]; simp), rfl⟩
set_option maxHeartbeats 2000000 in
theorem stretch_inName_c (s : ByteArray) (hs : s.size ≤ 100000) (w : World) :
    Calls Tryd.prog 20 #[.string s, .func (.func 27) #[] #[]] w fun e w' => e = .returned (.int .i64 (((bs s).takeWhile isN).length : Int)) ∧ w = w' := by
  go_enter Tryd.func20, Tryd.ntmps20
  go_wp2
  go_loopw [5] (fun v wr => ∃ k : Nat, v = .int .i64 (k : Int) ∧ k ≤ s.size ∧ wr = w ∧ Hid (Run isN s 0 k)) (fun v _ => s.size - (intOf v).toNat)
  case atStart => exact ⟨0, rfl, Nat.zero_le _, rfl, Lib.hid (Run.nil _ _ _)⟩
  case round =>
    obtain ⟨k, rfl, hk, rfl, HR⟩ := hrel
    by_cases hlt : k < s.size
    · have hk0 : (0 : Int) ≤ (k : Int) := by omega
      have hkz : (k : Int) < (s.size : Int) := by omega
      have hri : IntKind.i64.wrap ((k : Int) + 1) = ((k + 1 : Nat) : Int) := by rw [IntKind.wrap_i64] <;> omega
      obtain ⟨y, hy⟩ : ∃ y : Int, ((s[k].toNat : Nat) : Int) = y := ⟨_, rfl⟩
      have KY := Lib.hid (show ∀ w1, Calls Tryd.prog 27 #[.int .u8 y] w1 fun e w' => e = .returned (.bool (isN s[k])) ∧ w1 = w' from fun w1 => by rw [← hy]; exact pinName_c _ w1)
      by_cases hq : isN s[k] = true
      · rw [hq] at KY
        have HQ := Lib.hid (HR.out.next hlt hq)
        clear hq
        go_wp2_with (go_at_call 27; refine (KY.out _).mono ?_; rintro e w6 ⟨rfl, rfl⟩)
        go_roundw
        case rel => exact ⟨k + 1, rfl, by omega, (by first | rfl | trivial), HQ⟩
        case measure => simp [intOf]; omega
      · have hqf : isN s[k] = false := by simpa using hq
        rw [hqf] at KY
        have HE := Lib.hid (Run.len (Nat.zero_le _) hk HR.out (fun _ => hqf))
        clear hq hqf
        go_wp2_with (go_at_call 27; refine (KY.out _).mono ?_; rintro e w6 ⟨rfl, rfl⟩)
        go_ret
        exact ⟨rint8 (by have := HE.out; rw [List.drop_zero] at this; rw [this]; simp), rfl⟩
    · obtain rfl : k = s.size := by omega
      have HE := Lib.hid (Run.len (Nat.zero_le _) hk HR.out (fun h => absurd h hlt))
      go_wp2
      go_ret
      exact ⟨rint8 (by have := HE.out; rw [List.drop_zero] at this; rw [this]; simp), rfl⟩
set_option maxHeartbeats 2000000 in
theorem stretch_inRemark_c (s : ByteArray) (hs : s.size ≤ 100000) (w : World) :
    Calls Tryd.prog 20 #[.string s, .func (.func 21) #[] #[]] w fun e w' => e = .returned (.int .i64 (((bs s).takeWhile isE).length : Int)) ∧ w = w' := by
  go_enter Tryd.func20, Tryd.ntmps20
  go_wp2
  go_loopw [5] (fun v wr => ∃ k : Nat, v = .int .i64 (k : Int) ∧ k ≤ s.size ∧ wr = w ∧ Hid (Run isE s 0 k)) (fun v _ => s.size - (intOf v).toNat)
  case atStart => exact ⟨0, rfl, Nat.zero_le _, rfl, Lib.hid (Run.nil _ _ _)⟩
  case round =>
    obtain ⟨k, rfl, hk, rfl, HR⟩ := hrel
    by_cases hlt : k < s.size
    · have hk0 : (0 : Int) ≤ (k : Int) := by omega
      have hkz : (k : Int) < (s.size : Int) := by omega
      have hri : IntKind.i64.wrap ((k : Int) + 1) = ((k + 1 : Nat) : Int) := by rw [IntKind.wrap_i64] <;> omega
      obtain ⟨y, hy⟩ : ∃ y : Int, ((s[k].toNat : Nat) : Int) = y := ⟨_, rfl⟩
      have KY := Lib.hid (show ∀ w1, Calls Tryd.prog 21 #[.int .u8 y] w1 fun e w' => e = .returned (.bool (isE s[k])) ∧ w1 = w' from fun w1 => by rw [← hy]; exact pinRemark_c _ w1)
      by_cases hq : isE s[k] = true
      · rw [hq] at KY
        have HQ := Lib.hid (HR.out.next hlt hq)
        clear hq
        go_wp2_with (go_at_call 21; refine (KY.out _).mono ?_; rintro e w6 ⟨rfl, rfl⟩)
        go_roundw
        case rel => exact ⟨k + 1, rfl, by omega, (by first | rfl | trivial), HQ⟩
        case measure => simp [intOf]; omega
      · have hqf : isE s[k] = false := by simpa using hq
        rw [hqf] at KY
        have HE := Lib.hid (Run.len (Nat.zero_le _) hk HR.out (fun _ => hqf))
        clear hq hqf
        go_wp2_with (go_at_call 21; refine (KY.out _).mono ?_; rintro e w6 ⟨rfl, rfl⟩)
        go_ret
        exact ⟨rint8 (by have := HE.out; rw [List.drop_zero] at this; rw [this]; simp), rfl⟩
    · obtain rfl : k = s.size := by omega
      have HE := Lib.hid (Run.len (Nat.zero_le _) hk HR.out (fun h => absurd h hlt))
      go_wp2
      go_ret
      exact ⟨rint8 (by have := HE.out; rw [List.drop_zero] at this; rw [this]; simp), rfl⟩
end Go.Proofs.YtikpbfghdiomgaaDoor
