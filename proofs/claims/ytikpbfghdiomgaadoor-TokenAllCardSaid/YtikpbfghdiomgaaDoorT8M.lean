/-
  token's skip over this seat's translation. Conditions: those that each theorem states.
-/
import Derived.Test.YtikpbfghdiomgaaDoorT8L
namespace Go.Proofs.YtikpbfghdiomgaaDoor
open Go.RowKit Go.Lib Tk

theorem bs_from (s : ByteArray) (p : Nat) : bs (s.extract p s.size) = (bs s).drop p := by
  rw [ext8]
  show (((bs s).drop p).take (s.size - p)).toArray.toList = _
  rw [List.take_of_length_le (by rw [List.length_drop, bs_len]; omega)]
theorem ext_size (s : ByteArray) {a b : Nat} (h : b ≤ s.size) : (s.extract a b).size = b - a := by
  rw [ByteArray.size_extract]
  omega
/-- What skip does: from p on to q. -/
structure SkP (s : ByteArray) (p q : Nat) : Prop where
  le : p ≤ q
  fit : q ≤ s.size
  go : ∀ us, Go8 s us p → Go8 s us q
theorem SkP.blank {s : ByteArray} {p q : Nat} (h : SkP s p q) (hq : q < s.size) (hb : isB s[q] = true) : SkP s p (q + 1) := ⟨by have := h.le; omega, by omega, fun us k => (h.go us k).blank hq hb⟩
theorem SkP.rem {s : ByteArray} {p q m : Nat} (h : SkP s p q) (hq : q < s.size) (h35 : s[q].toNat = 35) (hm : ((bs (s.extract q s.size)).takeWhile isE).length = m) : SkP s p (q + m) ∧ 0 < m := by
  rw [bs_from, bs_drop s hq, List.takeWhile_cons_of_pos (by unfold isE; rw [decide_eq_false (by omega)]; rfl), List.length_cons] at hm
  have hl := tw_le (q := isE) ((bs s).drop (q + 1))
  rw [List.length_drop, bs_len] at hl
  exact ⟨⟨by have := h.le; omega, by omega, fun us k => (h.go us k).rem hq h35 (by omega) (by omega)⟩, by omega⟩
theorem notB8 {c : UInt8} (h : c.toNat ≠ 32 ∧ c.toNat ≠ 9 ∧ c.toNat ≠ 10) : isB c = false := isB_no h

set_option maxHeartbeats 4000000 in
theorem skip_c (s : ByteArray) (p : Nat) (hp : p ≤ s.size) (hs : s.size ≤ 100000) (w : World) :
    Calls Tryd.prog 18 #[.string s, .int .i64 (p : Int)] w fun e w' => (∃ q : Nat, e = .returned (.int .i64 (q : Int)) ∧ SkP s p q ∧ ∀ h : q < s.size, isB s[q] = false ∧ s[q].toNat ≠ 35) ∧ w = w' := by
  go_enter Tryd.func18, Tryd.ntmps18
  go_wp2
  go_loopw [1] (fun v wr => ∃ q : Nat, v = .int .i64 (q : Int) ∧ q ≤ s.size ∧ wr = w ∧ Hid (SkP s p q)) (fun v _ => s.size - (intOf v).toNat)
  case atStart => exact ⟨p, rfl, hp, rfl, Lib.hid ⟨Nat.le_refl _, hp, fun _ h => h⟩⟩
  case round =>
    obtain ⟨q, rfl, hq, rfl, HS⟩ := hrel
    by_cases hlt : q < s.size
    · have hq0 : (0 : Int) ≤ (q : Int) := by omega
      have hqz : (q : Int) < (s.size : Int) := by omega
      have hri : IntKind.i64.wrap ((q : Int) + 1) = ((q + 1 : Nat) : Int) := by rw [IntKind.wrap_i64] <;> omega
      obtain ⟨x, hx⟩ : ∃ x : Int, ((s[q].toNat : Nat) : Int) = x := ⟨_, rfl⟩
      have HX := Lib.hid hx
      by_cases h32 : x = 32
      · have e32 : (x == 32) = true := by rw [beq_iff_eq]; exact h32
        have HN := Lib.hid (HS.out.blank hlt (by unfold isB; exact decide_eq_true (by omega)))
        clear h32
        go_wp2
        go_roundw
        case rel => exact ⟨q + 1, rfl, by omega, (by first | rfl | trivial), HN⟩
        case measure => simp [intOf]; omega
      · have e32 : (x == 32) = false := beq_eq_false_iff_ne.2 h32
        by_cases h9 : x = 9
        · have e9 : (x == 9) = true := by rw [beq_iff_eq]; exact h9
          have HN := Lib.hid (HS.out.blank hlt (by unfold isB; exact decide_eq_true (by omega)))
          clear h32 h9
          go_wp2
          go_roundw
          case rel => exact ⟨q + 1, rfl, by omega, (by first | rfl | trivial), HN⟩
          case measure => simp [intOf]; omega
        · have e9 : (x == 9) = false := beq_eq_false_iff_ne.2 h9
          by_cases h10 : x = 10
          · have e10 : (x == 10) = true := by rw [beq_iff_eq]; exact h10
            have HN := Lib.hid (HS.out.blank hlt (by unfold isB; exact decide_eq_true (by omega)))
            clear h32 h9 h10
            go_wp2
            go_roundw
            case rel => exact ⟨q + 1, rfl, by omega, (by first | rfl | trivial), HN⟩
            case measure => simp [intOf]; omega
          · have e10 : (x == 10) = false := beq_eq_false_iff_ne.2 h10
            by_cases h35 : x = 35
            · have e35 : (x == 35) = true := by rw [beq_iff_eq]; exact h35
              have KS := Lib.hid (stretch_inRemark_c (s.extract q s.size) (by rw [ext_size s (Nat.le_refl _)]; omega))
              obtain ⟨m, hm⟩ : ∃ m, ((bs (s.extract q s.size)).takeWhile isE).length = m := ⟨_, rfl⟩
              obtain ⟨hn, hm0⟩ := HS.out.rem hlt (by omega) hm
              rw [hm] at KS
              have hfit := hn.fit
              have HN := Lib.hid hn
              have hrm : IntKind.i64.wrap ((q : Int) + (m : Int)) = ((q + m : Nat) : Int) := by rw [IntKind.wrap_i64] <;> omega
              have hqz2 : (q : Int) ≤ (s.size : Int) := by omega
              clear h32 h9 h10 h35 hm hn
              go_wp2_with fail
              refine (KS.out _).mono ?_
              rintro e w1 ⟨rfl, rfl⟩
              go_wp2
              go_roundw
              case rel => exact ⟨q + m, rfl, by omega, (by first | rfl | trivial), HN⟩
              case measure => simp [intOf]; omega
            · have e35 : (x == 35) = false := beq_eq_false_iff_ne.2 h35
              have HE := Lib.hid (show ∀ h : q < s.size, isB s[q] = false ∧ s[q].toNat ≠ 35 from fun _ => ⟨notB8 (by omega), by omega⟩)
              clear h32 h9 h10 h35
              go_wp2
              go_ret
              exact ⟨⟨q, rfl, HS.out, HE.out⟩, rfl⟩
    · obtain rfl : q = s.size := by omega
      go_wp2
      go_ret
      exact ⟨⟨s.size, rfl, HS.out, fun h => absurd h hlt⟩, rfl⟩
end Go.Proofs.YtikpbfghdiomgaaDoor
