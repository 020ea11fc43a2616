/-
  The given package gavotteref08's letter, digit, mark over this seat's translation. Conditions: those that each theorem states.
-/
import Derived.Test.YtikpbfghdiomgaaDoorTkN
import Derived.WalkKit
import Derived.Lib.Hide
import Derived.Tactics2
import Derived.Below
import Derived.Deep.QuietTactic
import Derived.Deep.Draws
import Derived.Deep.LoopGhost
namespace Go.Proofs.YtikpbfghdiomgaaDoor
open Go.RowKit Go.Lib Tk

theorem rbool8 {a b : Bool} (h : a = b) : Ending.returned (.bool a) = .returned (.bool b) := by rw [h]
theorem rint8 {k : IntKind} {a b : Int} (h : a = b) : Ending.returned (.int k a) = .returned (.int k b) := by rw [h]
/-- A text's bytes. -/
def bs (s : ByteArray) : Bs := s.data.toList
theorem bs_len (s : ByteArray) : (bs s).length = s.size := by unfold bs; rw [Array.length_toList]; rfl
theorem bs_at (s : ByteArray) {i : Nat} (h : i < s.size) : (bs s)[i]? = some s[i] := by
  unfold bs
  rw [Array.getElem?_toList, Array.getElem?_eq_getElem (show i < s.data.size from h)]
  rfl
theorem bs_drop (s : ByteArray) {i : Nat} (h : i < s.size) : (bs s).drop i = s[i] :: (bs s).drop (i + 1) := by
  have hl : i < (bs s).length := by rw [bs_len]; exact h
  rw [List.drop_eq_getElem_cons hl]
  have := bs_at s h
  rw [List.getElem?_eq_getElem hl] at this
  rw [Option.some.inj this]
theorem bs_end (s : ByteArray) {i : Nat} (h : s.size ≤ i) : (bs s).drop i = [] := List.drop_eq_nil_of_le (by rw [bs_len]; exact h)

theorem letter8_c (c : UInt8) (w : World) : Calls Tryd.prog 14 #[.int .u8 (c.toNat : Int)] w fun e w' => e = .returned (.bool (isL c)) ∧ w = w' := by
  have HL := Lib.hid (show isL c = (decide ((97 : Int) ≤ (c.toNat : Int)) && decide ((c.toNat : Int) ≤ 122)) from by
    unfold isL
    rw [Bool.eq_iff_iff]
    simp
    omega)
  generalize ((c.toNat : Nat) : Int) = x at *
  by_cases h1 : 97 ≤ x
  · go_enter Tryd.func14, Tryd.ntmps14
    go_wp2
    go_ret
    exact ⟨rbool8 (by rw [HL.out]; simp [h1]), rfl⟩
  · go_enter Tryd.func14, Tryd.ntmps14
    go_wp2
    go_ret
    exact ⟨rbool8 (by rw [HL.out]; simp; omega), rfl⟩
theorem digit8_c (c : UInt8) (w : World) : Calls Tryd.prog 15 #[.int .u8 (c.toNat : Int)] w fun e w' => e = .returned (.bool (isD c)) ∧ w = w' := by
  have HL := Lib.hid (show isD c = (decide ((48 : Int) ≤ (c.toNat : Int)) && decide ((c.toNat : Int) ≤ 57)) from by
    unfold isD
    rw [Bool.eq_iff_iff]
    simp
    omega)
  generalize ((c.toNat : Nat) : Int) = x at *
  by_cases h1 : 48 ≤ x
  · go_enter Tryd.func15, Tryd.ntmps15
    go_wp2
    go_ret
    exact ⟨rbool8 (by rw [HL.out]; simp [h1]), rfl⟩
  · go_enter Tryd.func15, Tryd.ntmps15
    go_wp2
    go_ret
    exact ⟨rbool8 (by rw [HL.out]; simp; omega), rfl⟩

/-- The marks of one sign, as the law has them. -/
def onesB : ByteArray := ⟨#[123, 125, 40, 41, 44, 59, 58, 46, 61, 60, 43, 45, 42, 47, 37]⟩
theorem ones_at {i : Nat} (h : i < 15) : ones[i]? = some (onesB[i]'h) := by
  have : ones = bs onesB := rfl
  rw [this]
  exact bs_at onesB h
theorem ones_yes {i : Nat} (h : i < 15) {c : UInt8} (he : onesB[i]'h = c) : ones.contains c = true := by
  rw [List.contains_iff_mem]
  exact he ▸ List.mem_of_getElem? (ones_at h)
theorem ones_none {c : UInt8} (h : ∀ i (hi : i < 15), onesB[i]'hi ≠ c) : ones.contains c = false := by
  rw [Bool.eq_false_iff]
  intro k
  rw [List.contains_iff_mem] at k
  obtain ⟨i, hi⟩ := List.mem_iff_getElem?.1 k
  have hl : i < 15 := (List.getElem?_eq_some_iff.1 hi).1
  rw [ones_at hl] at hi
  exact h i hl (Option.some.inj hi)

theorem belowT8 {a w w' : World} (h : Below a.heap.size a w) (k : Below w.heap.size w w') : Below a.heap.size a w' := h.trans (k.mono h.size)
theorem belowN8 (w : World) (n : Nat) : Below w.heap.size w (w.drewN n) := ⟨rfl, rfl, rfl, Nat.le_refl _, fun _ _ => rfl⟩
set_option maxHeartbeats 4000000 in
set_option maxRecDepth 100000 in
theorem mark8_c (s : ByteArray) (p : Nat) (hp : p < s.size) (hs : s.size ≤ 100000) (w : World) : Calls Tryd.prog 16 #[.string s, .int .i64 (p : Int)] w fun e w' => e = .returned (.int .i64 (markLen ((bs s).drop p) : Int)) ∧ Below w.heap.size w w' := by
  have mixed : Tryd.prog.follows .mixedOrders = true := by kernel_rfl
  have hp0 : (0 : Int) ≤ (p : Int) := by omega
  have hpz : (p : Int) < (s.size : Int) := by omega
  have hw1 : IntKind.i64.wrap ((p : Int) + 1) = ((p + 1 : Nat) : Int) := by rw [IntKind.wrap_i64] <;> omega
  have HB := Lib.hid (Below.refl w.heap.size w)
  have hd := bs_drop s hp
  obtain ⟨x, hx⟩ : ∃ x : Int, ((s[p].toNat : Nat) : Int) = x := ⟨_, rfl⟩
  have HX := Lib.hid hx
  by_cases hq : p + 1 < s.size
  · have hqz : ((p + 1 : Nat) : Int) < (s.size : Int) := by omega
    have hqz2 : (p : Int) + 1 < (s.size : Int) := by omega
    have hq0 : (0 : Int) ≤ ((p + 1 : Nat) : Int) := by omega
    obtain ⟨y, hy⟩ : ∃ y : Int, ((s[p + 1].toNat : Nat) : Int) = y := ⟨_, rfl⟩
    have hm : markLen ((bs s).drop p) = if two s[p] s[p + 1] = true then 2 else if ones.contains s[p] = true then 1 else 0 := by
      rw [hd, bs_drop s hq]
      rfl
    have htw : two s[p] s[p + 1] = (((x == 45) && (y == 62)) || ((x == 60) && (y == 61))) := by
      rw [Bool.eq_iff_iff]
      unfold two
      simp
      omega
    by_cases h45 : x = 45
    · have e45 : (x == 45) = true := by rw [beq_iff_eq]; exact h45
      have e60 : (x == 60) = false := beq_eq_false_iff_ne.2 (by omega)
      by_cases h62 : y = 62
      · have e62 : (y == 62) = true := by rw [beq_iff_eq]; exact h62
        have HM := Lib.hid (show markLen ((bs s).drop p) = 2 from by rw [hm, htw, e45, e62]; rfl)
        clear hm htw hd h45 h62
        go_enter Tryd.func16, Tryd.ntmps16
        go_wp2
        go_ret
        exact ⟨rint8 (by rw [HM.out]; rfl), HB.out⟩
      · have e62 : (y == 62) = false := beq_eq_false_iff_ne.2 h62
        have HM := Lib.hid (fun h : ones.contains s[p] = true => show markLen ((bs s).drop p) = 1 from by rw [hm, htw, e45, e60, e62, h]; rfl)
        have HMN := Lib.hid (fun h : ones.contains s[p] = false => show markLen ((bs s).drop p) = 0 from by rw [hm, htw, e45, e60, e62, h]; rfl)
        clear hm htw hd h45 h62
        go_enter Tryd.func16, Tryd.ntmps16
        go_wp2
        go_loopw [6] (fun v wr => ∃ i : Nat, v = .int .i64 (i : Int) ∧ i ≤ 15 ∧ Hid ((∀ j (hj : j < 15), j < i → ((onesB[j]'hj).toNat : Int) ≠ x) ∧ Below w.heap.size w wr)) (fun v _ => 15 - (intOf v).toNat)
        case atStart => exact ⟨0, rfl, Nat.zero_le _, Lib.hid ⟨fun j _ h => absurd h (Nat.not_lt_zero _), HB.out⟩⟩
        case round =>
          obtain ⟨i, rfl, hi, HI⟩ := hrel
          by_cases hlt : i < 15
          · have hiz : (i : Int) < 15 := by omega
            have hi0 : (0 : Int) ≤ (i : Int) := by omega
            have hri : IntKind.i64.wrap ((i : Int) + 1) = ((i + 1 : Nat) : Int) := by rw [IntKind.wrap_i64] <;> omega
            obtain ⟨z, hz⟩ : ∃ z : Int, (((ByteArray.mk #[123, 125, 40, 41, 44, 59, 58, 46, 61, 60, 43, 45, 42, 47, 37])[i]'hlt).toNat : Int) = z := ⟨_, rfl⟩
            have HZ := Lib.hid (show ((onesB[i]'hlt).toNat : Int) = z from hz)
            by_cases he : x = z
            · have hb : (x == z) = true := by rw [beq_iff_eq]; exact he
              have HE := Lib.hid (ones_yes hlt (c := s[p]) (by
                refine Tk.u8_eq ?_
                have h1 := HZ.out
                have h2 := HX.out
                omega))
              clear he hi
              go_wp2_with fail
              go_quiet (fail)
              have H9 := Lib.hid (show Below w.heap.size w (wr.drewN nq) from belowT8 HI.out.2 (belowN8 _ _))
              go_wp2
              go_ret
              exact ⟨rint8 (by rw [HM.out HE.out]; rfl), H9.out⟩
            · have hb : (x == z) = false := beq_eq_false_iff_ne.2 he
              have HE := Lib.hid he
              clear he
              go_wp2_with fail
              go_quiet (fail)
              have H9 := Lib.hid (show Below w.heap.size w (wr.drewN nq) from belowT8 HI.out.2 (belowN8 _ _))
              go_wp2
              go_roundw
              case rel =>
                refine ⟨i + 1, rfl, hlt, Lib.hid ⟨fun j hj h => ?_, H9.out⟩⟩
                by_cases e : j = i
                · subst e
                  rw [HZ.out]
                  exact fun h => HE.out h.symm
                · exact HI.out.1 j hj (by omega)
              case measure => simp [intOf]; omega
          · obtain rfl : i = 15 := by omega
            have HE := Lib.hid (ones_none (c := s[p]) fun j hj h => HI.out.1 j hj hj (by rw [h]; exact HX.out))
            go_wp2
            go_ret
            exact ⟨rint8 (by rw [HMN.out HE.out]; rfl), HI.out.2⟩
    · have e45 : (x == 45) = false := beq_eq_false_iff_ne.2 h45
      by_cases h60 : x = 60
      · have e60 : (x == 60) = true := by rw [beq_iff_eq]; exact h60
        by_cases h61 : y = 61
        · have e61 : (y == 61) = true := by rw [beq_iff_eq]; exact h61
          have HM := Lib.hid (show markLen ((bs s).drop p) = 2 from by rw [hm, htw, e45, e60, e61]; rfl)
          clear hm htw hd h45 h60 h61
          go_enter Tryd.func16, Tryd.ntmps16
          go_wp2
          go_ret
          exact ⟨rint8 (by rw [HM.out]; rfl), HB.out⟩
        · have e61 : (y == 61) = false := beq_eq_false_iff_ne.2 h61
          have HM := Lib.hid (fun h : ones.contains s[p] = true => show markLen ((bs s).drop p) = 1 from by rw [hm, htw, e45, e60, e61, h]; rfl)
          have HMN := Lib.hid (fun h : ones.contains s[p] = false => show markLen ((bs s).drop p) = 0 from by rw [hm, htw, e45, e60, e61, h]; rfl)
          clear hm htw hd h45 h60 h61
          go_enter Tryd.func16, Tryd.ntmps16
          go_wp2
          go_loopw [6] (fun v wr => ∃ i : Nat, v = .int .i64 (i : Int) ∧ i ≤ 15 ∧ Hid ((∀ j (hj : j < 15), j < i → ((onesB[j]'hj).toNat : Int) ≠ x) ∧ Below w.heap.size w wr)) (fun v _ => 15 - (intOf v).toNat)
          case atStart => exact ⟨0, rfl, Nat.zero_le _, Lib.hid ⟨fun j _ h => absurd h (Nat.not_lt_zero _), HB.out⟩⟩
          case round =>
            obtain ⟨i, rfl, hi, HI⟩ := hrel
            by_cases hlt : i < 15
            · have hiz : (i : Int) < 15 := by omega
              have hi0 : (0 : Int) ≤ (i : Int) := by omega
              have hri : IntKind.i64.wrap ((i : Int) + 1) = ((i + 1 : Nat) : Int) := by rw [IntKind.wrap_i64] <;> omega
              obtain ⟨z, hz⟩ : ∃ z : Int, (((ByteArray.mk #[123, 125, 40, 41, 44, 59, 58, 46, 61, 60, 43, 45, 42, 47, 37])[i]'hlt).toNat : Int) = z := ⟨_, rfl⟩
              have HZ := Lib.hid (show ((onesB[i]'hlt).toNat : Int) = z from hz)
              by_cases he : x = z
              · have hb : (x == z) = true := by rw [beq_iff_eq]; exact he
                have HE := Lib.hid (ones_yes hlt (c := s[p]) (by
                  refine Tk.u8_eq ?_
                  have h1 := HZ.out
                  have h2 := HX.out
                  omega))
                clear he hi
                go_wp2_with fail
                go_quiet (fail)
                have H9 := Lib.hid (show Below w.heap.size w (wr.drewN nq) from belowT8 HI.out.2 (belowN8 _ _))
                go_wp2
                go_ret
                exact ⟨rint8 (by rw [HM.out HE.out]; rfl), H9.out⟩
              · have hb : (x == z) = false := beq_eq_false_iff_ne.2 he
                have HE := Lib.hid he
                clear he
                go_wp2_with fail
                go_quiet (fail)
                have H9 := Lib.hid (show Below w.heap.size w (wr.drewN nq) from belowT8 HI.out.2 (belowN8 _ _))
                go_wp2
                go_roundw
                case rel =>
                  refine ⟨i + 1, rfl, hlt, Lib.hid ⟨fun j hj h => ?_, H9.out⟩⟩
                  by_cases e : j = i
                  · subst e
                    rw [HZ.out]
                    exact fun h => HE.out h.symm
                  · exact HI.out.1 j hj (by omega)
                case measure => simp [intOf]; omega
            · obtain rfl : i = 15 := by omega
              have HE := Lib.hid (ones_none (c := s[p]) fun j hj h => HI.out.1 j hj hj (by rw [h]; exact HX.out))
              go_wp2
              go_ret
              exact ⟨rint8 (by rw [HMN.out HE.out]; rfl), HI.out.2⟩
      · have e60 : (x == 60) = false := beq_eq_false_iff_ne.2 h60
        have HM := Lib.hid (fun h : ones.contains s[p] = true => show markLen ((bs s).drop p) = 1 from by rw [hm, htw, e45, e60, h]; rfl)
        have HMN := Lib.hid (fun h : ones.contains s[p] = false => show markLen ((bs s).drop p) = 0 from by rw [hm, htw, e45, e60, h]; rfl)
        clear hm htw hd h45 h60
        go_enter Tryd.func16, Tryd.ntmps16
        go_wp2
        go_loopw [6] (fun v wr => ∃ i : Nat, v = .int .i64 (i : Int) ∧ i ≤ 15 ∧ Hid ((∀ j (hj : j < 15), j < i → ((onesB[j]'hj).toNat : Int) ≠ x) ∧ Below w.heap.size w wr)) (fun v _ => 15 - (intOf v).toNat)
        case atStart => exact ⟨0, rfl, Nat.zero_le _, Lib.hid ⟨fun j _ h => absurd h (Nat.not_lt_zero _), HB.out⟩⟩
        case round =>
          obtain ⟨i, rfl, hi, HI⟩ := hrel
          by_cases hlt : i < 15
          · have hiz : (i : Int) < 15 := by omega
            have hi0 : (0 : Int) ≤ (i : Int) := by omega
            have hri : IntKind.i64.wrap ((i : Int) + 1) = ((i + 1 : Nat) : Int) := by rw [IntKind.wrap_i64] <;> omega
            obtain ⟨z, hz⟩ : ∃ z : Int, (((ByteArray.mk #[123, 125, 40, 41, 44, 59, 58, 46, 61, 60, 43, 45, 42, 47, 37])[i]'hlt).toNat : Int) = z := ⟨_, rfl⟩
            have HZ := Lib.hid (show ((onesB[i]'hlt).toNat : Int) = z from hz)
            by_cases he : x = z
            · have hb : (x == z) = true := by rw [beq_iff_eq]; exact he
              have HE := Lib.hid (ones_yes hlt (c := s[p]) (by
                refine Tk.u8_eq ?_
                have h1 := HZ.out
                have h2 := HX.out
                omega))
              clear he hi
              go_wp2_with fail
              go_quiet (fail)
              have H9 := Lib.hid (show Below w.heap.size w (wr.drewN nq) from belowT8 HI.out.2 (belowN8 _ _))
              go_wp2
              go_ret
              exact ⟨rint8 (by rw [HM.out HE.out]; rfl), H9.out⟩
            · have hb : (x == z) = false := beq_eq_false_iff_ne.2 he
              have HE := Lib.hid he
              clear he
              go_wp2_with fail
              go_quiet (fail)
              have H9 := Lib.hid (show Below w.heap.size w (wr.drewN nq) from belowT8 HI.out.2 (belowN8 _ _))
              go_wp2
              go_roundw
              case rel =>
                refine ⟨i + 1, rfl, hlt, Lib.hid ⟨fun j hj h => ?_, H9.out⟩⟩
                by_cases e : j = i
                · subst e
                  rw [HZ.out]
                  exact fun h => HE.out h.symm
                · exact HI.out.1 j hj (by omega)
              case measure => simp [intOf]; omega
          · obtain rfl : i = 15 := by omega
            have HE := Lib.hid (ones_none (c := s[p]) fun j hj h => HI.out.1 j hj hj (by rw [h]; exact HX.out))
            go_wp2
            go_ret
            exact ⟨rint8 (by rw [HMN.out HE.out]; rfl), HI.out.2⟩
  · have hqz2 : ¬ (p : Int) + 1 < (s.size : Int) := by omega
    have hqz3 : decide ((p : Int) + 1 < (s.size : Int)) = false := decide_eq_false hqz2
    have hm : markLen ((bs s).drop p) = if ones.contains s[p] = true then 1 else 0 := by
      rw [hd, bs_end s (by omega)]
      rfl
    have HM := Lib.hid (fun h : ones.contains s[p] = true => show markLen ((bs s).drop p) = 1 from by rw [hm, h]; rfl)
    have HMN := Lib.hid (fun h : ones.contains s[p] = false => show markLen ((bs s).drop p) = 0 from by rw [hm, h]; rfl)
    clear hm hd
    go_enter Tryd.func16, Tryd.ntmps16
    go_wp2
    go_loopw [6] (fun v wr => ∃ i : Nat, v = .int .i64 (i : Int) ∧ i ≤ 15 ∧ Hid ((∀ j (hj : j < 15), j < i → ((onesB[j]'hj).toNat : Int) ≠ x) ∧ Below w.heap.size w wr)) (fun v _ => 15 - (intOf v).toNat)
    case atStart => exact ⟨0, rfl, Nat.zero_le _, Lib.hid ⟨fun j _ h => absurd h (Nat.not_lt_zero _), HB.out⟩⟩
    case round =>
      obtain ⟨i, rfl, hi, HI⟩ := hrel
      by_cases hlt : i < 15
      · have hiz : (i : Int) < 15 := by omega
        have hi0 : (0 : Int) ≤ (i : Int) := by omega
        have hri : IntKind.i64.wrap ((i : Int) + 1) = ((i + 1 : Nat) : Int) := by rw [IntKind.wrap_i64] <;> omega
        obtain ⟨z, hz⟩ : ∃ z : Int, (((ByteArray.mk #[123, 125, 40, 41, 44, 59, 58, 46, 61, 60, 43, 45, 42, 47, 37])[i]'hlt).toNat : Int) = z := ⟨_, rfl⟩
        have HZ := Lib.hid (show ((onesB[i]'hlt).toNat : Int) = z from hz)
        by_cases he : x = z
        · have hb : (x == z) = true := by rw [beq_iff_eq]; exact he
          have HE := Lib.hid (ones_yes hlt (c := s[p]) (by
            refine Tk.u8_eq ?_
            have h1 := HZ.out
            have h2 := HX.out
            omega))
          clear he hi
          go_wp2_with fail
          go_quiet (fail)
          have H9 := Lib.hid (show Below w.heap.size w (wr.drewN nq) from belowT8 HI.out.2 (belowN8 _ _))
          go_wp2
          go_ret
          exact ⟨rint8 (by rw [HM.out HE.out]; rfl), H9.out⟩
        · have hb : (x == z) = false := beq_eq_false_iff_ne.2 he
          have HE := Lib.hid he
          clear he
          go_wp2_with fail
          go_quiet (fail)
          have H9 := Lib.hid (show Below w.heap.size w (wr.drewN nq) from belowT8 HI.out.2 (belowN8 _ _))
          go_wp2
          go_roundw
          case rel =>
            refine ⟨i + 1, rfl, hlt, Lib.hid ⟨fun j hj h => ?_, H9.out⟩⟩
            by_cases e : j = i
            · subst e
              rw [HZ.out]
              exact fun h => HE.out h.symm
            · exact HI.out.1 j hj (by omega)
          case measure => simp [intOf]; omega
      · obtain rfl : i = 15 := by omega
        have HE := Lib.hid (ones_none (c := s[p]) fun j hj h => HI.out.1 j hj hj (by rw [h]; exact HX.out))
        go_wp2
        go_ret
        exact ⟨rint8 (by rw [HMN.out HE.out]; rfl), HI.out.2⟩
end Go.Proofs.YtikpbfghdiomgaaDoor
