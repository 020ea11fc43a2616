/-
  The contract of the given package gavotteref02's Text over this seat's translation. Conditions: those that each theorem states.
-/
import Derived.Test.YtjkmgmcgbpnjhaaDoorRTextT
import Derived.Test.YtjkmgmcgbpnjhaaDoorDec2
namespace Go.Proofs.YtjkmgmcgbpnjhaaDoor
open Go.RowKit Go.ChangeShapes Go.WideShapes Go.ChangeAt Go.Deep
attribute [local go_sem ↓] Go.wp_at_zero Go.wp_at_succ


set_option maxHeartbeats 2000000 in
theorem rtextV_tup (t : VT) (h : t.k = 3) (h1 : 1 ≤ t.len) (h4 : t.len ≤ 4) (S : Nat → List UInt8) (hS : ∀ i, i < t.len → (S i).length ≤ 10000)
    (ih : ∀ i, i < t.len → ∀ (sl : Value) (w : World), VT.In w (t.kid i) sl → Calls Tryd.prog 30 #[(t.kid i).val sl] w fun e w' => e = .returned (.string (bs (S i))) ∧ Below w.heap.size w w')
    (sl : Value) (w : World) (hin : VT.In w t sl) :
    Calls Tryd.prog 30 #[t.val sl] w fun e w' => e = .returned (.string (bs (tupL S t.len))) ∧ Below w.heap.size w w' := by
  obtain ⟨_, _, _, hl, p, cap, rfl, hlc, hcap, hk⟩ := hin.out
  obtain ⟨b, o, rfl, hk2⟩ := hk h1
  have HK : Hid (VT.Kids w t b o) := hk2
  have HI := Lib.hid ih
  have HSL := Lib.hid hS
  clear hk hk2 hin ih hS
  unfold VT.val
  rw [h]
  clear h
  have HB := Lib.hid (bA (Below.refl w.heap.size w) (.cells #[.int .i64 3, .int .i64 t.n, .string t.s, .slice (some ⟨b, o, none⟩) t.len cap] 35))
  have q3 : (w.alloc (.cells #[.int .i64 3, .int .i64 t.n, .string t.s, .slice (some ⟨b, o, none⟩) t.len cap] 35)).cell? ⟨w.heap.size, 3, none⟩ = some (.slice (some ⟨b, o, none⟩) t.len cap) := by go_simp
  go_enter Tryd.func30, Tryd.ntmps30
  go_wp2
  generalize w.alloc (.cells #[.int .i64 3, .int .i64 t.n, .string t.s, .slice (some ⟨b, o, none⟩) t.len cap] 35) = w0 at *
  go_loopw [3, 4] (fun vs vk wr => ∃ k : Nat, vk = .int .i64 k ∧ vs = .string (bs (40 :: joinL S k)) ∧ k ≤ t.len ∧ Below w0.heap.size w0 wr) (fun _ vk _ => t.len - (intOf vk).toNat)
  case atStart => exact ⟨0, rfl, rfl, Nat.zero_le _, Below.refl _ _⟩
  case round =>
    obtain ⟨k, rfl, rfl, hkl, hbl⟩ := hrel
    replace q3 := kc hbl q3
    have hjl := joinL_len S k 10000 (fun i hi => HSL.out i (by omega))
    have hM0 : (40 :: joinL S k).length ≤ 50000 := by
      have h5 : k * (10000 + 2) ≤ 4 * (10000 + 2) := Nat.mul_le_mul_right _ (by omega)
      rw [List.length_cons]
      omega
    by_cases hlt : k < t.len
    · obtain ⟨sl', ⟨c0, c1, c2, c3⟩, hkin⟩ := HK.out k hlt
      obtain ⟨p', cap', rfl⟩ := hkin.slice
      have HN := Lib.hid hkin
      have hc := HI.out k hlt
      have hX := HSL.out k hlt
      have WB2 := bT HB.out hbl
      clear hkin hjl
      replace c0 := kc WB2 c0
      replace c1 := kc WB2 c1
      replace c2 := kc WB2 c2
      replace c3 := kc WB2 c3
      by_cases hk0 : k = 0
      · subst hk0
        simp only [Nat.zero_mul, Nat.add_zero] at c0 c1 c2 c3
        have hj : bs (40 :: joinL S 0) ++ bs (S 0) = bs (40 :: joinL S (0 + 1)) := by rw [bs_app, joinL_zero, joinL_one]; rfl
        have HJ := Lib.hid hj
        clear hj
        generalize S 0 = X at hc hX HJ
        have HC := Lib.hid hc
        clear hc
        generalize 40 :: joinL S 0 = M at *
        have g1 : ¬ 9223372036854775807 < M.length + X.length := by omega
        go_wp2_with fail
        refine (HC.out _ _ (inK WB2 HN.out)).mono ?_
        rintro e w3 ⟨rfl, hb⟩
        go_wp2
        go_roundw
        case rel => exact ⟨0 + 1, by go_num, congrArg Value.string HJ.out, by omega, bT hbl hb⟩
        case measure => simp [intOf]; omega
      · have hkp : 0 < k := by omega
        have hj : bs (40 :: joinL S k) ++ bs [44, 32] ++ bs (S k) = bs (40 :: joinL S (k + 1)) := by rw [bs_app, bs_app, joinL_succ S k hkp]; simp
        have HJ := Lib.hid hj
        clear hj hk0
        generalize S k = X at hc hX HJ
        have HC := Lib.hid hc
        clear hc
        generalize 40 :: joinL S k = M at *
        have g1 : ¬ 9223372036854775807 < M.length + 2 := by omega
        have g2 : ¬ 9223372036854775807 < M.length + 2 + X.length := by omega
        go_wp2_with fail
        refine (HC.out _ _ (inK WB2 HN.out)).mono ?_
        rintro e w3 ⟨rfl, hb⟩
        go_wp2
        go_roundw
        case rel => exact ⟨k + 1, by go_num, congrArg Value.string HJ.out, by omega, bT hbl hb⟩
        case measure => simp [intOf]; omega
    · have hkm : k = t.len := by omega
      subst hkm
      by_cases h1 : t.len = 1
      · have hz : ((t.len : Int) == 1) = true := by simp [h1]
        have hj : bs (40 :: joinL S t.len) ++ bs [44] ++ bs [41] = bs (tupL S t.len) := by rw [bs_app, bs_app]; unfold tupL; rw [if_pos h1]; simp
        have HJ := Lib.hid hj
        clear hj h1
        generalize 40 :: joinL S t.len = M at *
        have g1 : ¬ 9223372036854775807 < M.length + 1 := by omega
        have g2 : ¬ 9223372036854775807 < M.length + 1 + 1 := by omega
        go_wp2
        go_ret
        exact ⟨rstr HJ.out, bT HB.out hbl⟩
      · have hz : ((t.len : Int) == 1) = false := by simp; omega
        have hj : bs (40 :: joinL S t.len) ++ bs [41] = bs (tupL S t.len) := by rw [bs_app]; unfold tupL; rw [if_neg h1]; simp
        have HJ := Lib.hid hj
        clear hj h1
        generalize 40 :: joinL S t.len = M at *
        have g1 : ¬ 9223372036854775807 < M.length + 1 := by omega
        go_wp2
        go_ret
        exact ⟨rstr HJ.out, bT HB.out hbl⟩

set_option maxHeartbeats 1000000 in
theorem rtext_leaf (t : VT) (hr : t.k = 0 ∨ t.k = 1 ∨ (t.k = 2 ∧ isName t.s)) (sl : Value) (w : World) (hin : VT.In w t sl) :
    Calls Tryd.prog 30 #[t.val sl] w fun e w' => e = .returned (.string (bs (VT.leafT t))) ∧ Below w.heap.size w w' := by
  obtain ⟨_, hn, hs, hl, p, cap, rfl, hlc, hcap, hk⟩ := hin.out
  clear hk hin
  unfold VT.val
  rcases hr with h | h | ⟨h, hname⟩
  · have HT := Lib.hid (VT.leafT0 h)
    rw [h]
    clear h
    go_enter Tryd.func30, Tryd.ntmps30
    go_wp2_with (go_at_call 62; go_must (refine (dec2_v _ hn _).mono ?_); rintro e w3 ⟨rfl, hb⟩)
    go_ret
    exact ⟨rstr (by rw [HT.out]), bT (bA (Below.refl _ _) _) hb⟩
  · have HT := Lib.hid (VT.leafT1 h)
    rw [h]
    clear h
    generalize t.n = n at *
    cases hz : (n == 1) with
    | true =>
      rw [hz] at HT
      go_enter Tryd.func30, Tryd.ntmps30
      go_wp2
      go_ret
      exact ⟨rstr (by rw [HT.out]; rfl), bA (Below.refl _ _) _⟩
    | false =>
      rw [hz] at HT
      go_enter Tryd.func30, Tryd.ntmps30
      go_wp2
      go_ret
      exact ⟨rstr (by rw [HT.out]; rfl), bA (Below.refl _ _) _⟩
  · have HT := Lib.hid (VT.leafT2 h)
    have h16 := hname.2.1
    rw [h]
    clear h hname
    have hl1 : ¬ 9223372036854775807 < 1 + t.s.size := by omega
    go_enter Tryd.func30, Tryd.ntmps30
    go_wp2
    go_ret
    exact ⟨rstr (by rw [HT.out, show t.s = bs t.s.data.toList from rfl, show (⟨#[39]⟩ : ByteArray) = bs [39] from rfl, bs_app]; rfl), bA (Below.refl _ _) _⟩

theorem rtext_v : ∀ (m : Nat), m ≤ 3 → ∀ (t : VT), VT.rightB m t = true → ∀ (sl : Value) (w : World), VT.In w t sl →
    Calls Tryd.prog 30 #[t.val sl] w fun e w' => e = .returned (.string (bs (VT.textM m t))) ∧ Below w.heap.size w w' := by
  intro m
  induction m with
  | zero =>
    intro _ t hr sl w hin
    refine rtext_leaf t ?_ sl w hin
    rcases VT.rightB_of hr with h1 | h1 | h1 | h1
    · exact .inl h1
    · exact .inr (.inl h1)
    · exact .inr (.inr h1)
    · exact absurd h1 (VT.rightB_zero hr)
  | succ m ih =>
    intro hm t hr sl w hin
    by_cases h3 : t.k = 3
    · rw [VT.textM_tup h3]
      obtain ⟨h1, h4, hk⟩ := VT.rightB_kids hr h3
      have hp : 21 * 6 ^ m ≤ 10000 := by
        have : 6 ^ m ≤ 6 ^ 2 := Nat.pow_le_pow_right (by omega) (by omega)
        omega
      refine rtextV_tup t h3 h1 h4 (fun i => VT.textM m (t.kid i)) (fun i hi => ?_) (fun i hi sl w hin => ih (by omega) (t.kid i) (hk i hi) sl w hin) sl w hin
      obtain ⟨_, _, _, _, _, _, _, _, _, hi2⟩ := hin.out
      obtain ⟨b, o, _, hi2⟩ := hi2 h1
      obtain ⟨sl', _, hin'⟩ := hi2 i hi
      exact Nat.le_trans (VT.textM_len m (t.kid i) w sl' hin' (hk i hi)) hp
    · rw [VT.textM_leaf h3]
      refine rtext_leaf t ?_ sl w hin
      rcases VT.rightB_of hr with h1 | h1 | h1 | h1
      · exact .inl h1
      · exact .inr (.inl h1)
      · exact .inr (.inr h1)
      · exact absurd h1 h3
end Go.Proofs.YtjkmgmcgbpnjhaaDoor
