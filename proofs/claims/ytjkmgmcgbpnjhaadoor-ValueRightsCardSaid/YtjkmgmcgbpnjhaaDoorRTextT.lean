/-
  The contract of the given package gavotteref02's TypeText over this seat's translation. Conditions: those that each theorem states.
-/
import Derived.Test.YtjkmgmcgbpnjhaaDoorTTextA
namespace Go.Proofs.YtjkmgmcgbpnjhaaDoor
open Go.RowKit Go.ChangeShapes Go.WideShapes Go.ChangeAt Go.Deep
attribute [local go_sem ↓] Go.wp_at_zero Go.wp_at_succ


theorem joinTail_snoc (sep : List UInt8) (r : List (List UInt8)) (x : List UInt8) : Lib.joinTail sep (r ++ [x]) = Lib.joinTail sep r ++ (sep ++ x) := by simp [Lib.joinTail]
theorem joinL_zero (S : Nat → List UInt8) : joinL S 0 = [] := rfl
theorem joinL_one (S : Nat → List UInt8) : joinL S (0 + 1) = S 0 := by unfold joinL; exact Lib.join_one _ _
theorem joinL_succ (S : Nat → List UInt8) (k : Nat) (h : 0 < k) : joinL S (k + 1) = joinL S k ++ ([44, 32] ++ S k) := by
  unfold joinL
  obtain ⟨j, rfl⟩ : ∃ j, k = j + 1 := ⟨k - 1, by omega⟩
  rw [List.range_succ, List.map_append, List.map_singleton, List.range_succ_eq_map, List.map_cons, List.cons_append, Lib.join_cons, Lib.join_cons, joinTail_snoc, List.append_assoc]

set_option maxHeartbeats 2000000 in
theorem rtextT_tup (t : TT) (h : t.k = 3) (h1 : 1 ≤ t.len) (h4 : t.len ≤ 4) (S : Nat → List UInt8) (hS : ∀ i, i < t.len → (S i).length ≤ 10000)
    (ih : ∀ i, i < t.len → ∀ (sl : Value) (w : World), TT.In w (t.kid i) sl → Calls Tryd.prog 35 #[(t.kid i).val sl] w fun e w' => e = .returned (.string (bs (S i))) ∧ Below w.heap.size w w')
    (sl : Value) (w : World) (hin : TT.In w t sl) :
    Calls Tryd.prog 35 #[t.val sl] w fun e w' => e = .returned (.string (bs (tupL S t.len))) ∧ Below w.heap.size w w' := by
  obtain ⟨_, hl, p, cap, rfl, hlc, hcap, hk⟩ := hin.out
  obtain ⟨b, o, rfl, hk2⟩ := hk h1
  have HK : Hid (TT.Kids w t b o) := hk2
  have HI := Lib.hid ih
  have HSL := Lib.hid hS
  clear hk hk2 hin ih hS
  unfold TT.val
  rw [h]
  clear h
  have HB := Lib.hid (bA (Below.refl w.heap.size w) (.cells #[.int .i64 3, .slice (some ⟨b, o, none⟩) t.len cap] 47))
  have q3 : (w.alloc (.cells #[.int .i64 3, .slice (some ⟨b, o, none⟩) t.len cap] 47)).cell? ⟨w.heap.size, 1, none⟩ = some (.slice (some ⟨b, o, none⟩) t.len cap) := by go_simp
  go_enter Tryd.func35, Tryd.ntmps35
  go_wp2
  generalize w.alloc (.cells #[.int .i64 3, .slice (some ⟨b, o, none⟩) t.len cap] 47) = w0 at *
  go_loopw [3, 4] (fun vs vk wr => ∃ k : Nat, vk = .int .i64 k ∧ vs = .string (bs (40 :: joinL S k)) ∧ k ≤ t.len ∧ Below w0.heap.size w0 wr) (fun _ vk _ => t.len - (intOf vk).toNat)
  case atStart => exact ⟨0, rfl, rfl, Nat.zero_le _, Below.refl _ _⟩
  case round =>
    obtain ⟨k, rfl, rfl, hkl, hbl⟩ := hrel
    replace q3 := kc hbl q3
    have hjl := joinL_len S k 10000 (fun i hi => HSL.out i (by omega))
    have hM0 : (40 :: joinL S k).length ≤ 50000 := by
      have h5 : k * (10000 + 2) ≤ 4 * (10000 + 2) := Nat.mul_le_mul_right _ (by omega)
      rw [List.length_cons]
      omega
    by_cases hlt : k < t.len
    · obtain ⟨sl', ⟨c0, c3⟩, hkin⟩ := HK.out k hlt
      obtain ⟨p', cap', rfl⟩ := hkin.slice
      have HN := Lib.hid hkin
      have hc := HI.out k hlt
      have hX := HSL.out k hlt
      have WB2 := bT HB.out hbl
      clear hkin hjl
      replace c0 := kc WB2 c0
      replace c3 := kc WB2 c3
      by_cases hk0 : k = 0
      · subst hk0
        simp only [Nat.zero_mul, Nat.add_zero] at c0 c3
        have hj : bs (40 :: joinL S 0) ++ bs (S 0) = bs (40 :: joinL S (0 + 1)) := by rw [bs_app, joinL_zero, joinL_one]; rfl
        have HJ := Lib.hid hj
        clear hj
        generalize S 0 = X at hc hX HJ
        have HC := Lib.hid hc
        clear hc
        generalize 40 :: joinL S 0 = M at *
        have g1 : ¬ 9223372036854775807 < M.length + X.length := by omega
        go_wp2_with fail
        refine (HC.out _ _ (inT WB2 HN.out)).mono ?_
        rintro e w3 ⟨rfl, hb⟩
        go_wp2
        go_roundw
        case rel => exact ⟨0 + 1, by go_num, congrArg Value.string HJ.out, by omega, bT hbl hb⟩
        case measure => simp [intOf]; omega
      · have hkp : 0 < k := by omega
        have hj : bs (40 :: joinL S k) ++ bs [44, 32] ++ bs (S k) = bs (40 :: joinL S (k + 1)) := by rw [bs_app, bs_app, joinL_succ S k hkp]; simp
        have HJ := Lib.hid hj
        clear hj hk0
        generalize S k = X at hc hX HJ
        have HC := Lib.hid hc
        clear hc
        generalize 40 :: joinL S k = M at *
        have g1 : ¬ 9223372036854775807 < M.length + 2 := by omega
        have g2 : ¬ 9223372036854775807 < M.length + 2 + X.length := by omega
        go_wp2_with fail
        refine (HC.out _ _ (inT WB2 HN.out)).mono ?_
        rintro e w3 ⟨rfl, hb⟩
        go_wp2
        go_roundw
        case rel => exact ⟨k + 1, by go_num, congrArg Value.string HJ.out, by omega, bT hbl hb⟩
        case measure => simp [intOf]; omega
    · have hkm : k = t.len := by omega
      subst hkm
      by_cases h1 : t.len = 1
      · have hz : ((t.len : Int) == 1) = true := by simp [h1]
        have hj : bs (40 :: joinL S t.len) ++ bs [44] ++ bs [41] = bs (tupL S t.len) := by rw [bs_app, bs_app]; unfold tupL; rw [if_pos h1]; simp
        have HJ := Lib.hid hj
        clear hj h1
        generalize 40 :: joinL S t.len = M at *
        have g1 : ¬ 9223372036854775807 < M.length + 1 := by omega
        have g2 : ¬ 9223372036854775807 < M.length + 1 + 1 := by omega
        go_wp2
        go_ret
        exact ⟨rstr HJ.out, bT HB.out hbl⟩
      · have hz : ((t.len : Int) == 1) = false := by simp; omega
        have hj : bs (40 :: joinL S t.len) ++ bs [41] = bs (tupL S t.len) := by rw [bs_app]; unfold tupL; rw [if_neg h1]; simp
        have HJ := Lib.hid hj
        clear hj h1
        generalize 40 :: joinL S t.len = M at *
        have g1 : ¬ 9223372036854775807 < M.length + 1 := by omega
        go_wp2
        go_ret
        exact ⟨rstr HJ.out, bT HB.out hbl⟩

set_option maxHeartbeats 1000000 in
theorem rttext_leaf (t : TT) (hr : t.k = 0 ∨ t.k = 1 ∨ t.k = 2) (sl : Value) (w : World) (hin : TT.In w t sl) :
    Calls Tryd.prog 35 #[t.val sl] w fun e w' => e = .returned (.string (bs (TT.leafT t))) ∧ Below w.heap.size w w' := by
  obtain ⟨p, cap, rfl⟩ := hin.slice
  clear hin
  have HT := Lib.hid (show TT.leafT t = if t.k = 0 then [105, 110, 116] else if t.k = 1 then [98, 111, 111, 108] else [115, 121, 109] from rfl)
  unfold TT.val
  generalize t.k = k at *
  rcases hr with rfl | rfl | rfl
  all_goals
    go_enter Tryd.func35, Tryd.ntmps35
    go_wp2
    go_ret
    exact ⟨rstr (by rw [HT.out]; rfl), bA (Below.refl _ _) _⟩

theorem rttext_v : ∀ (m : Nat), m ≤ 3 → ∀ (t : TT), TT.rightB m t = true → ∀ (sl : Value) (w : World), TT.In w t sl →
    Calls Tryd.prog 35 #[t.val sl] w fun e w' => e = .returned (.string (bs (TT.textM m t))) ∧ Below w.heap.size w w' := by
  intro m
  induction m with
  | zero =>
    intro _ t hr sl w hin
    refine rttext_leaf t ?_ sl w hin
    rcases TT.rightB_of hr with h1 | h1 | h1 | h1
    · exact .inl h1
    · exact .inr (.inl h1)
    · exact .inr (.inr h1)
    · exact absurd h1 (TT.rightB_zero hr)
  | succ m ih =>
    intro hm t hr sl w hin
    by_cases h3 : t.k = 3
    · rw [TT.textM_tup h3]
      obtain ⟨h1, h4, hk⟩ := TT.rightB_kids hr h3
      have hp : 21 * 6 ^ m ≤ 10000 := by
        have : 6 ^ m ≤ 6 ^ 2 := Nat.pow_le_pow_right (by omega) (by omega)
        omega
      exact rtextT_tup t h3 h1 h4 (fun i => TT.textM m (t.kid i)) (fun i hi => Nat.le_trans (TT.textM_len m (t.kid i) (hk i hi)) hp) (fun i hi sl w hin => ih (by omega) (t.kid i) (hk i hi) sl w hin) sl w hin
    · rw [TT.textM_leaf h3]
      refine rttext_leaf t ?_ sl w hin
      rcases TT.rightB_of hr with h1 | h1 | h1 | h1
      · exact .inl h1
      · exact .inr (.inl h1)
      · exact .inr (.inr h1)
      · exact absurd h1 h3
end Go.Proofs.YtjkmgmcgbpnjhaaDoor
