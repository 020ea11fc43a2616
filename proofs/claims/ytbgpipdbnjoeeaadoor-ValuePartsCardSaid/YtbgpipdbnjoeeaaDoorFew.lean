/-
  The contract of gavottelaw02's few over this seat's translation. Conditions: those that each theorem states.
-/
import Derived.Test.YtbgpipdbnjoeeaaDoorSmallV
import Derived.Test.YtbgpipdbnjoeeaaDoorRightB
namespace Go.Proofs.YtbgpipdbnjoeeaaDoor
open Go.RowKit Go.ChangeShapes Go.WideShapes Go.ChangeAt Go.Deep
attribute [local go_sem ↓] Go.wp_at_zero Go.wp_at_succ


/-- A list of values as one tree. -/
def VT.lst (f : Nat → VT) (n : Nat) : VT := .mk 3 0 ⟨#[]⟩ n (fun i => f i.val)
theorem VT.lst_kid {f : Nat → VT} {n i : Nat} (h : i < n) : (VT.lst f n).kid i = f i := VT.kid_mk h
theorem VT.lst_in {w : World} {f : Nat → VT} {n b : Nat} (hn : n ≤ 1000) (h : ∀ i, i < n → ∃ sl, VT.Cell4 w b (i * 4) (f i) sl ∧ VT.In w (f i) sl) : VT.In w (VT.lst f n) (.slice (some ⟨b, 0, none⟩) n n) := by
  refine VT.In.mk (t := VT.lst f n) (by show I64 3; decide) (by show I64 0; decide) (by show (⟨#[]⟩ : ByteArray).size ≤ _; decide) (by show n ≤ _; omega) rfl (Nat.le_refl n) (by omega) fun _ => ⟨b, 0, rfl, fun i hi => ?_⟩
  have hi : i < n := hi
  obtain ⟨sl, c, k⟩ := h i hi
  rw [VT.lst_kid hi, Nat.zero_add]
  exact ⟨sl, c, k⟩
/-- Whether all are small, if so. -/
def FewRet (t : VT) (w : World) (e : Ending) (w' : World) : Prop := ∃ r : Bool, e = .returned (.bool r) ∧ (r = true → ∀ i, i < t.len → (t.kid i).Sm) ∧ Below w.heap.size w w'

set_option maxHeartbeats 1000000 in
theorem few_c (t : VT) (sl : Value) (w : World) (hin : VT.In w t sl) : Calls Tryd.prog 5 #[sl] w (FewRet t w) := by
  obtain ⟨_, _, _, hl, p, cap, rfl, hlc, hcap, hk⟩ := hin.out
  have HK := Lib.hid hk
  clear hk hin
  go_enter Tryd.func5, Tryd.ntmps5
  go_wp2
  go_loopw [3] (fun vk wr => ∃ k : Nat, vk = .int .i64 k ∧ k ≤ t.len ∧ (∀ i, i < k → (t.kid i).Sm) ∧ Below w.heap.size w wr) (fun vk _ => t.len - (intOf vk).toNat)
  case atStart => exact ⟨0, rfl, Nat.zero_le _, fun i h => by omega, Below.refl _ _⟩
  case round =>
    obtain ⟨k, rfl, hkl, hu, hbl⟩ := hrel
    have HU := Lib.hid hu
    clear hu
    by_cases hlt : k < t.len
    · obtain ⟨b, o, rfl, kk⟩ := HK.out (by omega)
      obtain ⟨sl', ⟨c0, c1, c2, c3⟩, hkin⟩ := kk k hlt
      obtain ⟨p', cap', rfl⟩ := hkin.slice
      have HN := Lib.hid hkin
      clear hkin kk
      replace c0 := kc hbl c0
      replace c1 := kc hbl c1
      replace c2 := kc hbl c2
      replace c3 := kc hbl c3
      go_wp2_with fail
      refine (smallV_c (t.kid k) 8 400 (by omega) (by omega) (by omega) (by omega) _ _ (inK hbl HN.out)).mono ?_
      rintro e w3 hret
      obtain ⟨r, rfl, _, _, hs, hb⟩ := hret
      have HS := Lib.hid hs
      clear hs
      by_cases hr : r < 0
      · go_wp2
        go_ret
        exact ⟨false, rfl, fun h => (by cases h), bT hbl hb⟩
      · have hr2 : 0 ≤ r := by omega
        go_wp2
        go_roundw
        case rel =>
          refine ⟨k + 1, by go_num, by omega, fun i hi => ?_, bT hbl hb⟩
          by_cases e : i = k
          · rw [e]; exact HS.out hr2
          · exact HU.out i (by omega)
        case measure => simp [intOf]; omega
    · go_wp2
      go_ret
      exact ⟨true, rfl, fun _ i hi => HU.out i (by omega), hbl⟩
end Go.Proofs.YtbgpipdbnjoeeaaDoor
