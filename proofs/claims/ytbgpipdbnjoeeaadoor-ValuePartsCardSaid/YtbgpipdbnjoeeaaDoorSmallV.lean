/-
  The contract of gavottelaw02's small over this seat's translation. Conditions: those that each theorem states.
-/
import Derived.Test.YtbgpipdbnjoeeaaDoorRightA
namespace Go.Proofs.YtbgpipdbnjoeeaaDoor
open Go.RowKit Go.ChangeShapes Go.WideShapes Go.ChangeAt Go.Deep
attribute [local go_sem ↓] Go.wp_at_zero Go.wp_at_succ

/-- Small enough to be looked at. -/
def VT.Sm : VT → Prop
  | .mk _ _ s len kids => s.size ≤ 1000 ∧ len ≤ 20 ∧ ∀ i (h : i < len), VT.Sm (kids ⟨i, h⟩)
theorem VT.Sm.mk' {t : VT} (h1 : t.s.size ≤ 1000) (h2 : t.len ≤ 20) (h3 : ∀ i, i < t.len → VT.Sm (t.kid i)) : VT.Sm t := by
  cases t with
  | mk k n s len kids => exact ⟨h1, h2, fun i hi => by have := h3 i hi; rwa [VT.kid_mk hi] at this⟩
theorem VT.Sm.out {t : VT} (h : VT.Sm t) : t.s.size ≤ 1000 ∧ t.len ≤ 20 ∧ ∀ i, i < t.len → VT.Sm (t.kid i) := by
  cases t with
  | mk k n s len kids =>
    obtain ⟨h1, h2, h3⟩ := h
    exact ⟨h1, h2, fun i (hi : i < len) => by rw [VT.kid_mk hi]; exact h3 i hi⟩
/-- What is left, if it is not too great. -/
def SmRet (room : Int) (t : VT) (w : World) (e : Ending) (w' : World) : Prop := ∃ r : Int, e = .returned (.int .i64 r) ∧ -1 ≤ r ∧ r ≤ room ∧ (0 ≤ r → t.Sm) ∧ Below w.heap.size w w'

set_option maxHeartbeats 2000000 in
theorem smallV_loop (t : VT) (deep room : Int) (hd0 : 0 < deep) (hd : deep ≤ 8) (hr0 : 1 ≤ room) (hr : room ≤ 400) (hs : t.s.size ≤ 1000) (hl20 : t.len ≤ 20)
    (ih : ∀ i, i < t.len → ∀ (deep room : Int), 0 ≤ deep → deep ≤ 8 → 0 ≤ room → room ≤ 400 → ∀ (sl : Value) (w : World), VT.In w (t.kid i) sl → Calls Tryd.prog 16 #[(t.kid i).val sl, .int .i64 deep, .int .i64 room] w (SmRet room (t.kid i) w))
    (sl : Value) (w : World) (hin : VT.In w t sl) :
    Calls Tryd.prog 16 #[t.val sl, .int .i64 deep, .int .i64 room] w (SmRet room t w) := by
  obtain ⟨_, _, hsz, hl, p, cap, rfl, hlc, hcap, hk⟩ := hin.out
  have HK := Lib.hid hk
  have HI := Lib.hid ih
  clear hk ih hin
  have hz : (deep == 0) = false := by simp; omega
  unfold VT.val
  have HB := Lib.hid (bA (Below.refl w.heap.size w) (.cells #[.int .i64 t.k, .int .i64 t.n, .string t.s, .slice p t.len cap] 24))
  have q3 : (w.alloc (.cells #[.int .i64 t.k, .int .i64 t.n, .string t.s, .slice p t.len cap] 24)).cell? ⟨w.heap.size, 3, none⟩ = some (.slice p t.len cap) := by go_simp
  go_enter Tryd.func16, Tryd.ntmps16
  go_wp2
  generalize w.alloc (.cells #[.int .i64 t.k, .int .i64 t.n, .string t.s, .slice p t.len cap] 24) = w0 at *
  go_loopw [2, 7] (fun vr vk wr => ∃ (k : Nat) (r : Int), vk = .int .i64 k ∧ vr = .int .i64 r ∧ k ≤ t.len ∧ -1 ≤ r ∧ r ≤ room - 1 ∧ (0 ≤ r → ∀ i, i < k → VT.Sm (t.kid i)) ∧ Below w0.heap.size w0 wr) (fun _ vk _ => t.len - (intOf vk).toNat)
  case atStart => exact ⟨0, room - 1, rfl, rfl, Nat.zero_le _, by omega, by omega, fun _ i h => by omega, Below.refl _ _⟩
  case round =>
    obtain ⟨k, r, rfl, rfl, hkl, hr1, hr2, hu, hbl⟩ := hrel
    have HU := Lib.hid hu
    clear hu
    replace q3 := kc hbl q3
    by_cases hgo : k < t.len ∧ 0 ≤ r
    · obtain ⟨hlt, hr3⟩ := hgo
      obtain ⟨b, o, rfl, kk⟩ := HK.out (by omega)
      obtain ⟨sl', ⟨c0, c1, c2, c3⟩, hkin⟩ := kk k hlt
      obtain ⟨p', cap', rfl⟩ := hkin.slice
      have HN := Lib.hid hkin
      have hc := HI.out k hlt (deep - 1) r (by omega) (by omega) hr3 (by omega)
      have HC := Lib.hid hc
      clear hkin hc kk
      have WB2 := bT HB.out hbl
      replace c0 := kc WB2 c0
      replace c1 := kc WB2 c1
      replace c2 := kc WB2 c2
      replace c3 := kc WB2 c3
      go_wp2_with fail
      refine (HC.out _ _ (inK WB2 HN.out)).mono ?_
      rintro e w3 hret
      obtain ⟨r', rfl, g1, g2, hg, hb⟩ := hret
      have HG := Lib.hid hg
      clear hg
      go_wp2
      go_roundw
      case rel => exact ⟨k + 1, r', by go_num, rfl, by omega, g1, by omega, fun h0 i hi => (if e : i = k then by rw [e]; exact HG.out h0 else HU.out hr3 i (by omega)), bT hbl hb⟩
      case measure => simp [intOf]; omega
    · by_cases hlt : k < t.len
      · have hr3 : ¬ 0 ≤ r := fun h => hgo ⟨hlt, h⟩
        clear hgo
        go_wp2
        go_ret
        exact ⟨r, rfl, hr1, by omega, fun h => by omega, bT HB.out hbl⟩
      · clear hgo
        go_wp2
        go_ret
        exact ⟨r, rfl, hr1, by omega, fun h => VT.Sm.mk' hs hl20 fun i hi => HU.out h i (by omega), bT HB.out hbl⟩

set_option maxHeartbeats 2000000 in
theorem smallV_c : ∀ (t : VT) (deep room : Int), 0 ≤ deep → deep ≤ 8 → 0 ≤ room → room ≤ 400 → ∀ (sl : Value) (w : World), VT.In w t sl →
    Calls Tryd.prog 16 #[t.val sl, .int .i64 deep, .int .i64 room] w (SmRet room t w) := by
  intro t
  induction t using VT.ind with
  | h t ih =>
  intro deep room hd0 hd hr0 hr sl w hin
  have HIN := Lib.hid hin
  have HI := Lib.hid ih
  obtain ⟨p, cap, rfl⟩ := hin.slice
  clear hin ih
  by_cases hdz : deep = 0
  · subst hdz
    unfold VT.val
    go_enter Tryd.func16, Tryd.ntmps16
    go_wp2
    go_ret
    exact ⟨-1, rfl, by omega, by omega, fun h => by omega, bA (Below.refl _ _) _⟩
  have hz : (deep == 0) = false := by simpa using hdz
  by_cases hr1 : room < 1
  · unfold VT.val
    go_enter Tryd.func16, Tryd.ntmps16
    go_wp2
    go_ret
    exact ⟨-1, rfl, by omega, by omega, fun h => by omega, bA (Below.refl _ _) _⟩
  by_cases hs : 1000 < t.s.size
  · unfold VT.val
    go_enter Tryd.func16, Tryd.ntmps16
    go_wp2
    go_ret
    exact ⟨-1, rfl, by omega, by omega, fun h => by omega, bA (Below.refl _ _) _⟩
  by_cases hl20 : 20 < t.len
  · unfold VT.val
    go_enter Tryd.func16, Tryd.ntmps16
    go_wp2
    go_ret
    exact ⟨-1, rfl, by omega, by omega, fun h => by omega, bA (Below.refl _ _) _⟩
  exact smallV_loop t deep room (by omega) hd (by omega) hr (by omega) (by omega) HI.out _ w HIN.out
end Go.Proofs.YtbgpipdbnjoeeaaDoor
