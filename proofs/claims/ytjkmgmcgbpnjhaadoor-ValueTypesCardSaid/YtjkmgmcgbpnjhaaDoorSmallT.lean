/-
  The contract of gavottelaw02's smallType over this seat's translation. Conditions: those that each theorem states.
-/
import Derived.Test.YtjkmgmcgbpnjhaaDoorTRightA
namespace Go.Proofs.YtjkmgmcgbpnjhaaDoor
open Go.RowKit Go.ChangeShapes Go.WideShapes Go.ChangeAt Go.Deep
attribute [local go_sem ↓] Go.wp_at_zero Go.wp_at_succ

/-- What is left, if it is not too great. -/
def SmRetT (room : Int) (w : World) (e : Ending) (w' : World) : Prop := ∃ r : Int, e = .returned (.int .i64 r) ∧ -1 ≤ r ∧ r ≤ room ∧ Below w.heap.size w w'

set_option maxHeartbeats 2000000 in
theorem smallT_loop (t : TT) (deep room : Int) (hd0 : 0 < deep) (hd : deep ≤ 8) (hr0 : 1 ≤ room) (hr : room ≤ 400) (hl20 : t.len ≤ 20)
    (ih : ∀ i, i < t.len → ∀ (deep room : Int), 0 ≤ deep → deep ≤ 8 → 0 ≤ room → room ≤ 400 → ∀ (sl : Value) (w : World), TT.In w (t.kid i) sl → Calls Tryd.prog 32 #[(t.kid i).val sl, .int .i64 deep, .int .i64 room] w (SmRetT room w))
    (sl : Value) (w : World) (hin : TT.In w t sl) :
    Calls Tryd.prog 32 #[t.val sl, .int .i64 deep, .int .i64 room] w (SmRetT room w) := by
  obtain ⟨_, hl, p, cap, rfl, hlc, hcap, hk⟩ := hin.out
  have HK := Lib.hid hk
  have HI := Lib.hid ih
  clear hk ih hin
  have hz : (deep == 0) = false := by simp; omega
  unfold TT.val
  have HB := Lib.hid (bA (Below.refl w.heap.size w) (.cells #[.int .i64 t.k, .slice p t.len cap] 47))
  have q3 : (w.alloc (.cells #[.int .i64 t.k, .slice p t.len cap] 47)).cell? ⟨w.heap.size, 1, none⟩ = some (.slice p t.len cap) := by go_simp
  go_enter Tryd.func32, Tryd.ntmps32
  go_wp2
  generalize w.alloc (.cells #[.int .i64 t.k, .slice p t.len cap] 47) = w0 at *
  go_loopw [2, 7] (fun vr vk wr => ∃ (k : Nat) (r : Int), vk = .int .i64 k ∧ vr = .int .i64 r ∧ k ≤ t.len ∧ -1 ≤ r ∧ r ≤ room - 1 ∧ Below w0.heap.size w0 wr) (fun _ vk _ => t.len - (intOf vk).toNat)
  case atStart => exact ⟨0, room - 1, rfl, rfl, Nat.zero_le _, by omega, by omega, Below.refl _ _⟩
  case round =>
    obtain ⟨k, r, rfl, rfl, hkl, hr1, hr2, hbl⟩ := hrel
    have _h0 := hkl
    replace q3 := kc hbl q3
    by_cases hgo : k < t.len ∧ 0 ≤ r
    · obtain ⟨hlt, hr3⟩ := hgo
      obtain ⟨b, o, rfl, kk⟩ := HK.out (by omega)
      obtain ⟨sl', ⟨c0, c3⟩, hkin⟩ := kk k hlt
      obtain ⟨p', cap', rfl⟩ := hkin.slice
      have HN := Lib.hid hkin
      have hc := HI.out k hlt (deep - 1) r (by omega) (by omega) hr3 (by omega)
      have HC := Lib.hid hc
      clear hkin hc kk
      have WB2 := bT HB.out hbl
      replace c0 := kc WB2 c0
      replace c3 := kc WB2 c3
      go_wp2_with fail
      refine (HC.out _ _ (inT WB2 HN.out)).mono ?_
      rintro e w3 hret
      obtain ⟨r', rfl, g1, g2, hb⟩ := hret
      have _h1 := g1
      go_wp2
      go_roundw
      case rel => exact ⟨k + 1, r', by go_num, rfl, by omega, g1, by omega, bT hbl hb⟩
      case measure => simp [intOf]; omega
    · by_cases hlt : k < t.len
      · have hr3 : ¬ 0 ≤ r := fun h => hgo ⟨hlt, h⟩
        clear hgo
        go_wp2
        go_ret
        exact ⟨r, rfl, hr1, by omega, bT HB.out hbl⟩
      · clear hgo
        go_wp2
        go_ret
        exact ⟨r, rfl, hr1, by omega, bT HB.out hbl⟩

set_option maxHeartbeats 2000000 in
theorem smallT_c : ∀ (t : TT) (deep room : Int), 0 ≤ deep → deep ≤ 8 → 0 ≤ room → room ≤ 400 → ∀ (sl : Value) (w : World), TT.In w t sl →
    Calls Tryd.prog 32 #[t.val sl, .int .i64 deep, .int .i64 room] w (SmRetT room w) := by
  intro t
  induction t using TT.ind with
  | h t ih =>
  intro deep room hd0 hd hr0 hr sl w hin
  have HIN := Lib.hid hin
  have HI := Lib.hid ih
  obtain ⟨p, cap, rfl⟩ := hin.slice
  clear hin ih
  by_cases hdz : deep = 0
  · subst hdz
    unfold TT.val
    go_enter Tryd.func32, Tryd.ntmps32
    go_wp2
    go_ret
    exact ⟨-1, rfl, by omega, by omega, bA (Below.refl _ _) _⟩
  have hz : (deep == 0) = false := by simpa using hdz
  by_cases hr1 : room < 1
  · unfold TT.val
    go_enter Tryd.func32, Tryd.ntmps32
    go_wp2
    go_ret
    exact ⟨-1, rfl, by omega, by omega, bA (Below.refl _ _) _⟩
  by_cases hl20 : 20 < t.len
  · unfold TT.val
    go_enter Tryd.func32, Tryd.ntmps32
    go_wp2
    go_ret
    exact ⟨-1, rfl, by omega, by omega, bA (Below.refl _ _) _⟩
  exact smallT_loop t deep room (by omega) hd (by omega) hr (by omega) HI.out _ w HIN.out
end Go.Proofs.YtjkmgmcgbpnjhaaDoor
