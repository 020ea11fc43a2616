/-
  The contract of the law ValueNames over this seat's translation: whatever text it is handed, it answers true. Conditions: the text is no longer than a text can be; the library's table is laid.
-/
import Derived.Test.YtjkmgmcgbpnjhaaDoorAwake
namespace Go.Proofs.YtjkmgmcgbpnjhaaDoor
open Go.RowKit Go.ChangeShapes Go.WideShapes Go.ChangeAt Go.Deep
attribute [local go_sem ↓] Go.wp_at_zero Go.wp_at_succ

set_option maxHeartbeats 1000000 in
theorem names_c (s : ByteArray) (hs : s.size ≤ 9223372036854775807) (w : World) (he : Tab w) :
    Calls Tryd.prog 10 #[.string s] w fun e w' => e = .returned (.bool true) ∧ Below w.heap.size w w' := by
  have HA := Lib.hid (awake_c w he)
  have K1 := Lib.hid (name_c s hs)
  have K2 := Lib.hid (rname_c s hs)
  clear he
  generalize nameB s = b at *
  go_enter Tryd.func10, Tryd.ntmps10
  go_wp2_with fail
  refine HA.out.mono ?_
  rintro e w1 ⟨rfl, hb⟩
  go_wp2_with (first
    | (go_at_call 40; refine (K1.out _).mono ?_; rintro e w2 ⟨rfl, rfl⟩)
    | (go_at_call 41; refine (K2.out _).mono ?_; rintro e w2 ⟨rfl, rfl⟩))
  go_ret
  exact ⟨rbool (by simp), hb⟩
end Go.Proofs.YtjkmgmcgbpnjhaaDoor
