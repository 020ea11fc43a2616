/-
  The document's examples of layer 6 (awake) over this seat's translation. Condition: the library's table lies.
-/
import Derived.Test.YtmkclkppolfpnaaDoorStpC
import Derived.Test.YtmkclkppolfpnaaDoorStpD
namespace Go.Proofs.YtmkclkppolfpnaaDoor
open Go.RowKit Tx

theorem aw1 : sAfter 1 2 3 0 1 = ((1, 2, 4), 0) := by decide +kernel
theorem aw2 : sAfter 1 2 3 1 2 = ((1, 1, 0), 0) := by decide +kernel
theorem aw3 : sText 1 2 4 = ⟨#[49, 47, 50, 43, 52]⟩ := by
  unfold sText
  rw [if_pos (by decide +kernel)]
  unfold stL textL Lib.decDigits
  rfl
theorem aw4 : sText 1 1 0 = ⟨#[49]⟩ := by
  unfold sText
  rw [if_pos (by decide +kernel)]
  unfold stL textL Lib.decDigits
  rfl
theorem aw5 : decide (sCmp 1 2 3 1 2 4 < 0) = true := by decide +kernel
theorem aw6 : decide (sCmp 1 2 4 1 1 0 < 0) = true := by decide +kernel

/-- A stamp in its box. -/
abbrev InB (W : World) (b : Nat) (n d c : Int) : Prop := W.heap[b]? = some (.cells #[.int .i64 n, .int .i64 d, .int .i64 c] 27 (0, 0))

set_option maxHeartbeats 8000000 in
set_option maxRecDepth 100000 in
theorem awake_c (w : World) (he : Env w) :
    Calls Tryd.prog 10 #[] w fun e w' => e = .returned (.bool true) ∧ Below w.heap.size w w' := by
  have K1 := pafter_c 1 2 3 0 1 ⟨by decide, by decide, by decide⟩ ⟨by decide, by decide⟩
  have K2 := pafter_c 1 2 3 1 2 ⟨by decide, by decide, by decide⟩ ⟨by decide, by decide⟩
  have K3 := ptext_c 1 2 4 ⟨by decide, by decide, by decide⟩
  have K4 := ptext_c 1 1 0 ⟨by decide, by decide, by decide⟩
  have K5 := pless_c 1 2 3 1 2 4 ⟨by decide, by decide, by decide⟩ ⟨by decide, by decide, by decide⟩
  have K6 := pless_c 1 2 4 1 1 0 ⟨by decide, by decide, by decide⟩ ⟨by decide, by decide, by decide⟩
  rw [aw1] at K1
  rw [aw2] at K2
  rw [aw3] at K3
  rw [aw4] at K4
  rw [aw5] at K5
  rw [aw6] at K6
  dsimp only [afV, stV] at K1 K2 K3 K4 K5 K6
  replace K1 := Lib.hid K1
  replace K2 := Lib.hid K2
  replace K3 := Lib.hid K3
  replace K4 := Lib.hid K4
  replace K5 := Lib.hid K5
  replace K6 := Lib.hid K6
  have HE := Lib.hid he
  have HS := Lib.hid (show InB (w.alloc (.cells #[.int .i64 1, .int .i64 2, .int .i64 3] 27)) w.heap.size 1 2 3 from World.alloc_heap_new w _)
  have HB := Lib.hid (belowA (Below.refl _ w) (.cells #[.int .i64 1, .int .i64 2, .int .i64 3] 27))
  clear he
  go_enter Tryd.func10, Tryd.ntmps10
  go_wp2_with fail
  refine (K1.out _).mono ?_
  rintro e w1 ⟨rfl, hb⟩
  replace HS := Lib.hid (kbT (kbT HS.out hb) (belowA (Below.refl _ w1) (.cells #[.int .i64 1, .int .i64 2, .int .i64 4] 27)))
  replace HB := Lib.hid (belowT (belowT HB.out hb) (belowA (Below.refl _ w1) (.cells #[.int .i64 1, .int .i64 2, .int .i64 4] 27)))
  have HA := Lib.hid (show InB (w1.alloc (.cells #[.int .i64 1, .int .i64 2, .int .i64 4] 27)) w1.heap.size 1 2 4 from World.alloc_heap_new w1 _)
  clear hb
  obtain ⟨s0, s1, s2⟩ := cells3 HS.out (Below.refl _ _)
  go_wp2_with fail
  clear s0 s1 s2
  refine (K2.out _).mono ?_
  rintro e w2 ⟨rfl, hb⟩
  have hba := belowA (Below.refl _ w2) (.cells #[.int .i64 1, .int .i64 1, .int .i64 0] 27)
  replace HS := Lib.hid (kbT (kbT HS.out hb) hba)
  replace HA := Lib.hid (kbT (kbT HA.out hb) hba)
  replace HB := Lib.hid (belowT (belowT HB.out hb) hba)
  have HZ := Lib.hid (show InB (w2.alloc (.cells #[.int .i64 1, .int .i64 1, .int .i64 0] 27)) w2.heap.size 1 1 0 from World.alloc_heap_new w2 _)
  clear hb hba
  obtain ⟨s0, s1, s2⟩ := cells3 HS.out (Below.refl _ _)
  obtain ⟨a0, a1, a2⟩ := cells3 HA.out (Below.refl _ _)
  go_wp2_with fail
  clear s0 s1 s2 a0 a1 a2
  refine (K3.out _ (HE.out.keep HB.out)).mono ?_
  rintro e w3 ⟨rfl, hb⟩
  replace HS := Lib.hid (kbT HS.out hb)
  replace HA := Lib.hid (kbT HA.out hb)
  replace HZ := Lib.hid (kbT HZ.out hb)
  replace HB := Lib.hid (belowT HB.out hb)
  clear hb
  obtain ⟨z0, z1, z2⟩ := cells3 HZ.out (Below.refl _ _)
  go_wp2_with fail
  clear z0 z1 z2
  refine (K4.out _ (HE.out.keep HB.out)).mono ?_
  rintro e w4 ⟨rfl, hb⟩
  replace HS := Lib.hid (kbT HS.out hb)
  replace HA := Lib.hid (kbT HA.out hb)
  replace HZ := Lib.hid (kbT HZ.out hb)
  replace HB := Lib.hid (belowT HB.out hb)
  clear hb
  obtain ⟨s0, s1, s2⟩ := cells3 HS.out (Below.refl _ _)
  obtain ⟨a0, a1, a2⟩ := cells3 HA.out (Below.refl _ _)
  go_wp2_with fail
  clear s0 s1 s2 a0 a1 a2
  refine (K5.out _).mono ?_
  rintro e w5 ⟨rfl, hb⟩
  replace HA := Lib.hid (kbT HA.out hb)
  replace HZ := Lib.hid (kbT HZ.out hb)
  replace HB := Lib.hid (belowT HB.out hb)
  clear hb
  obtain ⟨a0, a1, a2⟩ := cells3 HA.out (Below.refl _ _)
  obtain ⟨z0, z1, z2⟩ := cells3 HZ.out (Below.refl _ _)
  go_wp2_with fail
  clear z0 z1 z2 a0 a1 a2
  refine (K6.out _).mono ?_
  rintro e w6 ⟨rfl, hb⟩
  replace HB := Lib.hid (belowT HB.out hb)
  clear hb
  go_wp2
  go_ret
  exact ⟨rfl, HB.out⟩
end Go.Proofs.YtmkclkppolfpnaaDoor
