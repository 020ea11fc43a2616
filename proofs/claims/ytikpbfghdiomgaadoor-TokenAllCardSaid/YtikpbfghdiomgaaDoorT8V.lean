/-
  gavottelaw08's awake over this seat's translation: the document's example. Conditions: those that each theorem states.
-/
import Derived.Test.YtikpbfghdiomgaaDoorT8U
import Derived.Test.YtikpbfghdiomgaaDoorT8B
namespace Go.Proofs.YtikpbfghdiomgaaDoor
open Go.RowKit Go.Lib Tk
attribute [local go_sem] Oper.semAt_some

theorem tkC : TkC := ⟨fun s _ w he => pscan_c s w he, fun s h w => rscan_c s h w⟩
/-- The words of the document's example. -/
def exW : List Tk.W := [⟨0, [120], 0, 0⟩, ⟨3, [60, 61], 0, 1⟩, ⟨1, [], 1, 3⟩, ⟨4, [], 0, 7⟩]
theorem ex_scan : Tk.scan (bs ⟨#[120, 60, 61, 49, 32, 35, 121]⟩) = (exW, 0, 0) := by decide +kernel
abbrev exRow : Array Value := #[.int .i64 0, .string ⟨#[120]⟩, .int .i64 0, .int .i64 0, .int .i64 3, .string ⟨#[60, 61]⟩, .int .i64 0, .int .i64 1, .int .i64 1, .string ⟨#[]⟩, .int .i64 1, .int .i64 3, .int .i64 4, .string ⟨#[]⟩, .int .i64 0, .int .i64 7]
theorem ex_flat (W : World) : FlatW (W.alloc (.cells exRow 41)) (some ⟨W.heap.size, 0, none⟩) exW := by
  have hlit := World.ownsRow_lit (base := 0) (e := 41) (size := 4) W exRow 4 (by omega) (by unfold maxLen; omega) rfl
  refine .inr ⟨W.heap.size, 0, rfl, fun j u hu => ?_⟩
  have := hlit.cells (g := W.heap.size) (by simp [Value.ownBlock]) j u hu
  rw [add8] at this
  exact this

set_option maxHeartbeats 4000000 in
set_option maxRecDepth 100000 in
theorem awake8_c : AwakeC := by
  intro w he
  have mixed : Tryd.prog.follows .mixedOrders = true := by kernel_rfl
  have KS := Lib.hid (tkC.scan ⟨#[120, 60, 61, 49, 32, 35, 121]⟩ (by decide) w he)
  unfold ScP at KS
  rw [ex_scan] at KS
  obtain ⟨L, hL⟩ : ∃ L, exW = L := ⟨_, rfl⟩
  have HL := Lib.hid (And.intro hL (show L.length ≤ 1000000 from by rw [← hL]; decide))
  rw [hL] at KS
  clear hL he
  go_enter Tryd.func7, Tryd.ntmps7
  go_wp2_with fail
  refine KS.out.mono ?_
  rintro e w2 ⟨⟨v, rfl, hr⟩, hb2⟩
  obtain ⟨p, c, rfl, hf⟩ := rowW_form hr
  have HF := Lib.hid hf
  have HB2 := Lib.hid hb2
  clear hr hf hb2
  go_wp2_with fail
  refine (plain8_c L p c w2 HF.out HL.out.2).mono ?_
  rintro e w4 ⟨v, rfl, hr, hb4⟩
  obtain ⟨t, f, rfl, hf⟩ := rowW_form hr
  have hba := (Below.refl w4.heap.size w4).alloc (Nat.le_refl _) (.cells exRow 41)
  have KQ := rsame8_c L exW t (some ⟨w4.heap.size, 0, none⟩) f 4 _ HL.out.2 (hf.keep hba) (ex_flat w4)
  rw [show exW.length = 4 from rfl, show decide (L = exW) = true from decide_eq_true HL.out.1.symm] at KQ
  have KQ2 := Lib.hid KQ
  have HB4 := Lib.hid (belowT8 (belowT8 HB2.out hb4) hba)
  clear hr hf hb4 hba KQ
  go_wp2_with fail
  refine KQ2.out.mono ?_
  rintro e w5 ⟨rfl, hb5⟩
  have HB5 := Lib.hid (belowT8 HB4.out hb5)
  clear hb5
  go_wp2
  go_ret
  exact ⟨rfl, HB5.out⟩
end Go.Proofs.YtikpbfghdiomgaaDoor
