/-
  The law StampAsks over this seat's translation, from what the program's functions answer. Conditions: those that each theorem states.
-/
import Derived.Test.YtmkclkppolfpnaaDoorStVals
import Derived.Test.YtmkclkppolfpnaaDoorMH
import Derived.Test.YtmkclkppolfpnaaDoorMG
namespace Go.Proofs.YtmkclkppolfpnaaDoor
open Go.RowKit

/-- What a function answers, in every world behind w. -/
abbrev Ans (w : World) (f : FuncId) (args : Array Value) (v : Value) : Prop := ∀ W : World, Below w.heap.size w W → Calls Tryd.prog f args W fun e w' => e = .returned v ∧ Below W.heap.size W w'

set_option maxHeartbeats 16000000 in
set_option maxRecDepth 100000 in
theorem asks_w (an ad ac bn bd bc : Int) (ha : In3 an ad ac) (hb : In3 bn bd bc) (w : World)
    (k0 : Ans w 10 #[] (.bool true))
    (k1 : Ans w 12 #[stV an ad ac] (.bool (sRight an ad ac)))
    (k2 : Ans w 8 #[stV an ad ac, stV bn bd bc] (.int .i64 (sCmp an ad ac bn bd bc)))
    (k3 : Ans w 16 #[stV an ad ac] (.string (sText an ad ac))) :
    Calls Tryd.prog 4 #[stV an ad ac, stV bn bd bc] w fun e w' => e = .returned (.bool true) ∧ Below w.heap.size w w' := by
  have mixed : Tryd.prog.follows .mixedOrders = true := by kernel_rfl
  have K0 := Lib.hid k0
  have K1 := Lib.hid k1
  have K2 := Lib.hid k2
  have K3 := Lib.hid k3
  have R1 := Lib.hid (r6right_c an ad ac ha)
  have R2 := Lib.hid (r6cmp_c an ad ac bn bd bc ha hb)
  have R3 := Lib.hid (r6text_c an ad ac ha)
  clear k0 k1 k2 k3 ha hb
  generalize sRight an ad ac = r1 at *
  generalize sCmp an ad ac bn bd bc = r2 at *
  generalize sText an ad ac = r3 at *
  have h1 : (r1 == r1) = true := by simp
  have h2 : (r2 == r2) = true := by simp
  go_enter Tryd.func4, Tryd.ntmps4
  go_wp2_with fail
  go_region_held3 (fun w' => w'.cell? ⟨w.heap.size, 0, none⟩ = some (.int .i64 an) ∧ w'.cell? ⟨w.heap.size, 1, none⟩ = some (.int .i64 ad) ∧ w'.cell? ⟨w.heap.size, 2, none⟩ = some (.int .i64 ac) ∧ w'.cell? ⟨w.heap.size + 1, 0, none⟩ = some (.int .i64 bn) ∧ w'.cell? ⟨w.heap.size + 1, 1, none⟩ = some (.int .i64 bd) ∧ w'.cell? ⟨w.heap.size + 1, 2, none⟩ = some (.int .i64 bc) ∧ Below w.heap.size w w')
    (first | (go_split_ands; with_reducible exact ⟨keepc hb (by assumption), keepc hb (by assumption), keepc hb (by assumption), keepc hb (by assumption), keepc hb (by assumption), keepc hb (by assumption), belowT (by assumption) hb⟩) | exact ⟨by go_simp, by go_simp, by go_simp, by go_simp, by go_simp, by go_simp, Below.drew (belowA (belowA (Below.refl _ w) _) _)⟩ | go_keep)
    (first
      | (go_at_call 10; refine (K0.out _ (by first | with_reducible assumption | (go_split_ands; with_reducible assumption))).mono ?_; rintro e w6 ⟨rfl, hb⟩)
      | (go_at_call 9; refine (of_c _ _ _ _).mono ?_; rintro e w6 ⟨rfl, hb⟩)
      | (go_at_call 12; refine (K1.out _ (by first | with_reducible assumption | (go_split_ands; with_reducible assumption))).mono ?_; rintro e w6 ⟨rfl, hb⟩)
      | (go_at_call 14; refine (R1.out _).mono ?_; rintro e w6 ⟨rfl, hb⟩)
      | (go_at_call 8; refine (K2.out _ (by first | with_reducible assumption | (go_split_ands; with_reducible assumption))).mono ?_; rintro e w6 ⟨rfl, hb⟩)
      | (go_at_call 15; refine (R2.out _).mono ?_; rintro e w6 ⟨rfl, hb⟩)
      | (go_at_call 16; refine (K3.out _ (by first | with_reducible assumption | (go_split_ands; with_reducible assumption))).mono ?_; rintro e w6 ⟨rfl, hb⟩)
      | (go_at_call 17; refine (R3.out _).mono ?_; rintro e w6 ⟨rfl, hb⟩))
  all_goals go_wp2
  all_goals go_ret
  all_goals exact ⟨ret_bool (by simp), (by repeat (first | with_reducible assumption | with_reducible exact Below.refl _ _ | with_reducible refine belowN ?_ _ | with_reducible refine Below.drew ?_ | with_reducible refine belowA ?_ _ | with_reducible refine belowT ?_ (by assumption)))⟩
end Go.Proofs.YtmkclkppolfpnaaDoor
