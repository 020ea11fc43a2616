/-
  The contract of the given package gavotteref01's Right over this seat's translation, where it reckons. Conditions: those that the theorem states.
-/
import Derived.Test.YtaicfgimaeojbaaDoorRefNa
namespace Go.Proofs.YtaicfgimaeojbaaDoor
open Go.RowKit
attribute [local go_sem ↓] Go.wp_at_zero Go.wp_at_succ

theorem sgn_one (g : Int) : (sgn g 1 == 0) = (g == 1) := by
  rw [Bool.eq_iff_iff]
  simp only [beq_iff_eq]
  unfold sgn
  (repeat' split) <;> omega

set_option maxHeartbeats 40000000 in
theorem rright_yes (n d : Int) (hn : In64 n) (hd : In64 d) (h : ¬ isNever n d) (hdp : 0 < d) (hnp : 0 ≤ n) (w : World) :
    Calls Tryd.prog 7 #[.agg #[.int .i64 n, .int .i64 d]] w fun e w' => e = .returned (.bool (rightB n d)) ∧ Below w.heap.size w w' := by
  have hrg := right_g n d h hdp hnp
  have Hrg := Lib.hid hrg
  have K := Lib.hid (rnever_no n d h)
  obtain ⟨hn1, hn2⟩ := hn
  obtain ⟨hd1, hd2⟩ := hd
  have Gn := Lib.hid (lt_i hn2)
  have Gd := Lib.hid (lt_i hd2)
  have Gg := Lib.hid (gcd_i (n := n) hdp hd2)
  clear h hrg
  go_enter Tryd.func7, Tryd.ntmps7
  go_wp2_with fail
  refine (K.out _).mono ?_
  rintro e w1 ⟨rfl, hb⟩
  have c0 := keepc hb (p := ⟨w.heap.size, 0, none⟩) (v := .int .i64 n) (by go_simp)
  have c1 := keepc hb (p := ⟨w.heap.size, 1, none⟩) (v := .int .i64 d) (by go_simp)
  have W1 := belowT (belowA (Below.refl _ w) _) hb
  clear hb
  go_wp2_with fail
  go_region_held3 (fun w' => w'.cell? ⟨w.heap.size, 0, none⟩ = some (.int .i64 n) ∧ w'.cell? ⟨w.heap.size, 1, none⟩ = some (.int .i64 d))
    (first | exact ⟨c0, c1⟩ | (go_split_ands; exact ⟨keepc hb (by assumption), keepc hb (by assumption)⟩) | (go_split_ands; exact ⟨keepc (belowA (Below.refl _ _) _) (by assumption), keepc (belowA (Below.refl _ _) _) (by assumption)⟩) | go_keep)
    (first
      | (go_at_call 17; refine (from_c _ (by omega) (by omega) _).mono ?_; rintro e w2 ⟨⟨v2, rfl, nv⟩, hb⟩)
      | (go_at_call 16; refine (ngcd_c _ _ n d _ ?_ ?_ Gn.out Gd.out).mono ?_; (focus (with_reducible (repeat (first | assumption | exact num_one _ | refine NumIs.drew ?_ | refine NumIs.alloc ?_ _ | refine NumIs.keep ?_ (by assumption))); done)); (focus (with_reducible (repeat (first | assumption | exact num_one _ | refine NumIs.drew ?_ | refine NumIs.alloc ?_ _ | refine NumIs.keep ?_ (by assumption))); done)); rintro e w2 ⟨⟨v2, rfl, nv⟩, hb⟩)
      | (go_at_call 18; refine (numcmp_c _ _ (Int.gcd n d) 1 _ ?_ ?_ Gg.out).mono ?_; (focus (with_reducible (repeat (first | assumption | exact num_one _ | refine NumIs.drew ?_ | refine NumIs.alloc ?_ _ | refine NumIs.keep ?_ (by assumption))); done)); (focus (with_reducible (repeat (first | assumption | exact num_one _ | refine NumIs.drew ?_ | refine NumIs.alloc ?_ _ | refine NumIs.keep ?_ (by assumption))); done)); rintro e w2 ⟨rfl, hb⟩))
  all_goals go_wp2
  all_goals go_ret
  all_goals exact ⟨ret_bool (by rw [Hrg.out, sgn_one]), (by repeat (first | with_reducible assumption | with_reducible exact Below.refl _ _ | with_reducible refine belowN ?_ _ | with_reducible refine Below.drew ?_ | with_reducible refine belowA ?_ _ | with_reducible refine belowT ?_ (by assumption)))⟩
end Go.Proofs.YtaicfgimaeojbaaDoor
