/-
  The contract of the given package gavotteref01's Cmp over this seat's translation, where it reckons. Conditions: those that each theorem states.
-/
import Derived.Test.YthdadpafankbfaaDoorMakesW
import Derived.Test.YthdadpafankbfaaDoorRefN
namespace Go.Proofs.YthdadpafankbfaaDoor
open Go.RowKit
attribute [local go_sem ↓] Go.wp_at_zero Go.wp_at_succ

set_option maxHeartbeats 40000000 in
theorem rcmp_pp1 (an ad bn bd : Int) (hne : (an == bn) = false) (a0 : 0 ≤ an) (a1 : an ≤ 9223372036854775807) (a2 : 0 ≤ ad) (a3 : ad ≤ 9223372036854775807) (b0 : 0 ≤ bn) (b1 : bn ≤ 9223372036854775807) (b2 : 0 ≤ bd) (b3 : bd ≤ 9223372036854775807) (hgp : an * bd < 10000 ^ 100)
    (kra : ∀ w : World, Calls Tryd.prog 24 #[.agg #[.int .i64 an, .int .i64 ad]] w fun e w' => e = .returned (.bool true) ∧ Below w.heap.size w w')
    (krb : ∀ w : World, Calls Tryd.prog 24 #[.agg #[.int .i64 bn, .int .i64 bd]] w fun e w' => e = .returned (.bool true) ∧ Below w.heap.size w w')
    (kna : ∀ w : World, Calls Tryd.prog 41 #[.agg #[.int .i64 an, .int .i64 ad]] w fun e w' => e = .returned (.bool false) ∧ Below w.heap.size w w')
    (knb : ∀ w : World, Calls Tryd.prog 41 #[.agg #[.int .i64 bn, .int .i64 bd]] w fun e w' => e = .returned (.bool false) ∧ Below w.heap.size w w') (w : World) :
    Calls Tryd.prog 25 #[.agg #[.int .i64 an, .int .i64 ad], .agg #[.int .i64 bn, .int .i64 bd]] w fun e w' => e = .returned (.int .i64 (sgn (an * bd) (bn * ad))) ∧ Below w.heap.size w w' := by
  have KRA := Lib.hid kra
  clear kra
  have KRB := Lib.hid krb
  clear krb
  have KNA := Lib.hid kna
  clear kna
  have KNB := Lib.hid knb
  clear knb
  have GP := Lib.hid hgp
  clear hgp
  go_enter Tryd.func25, Tryd.ntmps25
  go_wp2_with fail
  refine (KRA.out _).mono ?_
  rintro e w1 ⟨rfl, hb⟩
  have FA : At2 w.heap.size an ad w1 := At2.keep ⟨by go_simp, by go_simp⟩ hb
  have FB : At2 (w.heap.size + 1) bn bd w1 := At2.keep ⟨by go_simp, by go_simp⟩ hb
  have WB := belowT (belowA (belowA (Below.refl _ w) _) _) hb
  clear hb
  have FA2 := FA
  have FB2 := FB
  obtain ⟨c0, c1⟩ := FA2
  obtain ⟨c2, c3⟩ := FB2
  go_wp2_with fail
  refine (KRB.out _).mono ?_
  rintro e w2 ⟨rfl, hb⟩
  replace FA := FA.keep hb
  replace FB := FB.keep hb
  replace WB := belowT WB hb
  clear hb c0 c1 c2 c3
  have FA2 := FA
  have FB2 := FB
  obtain ⟨c0, c1⟩ := FA2
  obtain ⟨c2, c3⟩ := FB2
  go_wp2_with fail
  refine (KNA.out _).mono ?_
  rintro e w3 ⟨rfl, hb⟩
  replace FA := FA.keep hb
  replace FB := FB.keep hb
  replace WB := belowT WB hb
  clear hb c0 c1 c2 c3
  have FA2 := FA
  have FB2 := FB
  obtain ⟨c0, c1⟩ := FA2
  obtain ⟨c2, c3⟩ := FB2
  go_wp2_with fail
  refine (KNB.out _).mono ?_
  rintro e w4 ⟨rfl, hb⟩
  replace FA := FA.keep hb
  replace FB := FB.keep hb
  replace WB := belowT WB hb
  clear hb c0 c1 c2 c3
  have FA2 := FA
  have FB2 := FB
  obtain ⟨c0, c1⟩ := FA2
  obtain ⟨c2, c3⟩ := FB2
  go_wp2_with fail
  go_region_held3 (fun w' => w'.cell? ⟨w.heap.size, 0, none⟩ = some (.int .i64 an) ∧ w'.cell? ⟨w.heap.size, 1, none⟩ = some (.int .i64 ad) ∧ w'.cell? ⟨w.heap.size + 1, 0, none⟩ = some (.int .i64 bn) ∧ w'.cell? ⟨w.heap.size + 1, 1, none⟩ = some (.int .i64 bd))
    (first | exact ⟨c0, c1, c2, c3⟩ | (go_split_ands; exact ⟨keepc hb (by assumption), keepc hb (by assumption), keepc hb (by assumption), keepc hb (by assumption)⟩) | go_keep)
    (first
      | (go_at_call 42; refine (from_c _ (by omega) (by omega) _).mono ?_; rintro e w6 ⟨⟨v2, rfl, nv⟩, hb⟩)
      | (go_at_call 43; (first | (refine (nmul_c _ _ an bd _ ?_ ?_ (lt_b (lt_i a1)) (lt_b (lt_i b3))).mono ?_; (focus (with_reducible (repeat (first | assumption | exact num_one _ | refine NumIs.drew ?_ | refine NumIs.alloc ?_ _ | refine NumIs.keep ?_ (by assumption))); done)); (focus (with_reducible (repeat (first | assumption | exact num_one _ | refine NumIs.drew ?_ | refine NumIs.alloc ?_ _ | refine NumIs.keep ?_ (by assumption))); done))) | (refine (nmul_c _ _ bn ad _ ?_ ?_ (lt_b (lt_i b1)) (lt_b (lt_i a3))).mono ?_; (focus (with_reducible (repeat (first | assumption | exact num_one _ | refine NumIs.drew ?_ | refine NumIs.alloc ?_ _ | refine NumIs.keep ?_ (by assumption))); done)); (focus (with_reducible (repeat (first | assumption | exact num_one _ | refine NumIs.drew ?_ | refine NumIs.alloc ?_ _ | refine NumIs.keep ?_ (by assumption))); done)))); rintro e w6 ⟨⟨v2, rfl, nv, _⟩, hb⟩)
      | (go_at_call 47; refine (numcmp_c _ _ (an * bd) (bn * ad) _ ?_ ?_ GP.out).mono ?_; (focus (with_reducible (repeat (first | assumption | exact num_one _ | refine NumIs.drew ?_ | refine NumIs.alloc ?_ _ | refine NumIs.keep ?_ (by assumption))); done)); (focus (with_reducible (repeat (first | assumption | exact num_one _ | refine NumIs.drew ?_ | refine NumIs.alloc ?_ _ | refine NumIs.keep ?_ (by assumption))); done)); rintro e w6 ⟨rfl, hb⟩))
  all_goals go_wp2
  all_goals go_ret
  all_goals exact ⟨rfl, (by repeat (first | with_reducible assumption | with_reducible exact Below.refl _ _ | with_reducible refine belowN ?_ _ | with_reducible refine Below.drew ?_ | with_reducible refine belowA ?_ _ | with_reducible refine belowT ?_ (by assumption)))⟩

set_option maxHeartbeats 40000000 in
theorem rcmp_pp2 (an ad bd : Int) (hne : (ad == bd) = false) (a0 : 0 ≤ an) (a1 : an ≤ 9223372036854775807) (a2 : 0 ≤ ad) (a3 : ad ≤ 9223372036854775807) (b2 : 0 ≤ bd) (b3 : bd ≤ 9223372036854775807) (hgp : an * bd < 10000 ^ 100)
    (kra : ∀ w : World, Calls Tryd.prog 24 #[.agg #[.int .i64 an, .int .i64 ad]] w fun e w' => e = .returned (.bool true) ∧ Below w.heap.size w w')
    (krb : ∀ w : World, Calls Tryd.prog 24 #[.agg #[.int .i64 an, .int .i64 bd]] w fun e w' => e = .returned (.bool true) ∧ Below w.heap.size w w')
    (kna : ∀ w : World, Calls Tryd.prog 41 #[.agg #[.int .i64 an, .int .i64 ad]] w fun e w' => e = .returned (.bool false) ∧ Below w.heap.size w w')
    (knb : ∀ w : World, Calls Tryd.prog 41 #[.agg #[.int .i64 an, .int .i64 bd]] w fun e w' => e = .returned (.bool false) ∧ Below w.heap.size w w') (w : World) :
    Calls Tryd.prog 25 #[.agg #[.int .i64 an, .int .i64 ad], .agg #[.int .i64 an, .int .i64 bd]] w fun e w' => e = .returned (.int .i64 (sgn (an * bd) (an * ad))) ∧ Below w.heap.size w w' := by
  have KRA := Lib.hid kra
  clear kra
  have KRB := Lib.hid krb
  clear krb
  have KNA := Lib.hid kna
  clear kna
  have KNB := Lib.hid knb
  clear knb
  have GP := Lib.hid hgp
  clear hgp
  go_enter Tryd.func25, Tryd.ntmps25
  go_wp2_with fail
  refine (KRA.out _).mono ?_
  rintro e w1 ⟨rfl, hb⟩
  have FA : At2 w.heap.size an ad w1 := At2.keep ⟨by go_simp, by go_simp⟩ hb
  have FB : At2 (w.heap.size + 1) an bd w1 := At2.keep ⟨by go_simp, by go_simp⟩ hb
  have WB := belowT (belowA (belowA (Below.refl _ w) _) _) hb
  clear hb
  have FA2 := FA
  have FB2 := FB
  obtain ⟨c0, c1⟩ := FA2
  obtain ⟨c2, c3⟩ := FB2
  go_wp2_with fail
  refine (KRB.out _).mono ?_
  rintro e w2 ⟨rfl, hb⟩
  replace FA := FA.keep hb
  replace FB := FB.keep hb
  replace WB := belowT WB hb
  clear hb c0 c1 c2 c3
  have FA2 := FA
  have FB2 := FB
  obtain ⟨c0, c1⟩ := FA2
  obtain ⟨c2, c3⟩ := FB2
  go_wp2_with fail
  refine (KNA.out _).mono ?_
  rintro e w3 ⟨rfl, hb⟩
  replace FA := FA.keep hb
  replace FB := FB.keep hb
  replace WB := belowT WB hb
  clear hb c0 c1 c2 c3
  have FA2 := FA
  have FB2 := FB
  obtain ⟨c0, c1⟩ := FA2
  obtain ⟨c2, c3⟩ := FB2
  go_wp2_with fail
  refine (KNB.out _).mono ?_
  rintro e w4 ⟨rfl, hb⟩
  replace FA := FA.keep hb
  replace FB := FB.keep hb
  replace WB := belowT WB hb
  clear hb c0 c1 c2 c3
  have FA2 := FA
  have FB2 := FB
  obtain ⟨c0, c1⟩ := FA2
  obtain ⟨c2, c3⟩ := FB2
  go_wp2_with fail
  go_region_held3 (fun w' => w'.cell? ⟨w.heap.size, 0, none⟩ = some (.int .i64 an) ∧ w'.cell? ⟨w.heap.size, 1, none⟩ = some (.int .i64 ad) ∧ w'.cell? ⟨w.heap.size + 1, 0, none⟩ = some (.int .i64 an) ∧ w'.cell? ⟨w.heap.size + 1, 1, none⟩ = some (.int .i64 bd))
    (first | exact ⟨c0, c1, c2, c3⟩ | (go_split_ands; exact ⟨keepc hb (by assumption), keepc hb (by assumption), keepc hb (by assumption), keepc hb (by assumption)⟩) | go_keep)
    (first
      | (go_at_call 42; refine (from_c _ (by omega) (by omega) _).mono ?_; rintro e w6 ⟨⟨v2, rfl, nv⟩, hb⟩)
      | (go_at_call 43; (first | (refine (nmul_c _ _ an bd _ ?_ ?_ (lt_b (lt_i a1)) (lt_b (lt_i b3))).mono ?_; (focus (with_reducible (repeat (first | assumption | exact num_one _ | refine NumIs.drew ?_ | refine NumIs.alloc ?_ _ | refine NumIs.keep ?_ (by assumption))); done)); (focus (with_reducible (repeat (first | assumption | exact num_one _ | refine NumIs.drew ?_ | refine NumIs.alloc ?_ _ | refine NumIs.keep ?_ (by assumption))); done))) | (refine (nmul_c _ _ an ad _ ?_ ?_ (lt_b (lt_i a1)) (lt_b (lt_i a3))).mono ?_; (focus (with_reducible (repeat (first | assumption | exact num_one _ | refine NumIs.drew ?_ | refine NumIs.alloc ?_ _ | refine NumIs.keep ?_ (by assumption))); done)); (focus (with_reducible (repeat (first | assumption | exact num_one _ | refine NumIs.drew ?_ | refine NumIs.alloc ?_ _ | refine NumIs.keep ?_ (by assumption))); done)))); rintro e w6 ⟨⟨v2, rfl, nv, _⟩, hb⟩)
      | (go_at_call 47; refine (numcmp_c _ _ (an * bd) (an * ad) _ ?_ ?_ GP.out).mono ?_; (focus (with_reducible (repeat (first | assumption | exact num_one _ | refine NumIs.drew ?_ | refine NumIs.alloc ?_ _ | refine NumIs.keep ?_ (by assumption))); done)); (focus (with_reducible (repeat (first | assumption | exact num_one _ | refine NumIs.drew ?_ | refine NumIs.alloc ?_ _ | refine NumIs.keep ?_ (by assumption))); done)); rintro e w6 ⟨rfl, hb⟩))
  all_goals go_wp2
  all_goals go_ret
  all_goals exact ⟨rfl, (by repeat (first | with_reducible assumption | with_reducible exact Below.refl _ _ | with_reducible refine belowN ?_ _ | with_reducible refine Below.drew ?_ | with_reducible refine belowA ?_ _ | with_reducible refine belowT ?_ (by assumption)))⟩

end Go.Proofs.YthdadpafankbfaaDoor
