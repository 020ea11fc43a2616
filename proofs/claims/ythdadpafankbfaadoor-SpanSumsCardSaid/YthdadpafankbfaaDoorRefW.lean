/-
  The contract of the given package gavotteref01's Sub over this seat's translation, where it reckons. Conditions: those that each theorem states.
-/
import Derived.Test.YthdadpafankbfaaDoorRefV
import Derived.Test.YthdadpafankbfaaDoorSpanO
namespace Go.Proofs.YthdadpafankbfaaDoor
open Go.RowKit
attribute [local go_sem ↓] Go.wp_at_zero Go.wp_at_succ

set_option maxHeartbeats 40000000 in
set_option maxRecDepth 100000 in
theorem rsub_pp (an ad bn bd : Int) (a0 : 0 ≤ an) (a1 : an ≤ 9223372036854775807) (a2 : 0 ≤ ad) (a3 : ad ≤ 9223372036854775807) (b0 : 0 ≤ bn) (b1 : bn ≤ 9223372036854775807) (b2 : 0 ≤ bd) (b3 : bd ≤ 9223372036854775807) (hg1 : an * bd < 10000 ^ 300) (hg3 : bn * ad ≤ an * bd) (hg4 : (an * bd - bn * ad) < 10000 ^ 20 ∧ 0 < ad * bd ∧ ad * bd < 10000 ^ 20) (tn td te : Int) (hT : madeS (an * bd - bn * ad) (ad * bd) = (tn, td, te)) (c : Int) (hc : ¬ c < 0)
    (k0 : ∀ w : World, Calls Tryd.prog 24 #[.agg #[.int .i64 an, .int .i64 ad]] w fun e w' => e = .returned (.bool true) ∧ Below w.heap.size w w')
    (k1 : ∀ w : World, Calls Tryd.prog 24 #[.agg #[.int .i64 bn, .int .i64 bd]] w fun e w' => e = .returned (.bool true) ∧ Below w.heap.size w w')
    (k2 : ∀ w : World, Calls Tryd.prog 41 #[.agg #[.int .i64 bn, .int .i64 bd]] w fun e w' => e = .returned (.bool false) ∧ Below w.heap.size w w')
    (k3 : ∀ w : World, Calls Tryd.prog 25 #[.agg #[.int .i64 an, .int .i64 ad], .agg #[.int .i64 bn, .int .i64 bd]] w fun e w' => e = .returned (.int .i64 c) ∧ Below w.heap.size w w')
    (k4 : ∀ w : World, Calls Tryd.prog 41 #[.agg #[.int .i64 an, .int .i64 ad]] w fun e w' => e = .returned (.bool false) ∧ Below w.heap.size w w') (w : World) :
    Calls Tryd.prog 23 #[.agg #[.int .i64 an, .int .i64 ad], .agg #[.int .i64 bn, .int .i64 bd]] w fun e w' => e = .returned (timeV (tn, td, te)) ∧ Below w.heap.size w w' := by
  have K0 := Lib.hid k0
  clear k0
  have K1 := Lib.hid k1
  clear k1
  have K2 := Lib.hid k2
  clear k2
  have K3 := Lib.hid k3
  clear k3
  have K4 := Lib.hid k4
  clear k4
  have G1 := Lib.hid hg1
  have G3 := Lib.hid hg3
  have G4 := Lib.hid hg4
  have HT := Lib.hid hT
  clear hg1 hg3 hg4 hT
  go_enter Tryd.func23, Tryd.ntmps23
  go_wp2_with fail
  refine (K0.out _).mono ?_
  rintro e w1 ⟨rfl, hb⟩
  have FA : At2 w.heap.size an ad w1 := At2.keep ⟨by go_simp, by go_simp⟩ hb
  have FB : At2 (w.heap.size + 1) bn bd w1 := At2.keep ⟨by go_simp, by go_simp⟩ hb
  have Z : ZT (w.heap.size + 1 + 1) w1 := ZT.keep ⟨by go_simp, by go_simp, by go_simp, by go_simp⟩ hb
  have WB := box3 hb
  clear hb
  have FA2 := FA
  have FB2 := FB
  have Z2 := Z
  obtain ⟨c0, c1⟩ := FA2
  obtain ⟨c2, c3⟩ := FB2
  obtain ⟨z0, z1, z2, z3⟩ := Z2
  go_wp2_with fail
  refine (K1.out _).mono ?_
  rintro e w2 ⟨rfl, hb⟩
  replace FA := FA.keep hb
  replace FB := FB.keep hb
  replace Z := Z.keep hb
  replace WB := belowT WB hb
  clear hb c0 c1 c2 c3 z0 z1 z2 z3
  have FA2 := FA
  have FB2 := FB
  have Z2 := Z
  obtain ⟨c0, c1⟩ := FA2
  obtain ⟨c2, c3⟩ := FB2
  obtain ⟨z0, z1, z2, z3⟩ := Z2
  go_wp2_with fail
  refine (K2.out _).mono ?_
  rintro e w3 ⟨rfl, hb⟩
  replace FA := FA.keep hb
  replace FB := FB.keep hb
  replace Z := Z.keep hb
  replace WB := belowT WB hb
  clear hb c0 c1 c2 c3 z0 z1 z2 z3
  have FA2 := FA
  have FB2 := FB
  have Z2 := Z
  obtain ⟨c0, c1⟩ := FA2
  obtain ⟨c2, c3⟩ := FB2
  obtain ⟨z0, z1, z2, z3⟩ := Z2
  go_wp2_with fail
  refine (K3.out _).mono ?_
  rintro e w4 ⟨rfl, hb⟩
  replace FA := FA.keep hb
  replace FB := FB.keep hb
  replace Z := Z.keep hb
  replace WB := belowT WB hb
  clear hb c0 c1 c2 c3 z0 z1 z2 z3
  have FA2 := FA
  have FB2 := FB
  have Z2 := Z
  obtain ⟨c0, c1⟩ := FA2
  obtain ⟨c2, c3⟩ := FB2
  obtain ⟨z0, z1, z2, z3⟩ := Z2
  go_wp2_with fail
  refine (K4.out _).mono ?_
  rintro e w5 ⟨rfl, hb⟩
  replace FA := FA.keep hb
  replace FB := FB.keep hb
  replace Z := Z.keep hb
  replace WB := belowT WB hb
  clear hb c0 c1 c2 c3 z0 z1 z2 z3
  have FA2 := FA
  have FB2 := FB
  have Z2 := Z
  obtain ⟨c0, c1⟩ := FA2
  obtain ⟨c2, c3⟩ := FB2
  obtain ⟨z0, z1, z2, z3⟩ := Z2
  go_wp2_with fail
  go_region_held3 (fun w' => w'.cell? ⟨w.heap.size, 0, none⟩ = some (.int .i64 an) ∧ w'.cell? ⟨w.heap.size, 1, none⟩ = some (.int .i64 ad) ∧ w'.cell? ⟨w.heap.size + 1, 0, none⟩ = some (.int .i64 bn) ∧ w'.cell? ⟨w.heap.size + 1, 1, none⟩ = some (.int .i64 bd) ∧ w'.cell? ⟨w.heap.size + 1 + 1, 0, none⟩ = some (.int .i64 0) ∧ w'.cell? ⟨w.heap.size + 1 + 1, 1, none⟩ = some (.int .i64 0) ∧ w'.frozen? ⟨w.heap.size + 1 + 1, 0, none⟩ = false ∧ w'.frozen? ⟨w.heap.size + 1 + 1, 1, none⟩ = false ∧ Below w.heap.size w w')
    (first | exact ⟨c0, c1, c2, c3, z0, z1, z2, z3, Below.drew WB⟩ | (go_split_ands; exact ⟨keepc hb (by assumption), keepc hb (by assumption), keepc hb (by assumption), keepc hb (by assumption), keepc hb (by assumption), keepc hb (by assumption), keepf hb (by assumption) (by assumption), keepf hb (by assumption) (by assumption), belowT (by assumption) hb⟩) | go_keep)
    (first
      | (go_at_call 42; refine (from_c _ (by omega) (by omega) _).mono ?_; rintro e w8 ⟨⟨v2, rfl, nv⟩, hb⟩)
      | (go_at_call 43; (first | (refine (nmul_c _ _ an bd _ ?_ ?_ (lt_b (lt_i a1)) (lt_b (lt_i b3))).mono ?_; (focus (with_reducible (repeat (first | assumption | refine NumIs.drew ?_ | refine NumIs.alloc ?_ _ | refine NumIs.keep ?_ (by assumption))); done)); (focus (with_reducible (repeat (first | assumption | refine NumIs.drew ?_ | refine NumIs.alloc ?_ _ | refine NumIs.keep ?_ (by assumption))); done))) | (refine (nmul_c _ _ bn ad _ ?_ ?_ (lt_b (lt_i b1)) (lt_b (lt_i a3))).mono ?_; (focus (with_reducible (repeat (first | assumption | refine NumIs.drew ?_ | refine NumIs.alloc ?_ _ | refine NumIs.keep ?_ (by assumption))); done)); (focus (with_reducible (repeat (first | assumption | refine NumIs.drew ?_ | refine NumIs.alloc ?_ _ | refine NumIs.keep ?_ (by assumption))); done)))); rintro e w8 ⟨⟨v2, rfl, nv, _⟩, hb⟩)
      | (go_at_call 45; refine (nsub_c _ _ (an * bd) (bn * ad) _ ?_ ?_ G1.out G3.out).mono ?_; (focus (with_reducible (repeat (first | assumption | refine NumIs.drew ?_ | refine NumIs.alloc ?_ _ | refine NumIs.keep ?_ (by assumption))); done)); (focus (with_reducible (repeat (first | assumption | refine NumIs.drew ?_ | refine NumIs.alloc ?_ _ | refine NumIs.keep ?_ (by assumption))); done)); rintro e w8 ⟨⟨v2, rfl, nv, _⟩, hb⟩))
  go_split_ands
  have NV := Lib.hid nv
  clear nv
  go_wp2_with fail
  have Z8 : ZT (w.heap.size + 1 + 1) w8 := ⟨by assumption, by assumption, by assumption, by assumption⟩
  go_region_held3 (fun w' => w'.cell? ⟨w.heap.size, 0, none⟩ = some (.int .i64 an) ∧ w'.cell? ⟨w.heap.size, 1, none⟩ = some (.int .i64 ad) ∧ w'.cell? ⟨w.heap.size + 1, 0, none⟩ = some (.int .i64 bn) ∧ w'.cell? ⟨w.heap.size + 1, 1, none⟩ = some (.int .i64 bd) ∧ Below w.heap.size w w')
    (first | (go_split_ands; exact ⟨by assumption, by assumption, by assumption, by assumption, Below.drew (by assumption)⟩) | (go_split_ands; exact ⟨keepc hb (by assumption), keepc hb (by assumption), keepc hb (by assumption), keepc hb (by assumption), belowT (by assumption) hb⟩) | (go_split_ands; exact ⟨keepsetZ (by omega) (by assumption), keepsetZ (by omega) (by assumption), keepsetZ (by omega) (by assumption), keepsetZ (by omega) (by assumption), belowS (belowS (by assumption) (by omega) _) (by omega) _⟩) | go_keep)
    (first
      | (go_at_call 42; refine (from_c _ (by omega) (by omega) _).mono ?_; rintro e w9 ⟨⟨v3, rfl, nv⟩, hb⟩)
      | (go_at_call 43; refine (nmul_c _ _ ad bd _ ?_ ?_ (lt_b (lt_i a3)) (lt_b (lt_i b3))).mono ?_; (focus (with_reducible (repeat (first | assumption | refine NumIs.drew ?_ | refine NumIs.alloc ?_ _ | refine NumIs.keep ?_ (by assumption))); done)); (focus (with_reducible (repeat (first | assumption | refine NumIs.drew ?_ | refine NumIs.alloc ?_ _ | refine NumIs.keep ?_ (by assumption))); done)); rintro e w9 ⟨⟨v3, rfl, nv, _⟩, hb⟩)
      | (go_at_call 39; refine (made_c _ _ (an * bd - bn * ad) (ad * bd) _ ?_ ?_ G4.out.1 G4.out.2.1 G4.out.2.2).mono ?_; (focus (with_reducible (repeat (first | assumption | exact NV.out | refine NumIs.drew ?_ | refine NumIs.alloc ?_ _ | refine NumIs.keep ?_ (by assumption))); done)); (focus (with_reducible (repeat (first | assumption | refine NumIs.drew ?_ | refine NumIs.alloc ?_ _ | refine NumIs.keep ?_ (by assumption))); done)); rw [HT.out]; unfold timeV; rintro e w9 ⟨rfl, hb⟩; have Q : Below w8.heap.size w8 w9 := (by repeat (first | with_reducible assumption | with_reducible exact Below.refl _ _ | with_reducible refine belowN ?_ _ | with_reducible refine Below.drew ?_ | with_reducible refine belowA ?_ _ | with_reducible refine belowS ?_ (by omega) _ | with_reducible refine belowT ?_ (by assumption))); have Z9 := Z8.keep Q; obtain ⟨z0, z1, z2, z3⟩ := Z9; clear Q))
  all_goals go_split_ands
  all_goals go_wp2
  all_goals exact bodyPost_ret (v := .tuple #[.agg #[.int .i64 tn, .int .i64 td], .int .i64 te]) (by simp [results, Tryd.results23, go_sem, z0, z1]) rfl ⟨rfl, by first | assumption | exact (by repeat (first | with_reducible assumption | with_reducible exact Below.refl _ _ | with_reducible refine belowN ?_ _ | with_reducible refine Below.drew ?_ | with_reducible refine belowA ?_ _ | with_reducible refine belowS ?_ (by omega) _ | with_reducible refine belowT ?_ (by assumption)))⟩

end Go.Proofs.YthdadpafankbfaaDoor
