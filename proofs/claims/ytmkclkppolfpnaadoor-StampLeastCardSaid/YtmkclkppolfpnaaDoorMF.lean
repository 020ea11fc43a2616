/-
  Several texts in one: RefT RefU RefV RefW RefX.
-/
import Derived.Test.YtmkclkppolfpnaaDoorME
import Derived.Test.YtmkclkppolfpnaaDoorMD

/-
  The contract of the given package gavotteref01's Add over this seat's translation. Conditions: those that each theorem states.
-/
namespace Go.Proofs.YtmkclkppolfpnaaDoor
open Go.RowKit
attribute [local go_sem ↓] Go.wp_at_zero Go.wp_at_succ

set_option maxHeartbeats 4000000 in
set_option maxRecDepth 100000 in
theorem radd_nota (an ad bn bd : Int)
    (k0 : ∀ w : World, Calls Tryd.prog 31 #[.agg #[.int .i64 an, .int .i64 ad]] w fun e w' => e = .returned (.bool false) ∧ Below w.heap.size w w') (w : World) :
    Calls Tryd.prog 38 #[.agg #[.int .i64 an, .int .i64 ad], .agg #[.int .i64 bn, .int .i64 bd]] w fun e w' => e = .returned (timeV (0, 0, 1)) ∧ Below w.heap.size w w' := by
  have K0 := Lib.hid k0
  clear k0
  go_enter Tryd.func38, Tryd.ntmps38
  go_wp2_with fail
  refine (K0.out _).mono ?_
  rintro e w1 ⟨rfl, hb⟩
  have FA : At2 w.heap.size an ad w1 := At2.keep ⟨by go_simp, by go_simp⟩ hb
  have FB : At2 (w.heap.size + 1) bn bd w1 := At2.keep ⟨by go_simp, by go_simp⟩ hb
  have Z : ZT (w.heap.size + 1 + 1) w1 := ZT.keep ⟨by go_simp, by go_simp, by go_simp, by go_simp⟩ hb
  have WB := box3 hb
  clear hb
  have FA2 := FA
  have FB2 := FB
  have Z2 := Z
  obtain ⟨c0, c1⟩ := FA2
  obtain ⟨c2, c3⟩ := FB2
  obtain ⟨z0, z1, z2, z3⟩ := Z2
  go_wp2
  exact bodyPost_ret (v := .tuple #[.agg #[.int .i64 0, .int .i64 0], .int .i64 1]) (by simp [results, Tryd.results38, go_sem, z0, z1]) rfl ⟨rfl, (by repeat (first | assumption | refine belowS ?_ (by omega) _))⟩

set_option maxHeartbeats 4000000 in
set_option maxRecDepth 100000 in
theorem radd_notb (an ad bn bd : Int)
    (k0 : ∀ w : World, Calls Tryd.prog 31 #[.agg #[.int .i64 an, .int .i64 ad]] w fun e w' => e = .returned (.bool true) ∧ Below w.heap.size w w')
    (k1 : ∀ w : World, Calls Tryd.prog 31 #[.agg #[.int .i64 bn, .int .i64 bd]] w fun e w' => e = .returned (.bool false) ∧ Below w.heap.size w w') (w : World) :
    Calls Tryd.prog 38 #[.agg #[.int .i64 an, .int .i64 ad], .agg #[.int .i64 bn, .int .i64 bd]] w fun e w' => e = .returned (timeV (0, 0, 1)) ∧ Below w.heap.size w w' := by
  have K0 := Lib.hid k0
  clear k0
  have K1 := Lib.hid k1
  clear k1
  go_enter Tryd.func38, Tryd.ntmps38
  go_wp2_with fail
  refine (K0.out _).mono ?_
  rintro e w1 ⟨rfl, hb⟩
  have FA : At2 w.heap.size an ad w1 := At2.keep ⟨by go_simp, by go_simp⟩ hb
  have FB : At2 (w.heap.size + 1) bn bd w1 := At2.keep ⟨by go_simp, by go_simp⟩ hb
  have Z : ZT (w.heap.size + 1 + 1) w1 := ZT.keep ⟨by go_simp, by go_simp, by go_simp, by go_simp⟩ hb
  have WB := box3 hb
  clear hb
  have FA2 := FA
  have FB2 := FB
  have Z2 := Z
  obtain ⟨c0, c1⟩ := FA2
  obtain ⟨c2, c3⟩ := FB2
  obtain ⟨z0, z1, z2, z3⟩ := Z2
  go_wp2_with fail
  refine (K1.out _).mono ?_
  rintro e w2 ⟨rfl, hb⟩
  replace FA := FA.keep hb
  replace FB := FB.keep hb
  replace Z := Z.keep hb
  replace WB := belowT WB hb
  clear hb c0 c1 c2 c3 z0 z1 z2 z3
  have FA2 := FA
  have FB2 := FB
  have Z2 := Z
  obtain ⟨c0, c1⟩ := FA2
  obtain ⟨c2, c3⟩ := FB2
  obtain ⟨z0, z1, z2, z3⟩ := Z2
  go_wp2
  exact bodyPost_ret (v := .tuple #[.agg #[.int .i64 0, .int .i64 0], .int .i64 1]) (by simp [results, Tryd.results38, go_sem, z0, z1]) rfl ⟨rfl, (by repeat (first | assumption | refine belowS ?_ (by omega) _))⟩

set_option maxHeartbeats 4000000 in
set_option maxRecDepth 100000 in
theorem radd_na (an ad bn bd : Int)
    (k0 : ∀ w : World, Calls Tryd.prog 31 #[.agg #[.int .i64 an, .int .i64 ad]] w fun e w' => e = .returned (.bool true) ∧ Below w.heap.size w w')
    (k1 : ∀ w : World, Calls Tryd.prog 31 #[.agg #[.int .i64 bn, .int .i64 bd]] w fun e w' => e = .returned (.bool true) ∧ Below w.heap.size w w')
    (k2 : ∀ w : World, Calls Tryd.prog 32 #[.agg #[.int .i64 an, .int .i64 ad]] w fun e w' => e = .returned (.bool true) ∧ Below w.heap.size w w') (w : World) :
    Calls Tryd.prog 38 #[.agg #[.int .i64 an, .int .i64 ad], .agg #[.int .i64 bn, .int .i64 bd]] w fun e w' => e = .returned (timeV (1, 0, 0)) ∧ Below w.heap.size w w' := by
  have K0 := Lib.hid k0
  clear k0
  have K1 := Lib.hid k1
  clear k1
  have K2 := Lib.hid k2
  clear k2
  go_enter Tryd.func38, Tryd.ntmps38
  go_wp2_with fail
  refine (K0.out _).mono ?_
  rintro e w1 ⟨rfl, hb⟩
  have FA : At2 w.heap.size an ad w1 := At2.keep ⟨by go_simp, by go_simp⟩ hb
  have FB : At2 (w.heap.size + 1) bn bd w1 := At2.keep ⟨by go_simp, by go_simp⟩ hb
  have Z : ZT (w.heap.size + 1 + 1) w1 := ZT.keep ⟨by go_simp, by go_simp, by go_simp, by go_simp⟩ hb
  have WB := box3 hb
  clear hb
  have FA2 := FA
  have FB2 := FB
  have Z2 := Z
  obtain ⟨c0, c1⟩ := FA2
  obtain ⟨c2, c3⟩ := FB2
  obtain ⟨z0, z1, z2, z3⟩ := Z2
  go_wp2_with fail
  refine (K1.out _).mono ?_
  rintro e w2 ⟨rfl, hb⟩
  replace FA := FA.keep hb
  replace FB := FB.keep hb
  replace Z := Z.keep hb
  replace WB := belowT WB hb
  clear hb c0 c1 c2 c3 z0 z1 z2 z3
  have FA2 := FA
  have FB2 := FB
  have Z2 := Z
  obtain ⟨c0, c1⟩ := FA2
  obtain ⟨c2, c3⟩ := FB2
  obtain ⟨z0, z1, z2, z3⟩ := Z2
  go_wp2_with fail
  refine (K2.out _).mono ?_
  rintro e w3 ⟨rfl, hb⟩
  replace FA := FA.keep hb
  replace FB := FB.keep hb
  replace Z := Z.keep hb
  replace WB := belowT WB hb
  clear hb c0 c1 c2 c3 z0 z1 z2 z3
  have FA2 := FA
  have FB2 := FB
  have Z2 := Z
  obtain ⟨c0, c1⟩ := FA2
  obtain ⟨c2, c3⟩ := FB2
  obtain ⟨z0, z1, z2, z3⟩ := Z2
  go_wp2
  exact bodyPost_ret (v := .tuple #[.agg #[.int .i64 1, .int .i64 0], .int .i64 0]) (by simp [results, Tryd.results38, go_sem, z0, z1]) rfl ⟨rfl, (by repeat (first | assumption | refine belowS ?_ (by omega) _))⟩

set_option maxHeartbeats 4000000 in
set_option maxRecDepth 100000 in
theorem radd_nb (an ad bn bd : Int)
    (k0 : ∀ w : World, Calls Tryd.prog 31 #[.agg #[.int .i64 an, .int .i64 ad]] w fun e w' => e = .returned (.bool true) ∧ Below w.heap.size w w')
    (k1 : ∀ w : World, Calls Tryd.prog 31 #[.agg #[.int .i64 bn, .int .i64 bd]] w fun e w' => e = .returned (.bool true) ∧ Below w.heap.size w w')
    (k2 : ∀ w : World, Calls Tryd.prog 32 #[.agg #[.int .i64 an, .int .i64 ad]] w fun e w' => e = .returned (.bool false) ∧ Below w.heap.size w w')
    (k3 : ∀ w : World, Calls Tryd.prog 32 #[.agg #[.int .i64 bn, .int .i64 bd]] w fun e w' => e = .returned (.bool true) ∧ Below w.heap.size w w') (w : World) :
    Calls Tryd.prog 38 #[.agg #[.int .i64 an, .int .i64 ad], .agg #[.int .i64 bn, .int .i64 bd]] w fun e w' => e = .returned (timeV (1, 0, 0)) ∧ Below w.heap.size w w' := by
  have K0 := Lib.hid k0
  clear k0
  have K1 := Lib.hid k1
  clear k1
  have K2 := Lib.hid k2
  clear k2
  have K3 := Lib.hid k3
  clear k3
  go_enter Tryd.func38, Tryd.ntmps38
  go_wp2_with fail
  refine (K0.out _).mono ?_
  rintro e w1 ⟨rfl, hb⟩
  have FA : At2 w.heap.size an ad w1 := At2.keep ⟨by go_simp, by go_simp⟩ hb
  have FB : At2 (w.heap.size + 1) bn bd w1 := At2.keep ⟨by go_simp, by go_simp⟩ hb
  have Z : ZT (w.heap.size + 1 + 1) w1 := ZT.keep ⟨by go_simp, by go_simp, by go_simp, by go_simp⟩ hb
  have WB := box3 hb
  clear hb
  have FA2 := FA
  have FB2 := FB
  have Z2 := Z
  obtain ⟨c0, c1⟩ := FA2
  obtain ⟨c2, c3⟩ := FB2
  obtain ⟨z0, z1, z2, z3⟩ := Z2
  go_wp2_with fail
  refine (K1.out _).mono ?_
  rintro e w2 ⟨rfl, hb⟩
  replace FA := FA.keep hb
  replace FB := FB.keep hb
  replace Z := Z.keep hb
  replace WB := belowT WB hb
  clear hb c0 c1 c2 c3 z0 z1 z2 z3
  have FA2 := FA
  have FB2 := FB
  have Z2 := Z
  obtain ⟨c0, c1⟩ := FA2
  obtain ⟨c2, c3⟩ := FB2
  obtain ⟨z0, z1, z2, z3⟩ := Z2
  go_wp2_with fail
  refine (K2.out _).mono ?_
  rintro e w3 ⟨rfl, hb⟩
  replace FA := FA.keep hb
  replace FB := FB.keep hb
  replace Z := Z.keep hb
  replace WB := belowT WB hb
  clear hb c0 c1 c2 c3 z0 z1 z2 z3
  have FA2 := FA
  have FB2 := FB
  have Z2 := Z
  obtain ⟨c0, c1⟩ := FA2
  obtain ⟨c2, c3⟩ := FB2
  obtain ⟨z0, z1, z2, z3⟩ := Z2
  go_wp2_with fail
  refine (K3.out _).mono ?_
  rintro e w4 ⟨rfl, hb⟩
  replace FA := FA.keep hb
  replace FB := FB.keep hb
  replace Z := Z.keep hb
  replace WB := belowT WB hb
  clear hb c0 c1 c2 c3 z0 z1 z2 z3
  have FA2 := FA
  have FB2 := FB
  have Z2 := Z
  obtain ⟨c0, c1⟩ := FA2
  obtain ⟨c2, c3⟩ := FB2
  obtain ⟨z0, z1, z2, z3⟩ := Z2
  go_wp2
  exact bodyPost_ret (v := .tuple #[.agg #[.int .i64 1, .int .i64 0], .int .i64 0]) (by simp [results, Tryd.results38, go_sem, z0, z1]) rfl ⟨rfl, (by repeat (first | assumption | refine belowS ?_ (by omega) _))⟩

end Go.Proofs.YtmkclkppolfpnaaDoor

/-
  The contract of the given package gavotteref01's Sub over this seat's translation. Conditions: those that each theorem states.
-/
namespace Go.Proofs.YtmkclkppolfpnaaDoor
open Go.RowKit
attribute [local go_sem ↓] Go.wp_at_zero Go.wp_at_succ

end Go.Proofs.YtmkclkppolfpnaaDoor

/-
  The contract of the given package gavotteref01's Add over this seat's translation, where it reckons. Conditions: those that each theorem states.
-/
namespace Go.Proofs.YtmkclkppolfpnaaDoor
open Go.RowKit
attribute [local go_sem ↓] Go.wp_at_zero Go.wp_at_succ

theorem keepsetZ {w : World} {b o g : Nat} {v x y : Value} (h : b ≠ g) (hc : w.cell? ⟨b, o, none⟩ = some v) : ((w.setCell ⟨g, 0, none⟩ x).setCell ⟨g, 1, none⟩ y).cell? ⟨b, o, none⟩ = some v := by
  rw [World.cell?_setCell_other _ _ _ _ (fun e => h (congrArg Addr.block e).symm), World.cell?_setCell_other _ _ _ _ (fun e => h (congrArg Addr.block e).symm)]
  exact hc

set_option maxHeartbeats 40000000 in
set_option maxRecDepth 100000 in
theorem radd_pp (an ad bn bd : Int) (a0 : 0 ≤ an) (a1 : an ≤ 9223372036854775807) (a2 : 0 ≤ ad) (a3 : ad ≤ 9223372036854775807) (b0 : 0 ≤ bn) (b1 : bn ≤ 9223372036854775807) (b2 : 0 ≤ bd) (b3 : bd ≤ 9223372036854775807) (hg1 : an * bd < 10000 ^ 300) (hg2 : bn * ad < 10000 ^ 300) (hg3 : bn * ad = bn * ad) (hg4 : (an * bd + bn * ad) < 10000 ^ 20 ∧ 0 < ad * bd ∧ ad * bd < 10000 ^ 20) (tn td te : Int) (hT : madeS (an * bd + bn * ad) (ad * bd) = (tn, td, te))
    (k0 : ∀ w : World, Calls Tryd.prog 31 #[.agg #[.int .i64 an, .int .i64 ad]] w fun e w' => e = .returned (.bool true) ∧ Below w.heap.size w w')
    (k1 : ∀ w : World, Calls Tryd.prog 31 #[.agg #[.int .i64 bn, .int .i64 bd]] w fun e w' => e = .returned (.bool true) ∧ Below w.heap.size w w')
    (k2 : ∀ w : World, Calls Tryd.prog 32 #[.agg #[.int .i64 an, .int .i64 ad]] w fun e w' => e = .returned (.bool false) ∧ Below w.heap.size w w')
    (k3 : ∀ w : World, Calls Tryd.prog 32 #[.agg #[.int .i64 bn, .int .i64 bd]] w fun e w' => e = .returned (.bool false) ∧ Below w.heap.size w w') (w : World) :
    Calls Tryd.prog 38 #[.agg #[.int .i64 an, .int .i64 ad], .agg #[.int .i64 bn, .int .i64 bd]] w fun e w' => e = .returned (timeV (tn, td, te)) ∧ Below w.heap.size w w' := by
  have K0 := Lib.hid k0
  clear k0
  have K1 := Lib.hid k1
  clear k1
  have K2 := Lib.hid k2
  clear k2
  have K3 := Lib.hid k3
  clear k3
  have G1 := Lib.hid hg1
  have G2 := Lib.hid hg2
  have G3 := Lib.hid hg3
  have G4 := Lib.hid hg4
  have HT := Lib.hid hT
  clear hg1 hg2 hg3 hg4 hT
  go_enter Tryd.func38, Tryd.ntmps38
  go_wp2_with fail
  refine (K0.out _).mono ?_
  rintro e w1 ⟨rfl, hb⟩
  have FA : At2 w.heap.size an ad w1 := At2.keep ⟨by go_simp, by go_simp⟩ hb
  have FB : At2 (w.heap.size + 1) bn bd w1 := At2.keep ⟨by go_simp, by go_simp⟩ hb
  have Z : ZT (w.heap.size + 1 + 1) w1 := ZT.keep ⟨by go_simp, by go_simp, by go_simp, by go_simp⟩ hb
  have WB := box3 hb
  clear hb
  have FA2 := FA
  have FB2 := FB
  have Z2 := Z
  obtain ⟨c0, c1⟩ := FA2
  obtain ⟨c2, c3⟩ := FB2
  obtain ⟨z0, z1, z2, z3⟩ := Z2
  go_wp2_with fail
  refine (K1.out _).mono ?_
  rintro e w2 ⟨rfl, hb⟩
  replace FA := FA.keep hb
  replace FB := FB.keep hb
  replace Z := Z.keep hb
  replace WB := belowT WB hb
  clear hb c0 c1 c2 c3 z0 z1 z2 z3
  have FA2 := FA
  have FB2 := FB
  have Z2 := Z
  obtain ⟨c0, c1⟩ := FA2
  obtain ⟨c2, c3⟩ := FB2
  obtain ⟨z0, z1, z2, z3⟩ := Z2
  go_wp2_with fail
  refine (K2.out _).mono ?_
  rintro e w3 ⟨rfl, hb⟩
  replace FA := FA.keep hb
  replace FB := FB.keep hb
  replace Z := Z.keep hb
  replace WB := belowT WB hb
  clear hb c0 c1 c2 c3 z0 z1 z2 z3
  have FA2 := FA
  have FB2 := FB
  have Z2 := Z
  obtain ⟨c0, c1⟩ := FA2
  obtain ⟨c2, c3⟩ := FB2
  obtain ⟨z0, z1, z2, z3⟩ := Z2
  go_wp2_with fail
  refine (K3.out _).mono ?_
  rintro e w4 ⟨rfl, hb⟩
  replace FA := FA.keep hb
  replace FB := FB.keep hb
  replace Z := Z.keep hb
  replace WB := belowT WB hb
  clear hb c0 c1 c2 c3 z0 z1 z2 z3
  have FA2 := FA
  have FB2 := FB
  have Z2 := Z
  obtain ⟨c0, c1⟩ := FA2
  obtain ⟨c2, c3⟩ := FB2
  obtain ⟨z0, z1, z2, z3⟩ := Z2
  go_wp2_with fail
  go_region_held3 (fun w' => w'.cell? ⟨w.heap.size, 0, none⟩ = some (.int .i64 an) ∧ w'.cell? ⟨w.heap.size, 1, none⟩ = some (.int .i64 ad) ∧ w'.cell? ⟨w.heap.size + 1, 0, none⟩ = some (.int .i64 bn) ∧ w'.cell? ⟨w.heap.size + 1, 1, none⟩ = some (.int .i64 bd) ∧ w'.cell? ⟨w.heap.size + 1 + 1, 0, none⟩ = some (.int .i64 0) ∧ w'.cell? ⟨w.heap.size + 1 + 1, 1, none⟩ = some (.int .i64 0) ∧ w'.frozen? ⟨w.heap.size + 1 + 1, 0, none⟩ = false ∧ w'.frozen? ⟨w.heap.size + 1 + 1, 1, none⟩ = false ∧ Below w.heap.size w w')
    (first | exact ⟨c0, c1, c2, c3, z0, z1, z2, z3, Below.drew WB⟩ | (go_split_ands; exact ⟨keepc hb (by assumption), keepc hb (by assumption), keepc hb (by assumption), keepc hb (by assumption), keepc hb (by assumption), keepc hb (by assumption), keepf hb (by assumption) (by assumption), keepf hb (by assumption) (by assumption), belowT (by assumption) hb⟩) | go_keep)
    (first
      | (go_at_call 47; refine (from_c _ (by omega) (by omega) _).mono ?_; rintro e w8 ⟨⟨v2, rfl, nv⟩, hb⟩)
      | (go_at_call 49; (first | (refine (nmul_c _ _ an bd _ ?_ ?_ (lt_b (lt_i a1)) (lt_b (lt_i b3))).mono ?_; (focus (with_reducible (repeat (first | assumption | refine NumIs.drew ?_ | refine NumIs.alloc ?_ _ | refine NumIs.keep ?_ (by assumption))); done)); (focus (with_reducible (repeat (first | assumption | refine NumIs.drew ?_ | refine NumIs.alloc ?_ _ | refine NumIs.keep ?_ (by assumption))); done))) | (refine (nmul_c _ _ bn ad _ ?_ ?_ (lt_b (lt_i b1)) (lt_b (lt_i a3))).mono ?_; (focus (with_reducible (repeat (first | assumption | refine NumIs.drew ?_ | refine NumIs.alloc ?_ _ | refine NumIs.keep ?_ (by assumption))); done)); (focus (with_reducible (repeat (first | assumption | refine NumIs.drew ?_ | refine NumIs.alloc ?_ _ | refine NumIs.keep ?_ (by assumption))); done)))); rintro e w8 ⟨⟨v2, rfl, nv, _⟩, hb⟩)
      | (go_at_call 51; refine (nadd_c _ _ (an * bd) (bn * ad) _ ?_ ?_ G1.out G2.out).mono ?_; (focus (with_reducible (repeat (first | assumption | refine NumIs.drew ?_ | refine NumIs.alloc ?_ _ | refine NumIs.keep ?_ (by assumption))); done)); (focus (with_reducible (repeat (first | assumption | refine NumIs.drew ?_ | refine NumIs.alloc ?_ _ | refine NumIs.keep ?_ (by assumption))); done)); rintro e w8 ⟨⟨v2, rfl, nv, _⟩, hb⟩))
  go_split_ands
  have NV := Lib.hid nv
  clear nv
  go_wp2_with fail
  have Z8 : ZT (w.heap.size + 1 + 1) w8 := ⟨by assumption, by assumption, by assumption, by assumption⟩
  go_region_held3 (fun w' => w'.cell? ⟨w.heap.size, 0, none⟩ = some (.int .i64 an) ∧ w'.cell? ⟨w.heap.size, 1, none⟩ = some (.int .i64 ad) ∧ w'.cell? ⟨w.heap.size + 1, 0, none⟩ = some (.int .i64 bn) ∧ w'.cell? ⟨w.heap.size + 1, 1, none⟩ = some (.int .i64 bd) ∧ Below w.heap.size w w')
    (first | (go_split_ands; exact ⟨by assumption, by assumption, by assumption, by assumption, Below.drew (by assumption)⟩) | (go_split_ands; exact ⟨keepc hb (by assumption), keepc hb (by assumption), keepc hb (by assumption), keepc hb (by assumption), belowT (by assumption) hb⟩) | (go_split_ands; exact ⟨keepsetZ (by omega) (by assumption), keepsetZ (by omega) (by assumption), keepsetZ (by omega) (by assumption), keepsetZ (by omega) (by assumption), belowS (belowS (by assumption) (by omega) _) (by omega) _⟩) | go_keep)
    (first
      | (go_at_call 47; refine (from_c _ (by omega) (by omega) _).mono ?_; rintro e w9 ⟨⟨v3, rfl, nv⟩, hb⟩)
      | (go_at_call 49; refine (nmul_c _ _ ad bd _ ?_ ?_ (lt_b (lt_i a3)) (lt_b (lt_i b3))).mono ?_; (focus (with_reducible (repeat (first | assumption | refine NumIs.drew ?_ | refine NumIs.alloc ?_ _ | refine NumIs.keep ?_ (by assumption))); done)); (focus (with_reducible (repeat (first | assumption | refine NumIs.drew ?_ | refine NumIs.alloc ?_ _ | refine NumIs.keep ?_ (by assumption))); done)); rintro e w9 ⟨⟨v3, rfl, nv, _⟩, hb⟩)
      | (go_at_call 52; refine (made_c _ _ (an * bd + bn * ad) (ad * bd) _ ?_ ?_ G4.out.1 G4.out.2.1 G4.out.2.2).mono ?_; (focus (with_reducible (repeat (first | assumption | exact NV.out | refine NumIs.drew ?_ | refine NumIs.alloc ?_ _ | refine NumIs.keep ?_ (by assumption))); done)); (focus (with_reducible (repeat (first | assumption | refine NumIs.drew ?_ | refine NumIs.alloc ?_ _ | refine NumIs.keep ?_ (by assumption))); done)); rw [HT.out]; unfold timeV; rintro e w9 ⟨rfl, hb⟩; have Q : Below w8.heap.size w8 w9 := (by repeat (first | with_reducible assumption | with_reducible exact Below.refl _ _ | with_reducible refine belowN ?_ _ | with_reducible refine Below.drew ?_ | with_reducible refine belowA ?_ _ | with_reducible refine belowS ?_ (by omega) _ | with_reducible refine belowT ?_ (by assumption))); have Z9 := Z8.keep Q; obtain ⟨z0, z1, z2, z3⟩ := Z9; clear Q))
  all_goals go_split_ands
  all_goals go_wp2
  all_goals exact bodyPost_ret (v := .tuple #[.agg #[.int .i64 tn, .int .i64 td], .int .i64 te]) (by simp [results, Tryd.results38, go_sem, z0, z1]) rfl ⟨rfl, by first | assumption | exact (by repeat (first | with_reducible assumption | with_reducible exact Below.refl _ _ | with_reducible refine belowN ?_ _ | with_reducible refine Below.drew ?_ | with_reducible refine belowA ?_ _ | with_reducible refine belowS ?_ (by omega) _ | with_reducible refine belowT ?_ (by assumption)))⟩

end Go.Proofs.YtmkclkppolfpnaaDoor

/-
  The contract of the given package gavotteref01's Sub over this seat's translation, where it reckons. Conditions: those that each theorem states.
-/
namespace Go.Proofs.YtmkclkppolfpnaaDoor
open Go.RowKit
attribute [local go_sem ↓] Go.wp_at_zero Go.wp_at_succ

end Go.Proofs.YtmkclkppolfpnaaDoor

/-
  The contracts of the given package gavotteref01's Add and Sub over this seat's translation, whole: the sum and the difference of fractions. Conditions: the numbers are ints.
-/
namespace Go.Proofs.YtmkclkppolfpnaaDoor
open Go.RowKit

theorem madeS_rat (n : Int) (d : Nat) (hd : d ≠ 0) : madeS n d = ofRat (mkRat n d) := by
  have h := M.num_den n d hd
  have e : Int.gcd n (d : Int) = Nat.gcd n.natAbs d := rfl
  unfold madeS ofRat fitT
  rw [h.1, h.2, e]
  have e2 : ((d / Nat.gcd n.natAbs d : Nat) : Int) = (d : Int) / (Nat.gcd n.natAbs d : Int) := by simp
  rw [e2]
  simp

theorem made_add (an ad bn bd : Int) (pa : plainR an ad) (pb : plainR bn bd) : madeS (an * bd + bn * ad) (ad * bd) = ofRat (M.qOf an.toNat ad.toNat + M.qOf bn.toNat bd.toNat) := by
  obtain ⟨e1, e2, _, h1⟩ := plain_nat pa
  obtain ⟨e3, e4, _, h2⟩ := plain_nat pb
  unfold M.qOf
  rw [Rat.mkRat_add_mkRat _ _ (by omega) (by omega), ← madeS_rat _ _ (by have := Nat.mul_pos h1 h2; omega)]
  rw [e1, e2, e3, e4, Int.natCast_mul, e2, e4]
theorem made_sub (an ad bn bd : Int) (pa : plainR an ad) (pb : plainR bn bd) : madeS (an * bd - bn * ad) (ad * bd) = ofRat (M.qOf an.toNat ad.toNat - M.qOf bn.toNat bd.toNat) := by
  obtain ⟨e1, e2, _, h1⟩ := plain_nat pa
  obtain ⟨e3, e4, _, h2⟩ := plain_nat pb
  unfold M.qOf
  rw [Rat.sub_eq_add_neg, Rat.neg_mkRat, Rat.mkRat_add_mkRat _ _ (by omega) (by omega), ← madeS_rat _ _ (by have := Nat.mul_pos h1 h2; omega)]
  rw [e1, e2, e3, e4, Int.natCast_mul, e2, e4, Int.neg_mul, ← Int.sub_eq_add_neg]

theorem lt_q {x : Int} (h : x ≤ 2 * (9223372036854775807 * 9223372036854775807)) : x < 10000 ^ 20 := by
  have h1 := pow_mono 10 20 (by omega)
  have h2 : (10000 : Int) ^ 10 = 10000000000000000000000000000000000000000 := by decide
  generalize (10000 : Int) ^ 20 = M at *
  omega
theorem mul_le {x y : Int} (x1 : x ≤ 9223372036854775807) (y0 : 0 ≤ y) (y1 : y ≤ 9223372036854775807) : x * y ≤ 9223372036854775807 * 9223372036854775807 := Int.mul_le_mul x1 y1 y0 (by omega)

theorem radd_c (an ad bn bd : Int) (ha : In64 an ∧ In64 ad) (hb : In64 bn ∧ In64 bd) (w : World) :
    Calls Tryd.prog 38 #[.agg #[.int .i64 an, .int .i64 ad], .agg #[.int .i64 bn, .int .i64 bd]] w fun e w' => e = .returned (timeV (addS an ad bn bd)) ∧ Below w.heap.size w w' := by
  have kra := rright_c an ad ha.1 ha.2
  have krb := rright_c bn bd hb.1 hb.2
  by_cases ra : rightB an ad = true
  · by_cases rb : rightB bn bd = true
    · have da := right_bd ra
      have db := right_bd rb
      rw [ra] at kra
      rw [rb] at krb
      by_cases na : isNever an ad
      · have e : addS an ad bn bd = (1, 0, 0) := by unfold addS; rw [if_pos ⟨ra, rb⟩, if_pos (.inl na)]
        rw [e]
        obtain ⟨rfl, rfl⟩ := na
        exact radd_na 1 0 bn bd kra krb rnever_yes w
      · by_cases nb : isNever bn bd
        · have e : addS an ad bn bd = (1, 0, 0) := by unfold addS; rw [if_pos ⟨ra, rb⟩, if_pos (.inr nb)]
          rw [e]
          have kna := rnever_no an ad na
          obtain ⟨rfl, rfl⟩ := nb
          exact radd_nb an ad 1 0 kra krb kna rnever_yes w
        · have e : addS an ad bn bd = ofRat (M.qOf an.toNat ad.toNat + M.qOf bn.toNat bd.toNat) := by unfold addS; rw [if_pos ⟨ra, rb⟩, if_neg (by rintro (h | h); exact na h; exact nb h)]
          have pa := plain_of ra na
          have pb := plain_of rb nb
          rw [e, ← made_add an ad bn bd pa pb]
          have m1 := mul_le ha.1.2 db.2 hb.2.2
          have m2 := mul_le hb.1.2 da.2 ha.2.2
          have m3 := mul_le ha.2.2 db.2 hb.2.2
          have m4 : 0 < ad * bd := Int.mul_pos pa.1 pb.1
          exact radd_pp an ad bn bd da.1 ha.1.2 da.2 ha.2.2 db.1 hb.1.2 db.2 hb.2.2 (lt_m (by omega)) (lt_m (by omega)) rfl ⟨lt_q (by omega), m4, lt_q (by omega)⟩ _ _ _ rfl kra krb (rnever_no an ad na) (rnever_no bn bd nb) w
    · have e : addS an ad bn bd = (0, 0, 1) := by unfold addS; rw [if_neg (fun h => rb h.2)]
      rw [ra] at kra
      rw [Bool.eq_false_iff.2 rb] at krb
      rw [e]
      exact radd_notb an ad bn bd kra krb w
  · have e : addS an ad bn bd = (0, 0, 1) := by unfold addS; rw [if_neg (fun h => ra h.1)]
    rw [Bool.eq_false_iff.2 ra] at kra
    rw [e]
    exact radd_nota an ad bn bd kra w

end Go.Proofs.YtmkclkppolfpnaaDoor
