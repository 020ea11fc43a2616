/-
  The contract of the given package gavotteref01's Add over this seat's translation. Conditions: those that each theorem states.
-/
import Derived.Test.YthdadpafankbfaaDoorRefS
import Derived.Test.YthdadpafankbfaaDoorSpanO
namespace Go.Proofs.YthdadpafankbfaaDoor
open Go.RowKit
attribute [local go_sem ↓] Go.wp_at_zero Go.wp_at_succ

set_option maxHeartbeats 4000000 in
set_option maxRecDepth 100000 in
theorem radd_nota (an ad bn bd : Int)
    (k0 : ∀ w : World, Calls Tryd.prog 24 #[.agg #[.int .i64 an, .int .i64 ad]] w fun e w' => e = .returned (.bool false) ∧ Below w.heap.size w w') (w : World) :
    Calls Tryd.prog 22 #[.agg #[.int .i64 an, .int .i64 ad], .agg #[.int .i64 bn, .int .i64 bd]] w fun e w' => e = .returned (timeV (0, 0, 1)) ∧ Below w.heap.size w w' := by
  have K0 := Lib.hid k0
  clear k0
  go_enter Tryd.func22, Tryd.ntmps22
  go_wp2_with fail
  refine (K0.out _).mono ?_
  rintro e w1 ⟨rfl, hb⟩
  have FA : At2 w.heap.size an ad w1 := At2.keep ⟨by go_simp, by go_simp⟩ hb
  have FB : At2 (w.heap.size + 1) bn bd w1 := At2.keep ⟨by go_simp, by go_simp⟩ hb
  have Z : ZT (w.heap.size + 1 + 1) w1 := ZT.keep ⟨by go_simp, by go_simp, by go_simp, by go_simp⟩ hb
  have WB := box3 hb
  clear hb
  have FA2 := FA
  have FB2 := FB
  have Z2 := Z
  obtain ⟨c0, c1⟩ := FA2
  obtain ⟨c2, c3⟩ := FB2
  obtain ⟨z0, z1, z2, z3⟩ := Z2
  go_wp2
  exact bodyPost_ret (v := .tuple #[.agg #[.int .i64 0, .int .i64 0], .int .i64 1]) (by simp [results, Tryd.results22, go_sem, z0, z1]) rfl ⟨rfl, (by repeat (first | assumption | refine belowS ?_ (by omega) _))⟩

set_option maxHeartbeats 4000000 in
set_option maxRecDepth 100000 in
theorem radd_notb (an ad bn bd : Int)
    (k0 : ∀ w : World, Calls Tryd.prog 24 #[.agg #[.int .i64 an, .int .i64 ad]] w fun e w' => e = .returned (.bool true) ∧ Below w.heap.size w w')
    (k1 : ∀ w : World, Calls Tryd.prog 24 #[.agg #[.int .i64 bn, .int .i64 bd]] w fun e w' => e = .returned (.bool false) ∧ Below w.heap.size w w') (w : World) :
    Calls Tryd.prog 22 #[.agg #[.int .i64 an, .int .i64 ad], .agg #[.int .i64 bn, .int .i64 bd]] w fun e w' => e = .returned (timeV (0, 0, 1)) ∧ Below w.heap.size w w' := by
  have K0 := Lib.hid k0
  clear k0
  have K1 := Lib.hid k1
  clear k1
  go_enter Tryd.func22, Tryd.ntmps22
  go_wp2_with fail
  refine (K0.out _).mono ?_
  rintro e w1 ⟨rfl, hb⟩
  have FA : At2 w.heap.size an ad w1 := At2.keep ⟨by go_simp, by go_simp⟩ hb
  have FB : At2 (w.heap.size + 1) bn bd w1 := At2.keep ⟨by go_simp, by go_simp⟩ hb
  have Z : ZT (w.heap.size + 1 + 1) w1 := ZT.keep ⟨by go_simp, by go_simp, by go_simp, by go_simp⟩ hb
  have WB := box3 hb
  clear hb
  have FA2 := FA
  have FB2 := FB
  have Z2 := Z
  obtain ⟨c0, c1⟩ := FA2
  obtain ⟨c2, c3⟩ := FB2
  obtain ⟨z0, z1, z2, z3⟩ := Z2
  go_wp2_with fail
  refine (K1.out _).mono ?_
  rintro e w2 ⟨rfl, hb⟩
  replace FA := FA.keep hb
  replace FB := FB.keep hb
  replace Z := Z.keep hb
  replace WB := belowT WB hb
  clear hb c0 c1 c2 c3 z0 z1 z2 z3
  have FA2 := FA
  have FB2 := FB
  have Z2 := Z
  obtain ⟨c0, c1⟩ := FA2
  obtain ⟨c2, c3⟩ := FB2
  obtain ⟨z0, z1, z2, z3⟩ := Z2
  go_wp2
  exact bodyPost_ret (v := .tuple #[.agg #[.int .i64 0, .int .i64 0], .int .i64 1]) (by simp [results, Tryd.results22, go_sem, z0, z1]) rfl ⟨rfl, (by repeat (first | assumption | refine belowS ?_ (by omega) _))⟩

set_option maxHeartbeats 4000000 in
set_option maxRecDepth 100000 in
theorem radd_na (an ad bn bd : Int)
    (k0 : ∀ w : World, Calls Tryd.prog 24 #[.agg #[.int .i64 an, .int .i64 ad]] w fun e w' => e = .returned (.bool true) ∧ Below w.heap.size w w')
    (k1 : ∀ w : World, Calls Tryd.prog 24 #[.agg #[.int .i64 bn, .int .i64 bd]] w fun e w' => e = .returned (.bool true) ∧ Below w.heap.size w w')
    (k2 : ∀ w : World, Calls Tryd.prog 41 #[.agg #[.int .i64 an, .int .i64 ad]] w fun e w' => e = .returned (.bool true) ∧ Below w.heap.size w w') (w : World) :
    Calls Tryd.prog 22 #[.agg #[.int .i64 an, .int .i64 ad], .agg #[.int .i64 bn, .int .i64 bd]] w fun e w' => e = .returned (timeV (1, 0, 0)) ∧ Below w.heap.size w w' := by
  have K0 := Lib.hid k0
  clear k0
  have K1 := Lib.hid k1
  clear k1
  have K2 := Lib.hid k2
  clear k2
  go_enter Tryd.func22, Tryd.ntmps22
  go_wp2_with fail
  refine (K0.out _).mono ?_
  rintro e w1 ⟨rfl, hb⟩
  have FA : At2 w.heap.size an ad w1 := At2.keep ⟨by go_simp, by go_simp⟩ hb
  have FB : At2 (w.heap.size + 1) bn bd w1 := At2.keep ⟨by go_simp, by go_simp⟩ hb
  have Z : ZT (w.heap.size + 1 + 1) w1 := ZT.keep ⟨by go_simp, by go_simp, by go_simp, by go_simp⟩ hb
  have WB := box3 hb
  clear hb
  have FA2 := FA
  have FB2 := FB
  have Z2 := Z
  obtain ⟨c0, c1⟩ := FA2
  obtain ⟨c2, c3⟩ := FB2
  obtain ⟨z0, z1, z2, z3⟩ := Z2
  go_wp2_with fail
  refine (K1.out _).mono ?_
  rintro e w2 ⟨rfl, hb⟩
  replace FA := FA.keep hb
  replace FB := FB.keep hb
  replace Z := Z.keep hb
  replace WB := belowT WB hb
  clear hb c0 c1 c2 c3 z0 z1 z2 z3
  have FA2 := FA
  have FB2 := FB
  have Z2 := Z
  obtain ⟨c0, c1⟩ := FA2
  obtain ⟨c2, c3⟩ := FB2
  obtain ⟨z0, z1, z2, z3⟩ := Z2
  go_wp2_with fail
  refine (K2.out _).mono ?_
  rintro e w3 ⟨rfl, hb⟩
  replace FA := FA.keep hb
  replace FB := FB.keep hb
  replace Z := Z.keep hb
  replace WB := belowT WB hb
  clear hb c0 c1 c2 c3 z0 z1 z2 z3
  have FA2 := FA
  have FB2 := FB
  have Z2 := Z
  obtain ⟨c0, c1⟩ := FA2
  obtain ⟨c2, c3⟩ := FB2
  obtain ⟨z0, z1, z2, z3⟩ := Z2
  go_wp2
  exact bodyPost_ret (v := .tuple #[.agg #[.int .i64 1, .int .i64 0], .int .i64 0]) (by simp [results, Tryd.results22, go_sem, z0, z1]) rfl ⟨rfl, (by repeat (first | assumption | refine belowS ?_ (by omega) _))⟩

set_option maxHeartbeats 4000000 in
set_option maxRecDepth 100000 in
theorem radd_nb (an ad bn bd : Int)
    (k0 : ∀ w : World, Calls Tryd.prog 24 #[.agg #[.int .i64 an, .int .i64 ad]] w fun e w' => e = .returned (.bool true) ∧ Below w.heap.size w w')
    (k1 : ∀ w : World, Calls Tryd.prog 24 #[.agg #[.int .i64 bn, .int .i64 bd]] w fun e w' => e = .returned (.bool true) ∧ Below w.heap.size w w')
    (k2 : ∀ w : World, Calls Tryd.prog 41 #[.agg #[.int .i64 an, .int .i64 ad]] w fun e w' => e = .returned (.bool false) ∧ Below w.heap.size w w')
    (k3 : ∀ w : World, Calls Tryd.prog 41 #[.agg #[.int .i64 bn, .int .i64 bd]] w fun e w' => e = .returned (.bool true) ∧ Below w.heap.size w w') (w : World) :
    Calls Tryd.prog 22 #[.agg #[.int .i64 an, .int .i64 ad], .agg #[.int .i64 bn, .int .i64 bd]] w fun e w' => e = .returned (timeV (1, 0, 0)) ∧ Below w.heap.size w w' := by
  have K0 := Lib.hid k0
  clear k0
  have K1 := Lib.hid k1
  clear k1
  have K2 := Lib.hid k2
  clear k2
  have K3 := Lib.hid k3
  clear k3
  go_enter Tryd.func22, Tryd.ntmps22
  go_wp2_with fail
  refine (K0.out _).mono ?_
  rintro e w1 ⟨rfl, hb⟩
  have FA : At2 w.heap.size an ad w1 := At2.keep ⟨by go_simp, by go_simp⟩ hb
  have FB : At2 (w.heap.size + 1) bn bd w1 := At2.keep ⟨by go_simp, by go_simp⟩ hb
  have Z : ZT (w.heap.size + 1 + 1) w1 := ZT.keep ⟨by go_simp, by go_simp, by go_simp, by go_simp⟩ hb
  have WB := box3 hb
  clear hb
  have FA2 := FA
  have FB2 := FB
  have Z2 := Z
  obtain ⟨c0, c1⟩ := FA2
  obtain ⟨c2, c3⟩ := FB2
  obtain ⟨z0, z1, z2, z3⟩ := Z2
  go_wp2_with fail
  refine (K1.out _).mono ?_
  rintro e w2 ⟨rfl, hb⟩
  replace FA := FA.keep hb
  replace FB := FB.keep hb
  replace Z := Z.keep hb
  replace WB := belowT WB hb
  clear hb c0 c1 c2 c3 z0 z1 z2 z3
  have FA2 := FA
  have FB2 := FB
  have Z2 := Z
  obtain ⟨c0, c1⟩ := FA2
  obtain ⟨c2, c3⟩ := FB2
  obtain ⟨z0, z1, z2, z3⟩ := Z2
  go_wp2_with fail
  refine (K2.out _).mono ?_
  rintro e w3 ⟨rfl, hb⟩
  replace FA := FA.keep hb
  replace FB := FB.keep hb
  replace Z := Z.keep hb
  replace WB := belowT WB hb
  clear hb c0 c1 c2 c3 z0 z1 z2 z3
  have FA2 := FA
  have FB2 := FB
  have Z2 := Z
  obtain ⟨c0, c1⟩ := FA2
  obtain ⟨c2, c3⟩ := FB2
  obtain ⟨z0, z1, z2, z3⟩ := Z2
  go_wp2_with fail
  refine (K3.out _).mono ?_
  rintro e w4 ⟨rfl, hb⟩
  replace FA := FA.keep hb
  replace FB := FB.keep hb
  replace Z := Z.keep hb
  replace WB := belowT WB hb
  clear hb c0 c1 c2 c3 z0 z1 z2 z3
  have FA2 := FA
  have FB2 := FB
  have Z2 := Z
  obtain ⟨c0, c1⟩ := FA2
  obtain ⟨c2, c3⟩ := FB2
  obtain ⟨z0, z1, z2, z3⟩ := Z2
  go_wp2
  exact bodyPost_ret (v := .tuple #[.agg #[.int .i64 1, .int .i64 0], .int .i64 0]) (by simp [results, Tryd.results22, go_sem, z0, z1]) rfl ⟨rfl, (by repeat (first | assumption | refine belowS ?_ (by omega) _))⟩

end Go.Proofs.YthdadpafankbfaaDoor
