/-
  The contract of the given package gavotteref01's Cmp over this seat's translation, where nothing is reckoned. Conditions: those that each theorem states.
-/
import Derived.Test.YthdadpafankbfaaDoorMakesW
import Derived.Test.YthdadpafankbfaaDoorRefN
namespace Go.Proofs.YthdadpafankbfaaDoor
open Go.RowKit
attribute [local go_sem ↓] Go.wp_at_zero Go.wp_at_succ

set_option maxHeartbeats 4000000 in
theorem rcmp_nota (an ad bn bd : Int)
    (kra : ∀ w : World, Calls Tryd.prog 24 #[.agg #[.int .i64 an, .int .i64 ad]] w fun e w' => e = .returned (.bool false) ∧ Below w.heap.size w w') (w : World) :
    Calls Tryd.prog 25 #[.agg #[.int .i64 an, .int .i64 ad], .agg #[.int .i64 bn, .int .i64 bd]] w fun e w' => e = .returned (.int .i64 (0)) ∧ Below w.heap.size w w' := by
  have KRA := Lib.hid kra
  clear kra
  go_enter Tryd.func25, Tryd.ntmps25
  go_wp2_with fail
  refine (KRA.out _).mono ?_
  rintro e w1 ⟨rfl, hb⟩
  have FA : At2 w.heap.size an ad w1 := At2.keep ⟨by go_simp, by go_simp⟩ hb
  have FB : At2 (w.heap.size + 1) bn bd w1 := At2.keep ⟨by go_simp, by go_simp⟩ hb
  have WB := belowT (belowA (belowA (Below.refl _ w) _) _) hb
  clear hb
  have FA2 := FA
  have FB2 := FB
  obtain ⟨c0, c1⟩ := FA2
  obtain ⟨c2, c3⟩ := FB2
  go_wp2
  go_ret
  exact ⟨rfl, WB⟩

set_option maxHeartbeats 4000000 in
theorem rcmp_notb (an ad bn bd : Int)
    (kra : ∀ w : World, Calls Tryd.prog 24 #[.agg #[.int .i64 an, .int .i64 ad]] w fun e w' => e = .returned (.bool true) ∧ Below w.heap.size w w')
    (krb : ∀ w : World, Calls Tryd.prog 24 #[.agg #[.int .i64 bn, .int .i64 bd]] w fun e w' => e = .returned (.bool false) ∧ Below w.heap.size w w') (w : World) :
    Calls Tryd.prog 25 #[.agg #[.int .i64 an, .int .i64 ad], .agg #[.int .i64 bn, .int .i64 bd]] w fun e w' => e = .returned (.int .i64 (0)) ∧ Below w.heap.size w w' := by
  have KRA := Lib.hid kra
  clear kra
  have KRB := Lib.hid krb
  clear krb
  go_enter Tryd.func25, Tryd.ntmps25
  go_wp2_with fail
  refine (KRA.out _).mono ?_
  rintro e w1 ⟨rfl, hb⟩
  have FA : At2 w.heap.size an ad w1 := At2.keep ⟨by go_simp, by go_simp⟩ hb
  have FB : At2 (w.heap.size + 1) bn bd w1 := At2.keep ⟨by go_simp, by go_simp⟩ hb
  have WB := belowT (belowA (belowA (Below.refl _ w) _) _) hb
  clear hb
  have FA2 := FA
  have FB2 := FB
  obtain ⟨c0, c1⟩ := FA2
  obtain ⟨c2, c3⟩ := FB2
  go_wp2_with fail
  refine (KRB.out _).mono ?_
  rintro e w2 ⟨rfl, hb⟩
  replace FA := FA.keep hb
  replace FB := FB.keep hb
  replace WB := belowT WB hb
  clear hb c0 c1 c2 c3
  have FA2 := FA
  have FB2 := FB
  obtain ⟨c0, c1⟩ := FA2
  obtain ⟨c2, c3⟩ := FB2
  go_wp2
  go_ret
  exact ⟨rfl, WB⟩

set_option maxHeartbeats 4000000 in
theorem rcmp_same (an ad : Int)
    (kra : ∀ w : World, Calls Tryd.prog 24 #[.agg #[.int .i64 an, .int .i64 ad]] w fun e w' => e = .returned (.bool true) ∧ Below w.heap.size w w')
    (krb : ∀ w : World, Calls Tryd.prog 24 #[.agg #[.int .i64 an, .int .i64 ad]] w fun e w' => e = .returned (.bool true) ∧ Below w.heap.size w w') (w : World) :
    Calls Tryd.prog 25 #[.agg #[.int .i64 an, .int .i64 ad], .agg #[.int .i64 an, .int .i64 ad]] w fun e w' => e = .returned (.int .i64 (0)) ∧ Below w.heap.size w w' := by
  have KRA := Lib.hid kra
  clear kra
  have KRB := Lib.hid krb
  clear krb
  go_enter Tryd.func25, Tryd.ntmps25
  go_wp2_with fail
  refine (KRA.out _).mono ?_
  rintro e w1 ⟨rfl, hb⟩
  have FA : At2 w.heap.size an ad w1 := At2.keep ⟨by go_simp, by go_simp⟩ hb
  have FB : At2 (w.heap.size + 1) an ad w1 := At2.keep ⟨by go_simp, by go_simp⟩ hb
  have WB := belowT (belowA (belowA (Below.refl _ w) _) _) hb
  clear hb
  have FA2 := FA
  have FB2 := FB
  obtain ⟨c0, c1⟩ := FA2
  obtain ⟨c2, c3⟩ := FB2
  go_wp2_with fail
  refine (KRB.out _).mono ?_
  rintro e w2 ⟨rfl, hb⟩
  replace FA := FA.keep hb
  replace FB := FB.keep hb
  replace WB := belowT WB hb
  clear hb c0 c1 c2 c3
  have FA2 := FA
  have FB2 := FB
  obtain ⟨c0, c1⟩ := FA2
  obtain ⟨c2, c3⟩ := FB2
  go_wp2
  go_ret
  exact ⟨rfl, WB⟩

set_option maxHeartbeats 4000000 in
theorem rcmp_na1 (an ad bn bd : Int) (hne : (an == bn) = false)
    (kra : ∀ w : World, Calls Tryd.prog 24 #[.agg #[.int .i64 an, .int .i64 ad]] w fun e w' => e = .returned (.bool true) ∧ Below w.heap.size w w')
    (krb : ∀ w : World, Calls Tryd.prog 24 #[.agg #[.int .i64 bn, .int .i64 bd]] w fun e w' => e = .returned (.bool true) ∧ Below w.heap.size w w')
    (kna : ∀ w : World, Calls Tryd.prog 41 #[.agg #[.int .i64 an, .int .i64 ad]] w fun e w' => e = .returned (.bool true) ∧ Below w.heap.size w w') (w : World) :
    Calls Tryd.prog 25 #[.agg #[.int .i64 an, .int .i64 ad], .agg #[.int .i64 bn, .int .i64 bd]] w fun e w' => e = .returned (.int .i64 (1)) ∧ Below w.heap.size w w' := by
  have KRA := Lib.hid kra
  clear kra
  have KRB := Lib.hid krb
  clear krb
  have KNA := Lib.hid kna
  clear kna
  go_enter Tryd.func25, Tryd.ntmps25
  go_wp2_with fail
  refine (KRA.out _).mono ?_
  rintro e w1 ⟨rfl, hb⟩
  have FA : At2 w.heap.size an ad w1 := At2.keep ⟨by go_simp, by go_simp⟩ hb
  have FB : At2 (w.heap.size + 1) bn bd w1 := At2.keep ⟨by go_simp, by go_simp⟩ hb
  have WB := belowT (belowA (belowA (Below.refl _ w) _) _) hb
  clear hb
  have FA2 := FA
  have FB2 := FB
  obtain ⟨c0, c1⟩ := FA2
  obtain ⟨c2, c3⟩ := FB2
  go_wp2_with fail
  refine (KRB.out _).mono ?_
  rintro e w2 ⟨rfl, hb⟩
  replace FA := FA.keep hb
  replace FB := FB.keep hb
  replace WB := belowT WB hb
  clear hb c0 c1 c2 c3
  have FA2 := FA
  have FB2 := FB
  obtain ⟨c0, c1⟩ := FA2
  obtain ⟨c2, c3⟩ := FB2
  go_wp2_with fail
  refine (KNA.out _).mono ?_
  rintro e w3 ⟨rfl, hb⟩
  replace FA := FA.keep hb
  replace FB := FB.keep hb
  replace WB := belowT WB hb
  clear hb c0 c1 c2 c3
  have FA2 := FA
  have FB2 := FB
  obtain ⟨c0, c1⟩ := FA2
  obtain ⟨c2, c3⟩ := FB2
  go_wp2
  go_ret
  exact ⟨rfl, WB⟩

set_option maxHeartbeats 4000000 in
theorem rcmp_nb1 (an ad bn bd : Int) (hne : (an == bn) = false)
    (kra : ∀ w : World, Calls Tryd.prog 24 #[.agg #[.int .i64 an, .int .i64 ad]] w fun e w' => e = .returned (.bool true) ∧ Below w.heap.size w w')
    (krb : ∀ w : World, Calls Tryd.prog 24 #[.agg #[.int .i64 bn, .int .i64 bd]] w fun e w' => e = .returned (.bool true) ∧ Below w.heap.size w w')
    (kna : ∀ w : World, Calls Tryd.prog 41 #[.agg #[.int .i64 an, .int .i64 ad]] w fun e w' => e = .returned (.bool false) ∧ Below w.heap.size w w')
    (knb : ∀ w : World, Calls Tryd.prog 41 #[.agg #[.int .i64 bn, .int .i64 bd]] w fun e w' => e = .returned (.bool true) ∧ Below w.heap.size w w') (w : World) :
    Calls Tryd.prog 25 #[.agg #[.int .i64 an, .int .i64 ad], .agg #[.int .i64 bn, .int .i64 bd]] w fun e w' => e = .returned (.int .i64 (-1)) ∧ Below w.heap.size w w' := by
  have KRA := Lib.hid kra
  clear kra
  have KRB := Lib.hid krb
  clear krb
  have KNA := Lib.hid kna
  clear kna
  have KNB := Lib.hid knb
  clear knb
  go_enter Tryd.func25, Tryd.ntmps25
  go_wp2_with fail
  refine (KRA.out _).mono ?_
  rintro e w1 ⟨rfl, hb⟩
  have FA : At2 w.heap.size an ad w1 := At2.keep ⟨by go_simp, by go_simp⟩ hb
  have FB : At2 (w.heap.size + 1) bn bd w1 := At2.keep ⟨by go_simp, by go_simp⟩ hb
  have WB := belowT (belowA (belowA (Below.refl _ w) _) _) hb
  clear hb
  have FA2 := FA
  have FB2 := FB
  obtain ⟨c0, c1⟩ := FA2
  obtain ⟨c2, c3⟩ := FB2
  go_wp2_with fail
  refine (KRB.out _).mono ?_
  rintro e w2 ⟨rfl, hb⟩
  replace FA := FA.keep hb
  replace FB := FB.keep hb
  replace WB := belowT WB hb
  clear hb c0 c1 c2 c3
  have FA2 := FA
  have FB2 := FB
  obtain ⟨c0, c1⟩ := FA2
  obtain ⟨c2, c3⟩ := FB2
  go_wp2_with fail
  refine (KNA.out _).mono ?_
  rintro e w3 ⟨rfl, hb⟩
  replace FA := FA.keep hb
  replace FB := FB.keep hb
  replace WB := belowT WB hb
  clear hb c0 c1 c2 c3
  have FA2 := FA
  have FB2 := FB
  obtain ⟨c0, c1⟩ := FA2
  obtain ⟨c2, c3⟩ := FB2
  go_wp2_with fail
  refine (KNB.out _).mono ?_
  rintro e w4 ⟨rfl, hb⟩
  replace FA := FA.keep hb
  replace FB := FB.keep hb
  replace WB := belowT WB hb
  clear hb c0 c1 c2 c3
  have FA2 := FA
  have FB2 := FB
  obtain ⟨c0, c1⟩ := FA2
  obtain ⟨c2, c3⟩ := FB2
  go_wp2
  go_ret
  exact ⟨rfl, WB⟩

set_option maxHeartbeats 4000000 in
theorem rcmp_na2 (an ad bd : Int) (hne : (ad == bd) = false)
    (kra : ∀ w : World, Calls Tryd.prog 24 #[.agg #[.int .i64 an, .int .i64 ad]] w fun e w' => e = .returned (.bool true) ∧ Below w.heap.size w w')
    (krb : ∀ w : World, Calls Tryd.prog 24 #[.agg #[.int .i64 an, .int .i64 bd]] w fun e w' => e = .returned (.bool true) ∧ Below w.heap.size w w')
    (kna : ∀ w : World, Calls Tryd.prog 41 #[.agg #[.int .i64 an, .int .i64 ad]] w fun e w' => e = .returned (.bool true) ∧ Below w.heap.size w w') (w : World) :
    Calls Tryd.prog 25 #[.agg #[.int .i64 an, .int .i64 ad], .agg #[.int .i64 an, .int .i64 bd]] w fun e w' => e = .returned (.int .i64 (1)) ∧ Below w.heap.size w w' := by
  have KRA := Lib.hid kra
  clear kra
  have KRB := Lib.hid krb
  clear krb
  have KNA := Lib.hid kna
  clear kna
  go_enter Tryd.func25, Tryd.ntmps25
  go_wp2_with fail
  refine (KRA.out _).mono ?_
  rintro e w1 ⟨rfl, hb⟩
  have FA : At2 w.heap.size an ad w1 := At2.keep ⟨by go_simp, by go_simp⟩ hb
  have FB : At2 (w.heap.size + 1) an bd w1 := At2.keep ⟨by go_simp, by go_simp⟩ hb
  have WB := belowT (belowA (belowA (Below.refl _ w) _) _) hb
  clear hb
  have FA2 := FA
  have FB2 := FB
  obtain ⟨c0, c1⟩ := FA2
  obtain ⟨c2, c3⟩ := FB2
  go_wp2_with fail
  refine (KRB.out _).mono ?_
  rintro e w2 ⟨rfl, hb⟩
  replace FA := FA.keep hb
  replace FB := FB.keep hb
  replace WB := belowT WB hb
  clear hb c0 c1 c2 c3
  have FA2 := FA
  have FB2 := FB
  obtain ⟨c0, c1⟩ := FA2
  obtain ⟨c2, c3⟩ := FB2
  go_wp2_with fail
  refine (KNA.out _).mono ?_
  rintro e w3 ⟨rfl, hb⟩
  replace FA := FA.keep hb
  replace FB := FB.keep hb
  replace WB := belowT WB hb
  clear hb c0 c1 c2 c3
  have FA2 := FA
  have FB2 := FB
  obtain ⟨c0, c1⟩ := FA2
  obtain ⟨c2, c3⟩ := FB2
  go_wp2
  go_ret
  exact ⟨rfl, WB⟩

set_option maxHeartbeats 4000000 in
theorem rcmp_nb2 (an ad bd : Int) (hne : (ad == bd) = false)
    (kra : ∀ w : World, Calls Tryd.prog 24 #[.agg #[.int .i64 an, .int .i64 ad]] w fun e w' => e = .returned (.bool true) ∧ Below w.heap.size w w')
    (krb : ∀ w : World, Calls Tryd.prog 24 #[.agg #[.int .i64 an, .int .i64 bd]] w fun e w' => e = .returned (.bool true) ∧ Below w.heap.size w w')
    (kna : ∀ w : World, Calls Tryd.prog 41 #[.agg #[.int .i64 an, .int .i64 ad]] w fun e w' => e = .returned (.bool false) ∧ Below w.heap.size w w')
    (knb : ∀ w : World, Calls Tryd.prog 41 #[.agg #[.int .i64 an, .int .i64 bd]] w fun e w' => e = .returned (.bool true) ∧ Below w.heap.size w w') (w : World) :
    Calls Tryd.prog 25 #[.agg #[.int .i64 an, .int .i64 ad], .agg #[.int .i64 an, .int .i64 bd]] w fun e w' => e = .returned (.int .i64 (-1)) ∧ Below w.heap.size w w' := by
  have KRA := Lib.hid kra
  clear kra
  have KRB := Lib.hid krb
  clear krb
  have KNA := Lib.hid kna
  clear kna
  have KNB := Lib.hid knb
  clear knb
  go_enter Tryd.func25, Tryd.ntmps25
  go_wp2_with fail
  refine (KRA.out _).mono ?_
  rintro e w1 ⟨rfl, hb⟩
  have FA : At2 w.heap.size an ad w1 := At2.keep ⟨by go_simp, by go_simp⟩ hb
  have FB : At2 (w.heap.size + 1) an bd w1 := At2.keep ⟨by go_simp, by go_simp⟩ hb
  have WB := belowT (belowA (belowA (Below.refl _ w) _) _) hb
  clear hb
  have FA2 := FA
  have FB2 := FB
  obtain ⟨c0, c1⟩ := FA2
  obtain ⟨c2, c3⟩ := FB2
  go_wp2_with fail
  refine (KRB.out _).mono ?_
  rintro e w2 ⟨rfl, hb⟩
  replace FA := FA.keep hb
  replace FB := FB.keep hb
  replace WB := belowT WB hb
  clear hb c0 c1 c2 c3
  have FA2 := FA
  have FB2 := FB
  obtain ⟨c0, c1⟩ := FA2
  obtain ⟨c2, c3⟩ := FB2
  go_wp2_with fail
  refine (KNA.out _).mono ?_
  rintro e w3 ⟨rfl, hb⟩
  replace FA := FA.keep hb
  replace FB := FB.keep hb
  replace WB := belowT WB hb
  clear hb c0 c1 c2 c3
  have FA2 := FA
  have FB2 := FB
  obtain ⟨c0, c1⟩ := FA2
  obtain ⟨c2, c3⟩ := FB2
  go_wp2_with fail
  refine (KNB.out _).mono ?_
  rintro e w4 ⟨rfl, hb⟩
  replace FA := FA.keep hb
  replace FB := FB.keep hb
  replace WB := belowT WB hb
  clear hb c0 c1 c2 c3
  have FA2 := FA
  have FB2 := FB
  obtain ⟨c0, c1⟩ := FA2
  obtain ⟨c2, c3⟩ := FB2
  go_wp2
  go_ret
  exact ⟨rfl, WB⟩

end Go.Proofs.YthdadpafankbfaaDoor
