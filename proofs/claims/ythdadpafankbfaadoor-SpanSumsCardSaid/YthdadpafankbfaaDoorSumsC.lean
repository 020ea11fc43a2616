/-
  The contract of the law SpanSums over this seat's translation: whatever two times it is handed, it answers true. Conditions: the numbers are ints.
-/
import Derived.Test.YthdadpafankbfaaDoorRefX
namespace Go.Proofs.YthdadpafankbfaaDoor
open Go.RowKit
attribute [local go_sem ↓] Go.wp_at_zero Go.wp_at_succ

set_option maxHeartbeats 4000000 in
set_option maxRecDepth 100000 in
theorem sums_w (an ad bn bd sn sd se dn dd de : Int)
    (k0 : ∀ w : World, Calls Tryd.prog 16 #[.agg #[.int .i64 an, .int .i64 ad], .agg #[.int .i64 bn, .int .i64 bd]] w fun e w' => e = .returned (.tuple #[.agg #[.int .i64 sn, .int .i64 sd], .int .i64 se]) ∧ Below w.heap.size w w')
    (k1 : ∀ w : World, Calls Tryd.prog 22 #[.agg #[.int .i64 an, .int .i64 ad], .agg #[.int .i64 bn, .int .i64 bd]] w fun e w' => e = .returned (.tuple #[.agg #[.int .i64 sn, .int .i64 sd], .int .i64 se]) ∧ Below w.heap.size w w')
    (k2 : ∀ w : World, Calls Tryd.prog 18 #[.agg #[.int .i64 an, .int .i64 ad], .agg #[.int .i64 bn, .int .i64 bd]] w fun e w' => e = .returned (.tuple #[.agg #[.int .i64 dn, .int .i64 dd], .int .i64 de]) ∧ Below w.heap.size w w')
    (k3 : ∀ w : World, Calls Tryd.prog 23 #[.agg #[.int .i64 an, .int .i64 ad], .agg #[.int .i64 bn, .int .i64 bd]] w fun e w' => e = .returned (.tuple #[.agg #[.int .i64 dn, .int .i64 dd], .int .i64 de]) ∧ Below w.heap.size w w')
    (w : World) :
    Calls Tryd.prog 6 #[.agg #[.int .i64 an, .int .i64 ad], .agg #[.int .i64 bn, .int .i64 bd]] w fun e w' => e = .returned (.bool true) ∧ Below w.heap.size w w' := by
  have K0 := Lib.hid k0
  clear k0
  have K1 := Lib.hid k1
  clear k1
  have K2 := Lib.hid k2
  clear k2
  have K3 := Lib.hid k3
  clear k3
  go_enter Tryd.func6, Tryd.ntmps6
  go_wp2_with fail
  refine (K0.out _).mono ?_
  rintro e w1 ⟨rfl, hb⟩
  have FA : At2 w.heap.size an ad w1 := At2.keep ⟨by go_simp, by go_simp⟩ hb
  have FB : At2 (w.heap.size + 1) bn bd w1 := At2.keep ⟨by go_simp, by go_simp⟩ hb
  have WB := boxes hb
  clear hb
  have FA2 := FA.keep (belowA (Below.refl _ w1) (.cells #[.int .i64 sn, .int .i64 sd] 23))
  have FB2 := FB.keep (belowA (Below.refl _ w1) (.cells #[.int .i64 sn, .int .i64 sd] 23))
  obtain ⟨c0, c1⟩ := FA2
  obtain ⟨c2, c3⟩ := FB2
  go_wp2_with fail
  refine (K1.out _).mono ?_
  rintro e w2 ⟨rfl, hb⟩
  have hq := belowT (belowA (Below.refl w1.heap.size w1) _) hb
  have P1 : At2 w1.heap.size sn sd w2 := At2.keep ⟨by go_simp, by go_simp⟩ hb
  replace FA := FA.keep hq
  replace FB := FB.keep hq
  replace WB := belowT WB hq
  clear hb hq c0 c1 c2 c3
  have FA2 := FA.keep (belowA (Below.refl _ w2) (.cells #[.int .i64 sn, .int .i64 sd] 23))
  have FB2 := FB.keep (belowA (Below.refl _ w2) (.cells #[.int .i64 sn, .int .i64 sd] 23))
  obtain ⟨c0, c1⟩ := FA2
  obtain ⟨c2, c3⟩ := FB2
  go_wp2_with fail
  refine (K2.out _).mono ?_
  rintro e w3 ⟨rfl, hb⟩
  have hq := belowT (belowA (Below.refl w2.heap.size w2) _) hb
  have P2 : At2 w2.heap.size sn sd w3 := At2.keep ⟨by go_simp, by go_simp⟩ hb
  replace P1 := P1.keep hq
  replace FA := FA.keep hq
  replace FB := FB.keep hq
  replace WB := belowT WB hq
  clear hb hq c0 c1 c2 c3
  have FA2 := FA.keep (belowA (Below.refl _ w3) (.cells #[.int .i64 dn, .int .i64 dd] 23))
  have FB2 := FB.keep (belowA (Below.refl _ w3) (.cells #[.int .i64 dn, .int .i64 dd] 23))
  obtain ⟨c0, c1⟩ := FA2
  obtain ⟨c2, c3⟩ := FB2
  go_wp2_with fail
  refine (K3.out _).mono ?_
  rintro e w4 ⟨rfl, hb⟩
  have hq := belowT (belowA (Below.refl w3.heap.size w3) _) hb
  have P3 : At2 w3.heap.size dn dd w4 := At2.keep ⟨by go_simp, by go_simp⟩ hb
  replace P1 := P1.keep hq
  replace P2 := P2.keep hq
  replace FA := FA.keep hq
  replace FB := FB.keep hq
  replace WB := belowT WB hq
  clear hb hq c0 c1 c2 c3
  go_wp2_with fail
  refine (awake_c _).mono ?_
  rintro e w5 ⟨rfl, hb⟩
  have hq := belowT (belowA (Below.refl w4.heap.size w4) _) hb
  have P4 : At2 w4.heap.size dn dd w5 := At2.keep ⟨by go_simp, by go_simp⟩ hb
  replace P1 := P1.keep hq
  replace P2 := P2.keep hq
  replace P3 := P3.keep hq
  replace WB := belowT WB hq
  clear hb hq FA FB
  obtain ⟨p1, q1⟩ := P1
  obtain ⟨p2, q2⟩ := P2
  obtain ⟨p3, q3⟩ := P3
  obtain ⟨p4, q4⟩ := P4
  go_wp2
  go_ret
  exact ⟨rfl, WB⟩

theorem sums_c (an ad bn bd : Int) (ha : In64 an ∧ In64 ad) (hb : In64 bn ∧ In64 bd) (w : World) :
    Calls Tryd.prog 6 #[.agg #[.int .i64 an, .int .i64 ad], .agg #[.int .i64 bn, .int .i64 bd]] w fun e w' => e = .returned (.bool true) ∧ Below w.heap.size w w' := by
  have k1 := add_c an ad bn bd ha hb
  have k2 := radd_c an ad bn bd ha hb
  have k3 := sub_c an ad bn bd ha hb
  have k4 := rsub_c an ad bn bd ha hb
  obtain ⟨sn, sd, se, hx⟩ : ∃ a b c, addS an ad bn bd = (a, b, c) := ⟨_, _, _, rfl⟩
  obtain ⟨dn, dd, de, hy⟩ : ∃ a b c, subS an ad bn bd = (a, b, c) := ⟨_, _, _, rfl⟩
  rw [hx] at k1 k2
  rw [hy] at k3 k4
  exact sums_w an ad bn bd sn sd se dn dd de k1 k2 k3 k4 w
end Go.Proofs.YthdadpafankbfaaDoor
