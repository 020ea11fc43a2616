/-
  The walk of the law SpanOrders over this seat's translation: whatever three times it is handed, it answers true. Conditions: those that each theorem states.
-/
import Derived.Test.YthdadpafankbfaaDoorThirdsW
namespace Go.Proofs.YthdadpafankbfaaDoor
open Go.RowKit
attribute [local go_sem ↓] Go.wp_at_zero Go.wp_at_succ

set_option maxRecDepth 100000 in
set_option maxHeartbeats 2000000 in
theorem orders_nr0 (an ad bn bd cn cd y : Int) (y1 : -1 ≤ y) (y2 : y ≤ 1)
    (kab : ∀ w : World, Calls Tryd.prog 13 #[.agg #[.int .i64 an, .int .i64 ad], .agg #[.int .i64 bn, .int .i64 bd]] w fun e w' => e = .returned (.int .i64 (-y)) ∧ Below w.heap.size w w')
    (kba : ∀ w : World, Calls Tryd.prog 13 #[.agg #[.int .i64 bn, .int .i64 bd], .agg #[.int .i64 an, .int .i64 ad]] w fun e w' => e = .returned (.int .i64 y) ∧ Below w.heap.size w w')
    (kaa : ∀ w : World, Calls Tryd.prog 13 #[.agg #[.int .i64 an, .int .i64 ad], .agg #[.int .i64 an, .int .i64 ad]] w fun e w' => e = .returned (.int .i64 0) ∧ Below w.heap.size w w')
    (kra : ∀ w : World, Calls Tryd.prog 15 #[.agg #[.int .i64 an, .int .i64 ad]] w fun e w' => e = .returned (.bool false) ∧ Below w.heap.size w w')
    (w : World) :
    Calls Tryd.prog 3 #[.agg #[.int .i64 an, .int .i64 ad], .agg #[.int .i64 bn, .int .i64 bd], .agg #[.int .i64 cn, .int .i64 cd]] w fun e w' => e = .returned (.bool true) ∧ Below w.heap.size w w' := by
  have KAB := Lib.hid kab
  have KBA := Lib.hid kba
  have KAA := Lib.hid kaa
  have KRA := Lib.hid kra
  clear kab kba kaa kra
  go_enter Tryd.func3, Tryd.ntmps3
  go_wp2_with fail
  refine (KAB.out _).mono ?_
  rintro e w1 ⟨rfl, hb⟩
  have F1 : Box3 w.heap.size an ad bn bd cn cd w1 := Box3.keep ⟨by go_simp, by go_simp, by go_simp, by go_simp, by go_simp, by go_simp⟩ hb
  have hw := box3 hb
  clear hb
  have F2 := F1
  obtain ⟨f0, f1, f2, f3, f4, f5⟩ := F2
  go_wp2_with fail
  refine (awake_c _).mono ?_
  rintro e w2 ⟨rfl, hb⟩
  replace F1 := F1.keep hb
  replace hw := belowT hw hb
  clear hb f0 f1 f2 f3 f4 f5
  have F2 := F1
  obtain ⟨f0, f1, f2, f3, f4, f5⟩ := F2
  go_wp2_with fail
  refine (KBA.out _).mono ?_
  rintro e w3 ⟨rfl, hb⟩
  replace F1 := F1.keep hb
  replace hw := belowT hw hb
  clear hb f0 f1 f2 f3 f4 f5
  have F2 := F1
  obtain ⟨f0, f1, f2, f3, f4, f5⟩ := F2
  go_wp2_with fail
  refine (KAA.out _).mono ?_
  rintro e w4 ⟨rfl, hb⟩
  replace F1 := F1.keep hb
  replace hw := belowT hw hb
  clear hb f0 f1 f2 f3 f4 f5
  have F2 := F1
  obtain ⟨f0, f1, f2, f3, f4, f5⟩ := F2
  go_wp2_with fail
  refine (KRA.out _).mono ?_
  rintro e w5 ⟨rfl, hb⟩
  replace F1 := F1.keep hb
  replace hw := belowT hw hb
  clear hb f0 f1 f2 f3 f4 f5
  have F2 := F1
  obtain ⟨f0, f1, f2, f3, f4, f5⟩ := F2
  go_wp2
  go_ret
  exact ⟨ret_bool rfl, hw⟩

set_option maxRecDepth 100000 in
set_option maxHeartbeats 2000000 in
theorem orders_nr1 (an ad bn bd cn cd y : Int) (y1 : -1 ≤ y) (y2 : y ≤ 1)
    (kab : ∀ w : World, Calls Tryd.prog 13 #[.agg #[.int .i64 an, .int .i64 ad], .agg #[.int .i64 bn, .int .i64 bd]] w fun e w' => e = .returned (.int .i64 (-y)) ∧ Below w.heap.size w w')
    (kba : ∀ w : World, Calls Tryd.prog 13 #[.agg #[.int .i64 bn, .int .i64 bd], .agg #[.int .i64 an, .int .i64 ad]] w fun e w' => e = .returned (.int .i64 y) ∧ Below w.heap.size w w')
    (kaa : ∀ w : World, Calls Tryd.prog 13 #[.agg #[.int .i64 an, .int .i64 ad], .agg #[.int .i64 an, .int .i64 ad]] w fun e w' => e = .returned (.int .i64 0) ∧ Below w.heap.size w w')
    (kra : ∀ w : World, Calls Tryd.prog 15 #[.agg #[.int .i64 an, .int .i64 ad]] w fun e w' => e = .returned (.bool true) ∧ Below w.heap.size w w')
    (krb : ∀ w : World, Calls Tryd.prog 15 #[.agg #[.int .i64 bn, .int .i64 bd]] w fun e w' => e = .returned (.bool false) ∧ Below w.heap.size w w')
    (w : World) :
    Calls Tryd.prog 3 #[.agg #[.int .i64 an, .int .i64 ad], .agg #[.int .i64 bn, .int .i64 bd], .agg #[.int .i64 cn, .int .i64 cd]] w fun e w' => e = .returned (.bool true) ∧ Below w.heap.size w w' := by
  have KAB := Lib.hid kab
  have KBA := Lib.hid kba
  have KAA := Lib.hid kaa
  have KRA := Lib.hid kra
  have KRB := Lib.hid krb
  clear kab kba kaa kra krb
  go_enter Tryd.func3, Tryd.ntmps3
  go_wp2_with fail
  refine (KAB.out _).mono ?_
  rintro e w1 ⟨rfl, hb⟩
  have F1 : Box3 w.heap.size an ad bn bd cn cd w1 := Box3.keep ⟨by go_simp, by go_simp, by go_simp, by go_simp, by go_simp, by go_simp⟩ hb
  have hw := box3 hb
  clear hb
  have F2 := F1
  obtain ⟨f0, f1, f2, f3, f4, f5⟩ := F2
  go_wp2_with fail
  refine (awake_c _).mono ?_
  rintro e w2 ⟨rfl, hb⟩
  replace F1 := F1.keep hb
  replace hw := belowT hw hb
  clear hb f0 f1 f2 f3 f4 f5
  have F2 := F1
  obtain ⟨f0, f1, f2, f3, f4, f5⟩ := F2
  go_wp2_with fail
  refine (KBA.out _).mono ?_
  rintro e w3 ⟨rfl, hb⟩
  replace F1 := F1.keep hb
  replace hw := belowT hw hb
  clear hb f0 f1 f2 f3 f4 f5
  have F2 := F1
  obtain ⟨f0, f1, f2, f3, f4, f5⟩ := F2
  go_wp2_with fail
  refine (KAA.out _).mono ?_
  rintro e w4 ⟨rfl, hb⟩
  replace F1 := F1.keep hb
  replace hw := belowT hw hb
  clear hb f0 f1 f2 f3 f4 f5
  have F2 := F1
  obtain ⟨f0, f1, f2, f3, f4, f5⟩ := F2
  go_wp2_with fail
  refine (KRA.out _).mono ?_
  rintro e w5 ⟨rfl, hb⟩
  replace F1 := F1.keep hb
  replace hw := belowT hw hb
  clear hb f0 f1 f2 f3 f4 f5
  have F2 := F1
  obtain ⟨f0, f1, f2, f3, f4, f5⟩ := F2
  go_wp2_with fail
  refine (KRB.out _).mono ?_
  rintro e w6 ⟨rfl, hb⟩
  replace F1 := F1.keep hb
  replace hw := belowT hw hb
  clear hb f0 f1 f2 f3 f4 f5
  have F2 := F1
  obtain ⟨f0, f1, f2, f3, f4, f5⟩ := F2
  go_wp2
  go_ret
  exact ⟨ret_bool rfl, hw⟩

set_option maxRecDepth 100000 in
set_option maxHeartbeats 2000000 in
theorem orders_nr2 (an ad bn bd cn cd y : Int) (y1 : -1 ≤ y) (y2 : y ≤ 1)
    (kab : ∀ w : World, Calls Tryd.prog 13 #[.agg #[.int .i64 an, .int .i64 ad], .agg #[.int .i64 bn, .int .i64 bd]] w fun e w' => e = .returned (.int .i64 (-y)) ∧ Below w.heap.size w w')
    (kba : ∀ w : World, Calls Tryd.prog 13 #[.agg #[.int .i64 bn, .int .i64 bd], .agg #[.int .i64 an, .int .i64 ad]] w fun e w' => e = .returned (.int .i64 y) ∧ Below w.heap.size w w')
    (kaa : ∀ w : World, Calls Tryd.prog 13 #[.agg #[.int .i64 an, .int .i64 ad], .agg #[.int .i64 an, .int .i64 ad]] w fun e w' => e = .returned (.int .i64 0) ∧ Below w.heap.size w w')
    (kra : ∀ w : World, Calls Tryd.prog 15 #[.agg #[.int .i64 an, .int .i64 ad]] w fun e w' => e = .returned (.bool true) ∧ Below w.heap.size w w')
    (krb : ∀ w : World, Calls Tryd.prog 15 #[.agg #[.int .i64 bn, .int .i64 bd]] w fun e w' => e = .returned (.bool true) ∧ Below w.heap.size w w')
    (krc : ∀ w : World, Calls Tryd.prog 15 #[.agg #[.int .i64 cn, .int .i64 cd]] w fun e w' => e = .returned (.bool false) ∧ Below w.heap.size w w')
    (w : World) :
    Calls Tryd.prog 3 #[.agg #[.int .i64 an, .int .i64 ad], .agg #[.int .i64 bn, .int .i64 bd], .agg #[.int .i64 cn, .int .i64 cd]] w fun e w' => e = .returned (.bool true) ∧ Below w.heap.size w w' := by
  have KAB := Lib.hid kab
  have KBA := Lib.hid kba
  have KAA := Lib.hid kaa
  have KRA := Lib.hid kra
  have KRB := Lib.hid krb
  have KRC := Lib.hid krc
  clear kab kba kaa kra krb krc
  go_enter Tryd.func3, Tryd.ntmps3
  go_wp2_with fail
  refine (KAB.out _).mono ?_
  rintro e w1 ⟨rfl, hb⟩
  have F1 : Box3 w.heap.size an ad bn bd cn cd w1 := Box3.keep ⟨by go_simp, by go_simp, by go_simp, by go_simp, by go_simp, by go_simp⟩ hb
  have hw := box3 hb
  clear hb
  have F2 := F1
  obtain ⟨f0, f1, f2, f3, f4, f5⟩ := F2
  go_wp2_with fail
  refine (awake_c _).mono ?_
  rintro e w2 ⟨rfl, hb⟩
  replace F1 := F1.keep hb
  replace hw := belowT hw hb
  clear hb f0 f1 f2 f3 f4 f5
  have F2 := F1
  obtain ⟨f0, f1, f2, f3, f4, f5⟩ := F2
  go_wp2_with fail
  refine (KBA.out _).mono ?_
  rintro e w3 ⟨rfl, hb⟩
  replace F1 := F1.keep hb
  replace hw := belowT hw hb
  clear hb f0 f1 f2 f3 f4 f5
  have F2 := F1
  obtain ⟨f0, f1, f2, f3, f4, f5⟩ := F2
  go_wp2_with fail
  refine (KAA.out _).mono ?_
  rintro e w4 ⟨rfl, hb⟩
  replace F1 := F1.keep hb
  replace hw := belowT hw hb
  clear hb f0 f1 f2 f3 f4 f5
  have F2 := F1
  obtain ⟨f0, f1, f2, f3, f4, f5⟩ := F2
  go_wp2_with fail
  refine (KRA.out _).mono ?_
  rintro e w5 ⟨rfl, hb⟩
  replace F1 := F1.keep hb
  replace hw := belowT hw hb
  clear hb f0 f1 f2 f3 f4 f5
  have F2 := F1
  obtain ⟨f0, f1, f2, f3, f4, f5⟩ := F2
  go_wp2_with fail
  refine (KRB.out _).mono ?_
  rintro e w6 ⟨rfl, hb⟩
  replace F1 := F1.keep hb
  replace hw := belowT hw hb
  clear hb f0 f1 f2 f3 f4 f5
  have F2 := F1
  obtain ⟨f0, f1, f2, f3, f4, f5⟩ := F2
  go_wp2_with fail
  refine (KRC.out _).mono ?_
  rintro e w7 ⟨rfl, hb⟩
  replace F1 := F1.keep hb
  replace hw := belowT hw hb
  clear hb f0 f1 f2 f3 f4 f5
  have F2 := F1
  obtain ⟨f0, f1, f2, f3, f4, f5⟩ := F2
  go_wp2
  go_ret
  exact ⟨ret_bool rfl, hw⟩

def OrdCut (w : World) (an ad bn bd cn cd : Int) (s : Value) (wx : World) : Prop := s = .bool false ∧ Box3 w.heap.size an ad bn bd cn cd wx ∧ Below w.heap.size w wx

set_option maxRecDepth 100000 in
set_option maxHeartbeats 4000000 in
theorem orders_ok (an ad bn bd cn cd y z1 z2 sn sd se tn td te : Int) (y1 : -1 ≤ y) (y2 : y ≤ 1) (hE : y = 0 → an = bn ∧ ad = bd ∧ z1 = z2) (hN : ¬ y = 0 → ¬ an = bn ∨ ¬ ad = bd) (hT : 0 ≤ y → z1 ≤ 0 → z2 ≤ 0)
    (kab : ∀ w : World, Calls Tryd.prog 13 #[.agg #[.int .i64 an, .int .i64 ad], .agg #[.int .i64 bn, .int .i64 bd]] w fun e w' => e = .returned (.int .i64 (-y)) ∧ Below w.heap.size w w')
    (kba : ∀ w : World, Calls Tryd.prog 13 #[.agg #[.int .i64 bn, .int .i64 bd], .agg #[.int .i64 an, .int .i64 ad]] w fun e w' => e = .returned (.int .i64 y) ∧ Below w.heap.size w w')
    (kaa : ∀ w : World, Calls Tryd.prog 13 #[.agg #[.int .i64 an, .int .i64 ad], .agg #[.int .i64 an, .int .i64 ad]] w fun e w' => e = .returned (.int .i64 0) ∧ Below w.heap.size w w')
    (kra : ∀ w : World, Calls Tryd.prog 15 #[.agg #[.int .i64 an, .int .i64 ad]] w fun e w' => e = .returned (.bool true) ∧ Below w.heap.size w w')
    (krb : ∀ w : World, Calls Tryd.prog 15 #[.agg #[.int .i64 bn, .int .i64 bd]] w fun e w' => e = .returned (.bool true) ∧ Below w.heap.size w w')
    (krc : ∀ w : World, Calls Tryd.prog 15 #[.agg #[.int .i64 cn, .int .i64 cd]] w fun e w' => e = .returned (.bool true) ∧ Below w.heap.size w w')
    (kbc : ∀ w : World, Calls Tryd.prog 13 #[.agg #[.int .i64 bn, .int .i64 bd], .agg #[.int .i64 cn, .int .i64 cd]] w fun e w' => e = .returned (.int .i64 z1) ∧ Below w.heap.size w w')
    (kac : ∀ w : World, Calls Tryd.prog 13 #[.agg #[.int .i64 an, .int .i64 ad], .agg #[.int .i64 cn, .int .i64 cd]] w fun e w' => e = .returned (.int .i64 z2) ∧ Below w.heap.size w w')
    (ks : ∀ w : World, Calls Tryd.prog 16 #[.agg #[.int .i64 an, .int .i64 ad], .agg #[.int .i64 cn, .int .i64 cd]] w fun e w' => e = .returned (.tuple #[.agg #[.int .i64 sn, .int .i64 sd], .int .i64 se]) ∧ Below w.heap.size w w')
    (kt : ∀ w : World, Calls Tryd.prog 16 #[.agg #[.int .i64 bn, .int .i64 bd], .agg #[.int .i64 cn, .int .i64 cd]] w fun e w' => e = .returned (.tuple #[.agg #[.int .i64 tn, .int .i64 td], .int .i64 te]) ∧ Below w.heap.size w w')
    (kst : se = 0 → te = 0 → ¬ (cn = 1 ∧ cd = 0) → ∀ w : World, Calls Tryd.prog 13 #[.agg #[.int .i64 sn, .int .i64 sd], .agg #[.int .i64 tn, .int .i64 td]] w fun e w' => e = .returned (.int .i64 (-y)) ∧ Below w.heap.size w w') (w : World) :
    Calls Tryd.prog 3 #[.agg #[.int .i64 an, .int .i64 ad], .agg #[.int .i64 bn, .int .i64 bd], .agg #[.int .i64 cn, .int .i64 cd]] w fun e w' => e = .returned (.bool true) ∧ Below w.heap.size w w' := by
  have KAB := Lib.hid kab
  have KBA := Lib.hid kba
  have KAA := Lib.hid kaa
  have KRA := Lib.hid kra
  have KRB := Lib.hid krb
  have KRC := Lib.hid krc
  have KBC := Lib.hid kbc
  have KAC := Lib.hid kac
  have KS := Lib.hid ks
  have KT := Lib.hid kt
  have KST := Lib.hid kst
  have HEE := Lib.hid hE
  have HNN := Lib.hid hN
  have HTT := Lib.hid hT
  clear kab kba kaa kra krb krc kbc kac ks kt kst hE hN hT
  go_enter Tryd.func3, Tryd.ntmps3
  go_wp2_with fail
  refine (KAB.out _).mono ?_
  rintro e w1 ⟨rfl, hb⟩
  have F1 : Box3 w.heap.size an ad bn bd cn cd w1 := Box3.keep ⟨by go_simp, by go_simp, by go_simp, by go_simp, by go_simp, by go_simp⟩ hb
  have hw := box3 hb
  clear hb
  have F2 := F1
  obtain ⟨f0, f1, f2, f3, f4, f5⟩ := F2
  go_wp2_with fail
  refine (awake_c _).mono ?_
  rintro e w2 ⟨rfl, hb⟩
  replace F1 := F1.keep hb
  replace hw := belowT hw hb
  clear hb f0 f1 f2 f3 f4 f5
  have F2 := F1
  obtain ⟨f0, f1, f2, f3, f4, f5⟩ := F2
  go_wp2_with fail
  refine (KBA.out _).mono ?_
  rintro e w3 ⟨rfl, hb⟩
  replace F1 := F1.keep hb
  replace hw := belowT hw hb
  clear hb f0 f1 f2 f3 f4 f5
  have F2 := F1
  obtain ⟨f0, f1, f2, f3, f4, f5⟩ := F2
  go_wp2_with fail
  refine (KAA.out _).mono ?_
  rintro e w4 ⟨rfl, hb⟩
  replace F1 := F1.keep hb
  replace hw := belowT hw hb
  clear hb f0 f1 f2 f3 f4 f5
  have F2 := F1
  obtain ⟨f0, f1, f2, f3, f4, f5⟩ := F2
  go_wp2_with fail
  refine (KRA.out _).mono ?_
  rintro e w5 ⟨rfl, hb⟩
  replace F1 := F1.keep hb
  replace hw := belowT hw hb
  clear hb f0 f1 f2 f3 f4 f5
  have F2 := F1
  obtain ⟨f0, f1, f2, f3, f4, f5⟩ := F2
  go_wp2_with fail
  refine (KRB.out _).mono ?_
  rintro e w6 ⟨rfl, hb⟩
  replace F1 := F1.keep hb
  replace hw := belowT hw hb
  clear hb f0 f1 f2 f3 f4 f5
  have F2 := F1
  obtain ⟨f0, f1, f2, f3, f4, f5⟩ := F2
  go_wp2_with fail
  refine (KRC.out _).mono ?_
  rintro e w7 ⟨rfl, hb⟩
  replace F1 := F1.keep hb
  replace hw := belowT hw hb
  clear hb f0 f1 f2 f3 f4 f5
  have F2 := F1
  obtain ⟨f0, f1, f2, f3, f4, f5⟩ := F2
  go_upto_region 6 with fail
  go_cut [65] (fun s wx => OrdCut w an ad bn bd cn cd s wx)
  case first =>
    by_cases hy : y = 0
    · obtain ⟨rfl, rfl, rfl⟩ := HEE.out hy
      subst hy
      by_cases hz : z1 ≤ 0
      · go_wp2_with fail
        refine (KBC.out _).mono ?_
        rintro e w8 ⟨rfl, hb⟩
        replace F1 := F1.keep hb
        replace hw := belowT hw hb
        clear hb f0 f1 f2 f3 f4 f5
        have F2 := F1
        obtain ⟨f0, f1, f2, f3, f4, f5⟩ := F2
        go_wp2_with fail
        refine (KAC.out _).mono ?_
        rintro e w9 ⟨rfl, hb⟩
        replace F1 := F1.keep hb
        replace hw := belowT hw hb
        clear hb f0 f1 f2 f3 f4 f5
        go_wp2_with fail
        go_meet
        exact ⟨by simp [hz], F1, hw⟩
      · go_wp2_with fail
        refine (KBC.out _).mono ?_
        rintro e w8 ⟨rfl, hb⟩
        replace F1 := F1.keep hb
        replace hw := belowT hw hb
        clear hb f0 f1 f2 f3 f4 f5
        go_wp2_with fail
        go_meet
        exact ⟨by simp, F1, hw⟩
    · have hne := HNN.out hy
      rcases Int.lt_or_gt_of_ne hy with hy' | hy'
      · have hym : y = -1 := by omega
        subst hym
        rcases Classical.em (an = bn) with rfl | h1
        · have h2 : (ad == bd) = false := by simpa using hne
          go_wp2_with fail
          go_meet
          exact ⟨by simp, F1, hw⟩
        · have h2 : (an == bn) = false := by simpa using h1
          go_wp2_with fail
          go_meet
          exact ⟨by simp, F1, hw⟩
      · have hym : y = 1 := by omega
        subst hym
        rcases Classical.em (an = bn) with rfl | h1
        · have h2 : (ad == bd) = false := by simpa using hne
          by_cases hz : z1 ≤ 0
          · have hz2 := HTT.out (by omega) hz
            go_wp2_with fail
            refine (KBC.out _).mono ?_
            rintro e w8 ⟨rfl, hb⟩
            replace F1 := F1.keep hb
            replace hw := belowT hw hb
            clear hb f0 f1 f2 f3 f4 f5
            have F2 := F1
            obtain ⟨f0, f1, f2, f3, f4, f5⟩ := F2
            go_wp2_with fail
            refine (KAC.out _).mono ?_
            rintro e w9 ⟨rfl, hb⟩
            replace F1 := F1.keep hb
            replace hw := belowT hw hb
            clear hb f0 f1 f2 f3 f4 f5
            go_wp2_with fail
            go_meet
            exact ⟨by simp [hz2], F1, hw⟩
          · go_wp2_with fail
            refine (KBC.out _).mono ?_
            rintro e w8 ⟨rfl, hb⟩
            replace F1 := F1.keep hb
            replace hw := belowT hw hb
            clear hb f0 f1 f2 f3 f4 f5
            go_wp2_with fail
            go_meet
            exact ⟨by simp, F1, hw⟩
        · have h2 : (an == bn) = false := by simpa using h1
          by_cases hz : z1 ≤ 0
          · have hz2 := HTT.out (by omega) hz
            go_wp2_with fail
            refine (KBC.out _).mono ?_
            rintro e w8 ⟨rfl, hb⟩
            replace F1 := F1.keep hb
            replace hw := belowT hw hb
            clear hb f0 f1 f2 f3 f4 f5
            have F2 := F1
            obtain ⟨f0, f1, f2, f3, f4, f5⟩ := F2
            go_wp2_with fail
            refine (KAC.out _).mono ?_
            rintro e w9 ⟨rfl, hb⟩
            replace F1 := F1.keep hb
            replace hw := belowT hw hb
            clear hb f0 f1 f2 f3 f4 f5
            go_wp2_with fail
            go_meet
            exact ⟨by simp [hz2], F1, hw⟩
          · go_wp2_with fail
            refine (KBC.out _).mono ?_
            rintro e w8 ⟨rfl, hb⟩
            replace F1 := F1.keep hb
            replace hw := belowT hw hb
            clear hb f0 f1 f2 f3 f4 f5
            go_wp2_with fail
            go_meet
            exact ⟨by simp, F1, hw⟩
  case rest =>
    obtain ⟨rfl, F3, hw3⟩ := hcut
    have F2 := F3
    clear f0 f1 f2 f3 f4 f5 F1 hw
    obtain ⟨f0, f1, f2, f3, f4, f5⟩ := F2
    go_wp2_with fail
    refine (KS.out _).mono ?_
    rintro e w8 ⟨rfl, hb⟩
    replace F3 := F3.keep hb
    replace hw3 := belowT hw3 hb
    clear hb f0 f1 f2 f3 f4 f5
    have F2 := F3.keep (belowA (Below.refl _ w8) (.cells #[.int .i64 sn, .int .i64 sd] 23))
    obtain ⟨f0, f1, f2, f3, f4, f5⟩ := F2
    go_wp2_with fail
    refine (KT.out _).mono ?_
    rintro e w9 ⟨rfl, hb⟩
    have s0 := keepc hb (p := ⟨w8.heap.size, 0, none⟩) (v := .int .i64 sn) (by go_simp)
    have s1 := keepc hb (p := ⟨w8.heap.size, 1, none⟩) (v := .int .i64 sd) (by go_simp)
    have hx := belowT (belowA (Below.refl _ w8) _) hb
    replace F3 := F3.keep hx
    replace hw3 := belowT hw3 hx
    clear hb hx f0 f1 f2 f3 f4 f5
    have F2 := F3.keep (belowA (Below.refl _ w9) (.cells #[.int .i64 tn, .int .i64 td] 23))
    replace s0 := keepc (belowA (Below.refl _ w9) (.cells #[.int .i64 tn, .int .i64 td] 23)) s0
    replace s1 := keepc (belowA (Below.refl _ w9) (.cells #[.int .i64 tn, .int .i64 td] 23)) s1
    obtain ⟨f0, f1, f2, f3, f4, f5⟩ := F2
    clear f0 f1 f2 f3
    by_cases hs : se = 0
    · by_cases ht : te = 0
      · by_cases hc : cn = 1 ∧ cd = 0
        · obtain ⟨rfl, rfl⟩ := hc
          subst hs ht
          go_wp2_with fail
          first | go_region_with (first | (go_at_call 17; refine (never_c _).mono ?_; rintro e wn ⟨rfl, hb⟩; have g4 := keepc hb (p := ⟨w.heap.size + 1 + 1, 0, none⟩) (v := .int .i64 1) (by go_simp); have g5 := keepc hb (p := ⟨w.heap.size + 1 + 1, 1, none⟩) (v := .int .i64 0) (by go_simp))) | fail
          all_goals go_wp2
          all_goals (go_ret; exact ⟨ret_bool rfl, by repeat (first | exact Below.refl _ _ | refine belowN ?_ _ | refine Below.drew ?_ | refine belowA ?_ _ | assumption | refine belowT ?_ (by assumption))⟩)
        · have KST2 := Lib.hid (KST.out hs ht hc)
          subst hs ht
          rcases Classical.em (cn = 1) with rfl | h1
          · have h2 : (cd == 0) = false := by simpa using hc
            go_wp2_with fail
            go_region_held3 (fun w' => w'.cell? ⟨w.heap.size + 1 + 1, 0, none⟩ = some (.int .i64 1) ∧ w'.cell? ⟨w.heap.size + 1 + 1, 1, none⟩ = some (.int .i64 cd) ∧ w'.cell? ⟨w8.heap.size, 0, none⟩ = some (.int .i64 sn) ∧ w'.cell? ⟨w8.heap.size, 1, none⟩ = some (.int .i64 sd) ∧
                w'.cell? ⟨w9.heap.size, 0, none⟩ = some (.int .i64 tn) ∧ w'.cell? ⟨w9.heap.size, 1, none⟩ = some (.int .i64 td))
              (first | (go_split_ands; exact ⟨keepc hb (by assumption), keepc hb (by assumption), keepc hb (by assumption), keepc hb (by assumption), keepc hb (by assumption), keepc hb (by assumption)⟩) | go_keep)
              (first
                | (go_at_call 17; refine (never_c _).mono ?_; rintro e wn ⟨rfl, hb⟩)
                | (go_at_call 13; refine (KST2.out _).mono ?_; rintro e wn ⟨rfl, hb⟩))
            all_goals go_wp2
            all_goals (go_ret; exact ⟨ret_bool (by simp), by repeat (first | exact Below.refl _ _ | refine belowN ?_ _ | refine Below.drew ?_ | refine belowA ?_ _ | assumption | refine belowT ?_ (by assumption))⟩)
          · have h2 : (cn == 1) = false := by simpa using h1
            go_wp2_with fail
            go_region_held3 (fun w' => w'.cell? ⟨w.heap.size + 1 + 1, 0, none⟩ = some (.int .i64 cn) ∧ w'.cell? ⟨w.heap.size + 1 + 1, 1, none⟩ = some (.int .i64 cd) ∧ w'.cell? ⟨w8.heap.size, 0, none⟩ = some (.int .i64 sn) ∧ w'.cell? ⟨w8.heap.size, 1, none⟩ = some (.int .i64 sd) ∧
                w'.cell? ⟨w9.heap.size, 0, none⟩ = some (.int .i64 tn) ∧ w'.cell? ⟨w9.heap.size, 1, none⟩ = some (.int .i64 td))
              (first | (go_split_ands; exact ⟨keepc hb (by assumption), keepc hb (by assumption), keepc hb (by assumption), keepc hb (by assumption), keepc hb (by assumption), keepc hb (by assumption)⟩) | go_keep)
              (first
                | (go_at_call 17; refine (never_c _).mono ?_; rintro e wn ⟨rfl, hb⟩)
                | (go_at_call 13; refine (KST2.out _).mono ?_; rintro e wn ⟨rfl, hb⟩))
            all_goals go_wp2
            all_goals (go_ret; exact ⟨ret_bool (by simp), by repeat (first | exact Below.refl _ _ | refine belowN ?_ _ | refine Below.drew ?_ | refine belowA ?_ _ | assumption | refine belowT ?_ (by assumption))⟩)
      · have h2 : (te == 0) = false := by simpa using ht
        subst hs
        go_wp2_with fail
        go_quiet (fail)
        go_wp2
        go_ret
        exact ⟨ret_bool (by simp), by repeat (first | exact Below.refl _ _ | refine belowN ?_ _ | refine Below.drew ?_ | refine belowA ?_ _ | assumption | refine belowT ?_ (by assumption))⟩
    · have h2 : (se == 0) = false := by simpa using hs
      go_wp2_with fail
      go_quiet (fail)
      go_wp2
      go_ret
      exact ⟨ret_bool (by simp), by repeat (first | exact Below.refl _ _ | refine belowN ?_ _ | refine Below.drew ?_ | refine belowA ?_ _ | assumption | refine belowT ?_ (by assumption))⟩
end Go.Proofs.YthdadpafankbfaaDoor
