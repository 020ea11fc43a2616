/-
  The contract of the law ValueOrders over this seat's translation: whatever three values it is handed, it answers true. Conditions: those that each theorem states.
-/
import Derived.Test.YtjkmgmcgbpnjhaaDoorAwake
import Derived.Test.YtjkmgmcgbpnjhaaDoorFew
import Derived.Test.YtjkmgmcgbpnjhaaDoorTextMath
namespace Go.Proofs.YtjkmgmcgbpnjhaaDoor
open Go.RowKit Go.ChangeShapes Go.WideShapes Go.ChangeAt Go.Deep
attribute [local go_sem ↓] Go.wp_at_zero Go.wp_at_succ


theorem VT.cmpB_neg (x y : VT) : VT.cmpB y x = -VT.cmpB x y := by
  unfold VT.cmpB
  by_cases h : x.okB = true ∧ y.okB = true
  · rw [if_pos h, if_pos ⟨h.2, h.1⟩]; exact VT.cmp_neg y x
  · rw [if_neg h, if_neg fun e => h ⟨e.2, e.1⟩]; rfl
theorem VT.cmpB_b (x y : VT) : -1 ≤ VT.cmpB x y ∧ VT.cmpB x y ≤ 1 := by
  unfold VT.cmpB
  split
  · exact VT.cmp_b x y
  · omega
theorem VT.cmpB_ok {x y : VT} (hx : x.okB = true) (hy : y.okB = true) : VT.cmpB x y = VT.cmp x y := by unfold VT.cmpB; rw [if_pos ⟨hx, hy⟩]

set_option maxHeartbeats 8000000 in
set_option maxRecDepth 100000 in
theorem vorders_c (x y z : VT) (s1 s2 s3 : Value) (w : World) (he : Tab w) (h1 : VT.In w x s1) (h2 : VT.In w y s2) (h3 : VT.In w z s3) :
    Calls Tryd.prog 5 #[x.val s1, y.val s2, z.val s3] w fun e w' => e = .returned (.bool true) ∧ Below w.heap.size w w' := by
  have HE := Lib.hid he
  have HN1 := Lib.hid h1
  have HN2 := Lib.hid h2
  have HN3 := Lib.hid h3
  obtain ⟨pa, ca, rfl⟩ := h1.slice
  obtain ⟨pb, cb, rfl⟩ := h2.slice
  obtain ⟨pc, cc, rfl⟩ := h3.slice
  clear h1 h2 h3 he
  have K1 := Lib.hid fun w h => right_cv x (.slice pa x.len ca) w h
  have K2 := Lib.hid fun w h => right_cv y (.slice pb y.len cb) w h
  have K3 := Lib.hid fun w h => right_cv z (.slice pc z.len cc) w h
  have KXY := Lib.hid fun w h h' => cmpV_cv x y (.slice pa x.len ca) (.slice pb y.len cb) w h h'
  have kyx := fun w h h' => cmpV_cv y x (.slice pb y.len cb) (.slice pa x.len ca) w h h'
  rw [VT.cmpB_neg x y] at kyx
  have KYX := Lib.hid kyx
  have KYZ := Lib.hid fun w h h' => cmpV_cv y z (.slice pb y.len cb) (.slice pc z.len cc) w h h'
  have KXZ := Lib.hid fun w h h' => cmpV_cv x z (.slice pa x.len ca) (.slice pc z.len cc) w h h'
  have KS := Lib.hid fun w h h' => sameV_cv x y (.slice pa x.len ca) (.slice pb y.len cb) w h h'
  have KT1 := Lib.hid fun w h h' => text_cv x (.slice pa x.len ca) w h h'
  have KT2 := Lib.hid fun w h h' => text_cv y (.slice pb y.len cb) w h h'
  have hb1 := VT.cmpB_b x y
  have hb2 := VT.cmpB_b y z
  have hb3 := VT.cmpB_b x z
  have HT := Lib.hid (show x.okB = true → y.okB = true → z.okB = true → VT.cmpB x y ≤ 0 → VT.cmpB y z ≤ 0 → VT.cmpB x z ≤ 0 from fun a b c => by
    rw [VT.cmpB_ok a b, VT.cmpB_ok b c, VT.cmpB_ok a c]
    exact fun h h' => ((VT.cmp_tri x y z).1 h h').1)
  have H0 := Lib.hid (show x.okB = true → y.okB = true → VT.cmpB x y = 0 → VT.sameB x y = true ∧ ((bs x.textB).toList == (bs y.textB).toList) = true from fun a b => by
    rw [VT.cmpB_ok a b]
    exact fun h => ⟨(VT.cmp_zero x y).1 h, by rw [(VT.text_cmp a b).2 h]; simp⟩)
  have H1 := Lib.hid (show x.okB = true → y.okB = true → VT.cmpB x y ≠ 0 → VT.sameB x y = false ∧ ((bs x.textB).toList == (bs y.textB).toList) = false from fun a b => by
    rw [VT.cmpB_ok a b]
    refine fun h => ⟨?_, ?_⟩
    · cases e : VT.sameB x y with
      | false => rfl
      | true => exact absurd ((VT.cmp_zero x y).2 e) h
    · rw [beq_eq_false_iff_ne, ByteArray.toList_eq, ByteArray.toList_eq]
      exact fun e => h ((VT.text_cmp a b).1 e))
  have HZ := Lib.hid (show ¬ (x.okB = true ∧ y.okB = true) → VT.cmpB x y = 0 from fun h => by unfold VT.cmpB; rw [if_neg h])
  clear kyx
  generalize VT.cmpB x y = c1 at *
  generalize VT.cmpB y z = c2 at *
  generalize VT.cmpB x z = c3 at *
  generalize VT.sameB x y = sb at *
  generalize bs x.textB = S1 at *
  generalize bs y.textB = S2 at *
  obtain ⟨hb1l, hb1r⟩ := hb1
  obtain ⟨hb2l, hb2r⟩ := hb2
  obtain ⟨hb3l, hb3r⟩ := hb3
  unfold VT.val at *
  have WB : Below w.heap.size w (((w.alloc (.cells #[.int .i64 x.k, .int .i64 x.n, .string x.s, .slice pa x.len ca] 35)).alloc (.cells #[.int .i64 y.k, .int .i64 y.n, .string y.s, .slice pb y.len cb] 35)).alloc (.cells #[.int .i64 z.k, .int .i64 z.n, .string z.s, .slice pc z.len cc] 35)) := bA (bA (bA (Below.refl _ _) _) _) _
  have q0 : (((w.alloc (.cells #[.int .i64 x.k, .int .i64 x.n, .string x.s, .slice pa x.len ca] 35)).alloc (.cells #[.int .i64 y.k, .int .i64 y.n, .string y.s, .slice pb y.len cb] 35)).alloc (.cells #[.int .i64 z.k, .int .i64 z.n, .string z.s, .slice pc z.len cc] 35)).cell? ⟨w.heap.size, 0, none⟩ = some (.int .i64 x.k) := by go_simp
  have q1 : (((w.alloc (.cells #[.int .i64 x.k, .int .i64 x.n, .string x.s, .slice pa x.len ca] 35)).alloc (.cells #[.int .i64 y.k, .int .i64 y.n, .string y.s, .slice pb y.len cb] 35)).alloc (.cells #[.int .i64 z.k, .int .i64 z.n, .string z.s, .slice pc z.len cc] 35)).cell? ⟨w.heap.size, 1, none⟩ = some (.int .i64 x.n) := by go_simp
  have q2 : (((w.alloc (.cells #[.int .i64 x.k, .int .i64 x.n, .string x.s, .slice pa x.len ca] 35)).alloc (.cells #[.int .i64 y.k, .int .i64 y.n, .string y.s, .slice pb y.len cb] 35)).alloc (.cells #[.int .i64 z.k, .int .i64 z.n, .string z.s, .slice pc z.len cc] 35)).cell? ⟨w.heap.size, 2, none⟩ = some (.string x.s) := by go_simp
  have q3 : (((w.alloc (.cells #[.int .i64 x.k, .int .i64 x.n, .string x.s, .slice pa x.len ca] 35)).alloc (.cells #[.int .i64 y.k, .int .i64 y.n, .string y.s, .slice pb y.len cb] 35)).alloc (.cells #[.int .i64 z.k, .int .i64 z.n, .string z.s, .slice pc z.len cc] 35)).cell? ⟨w.heap.size, 3, none⟩ = some (.slice pa x.len ca) := by go_simp
  have r0 : (((w.alloc (.cells #[.int .i64 x.k, .int .i64 x.n, .string x.s, .slice pa x.len ca] 35)).alloc (.cells #[.int .i64 y.k, .int .i64 y.n, .string y.s, .slice pb y.len cb] 35)).alloc (.cells #[.int .i64 z.k, .int .i64 z.n, .string z.s, .slice pc z.len cc] 35)).cell? ⟨w.heap.size + 1, 0, none⟩ = some (.int .i64 y.k) := by go_simp
  have r1 : (((w.alloc (.cells #[.int .i64 x.k, .int .i64 x.n, .string x.s, .slice pa x.len ca] 35)).alloc (.cells #[.int .i64 y.k, .int .i64 y.n, .string y.s, .slice pb y.len cb] 35)).alloc (.cells #[.int .i64 z.k, .int .i64 z.n, .string z.s, .slice pc z.len cc] 35)).cell? ⟨w.heap.size + 1, 1, none⟩ = some (.int .i64 y.n) := by go_simp
  have r2 : (((w.alloc (.cells #[.int .i64 x.k, .int .i64 x.n, .string x.s, .slice pa x.len ca] 35)).alloc (.cells #[.int .i64 y.k, .int .i64 y.n, .string y.s, .slice pb y.len cb] 35)).alloc (.cells #[.int .i64 z.k, .int .i64 z.n, .string z.s, .slice pc z.len cc] 35)).cell? ⟨w.heap.size + 1, 2, none⟩ = some (.string y.s) := by go_simp
  have r3 : (((w.alloc (.cells #[.int .i64 x.k, .int .i64 x.n, .string x.s, .slice pa x.len ca] 35)).alloc (.cells #[.int .i64 y.k, .int .i64 y.n, .string y.s, .slice pb y.len cb] 35)).alloc (.cells #[.int .i64 z.k, .int .i64 z.n, .string z.s, .slice pc z.len cc] 35)).cell? ⟨w.heap.size + 1, 3, none⟩ = some (.slice pb y.len cb) := by go_simp
  have u0 : (((w.alloc (.cells #[.int .i64 x.k, .int .i64 x.n, .string x.s, .slice pa x.len ca] 35)).alloc (.cells #[.int .i64 y.k, .int .i64 y.n, .string y.s, .slice pb y.len cb] 35)).alloc (.cells #[.int .i64 z.k, .int .i64 z.n, .string z.s, .slice pc z.len cc] 35)).cell? ⟨w.heap.size + 1 + 1, 0, none⟩ = some (.int .i64 z.k) := by go_simp
  have u1 : (((w.alloc (.cells #[.int .i64 x.k, .int .i64 x.n, .string x.s, .slice pa x.len ca] 35)).alloc (.cells #[.int .i64 y.k, .int .i64 y.n, .string y.s, .slice pb y.len cb] 35)).alloc (.cells #[.int .i64 z.k, .int .i64 z.n, .string z.s, .slice pc z.len cc] 35)).cell? ⟨w.heap.size + 1 + 1, 1, none⟩ = some (.int .i64 z.n) := by go_simp
  have u2 : (((w.alloc (.cells #[.int .i64 x.k, .int .i64 x.n, .string x.s, .slice pa x.len ca] 35)).alloc (.cells #[.int .i64 y.k, .int .i64 y.n, .string y.s, .slice pb y.len cb] 35)).alloc (.cells #[.int .i64 z.k, .int .i64 z.n, .string z.s, .slice pc z.len cc] 35)).cell? ⟨w.heap.size + 1 + 1, 2, none⟩ = some (.string z.s) := by go_simp
  have u3 : (((w.alloc (.cells #[.int .i64 x.k, .int .i64 x.n, .string x.s, .slice pa x.len ca] 35)).alloc (.cells #[.int .i64 y.k, .int .i64 y.n, .string y.s, .slice pb y.len cb] 35)).alloc (.cells #[.int .i64 z.k, .int .i64 z.n, .string z.s, .slice pc z.len cc] 35)).cell? ⟨w.heap.size + 1 + 1, 3, none⟩ = some (.slice pc z.len cc) := by go_simp
  go_enter Tryd.func5, Tryd.ntmps5
  go_wp2_with fail
  generalize (((w.alloc (.cells #[.int .i64 x.k, .int .i64 x.n, .string x.s, .slice pa x.len ca] 35)).alloc (.cells #[.int .i64 y.k, .int .i64 y.n, .string y.s, .slice pb y.len cb] 35)).alloc (.cells #[.int .i64 z.k, .int .i64 z.n, .string z.s, .slice pc z.len cc] 35)) = w0 at *
  refine (awake_c _ (tab_stays _ _ WB HE.out)).mono ?_
  rintro e w1 ⟨rfl, hb⟩
  replace WB := bT WB hb
  replace q0 := kc hb q0
  replace q1 := kc hb q1
  replace q2 := kc hb q2
  replace q3 := kc hb q3
  replace r0 := kc hb r0
  replace r1 := kc hb r1
  replace r2 := kc hb r2
  replace r3 := kc hb r3
  replace u0 := kc hb u0
  replace u1 := kc hb u1
  replace u2 := kc hb u2
  replace u3 := kc hb u3
  clear hb
  have HF := Lib.hid (VT.lst_in (w := w1.alloc (.cells #[.int .i64 x.k, .int .i64 x.n, .string x.s, .slice pa x.len ca, .int .i64 y.k, .int .i64 y.n, .string y.s, .slice pb y.len cb, .int .i64 z.k, .int .i64 z.n, .string z.s, .slice pc z.len cc] 35)) (f := fun i => if i = 0 then x else if i = 1 then y else z) (n := 3) (b := w1.heap.size) (by omega) (fun i hi => by
    rcases (by omega : i = 0 ∨ i = 1 ∨ i = 2) with rfl | rfl | rfl
    · exact ⟨.slice pa x.len ca, ⟨by go_simp, by go_simp, by go_simp, by go_simp⟩, inK (bA WB _) HN1.out⟩
    · exact ⟨.slice pb y.len cb, ⟨by go_simp, by go_simp, by go_simp, by go_simp⟩, inK (bA WB _) HN2.out⟩
    · exact ⟨.slice pc z.len cc, ⟨by go_simp, by go_simp, by go_simp, by go_simp⟩, inK (bA WB _) HN3.out⟩))
  go_wp2_with fail
  refine (few_c _ _ _ HF.out).mono ?_
  rintro e w2 hret
  obtain ⟨r, rfl, _, hb0⟩ := hret
  have hb := bT (bA (Below.refl _ w1) _) hb0
  clear hb0 HF
  replace WB := bT WB hb
  replace q0 := kc hb q0
  replace q1 := kc hb q1
  replace q2 := kc hb q2
  replace q3 := kc hb q3
  replace r0 := kc hb r0
  replace r1 := kc hb r1
  replace r2 := kc hb r2
  replace r3 := kc hb r3
  replace u0 := kc hb u0
  replace u1 := kc hb u1
  replace u2 := kc hb u2
  replace u3 := kc hb u3
  clear hb
  cases r with
  | false =>
    go_wp2_with fail
    refine (awake_c _ (tab_stays _ _ WB HE.out)).mono ?_
    rintro e w9 ⟨rfl, hb⟩
    go_wp2
    go_ret
    exact ⟨rfl, bT WB hb⟩
  | true =>
  go_wp2_with fail
  refine (KXY.out _ (inK WB HN1.out) (inK WB HN2.out)).mono ?_
  rintro e w8 ⟨rfl, hb⟩
  replace WB := bT WB hb
  replace q0 := kc hb q0
  replace q1 := kc hb q1
  replace q2 := kc hb q2
  replace q3 := kc hb q3
  replace r0 := kc hb r0
  replace r1 := kc hb r1
  replace r2 := kc hb r2
  replace r3 := kc hb r3
  replace u0 := kc hb u0
  replace u1 := kc hb u1
  replace u2 := kc hb u2
  replace u3 := kc hb u3
  clear hb
  go_wp2_with fail
  refine (KYX.out _ (inK WB HN2.out) (inK WB HN1.out)).mono ?_
  rintro e w8 ⟨rfl, hb⟩
  replace WB := bT WB hb
  replace q0 := kc hb q0
  replace q1 := kc hb q1
  replace q2 := kc hb q2
  replace q3 := kc hb q3
  replace r0 := kc hb r0
  replace r1 := kc hb r1
  replace r2 := kc hb r2
  replace r3 := kc hb r3
  replace u0 := kc hb u0
  replace u1 := kc hb u1
  replace u2 := kc hb u2
  replace u3 := kc hb u3
  clear hb
  have hm1 : decide (c1 < -1) = false := by simp; omega
  have hm2 : decide (1 < c1) = false := by simp; omega
  go_wp2_with fail
  refine (K1.out _ (inK WB HN1.out)).mono ?_
  rintro e w8 ⟨rfl, hb⟩
  replace WB := bT WB hb
  replace q0 := kc hb q0
  replace q1 := kc hb q1
  replace q2 := kc hb q2
  replace q3 := kc hb q3
  replace r0 := kc hb r0
  replace r1 := kc hb r1
  replace r2 := kc hb r2
  replace r3 := kc hb r3
  replace u0 := kc hb u0
  replace u1 := kc hb u1
  replace u2 := kc hb u2
  replace u3 := kc hb u3
  clear hb
  cases ha : x.okB with
  | false =>
    have hc : c1 = 0 := HZ.out (by simp [ha])
    subst hc
    clear HZ HT H0 H1
    go_wp2_with fail
    refine (K3.out _ (inK WB HN3.out)).mono ?_
    rintro e w8 ⟨rfl, hb⟩
    replace WB := bT WB hb
    replace q0 := kc hb q0
    replace q1 := kc hb q1
    replace q2 := kc hb q2
    replace q3 := kc hb q3
    replace r0 := kc hb r0
    replace r1 := kc hb r1
    replace r2 := kc hb r2
    replace r3 := kc hb r3
    replace u0 := kc hb u0
    replace u1 := kc hb u1
    replace u2 := kc hb u2
    replace u3 := kc hb u3
    clear hb
    go_wp2
    all_goals go_ret
    all_goals exact ⟨rbool (by simp), WB⟩
  | true =>
    go_wp2_with fail
    refine (K2.out _ (inK WB HN2.out)).mono ?_
    rintro e w8 ⟨rfl, hb⟩
    replace WB := bT WB hb
    replace q0 := kc hb q0
    replace q1 := kc hb q1
    replace q2 := kc hb q2
    replace q3 := kc hb q3
    replace r0 := kc hb r0
    replace r1 := kc hb r1
    replace r2 := kc hb r2
    replace r3 := kc hb r3
    replace u0 := kc hb u0
    replace u1 := kc hb u1
    replace u2 := kc hb u2
    replace u3 := kc hb u3
    clear hb
    cases hy : y.okB with
    | false =>
      have hc : c1 = 0 := HZ.out (by simp [hy])
      subst hc
      clear HZ HT H0 H1
      go_wp2_with fail
      refine (K3.out _ (inK WB HN3.out)).mono ?_
      rintro e w8 ⟨rfl, hb⟩
      replace WB := bT WB hb
      replace q0 := kc hb q0
      replace q1 := kc hb q1
      replace q2 := kc hb q2
      replace q3 := kc hb q3
      replace r0 := kc hb r0
      replace r1 := kc hb r1
      replace r2 := kc hb r2
      replace r3 := kc hb r3
      replace u0 := kc hb u0
      replace u1 := kc hb u1
      replace u2 := kc hb u2
      replace u3 := kc hb u3
      clear hb
      go_wp2
      all_goals go_ret
      all_goals exact ⟨rbool (by simp), WB⟩
    | true =>
      go_wp2_with fail
      refine (K3.out _ (inK WB HN3.out)).mono ?_
      rintro e w8 ⟨rfl, hb⟩
      replace WB := bT WB hb
      replace q0 := kc hb q0
      replace q1 := kc hb q1
      replace q2 := kc hb q2
      replace q3 := kc hb q3
      replace r0 := kc hb r0
      replace r1 := kc hb r1
      replace r2 := kc hb r2
      replace r3 := kc hb r3
      replace u0 := kc hb u0
      replace u1 := kc hb u1
      replace u2 := kc hb u2
      replace u3 := kc hb u3
      clear hb
      rw [ha, hy] at HT H0 H1
      cases hzr : z.okB with
      | false =>
        rw [hzr] at K3
        clear HZ HT H0 H1
        go_wp2_with fail
        refine (K3.out _ (inK WB HN3.out)).mono ?_
        rintro e w8 ⟨rfl, hb⟩
        replace WB := bT WB hb
        replace q0 := kc hb q0
        replace q1 := kc hb q1
        replace q2 := kc hb q2
        replace q3 := kc hb q3
        replace r0 := kc hb r0
        replace r1 := kc hb r1
        replace r2 := kc hb r2
        replace r3 := kc hb r3
        replace u0 := kc hb u0
        replace u1 := kc hb u1
        replace u2 := kc hb u2
        replace u3 := kc hb u3
        clear hb
        go_wp2
        go_ret
        exact ⟨rfl, WB⟩
      | true =>
        rw [hzr] at HT
        replace HT := Lib.hid (HT.out rfl rfl rfl)
        replace H0 := Lib.hid (H0.out rfl rfl)
        replace H1 := Lib.hid (H1.out rfl rfl)
        clear HZ ha hy hzr
        by_cases hz : c1 = 0
        · obtain ⟨hsb, hst⟩ := H0.out hz
          subst hz
          rw [hsb] at KS
          clear hsb H0 H1
          go_wp2_with fail
          go_region_held3 (fun w' => w'.cell? ⟨w.heap.size, 0, none⟩ = some (.int .i64 x.k) ∧ w'.cell? ⟨w.heap.size, 1, none⟩ = some (.int .i64 x.n) ∧ w'.cell? ⟨w.heap.size, 2, none⟩ = some (.string x.s) ∧ w'.cell? ⟨w.heap.size, 3, none⟩ = some (.slice pa x.len ca) ∧ w'.cell? ⟨w.heap.size + 1, 0, none⟩ = some (.int .i64 y.k) ∧ w'.cell? ⟨w.heap.size + 1, 1, none⟩ = some (.int .i64 y.n) ∧ w'.cell? ⟨w.heap.size + 1, 2, none⟩ = some (.string y.s) ∧ w'.cell? ⟨w.heap.size + 1, 3, none⟩ = some (.slice pb y.len cb) ∧ w'.cell? ⟨w.heap.size + 1 + 1, 0, none⟩ = some (.int .i64 z.k) ∧ w'.cell? ⟨w.heap.size + 1 + 1, 1, none⟩ = some (.int .i64 z.n) ∧ w'.cell? ⟨w.heap.size + 1 + 1, 2, none⟩ = some (.string z.s) ∧ w'.cell? ⟨w.heap.size + 1 + 1, 3, none⟩ = some (.slice pc z.len cc) ∧ Below w.heap.size w w')
            (first | exact ⟨q0, q1, q2, q3, r0, r1, r2, r3, u0, u1, u2, u3, Below.drew WB⟩ | (go_split_ands; exact ⟨kc hb (by assumption), kc hb (by assumption), kc hb (by assumption), kc hb (by assumption), kc hb (by assumption), kc hb (by assumption), kc hb (by assumption), kc hb (by assumption), kc hb (by assumption), kc hb (by assumption), kc hb (by assumption), kc hb (by assumption), bT (by assumption) hb⟩) | go_keep)
            (first
              | (go_at_call 21; refine (KS.out _ (inK (by repeat (first | with_reducible assumption | with_reducible exact Below.refl _ _ | with_reducible refine bN ?_ _ | with_reducible refine Below.drew ?_ | with_reducible refine bA ?_ _ | with_reducible refine bT ?_ (by assumption))) HN1.out) (inK (by repeat (first | with_reducible assumption | with_reducible exact Below.refl _ _ | with_reducible refine bN ?_ _ | with_reducible refine Below.drew ?_ | with_reducible refine bA ?_ _ | with_reducible refine bT ?_ (by assumption))) HN2.out)).mono ?_; rintro e w8 ⟨rfl, hb⟩)
              | (go_at_call_of 22 (Value.slice pb y.len cb); refine (KT2.out _ (tab_stays _ _ (by repeat (first | with_reducible assumption | with_reducible exact Below.refl _ _ | with_reducible refine bN ?_ _ | with_reducible refine Below.drew ?_ | with_reducible refine bA ?_ _ | with_reducible refine bT ?_ (by assumption))) HE.out) (inK (by repeat (first | with_reducible assumption | with_reducible exact Below.refl _ _ | with_reducible refine bN ?_ _ | with_reducible refine Below.drew ?_ | with_reducible refine bA ?_ _ | with_reducible refine bT ?_ (by assumption))) HN2.out)).mono ?_; rintro e w8 ⟨rfl, hb⟩)
              | (go_at_call 22; refine (KT1.out _ (tab_stays _ _ (by repeat (first | with_reducible assumption | with_reducible exact Below.refl _ _ | with_reducible refine bN ?_ _ | with_reducible refine Below.drew ?_ | with_reducible refine bA ?_ _ | with_reducible refine bT ?_ (by assumption))) HE.out) (inK (by repeat (first | with_reducible assumption | with_reducible exact Below.refl _ _ | with_reducible refine bN ?_ _ | with_reducible refine Below.drew ?_ | with_reducible refine bA ?_ _ | with_reducible refine bT ?_ (by assumption))) HN1.out)).mono ?_; rintro e w8 ⟨rfl, hb⟩))
          all_goals go_split_ands
          all_goals clear WB q0 q1 q2 q3 r0 r1 r2 r3 u0 u1 u2 u3
          all_goals have WB : Below w.heap.size w w8 := by assumption
          all_goals have q0 : w8.cell? ⟨w.heap.size, 0, none⟩ = some (.int .i64 x.k) := by assumption
          all_goals have q1 : w8.cell? ⟨w.heap.size, 1, none⟩ = some (.int .i64 x.n) := by assumption
          all_goals have q2 : w8.cell? ⟨w.heap.size, 2, none⟩ = some (.string x.s) := by assumption
          all_goals have q3 : w8.cell? ⟨w.heap.size, 3, none⟩ = some (.slice pa x.len ca) := by assumption
          all_goals have r0 : w8.cell? ⟨w.heap.size + 1, 0, none⟩ = some (.int .i64 y.k) := by assumption
          all_goals have r1 : w8.cell? ⟨w.heap.size + 1, 1, none⟩ = some (.int .i64 y.n) := by assumption
          all_goals have r2 : w8.cell? ⟨w.heap.size + 1, 2, none⟩ = some (.string y.s) := by assumption
          all_goals have r3 : w8.cell? ⟨w.heap.size + 1, 3, none⟩ = some (.slice pb y.len cb) := by assumption
          all_goals have u0 : w8.cell? ⟨w.heap.size + 1 + 1, 0, none⟩ = some (.int .i64 z.k) := by assumption
          all_goals have u1 : w8.cell? ⟨w.heap.size + 1 + 1, 1, none⟩ = some (.int .i64 z.n) := by assumption
          all_goals have u2 : w8.cell? ⟨w.heap.size + 1 + 1, 2, none⟩ = some (.string z.s) := by assumption
          all_goals have u3 : w8.cell? ⟨w.heap.size + 1 + 1, 3, none⟩ = some (.slice pc z.len cc) := by assumption
          all_goals clear hb
          all_goals
            have h10 := HT.out
            focus
              go_wp2_with fail
              refine (KYZ.out _ (inK WB HN2.out) (inK WB HN3.out)).mono ?_
              rintro e w8 ⟨rfl, hb⟩
              replace WB := bT WB hb
              replace q0 := kc hb q0
              replace q1 := kc hb q1
              replace q2 := kc hb q2
              replace q3 := kc hb q3
              replace r0 := kc hb r0
              replace r1 := kc hb r1
              replace r2 := kc hb r2
              replace r3 := kc hb r3
              replace u0 := kc hb u0
              replace u1 := kc hb u1
              replace u2 := kc hb u2
              replace u3 := kc hb u3
              clear hb
              by_cases hq : 0 < c2
              · have hq2 : decide (0 < c2) = true := by simp; omega
                go_wp2
                go_ret
                exact ⟨rfl, WB⟩
              · have hq2 : decide (0 < c2) = false := by simp; omega
                have h3 : c3 ≤ 0 := h10 (by omega) (by omega)
                have h32 : decide (c3 ≤ 0) = true := by simp; omega
                go_wp2_with fail
                refine (KXZ.out _ (inK WB HN1.out) (inK WB HN3.out)).mono ?_
                rintro e w8 ⟨rfl, hb⟩
                replace WB := bT WB hb
                replace q0 := kc hb q0
                replace q1 := kc hb q1
                replace q2 := kc hb q2
                replace q3 := kc hb q3
                replace r0 := kc hb r0
                replace r1 := kc hb r1
                replace r2 := kc hb r2
                replace r3 := kc hb r3
                replace u0 := kc hb u0
                replace u1 := kc hb u1
                replace u2 := kc hb u2
                replace u3 := kc hb u3
                clear hb
                go_wp2
                go_ret
                exact ⟨rfl, WB⟩
        · obtain ⟨hsb, hst⟩ := H1.out hz
          have hz2 : (c1 == 0) = false := by simpa using hz
          rw [hsb] at KS
          clear hsb H0 H1
          go_wp2_with fail
          go_region_held3 (fun w' => w'.cell? ⟨w.heap.size, 0, none⟩ = some (.int .i64 x.k) ∧ w'.cell? ⟨w.heap.size, 1, none⟩ = some (.int .i64 x.n) ∧ w'.cell? ⟨w.heap.size, 2, none⟩ = some (.string x.s) ∧ w'.cell? ⟨w.heap.size, 3, none⟩ = some (.slice pa x.len ca) ∧ w'.cell? ⟨w.heap.size + 1, 0, none⟩ = some (.int .i64 y.k) ∧ w'.cell? ⟨w.heap.size + 1, 1, none⟩ = some (.int .i64 y.n) ∧ w'.cell? ⟨w.heap.size + 1, 2, none⟩ = some (.string y.s) ∧ w'.cell? ⟨w.heap.size + 1, 3, none⟩ = some (.slice pb y.len cb) ∧ w'.cell? ⟨w.heap.size + 1 + 1, 0, none⟩ = some (.int .i64 z.k) ∧ w'.cell? ⟨w.heap.size + 1 + 1, 1, none⟩ = some (.int .i64 z.n) ∧ w'.cell? ⟨w.heap.size + 1 + 1, 2, none⟩ = some (.string z.s) ∧ w'.cell? ⟨w.heap.size + 1 + 1, 3, none⟩ = some (.slice pc z.len cc) ∧ Below w.heap.size w w')
            (first | exact ⟨q0, q1, q2, q3, r0, r1, r2, r3, u0, u1, u2, u3, Below.drew WB⟩ | (go_split_ands; exact ⟨kc hb (by assumption), kc hb (by assumption), kc hb (by assumption), kc hb (by assumption), kc hb (by assumption), kc hb (by assumption), kc hb (by assumption), kc hb (by assumption), kc hb (by assumption), kc hb (by assumption), kc hb (by assumption), kc hb (by assumption), bT (by assumption) hb⟩) | go_keep)
            (first
              | (go_at_call 21; refine (KS.out _ (inK (by repeat (first | with_reducible assumption | with_reducible exact Below.refl _ _ | with_reducible refine bN ?_ _ | with_reducible refine Below.drew ?_ | with_reducible refine bA ?_ _ | with_reducible refine bT ?_ (by assumption))) HN1.out) (inK (by repeat (first | with_reducible assumption | with_reducible exact Below.refl _ _ | with_reducible refine bN ?_ _ | with_reducible refine Below.drew ?_ | with_reducible refine bA ?_ _ | with_reducible refine bT ?_ (by assumption))) HN2.out)).mono ?_; rintro e w8 ⟨rfl, hb⟩)
              | (go_at_call_of 22 (Value.slice pb y.len cb); refine (KT2.out _ (tab_stays _ _ (by repeat (first | with_reducible assumption | with_reducible exact Below.refl _ _ | with_reducible refine bN ?_ _ | with_reducible refine Below.drew ?_ | with_reducible refine bA ?_ _ | with_reducible refine bT ?_ (by assumption))) HE.out) (inK (by repeat (first | with_reducible assumption | with_reducible exact Below.refl _ _ | with_reducible refine bN ?_ _ | with_reducible refine Below.drew ?_ | with_reducible refine bA ?_ _ | with_reducible refine bT ?_ (by assumption))) HN2.out)).mono ?_; rintro e w8 ⟨rfl, hb⟩)
              | (go_at_call 22; refine (KT1.out _ (tab_stays _ _ (by repeat (first | with_reducible assumption | with_reducible exact Below.refl _ _ | with_reducible refine bN ?_ _ | with_reducible refine Below.drew ?_ | with_reducible refine bA ?_ _ | with_reducible refine bT ?_ (by assumption))) HE.out) (inK (by repeat (first | with_reducible assumption | with_reducible exact Below.refl _ _ | with_reducible refine bN ?_ _ | with_reducible refine Below.drew ?_ | with_reducible refine bA ?_ _ | with_reducible refine bT ?_ (by assumption))) HN1.out)).mono ?_; rintro e w8 ⟨rfl, hb⟩))
          all_goals go_split_ands
          all_goals clear WB q0 q1 q2 q3 r0 r1 r2 r3 u0 u1 u2 u3
          all_goals have WB : Below w.heap.size w w8 := by assumption
          all_goals have q0 : w8.cell? ⟨w.heap.size, 0, none⟩ = some (.int .i64 x.k) := by assumption
          all_goals have q1 : w8.cell? ⟨w.heap.size, 1, none⟩ = some (.int .i64 x.n) := by assumption
          all_goals have q2 : w8.cell? ⟨w.heap.size, 2, none⟩ = some (.string x.s) := by assumption
          all_goals have q3 : w8.cell? ⟨w.heap.size, 3, none⟩ = some (.slice pa x.len ca) := by assumption
          all_goals have r0 : w8.cell? ⟨w.heap.size + 1, 0, none⟩ = some (.int .i64 y.k) := by assumption
          all_goals have r1 : w8.cell? ⟨w.heap.size + 1, 1, none⟩ = some (.int .i64 y.n) := by assumption
          all_goals have r2 : w8.cell? ⟨w.heap.size + 1, 2, none⟩ = some (.string y.s) := by assumption
          all_goals have r3 : w8.cell? ⟨w.heap.size + 1, 3, none⟩ = some (.slice pb y.len cb) := by assumption
          all_goals have u0 : w8.cell? ⟨w.heap.size + 1 + 1, 0, none⟩ = some (.int .i64 z.k) := by assumption
          all_goals have u1 : w8.cell? ⟨w.heap.size + 1 + 1, 1, none⟩ = some (.int .i64 z.n) := by assumption
          all_goals have u2 : w8.cell? ⟨w.heap.size + 1 + 1, 2, none⟩ = some (.string z.s) := by assumption
          all_goals have u3 : w8.cell? ⟨w.heap.size + 1 + 1, 3, none⟩ = some (.slice pc z.len cc) := by assumption
          all_goals clear hb
          all_goals
            have h10 := HT.out
            by_cases hp : 0 < c1
            · have hp2 : decide (0 < c1) = true := by simp; omega
              go_wp2
              go_ret
              exact ⟨rfl, WB⟩
            · have hp2 : decide (0 < c1) = false := by simp; omega
              go_wp2_with fail
              refine (KYZ.out _ (inK WB HN2.out) (inK WB HN3.out)).mono ?_
              rintro e w8 ⟨rfl, hb⟩
              replace WB := bT WB hb
              replace q0 := kc hb q0
              replace q1 := kc hb q1
              replace q2 := kc hb q2
              replace q3 := kc hb q3
              replace r0 := kc hb r0
              replace r1 := kc hb r1
              replace r2 := kc hb r2
              replace r3 := kc hb r3
              replace u0 := kc hb u0
              replace u1 := kc hb u1
              replace u2 := kc hb u2
              replace u3 := kc hb u3
              clear hb
              by_cases hq : 0 < c2
              · have hq2 : decide (0 < c2) = true := by simp; omega
                go_wp2
                go_ret
                exact ⟨rfl, WB⟩
              · have hq2 : decide (0 < c2) = false := by simp; omega
                have h3 : c3 ≤ 0 := h10 (by omega) (by omega)
                have h32 : decide (c3 ≤ 0) = true := by simp; omega
                go_wp2_with fail
                refine (KXZ.out _ (inK WB HN1.out) (inK WB HN3.out)).mono ?_
                rintro e w8 ⟨rfl, hb⟩
                replace WB := bT WB hb
                replace q0 := kc hb q0
                replace q1 := kc hb q1
                replace q2 := kc hb q2
                replace q3 := kc hb q3
                replace r0 := kc hb r0
                replace r1 := kc hb r1
                replace r2 := kc hb r2
                replace r3 := kc hb r3
                replace u0 := kc hb u0
                replace u1 := kc hb u1
                replace u2 := kc hb u2
                replace u3 := kc hb u3
                clear hb
                go_wp2
                go_ret
                exact ⟨rfl, WB⟩
end Go.Proofs.YtjkmgmcgbpnjhaaDoor
