/-
  The contract of the law ValueCmps over this seat's translation: whatever two values it is handed, it answers true. Conditions: those that each theorem states.
-/
import Derived.Test.YtjkmgmcgbpnjhaaDoorAwake
import Derived.Test.YtjkmgmcgbpnjhaaDoorFew
import Derived.Test.YtjkmgmcgbpnjhaaDoorRSameV
import Derived.Test.YtjkmgmcgbpnjhaaDoorRCmpV
import Derived.Test.YtjkmgmcgbpnjhaaDoorRightC
namespace Go.Proofs.YtjkmgmcgbpnjhaaDoor
open Go.RowKit Go.ChangeShapes Go.WideShapes Go.ChangeAt Go.Deep
attribute [local go_sem ↓] Go.wp_at_zero Go.wp_at_succ


set_option maxHeartbeats 4000000 in
theorem cmps_c (x y : VT) (s1 s2 : Value) (w : World) (he : Tab w) (h1 : VT.In w x s1) (h2 : VT.In w y s2) :
    Calls Tryd.prog 8 #[x.val s1, y.val s2] w fun e w' => e = .returned (.bool true) ∧ Below w.heap.size w w' := by
  have HE := Lib.hid he
  have HN1 := Lib.hid h1
  have HN2 := Lib.hid h2
  obtain ⟨pa, ca, rfl⟩ := h1.slice
  obtain ⟨pb, cb, rfl⟩ := h2.slice
  clear h1 h2 he
  have k1 := fun w h => rright_v 3 (by omega) x (.slice pa x.len ca) w h
  have k2 := fun w h => rright_v 3 (by omega) y (.slice pb y.len cb) w h
  rw [show VT.rightB 3 x = x.okB from rfl] at k1
  rw [show VT.rightB 3 y = y.okB from rfl] at k2
  have KC := Lib.hid fun w h h' => cmpV_cv x y (.slice pa x.len ca) (.slice pb y.len cb) w h h'
  have KS := Lib.hid fun w h h' => sameV_cv x y (.slice pa x.len ca) (.slice pb y.len cb) w h h'
  have KR := Lib.hid fun w h h' => rsameV_c x y (.slice pa x.len ca) (.slice pb y.len cb) w h h'
  have KM := Lib.hid fun w h h' => rcmpV_c x y (.slice pa x.len ca) (.slice pb y.len cb) w h h'
  have hv : VT.cmpB x y = if x.okB = true ∧ y.okB = true then VT.cmp x y else 0 := rfl
  have HV := Lib.hid hv
  have K1 := Lib.hid k1
  have K2 := Lib.hid k2
  clear k1 k2 hv
  generalize VT.cmpB x y = c at *
  generalize VT.cmp x y = c' at *
  generalize VT.sameB x y = sb at *
  unfold VT.val at *
  have WB : Below w.heap.size w ((w.alloc (.cells #[.int .i64 x.k, .int .i64 x.n, .string x.s, .slice pa x.len ca] 35)).alloc (.cells #[.int .i64 y.k, .int .i64 y.n, .string y.s, .slice pb y.len cb] 35)) := bA (bA (Below.refl _ _) _) _
  have q0 : ((w.alloc (.cells #[.int .i64 x.k, .int .i64 x.n, .string x.s, .slice pa x.len ca] 35)).alloc (.cells #[.int .i64 y.k, .int .i64 y.n, .string y.s, .slice pb y.len cb] 35)).cell? ⟨w.heap.size, 0, none⟩ = some (.int .i64 x.k) := by go_simp
  have q1 : ((w.alloc (.cells #[.int .i64 x.k, .int .i64 x.n, .string x.s, .slice pa x.len ca] 35)).alloc (.cells #[.int .i64 y.k, .int .i64 y.n, .string y.s, .slice pb y.len cb] 35)).cell? ⟨w.heap.size, 1, none⟩ = some (.int .i64 x.n) := by go_simp
  have q2 : ((w.alloc (.cells #[.int .i64 x.k, .int .i64 x.n, .string x.s, .slice pa x.len ca] 35)).alloc (.cells #[.int .i64 y.k, .int .i64 y.n, .string y.s, .slice pb y.len cb] 35)).cell? ⟨w.heap.size, 2, none⟩ = some (.string x.s) := by go_simp
  have q3 : ((w.alloc (.cells #[.int .i64 x.k, .int .i64 x.n, .string x.s, .slice pa x.len ca] 35)).alloc (.cells #[.int .i64 y.k, .int .i64 y.n, .string y.s, .slice pb y.len cb] 35)).cell? ⟨w.heap.size, 3, none⟩ = some (.slice pa x.len ca) := by go_simp
  have r0 : ((w.alloc (.cells #[.int .i64 x.k, .int .i64 x.n, .string x.s, .slice pa x.len ca] 35)).alloc (.cells #[.int .i64 y.k, .int .i64 y.n, .string y.s, .slice pb y.len cb] 35)).cell? ⟨w.heap.size + 1, 0, none⟩ = some (.int .i64 y.k) := by go_simp
  have r1 : ((w.alloc (.cells #[.int .i64 x.k, .int .i64 x.n, .string x.s, .slice pa x.len ca] 35)).alloc (.cells #[.int .i64 y.k, .int .i64 y.n, .string y.s, .slice pb y.len cb] 35)).cell? ⟨w.heap.size + 1, 1, none⟩ = some (.int .i64 y.n) := by go_simp
  have r2 : ((w.alloc (.cells #[.int .i64 x.k, .int .i64 x.n, .string x.s, .slice pa x.len ca] 35)).alloc (.cells #[.int .i64 y.k, .int .i64 y.n, .string y.s, .slice pb y.len cb] 35)).cell? ⟨w.heap.size + 1, 2, none⟩ = some (.string y.s) := by go_simp
  have r3 : ((w.alloc (.cells #[.int .i64 x.k, .int .i64 x.n, .string x.s, .slice pa x.len ca] 35)).alloc (.cells #[.int .i64 y.k, .int .i64 y.n, .string y.s, .slice pb y.len cb] 35)).cell? ⟨w.heap.size + 1, 3, none⟩ = some (.slice pb y.len cb) := by go_simp
  go_enter Tryd.func8, Tryd.ntmps8
  go_wp2_with fail
  generalize ((w.alloc (.cells #[.int .i64 x.k, .int .i64 x.n, .string x.s, .slice pa x.len ca] 35)).alloc (.cells #[.int .i64 y.k, .int .i64 y.n, .string y.s, .slice pb y.len cb] 35)) = w0 at *
  refine (awake_c _ (tab_stays _ _ WB HE.out)).mono ?_
  rintro e w1 ⟨rfl, hb⟩
  replace WB := bT WB hb
  replace q0 := kc hb q0
  replace q1 := kc hb q1
  replace q2 := kc hb q2
  replace q3 := kc hb q3
  replace r0 := kc hb r0
  replace r1 := kc hb r1
  replace r2 := kc hb r2
  replace r3 := kc hb r3
  clear hb
  have HF := Lib.hid (VT.lst_in (w := w1.alloc (.cells #[.int .i64 x.k, .int .i64 x.n, .string x.s, .slice pa x.len ca, .int .i64 y.k, .int .i64 y.n, .string y.s, .slice pb y.len cb] 35)) (f := fun i => if i = 0 then x else y) (n := 2) (b := w1.heap.size) (by omega) (fun i hi => by
    rcases (by omega : i = 0 ∨ i = 1) with rfl | rfl
    · exact ⟨.slice pa x.len ca, ⟨by go_simp, by go_simp, by go_simp, by go_simp⟩, inK (bA WB _) HN1.out⟩
    · exact ⟨.slice pb y.len cb, ⟨by go_simp, by go_simp, by go_simp, by go_simp⟩, inK (bA WB _) HN2.out⟩))
  go_wp2_with fail
  refine (few_c _ _ _ HF.out).mono ?_
  rintro e w2 hret
  obtain ⟨r, rfl, _, hb0⟩ := hret
  have hb := bT (bA (Below.refl _ w1) _) hb0
  clear hb0 HF
  replace WB := bT WB hb
  replace q0 := kc hb q0
  replace q1 := kc hb q1
  replace q2 := kc hb q2
  replace q3 := kc hb q3
  replace r0 := kc hb r0
  replace r1 := kc hb r1
  replace r2 := kc hb r2
  replace r3 := kc hb r3
  clear hb
  cases r with
  | false =>
    go_wp2_with fail
    refine (awake_c _ (tab_stays _ _ WB HE.out)).mono ?_
    rintro e w9 ⟨rfl, hb⟩
    go_wp2
    go_ret
    exact ⟨rfl, bT WB hb⟩
  | true =>
  go_wp2_with fail
  refine (K1.out _ (inK WB HN1.out)).mono ?_
  rintro e w3 ⟨rfl, hb⟩
  replace WB := bT WB hb
  replace q0 := kc hb q0
  replace q1 := kc hb q1
  replace q2 := kc hb q2
  replace q3 := kc hb q3
  replace r0 := kc hb r0
  replace r1 := kc hb r1
  replace r2 := kc hb r2
  replace r3 := kc hb r3
  clear hb
  cases ha : x.okB with
  | false =>
    rw [ha] at HV
    have hc : c = 0 := by rw [HV.out]; simp
    subst hc
    clear HV ha
    go_wp2_with fail
    go_region_held3 (fun w' => w'.cell? ⟨w.heap.size, 0, none⟩ = some (.int .i64 x.k) ∧ w'.cell? ⟨w.heap.size, 1, none⟩ = some (.int .i64 x.n) ∧ w'.cell? ⟨w.heap.size, 2, none⟩ = some (.string x.s) ∧ w'.cell? ⟨w.heap.size, 3, none⟩ = some (.slice pa x.len ca) ∧ w'.cell? ⟨w.heap.size + 1, 0, none⟩ = some (.int .i64 y.k) ∧ w'.cell? ⟨w.heap.size + 1, 1, none⟩ = some (.int .i64 y.n) ∧ w'.cell? ⟨w.heap.size + 1, 2, none⟩ = some (.string y.s) ∧ w'.cell? ⟨w.heap.size + 1, 3, none⟩ = some (.slice pb y.len cb) ∧ Below w.heap.size w w')
      (first | exact ⟨q0, q1, q2, q3, r0, r1, r2, r3, Below.drew WB⟩ | (go_split_ands; exact ⟨kc hb (by assumption), kc hb (by assumption), kc hb (by assumption), kc hb (by assumption), kc hb (by assumption), kc hb (by assumption), kc hb (by assumption), kc hb (by assumption), bT (by assumption) hb⟩) | go_keep)
      (first
        | (go_at_call 19; refine (KC.out _ (inK (by repeat (first | with_reducible assumption | with_reducible exact Below.refl _ _ | with_reducible refine bN ?_ _ | with_reducible refine Below.drew ?_ | with_reducible refine bA ?_ _ | with_reducible refine bT ?_ (by assumption))) HN1.out) (inK (by repeat (first | with_reducible assumption | with_reducible exact Below.refl _ _ | with_reducible refine bN ?_ _ | with_reducible refine Below.drew ?_ | with_reducible refine bA ?_ _ | with_reducible refine bT ?_ (by assumption))) HN2.out)).mono ?_; rintro e w8 ⟨rfl, hb⟩)
        | (go_at_call 21; refine (KS.out _ (inK (by repeat (first | with_reducible assumption | with_reducible exact Below.refl _ _ | with_reducible refine bN ?_ _ | with_reducible refine Below.drew ?_ | with_reducible refine bA ?_ _ | with_reducible refine bT ?_ (by assumption))) HN1.out) (inK (by repeat (first | with_reducible assumption | with_reducible exact Below.refl _ _ | with_reducible refine bN ?_ _ | with_reducible refine Below.drew ?_ | with_reducible refine bA ?_ _ | with_reducible refine bT ?_ (by assumption))) HN2.out)).mono ?_; rintro e w8 ⟨rfl, hb⟩)
        | (go_at_call 24; refine (KR.out _ (inK (by repeat (first | with_reducible assumption | with_reducible exact Below.refl _ _ | with_reducible refine bN ?_ _ | with_reducible refine Below.drew ?_ | with_reducible refine bA ?_ _ | with_reducible refine bT ?_ (by assumption))) HN1.out) (inK (by repeat (first | with_reducible assumption | with_reducible exact Below.refl _ _ | with_reducible refine bN ?_ _ | with_reducible refine Below.drew ?_ | with_reducible refine bA ?_ _ | with_reducible refine bT ?_ (by assumption))) HN2.out)).mono ?_; rintro e w8 ⟨rfl, hb⟩))
    all_goals go_split_ands
    all_goals clear WB q0 q1 q2 q3 r0 r1 r2 r3
    all_goals have WB : Below w.heap.size w w8 := by assumption
    all_goals go_wp2
    all_goals go_ret
    all_goals exact ⟨rbool (by simp), WB⟩
  | true =>
    rw [ha] at HV
    go_wp2_with fail
    refine (K2.out _ (inK WB HN2.out)).mono ?_
    rintro e w4 ⟨rfl, hb⟩
    replace WB := bT WB hb
    replace q0 := kc hb q0
    replace q1 := kc hb q1
    replace q2 := kc hb q2
    replace q3 := kc hb q3
    replace r0 := kc hb r0
    replace r1 := kc hb r1
    replace r2 := kc hb r2
    replace r3 := kc hb r3
    clear hb
    cases hb0 : y.okB with
    | false =>
      rw [hb0] at HV
      have hc : c = 0 := by rw [HV.out]; simp
      subst hc
      clear HV ha hb0
      go_wp2_with fail
      go_region_held3 (fun w' => w'.cell? ⟨w.heap.size, 0, none⟩ = some (.int .i64 x.k) ∧ w'.cell? ⟨w.heap.size, 1, none⟩ = some (.int .i64 x.n) ∧ w'.cell? ⟨w.heap.size, 2, none⟩ = some (.string x.s) ∧ w'.cell? ⟨w.heap.size, 3, none⟩ = some (.slice pa x.len ca) ∧ w'.cell? ⟨w.heap.size + 1, 0, none⟩ = some (.int .i64 y.k) ∧ w'.cell? ⟨w.heap.size + 1, 1, none⟩ = some (.int .i64 y.n) ∧ w'.cell? ⟨w.heap.size + 1, 2, none⟩ = some (.string y.s) ∧ w'.cell? ⟨w.heap.size + 1, 3, none⟩ = some (.slice pb y.len cb) ∧ Below w.heap.size w w')
        (first | exact ⟨q0, q1, q2, q3, r0, r1, r2, r3, Below.drew WB⟩ | (go_split_ands; exact ⟨kc hb (by assumption), kc hb (by assumption), kc hb (by assumption), kc hb (by assumption), kc hb (by assumption), kc hb (by assumption), kc hb (by assumption), kc hb (by assumption), bT (by assumption) hb⟩) | go_keep)
        (first
          | (go_at_call 19; refine (KC.out _ (inK (by repeat (first | with_reducible assumption | with_reducible exact Below.refl _ _ | with_reducible refine bN ?_ _ | with_reducible refine Below.drew ?_ | with_reducible refine bA ?_ _ | with_reducible refine bT ?_ (by assumption))) HN1.out) (inK (by repeat (first | with_reducible assumption | with_reducible exact Below.refl _ _ | with_reducible refine bN ?_ _ | with_reducible refine Below.drew ?_ | with_reducible refine bA ?_ _ | with_reducible refine bT ?_ (by assumption))) HN2.out)).mono ?_; rintro e w8 ⟨rfl, hb⟩)
          | (go_at_call 21; refine (KS.out _ (inK (by repeat (first | with_reducible assumption | with_reducible exact Below.refl _ _ | with_reducible refine bN ?_ _ | with_reducible refine Below.drew ?_ | with_reducible refine bA ?_ _ | with_reducible refine bT ?_ (by assumption))) HN1.out) (inK (by repeat (first | with_reducible assumption | with_reducible exact Below.refl _ _ | with_reducible refine bN ?_ _ | with_reducible refine Below.drew ?_ | with_reducible refine bA ?_ _ | with_reducible refine bT ?_ (by assumption))) HN2.out)).mono ?_; rintro e w8 ⟨rfl, hb⟩)
          | (go_at_call 24; refine (KR.out _ (inK (by repeat (first | with_reducible assumption | with_reducible exact Below.refl _ _ | with_reducible refine bN ?_ _ | with_reducible refine Below.drew ?_ | with_reducible refine bA ?_ _ | with_reducible refine bT ?_ (by assumption))) HN1.out) (inK (by repeat (first | with_reducible assumption | with_reducible exact Below.refl _ _ | with_reducible refine bN ?_ _ | with_reducible refine Below.drew ?_ | with_reducible refine bA ?_ _ | with_reducible refine bT ?_ (by assumption))) HN2.out)).mono ?_; rintro e w8 ⟨rfl, hb⟩))
      all_goals go_split_ands
      all_goals clear WB q0 q1 q2 q3 r0 r1 r2 r3
      all_goals have WB : Below w.heap.size w w8 := by assumption
      all_goals go_wp2
      all_goals go_ret
      all_goals exact ⟨rbool (by simp), WB⟩
    | true =>
      rw [hb0] at HV
      have hc : c = c' := by rw [HV.out]; simp
      subst hc
      clear HV ha hb0
      go_wp2_with fail
      refine (KM.out _ (inK WB HN1.out) (inK WB HN2.out)).mono ?_
      rintro e w5 ⟨rfl, hb⟩
      replace WB := bT WB hb
      replace q0 := kc hb q0
      replace q1 := kc hb q1
      replace q2 := kc hb q2
      replace q3 := kc hb q3
      replace r0 := kc hb r0
      replace r1 := kc hb r1
      replace r2 := kc hb r2
      replace r3 := kc hb r3
      clear hb
      go_wp2_with fail
      go_region_held3 (fun w' => w'.cell? ⟨w.heap.size, 0, none⟩ = some (.int .i64 x.k) ∧ w'.cell? ⟨w.heap.size, 1, none⟩ = some (.int .i64 x.n) ∧ w'.cell? ⟨w.heap.size, 2, none⟩ = some (.string x.s) ∧ w'.cell? ⟨w.heap.size, 3, none⟩ = some (.slice pa x.len ca) ∧ w'.cell? ⟨w.heap.size + 1, 0, none⟩ = some (.int .i64 y.k) ∧ w'.cell? ⟨w.heap.size + 1, 1, none⟩ = some (.int .i64 y.n) ∧ w'.cell? ⟨w.heap.size + 1, 2, none⟩ = some (.string y.s) ∧ w'.cell? ⟨w.heap.size + 1, 3, none⟩ = some (.slice pb y.len cb) ∧ Below w.heap.size w w')
        (first | exact ⟨q0, q1, q2, q3, r0, r1, r2, r3, Below.drew WB⟩ | (go_split_ands; exact ⟨kc hb (by assumption), kc hb (by assumption), kc hb (by assumption), kc hb (by assumption), kc hb (by assumption), kc hb (by assumption), kc hb (by assumption), kc hb (by assumption), bT (by assumption) hb⟩) | go_keep)
        (first
          | (go_at_call 19; refine (KC.out _ (inK (by repeat (first | with_reducible assumption | with_reducible exact Below.refl _ _ | with_reducible refine bN ?_ _ | with_reducible refine Below.drew ?_ | with_reducible refine bA ?_ _ | with_reducible refine bT ?_ (by assumption))) HN1.out) (inK (by repeat (first | with_reducible assumption | with_reducible exact Below.refl _ _ | with_reducible refine bN ?_ _ | with_reducible refine Below.drew ?_ | with_reducible refine bA ?_ _ | with_reducible refine bT ?_ (by assumption))) HN2.out)).mono ?_; rintro e w8 ⟨rfl, hb⟩)
          | (go_at_call 21; refine (KS.out _ (inK (by repeat (first | with_reducible assumption | with_reducible exact Below.refl _ _ | with_reducible refine bN ?_ _ | with_reducible refine Below.drew ?_ | with_reducible refine bA ?_ _ | with_reducible refine bT ?_ (by assumption))) HN1.out) (inK (by repeat (first | with_reducible assumption | with_reducible exact Below.refl _ _ | with_reducible refine bN ?_ _ | with_reducible refine Below.drew ?_ | with_reducible refine bA ?_ _ | with_reducible refine bT ?_ (by assumption))) HN2.out)).mono ?_; rintro e w8 ⟨rfl, hb⟩)
          | (go_at_call 24; refine (KR.out _ (inK (by repeat (first | with_reducible assumption | with_reducible exact Below.refl _ _ | with_reducible refine bN ?_ _ | with_reducible refine Below.drew ?_ | with_reducible refine bA ?_ _ | with_reducible refine bT ?_ (by assumption))) HN1.out) (inK (by repeat (first | with_reducible assumption | with_reducible exact Below.refl _ _ | with_reducible refine bN ?_ _ | with_reducible refine Below.drew ?_ | with_reducible refine bA ?_ _ | with_reducible refine bT ?_ (by assumption))) HN2.out)).mono ?_; rintro e w8 ⟨rfl, hb⟩))
      all_goals go_split_ands
      all_goals clear WB q0 q1 q2 q3 r0 r1 r2 r3
      all_goals have WB : Below w.heap.size w w8 := by assumption
      all_goals go_wp2
      all_goals go_ret
      all_goals exact ⟨rbool (by simp), WB⟩
end Go.Proofs.YtjkmgmcgbpnjhaaDoor
