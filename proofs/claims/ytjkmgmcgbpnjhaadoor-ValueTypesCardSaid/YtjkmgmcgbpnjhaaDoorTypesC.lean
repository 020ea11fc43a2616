/-
  The contract of the law ValueTypes over this seat's translation: whatever two types it is handed, it answers true. Conditions: those that each theorem states.
-/
import Derived.Test.YtjkmgmcgbpnjhaaDoorAwake
import Derived.Test.YtjkmgmcgbpnjhaaDoorSmallT
import Derived.Test.YtjkmgmcgbpnjhaaDoorRSameT
import Derived.Test.YtjkmgmcgbpnjhaaDoorTRightB
import Derived.Test.YtjkmgmcgbpnjhaaDoorRTextT
namespace Go.Proofs.YtjkmgmcgbpnjhaaDoor
open Go.RowKit Go.ChangeShapes Go.WideShapes Go.ChangeAt Go.Deep
attribute [local go_sem ↓] Go.wp_at_zero Go.wp_at_succ


theorem bsl_nil : (bs []).toList = [] := by kernel_rfl

set_option maxHeartbeats 4000000 in
theorem types_c (x y : TT) (s1 s2 : Value) (w : World) (he : Tab w) (h1 : TT.In w x s1) (h2 : TT.In w y s2) :
    Calls Tryd.prog 7 #[x.val s1, y.val s2] w fun e w' => e = .returned (.bool true) ∧ Below w.heap.size w w' := by
  have HE := Lib.hid he
  have HN1 := Lib.hid h1
  have HN2 := Lib.hid h2
  obtain ⟨pa, ca, rfl⟩ := h1.slice
  obtain ⟨pb, cb, rfl⟩ := h2.slice
  clear h1 h2 he
  unfold TT.val
  have WB : Below w.heap.size w ((w.alloc (.cells #[.int .i64 x.k, .slice pa x.len ca] 47)).alloc (.cells #[.int .i64 y.k, .slice pb y.len cb] 47)) := bA (bA (Below.refl _ _) _) _
  have q0 : ((w.alloc (.cells #[.int .i64 x.k, .slice pa x.len ca] 47)).alloc (.cells #[.int .i64 y.k, .slice pb y.len cb] 47)).cell? ⟨w.heap.size, 0, none⟩ = some (.int .i64 x.k) := by go_simp
  have q1 : ((w.alloc (.cells #[.int .i64 x.k, .slice pa x.len ca] 47)).alloc (.cells #[.int .i64 y.k, .slice pb y.len cb] 47)).cell? ⟨w.heap.size, 1, none⟩ = some (.slice pa x.len ca) := by go_simp
  have r0 : ((w.alloc (.cells #[.int .i64 x.k, .slice pa x.len ca] 47)).alloc (.cells #[.int .i64 y.k, .slice pb y.len cb] 47)).cell? ⟨w.heap.size + 1, 0, none⟩ = some (.int .i64 y.k) := by go_simp
  have r1 : ((w.alloc (.cells #[.int .i64 x.k, .slice pa x.len ca] 47)).alloc (.cells #[.int .i64 y.k, .slice pb y.len cb] 47)).cell? ⟨w.heap.size + 1, 1, none⟩ = some (.slice pb y.len cb) := by go_simp
  go_enter Tryd.func7, Tryd.ntmps7
  go_wp2_with fail
  generalize ((w.alloc (.cells #[.int .i64 x.k, .slice pa x.len ca] 47)).alloc (.cells #[.int .i64 y.k, .slice pb y.len cb] 47)) = w0 at *
  refine (awake_c _ (tab_stays _ _ WB HE.out)).mono ?_
  rintro e w1 ⟨rfl, hb⟩
  replace WB := bT WB hb
  replace q0 := kc hb q0
  replace q1 := kc hb q1
  replace r0 := kc hb r0
  replace r1 := kc hb r1
  clear hb
  go_wp2_with fail
  refine (smallT_c x 8 400 (by omega) (by omega) (by omega) (by omega) _ _ (inT WB HN1.out)).mono ?_
  rintro e w2 hret
  obtain ⟨i, rfl, _, _, hb⟩ := hret
  replace WB := bT WB hb
  replace q0 := kc hb q0
  replace q1 := kc hb q1
  replace r0 := kc hb r0
  replace r1 := kc hb r1
  clear hb
  by_cases hi : i < 0
  · go_wp2_with fail
    refine (awake_c _ (tab_stays _ _ WB HE.out)).mono ?_
    rintro e w9 ⟨rfl, hb⟩
    go_wp2
    go_ret
    exact ⟨rfl, bT WB hb⟩
  go_wp2_with fail
  refine (smallT_c y 8 400 (by omega) (by omega) (by omega) (by omega) _ _ (inT WB HN2.out)).mono ?_
  rintro e w3 hret
  obtain ⟨j, rfl, _, _, hb⟩ := hret
  replace WB := bT WB hb
  replace q0 := kc hb q0
  replace q1 := kc hb q1
  replace r0 := kc hb r0
  replace r1 := kc hb r1
  clear hb
  by_cases hj : j < 0
  · go_wp2_with fail
    refine (awake_c _ (tab_stays _ _ WB HE.out)).mono ?_
    rintro e w9 ⟨rfl, hb⟩
    go_wp2
    go_ret
    exact ⟨rfl, bT WB hb⟩
  have k1 := fun w h => tright_cv x (.slice pa x.len ca) w h
  have k2 := fun w h => trright_v 3 (by omega) x (.slice pa x.len ca) w h
  rw [show TT.rightB 3 x = x.okB from rfl] at k2
  have K3 := Lib.hid fun w h h' => sameT_cv x y (.slice pa x.len ca) (.slice pb y.len cb) w h h'
  have K4 := Lib.hid fun w h h' => rsameT_c x y (.slice pa x.len ca) (.slice pb y.len cb) w h h'
  have k5 := fun w h h' => sameT_cv x x (.slice pa x.len ca) (.slice pa x.len ca) w h h'
  rw [TT.sameB_refl] at k5
  have K5 := Lib.hid k5
  have K6 := Lib.hid fun w h => ttext_cv x (.slice pa x.len ca) w h
  have K7 := Lib.hid fun (h : x.okB = true) w h' => rttext_v 3 (by omega) x h (.slice pa x.len ca) w h'
  have ht : x.okB = true → TT.textM 3 x = x.textB := fun h => by unfold TT.textB; rw [if_pos h]
  have ht2 : x.okB = false → x.textB = [] := fun h => by unfold TT.textB; rw [h]; simp
  have HT := Lib.hid ht
  have HT2 := Lib.hid ht2
  have K1 := Lib.hid k1
  have K2 := Lib.hid k2
  clear k1 k2 k5 ht ht2
  generalize TT.sameB x y = sb at *
  cases hok : x.okB with
  | true =>
    rw [hok] at K1 K2 HT K7
    have k7 := K7.out rfl
    rw [HT.out rfl] at k7
    have K8 := Lib.hid k7
    clear k7 K7 HT HT2 hok
    generalize x.textB = L at *
    unfold TT.val at K1 K2 K3 K4 K5 K6 K8
    go_wp2_with fail
    go_region_held3 (fun w' => w'.cell? ⟨w.heap.size, 0, none⟩ = some (.int .i64 x.k) ∧ w'.cell? ⟨w.heap.size, 1, none⟩ = some (.slice pa x.len ca) ∧ w'.cell? ⟨w.heap.size + 1, 0, none⟩ = some (.int .i64 y.k) ∧ w'.cell? ⟨w.heap.size + 1, 1, none⟩ = some (.slice pb y.len cb) ∧ Below w.heap.size w w')
      (first | exact ⟨q0, q1, r0, r1, Below.drew WB⟩ | (go_split_ands; exact ⟨kc hb (by assumption), kc hb (by assumption), kc hb (by assumption), kc hb (by assumption), bT (by assumption) hb⟩) | go_keep)
      (first
        | (go_at_call 31; refine (K1.out _ (inT (by repeat (first | with_reducible assumption | with_reducible exact Below.refl _ _ | with_reducible refine bN ?_ _ | with_reducible refine Below.drew ?_ | with_reducible refine bA ?_ _ | with_reducible refine bT ?_ (by assumption))) HN1.out)).mono ?_; rintro e w8 ⟨rfl, hb⟩)
        | (go_at_call 33; refine (K2.out _ (inT (by repeat (first | with_reducible assumption | with_reducible exact Below.refl _ _ | with_reducible refine bN ?_ _ | with_reducible refine Below.drew ?_ | with_reducible refine bA ?_ _ | with_reducible refine bT ?_ (by assumption))) HN1.out)).mono ?_; rintro e w8 ⟨rfl, hb⟩)
        | (go_at_call_of 26 (Value.slice pb y.len cb); refine (K3.out _ (inT (by repeat (first | with_reducible assumption | with_reducible exact Below.refl _ _ | with_reducible refine bN ?_ _ | with_reducible refine Below.drew ?_ | with_reducible refine bA ?_ _ | with_reducible refine bT ?_ (by assumption))) HN1.out) (inT (by repeat (first | with_reducible assumption | with_reducible exact Below.refl _ _ | with_reducible refine bN ?_ _ | with_reducible refine Below.drew ?_ | with_reducible refine bA ?_ _ | with_reducible refine bT ?_ (by assumption))) HN2.out)).mono ?_; rintro e w8 ⟨rfl, hb⟩)
        | (go_at_call 26; refine (K5.out _ (inT (by repeat (first | with_reducible assumption | with_reducible exact Below.refl _ _ | with_reducible refine bN ?_ _ | with_reducible refine Below.drew ?_ | with_reducible refine bA ?_ _ | with_reducible refine bT ?_ (by assumption))) HN1.out) (inT (by repeat (first | with_reducible assumption | with_reducible exact Below.refl _ _ | with_reducible refine bN ?_ _ | with_reducible refine Below.drew ?_ | with_reducible refine bA ?_ _ | with_reducible refine bT ?_ (by assumption))) HN1.out)).mono ?_; rintro e w8 ⟨rfl, hb⟩)
        | (go_at_call 28; refine (K4.out _ (inT (by repeat (first | with_reducible assumption | with_reducible exact Below.refl _ _ | with_reducible refine bN ?_ _ | with_reducible refine Below.drew ?_ | with_reducible refine bA ?_ _ | with_reducible refine bT ?_ (by assumption))) HN1.out) (inT (by repeat (first | with_reducible assumption | with_reducible exact Below.refl _ _ | with_reducible refine bN ?_ _ | with_reducible refine Below.drew ?_ | with_reducible refine bA ?_ _ | with_reducible refine bT ?_ (by assumption))) HN2.out)).mono ?_; rintro e w8 ⟨rfl, hb⟩))
    all_goals go_split_ands
    all_goals clear WB q0 q1 r0 r1 hb
    all_goals
      have WB : Below w.heap.size w w8 := by assumption
      go_wp2_with fail
      refine (K2.out _ (inT WB HN1.out)).mono ?_
      rintro e w6 ⟨rfl, hb⟩
      have q0 := kc hb (p := ⟨w.heap.size, 0, none⟩) (v := .int .i64 x.k) (by assumption)
      have q1 := kc hb (p := ⟨w.heap.size, 1, none⟩) (v := .slice pa x.len ca) (by assumption)
      replace WB := bT WB hb
      clear hb
      go_wp2_with fail
      go_region_held3 (fun w' => w'.cell? ⟨w.heap.size, 0, none⟩ = some (.int .i64 x.k) ∧ w'.cell? ⟨w.heap.size, 1, none⟩ = some (.slice pa x.len ca) ∧ Below w.heap.size w w')
        (first | exact ⟨q0, q1, Below.drew WB⟩ | (go_split_ands; exact ⟨kc hb (by assumption), kc hb (by assumption), bT (by assumption) hb⟩) | go_keep)
        (first
          | (go_at_call 34; refine (K6.out _ (inT (by repeat (first | with_reducible assumption | with_reducible exact Below.refl _ _ | with_reducible refine bN ?_ _ | with_reducible refine Below.drew ?_ | with_reducible refine bA ?_ _ | with_reducible refine bT ?_ (by assumption))) HN1.out)).mono ?_; rintro e w7 ⟨rfl, hb⟩)
          | (go_at_call 35; refine (K8.out _ (inT (by repeat (first | with_reducible assumption | with_reducible exact Below.refl _ _ | with_reducible refine bN ?_ _ | with_reducible refine Below.drew ?_ | with_reducible refine bA ?_ _ | with_reducible refine bT ?_ (by assumption))) HN1.out)).mono ?_; rintro e w7 ⟨rfl, hb⟩))
      all_goals go_split_ands
      all_goals clear WB q0 q1
      all_goals have WB : Below w.heap.size w w7 := by assumption
      all_goals go_wp2
      all_goals go_ret
      all_goals exact ⟨rbool (by simp), WB⟩
  | false =>
    rw [hok] at K1 K2 HT2
    rw [HT2.out rfl] at K6
    clear K7 HT HT2 hok
    have hnil := bsl_nil
    generalize bs [] = L at *
    unfold TT.val at K1 K2 K3 K4 K5 K6
    go_wp2_with fail
    go_region_held3 (fun w' => w'.cell? ⟨w.heap.size, 0, none⟩ = some (.int .i64 x.k) ∧ w'.cell? ⟨w.heap.size, 1, none⟩ = some (.slice pa x.len ca) ∧ w'.cell? ⟨w.heap.size + 1, 0, none⟩ = some (.int .i64 y.k) ∧ w'.cell? ⟨w.heap.size + 1, 1, none⟩ = some (.slice pb y.len cb) ∧ Below w.heap.size w w')
      (first | exact ⟨q0, q1, r0, r1, Below.drew WB⟩ | (go_split_ands; exact ⟨kc hb (by assumption), kc hb (by assumption), kc hb (by assumption), kc hb (by assumption), bT (by assumption) hb⟩) | go_keep)
      (first
        | (go_at_call 31; refine (K1.out _ (inT (by repeat (first | with_reducible assumption | with_reducible exact Below.refl _ _ | with_reducible refine bN ?_ _ | with_reducible refine Below.drew ?_ | with_reducible refine bA ?_ _ | with_reducible refine bT ?_ (by assumption))) HN1.out)).mono ?_; rintro e w8 ⟨rfl, hb⟩)
        | (go_at_call 33; refine (K2.out _ (inT (by repeat (first | with_reducible assumption | with_reducible exact Below.refl _ _ | with_reducible refine bN ?_ _ | with_reducible refine Below.drew ?_ | with_reducible refine bA ?_ _ | with_reducible refine bT ?_ (by assumption))) HN1.out)).mono ?_; rintro e w8 ⟨rfl, hb⟩)
        | (go_at_call_of 26 (Value.slice pb y.len cb); refine (K3.out _ (inT (by repeat (first | with_reducible assumption | with_reducible exact Below.refl _ _ | with_reducible refine bN ?_ _ | with_reducible refine Below.drew ?_ | with_reducible refine bA ?_ _ | with_reducible refine bT ?_ (by assumption))) HN1.out) (inT (by repeat (first | with_reducible assumption | with_reducible exact Below.refl _ _ | with_reducible refine bN ?_ _ | with_reducible refine Below.drew ?_ | with_reducible refine bA ?_ _ | with_reducible refine bT ?_ (by assumption))) HN2.out)).mono ?_; rintro e w8 ⟨rfl, hb⟩)
        | (go_at_call 26; refine (K5.out _ (inT (by repeat (first | with_reducible assumption | with_reducible exact Below.refl _ _ | with_reducible refine bN ?_ _ | with_reducible refine Below.drew ?_ | with_reducible refine bA ?_ _ | with_reducible refine bT ?_ (by assumption))) HN1.out) (inT (by repeat (first | with_reducible assumption | with_reducible exact Below.refl _ _ | with_reducible refine bN ?_ _ | with_reducible refine Below.drew ?_ | with_reducible refine bA ?_ _ | with_reducible refine bT ?_ (by assumption))) HN1.out)).mono ?_; rintro e w8 ⟨rfl, hb⟩)
        | (go_at_call 28; refine (K4.out _ (inT (by repeat (first | with_reducible assumption | with_reducible exact Below.refl _ _ | with_reducible refine bN ?_ _ | with_reducible refine Below.drew ?_ | with_reducible refine bA ?_ _ | with_reducible refine bT ?_ (by assumption))) HN1.out) (inT (by repeat (first | with_reducible assumption | with_reducible exact Below.refl _ _ | with_reducible refine bN ?_ _ | with_reducible refine Below.drew ?_ | with_reducible refine bA ?_ _ | with_reducible refine bT ?_ (by assumption))) HN2.out)).mono ?_; rintro e w8 ⟨rfl, hb⟩))
    all_goals go_split_ands
    all_goals clear WB q0 q1 r0 r1 hb
    all_goals
      have WB : Below w.heap.size w w8 := by assumption
      go_wp2_with fail
      refine (K2.out _ (inT WB HN1.out)).mono ?_
      rintro e w6 ⟨rfl, hb⟩
      have q0 := kc hb (p := ⟨w.heap.size, 0, none⟩) (v := .int .i64 x.k) (by assumption)
      have q1 := kc hb (p := ⟨w.heap.size, 1, none⟩) (v := .slice pa x.len ca) (by assumption)
      replace WB := bT WB hb
      clear hb
      go_wp2_with (go_at_call 34; go_must (refine (K6.out _ (inT WB HN1.out)).mono ?_); rintro e w7 ⟨rfl, hb⟩)
      go_ret
      exact ⟨rbool (by simp), bT WB hb⟩
end Go.Proofs.YtjkmgmcgbpnjhaaDoor
